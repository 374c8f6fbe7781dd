/- What utf.Text does at every slice of numbers: contracts, by walking its text. -/
import Derived.Test.YtpjlpinjjklhhaaDoorInts
import Derived.Laws.Cover4
namespace Go.Proofs.YtpjlpinjjklhhaaDoor
open Go.RowKit
namespace RefW

/-- The place of the first number that is no character's, counted from k; -1: none. -/
def badPt : List Int → Nat → Int
  | [], _ => -1
  | z :: r, k => if isPt z then badPt r (k + 1) else k
theorem badPt_hit (zs : List Int) (k : Nat) (h : k < zs.length) (hz : isPt (zs[k]?.getD 0) = false) : badPt (zs.drop k) k = k := by
  rw [List.drop_eq_getElem_cons h]
  rw [List.getElem?_eq_getElem h] at hz
  simp only [Option.getD_some] at hz
  simp [badPt, hz]
theorem badPt_next (zs : List Int) (k : Nat) (h : k < zs.length) (hz : isPt (zs[k]?.getD 0) = true) : badPt (zs.drop k) k = badPt (zs.drop (k + 1)) (k + 1) := by
  rw [List.drop_eq_getElem_cons h]
  rw [List.getElem?_eq_getElem h] at hz
  simp only [Option.getD_some] at hz
  simp [badPt, hz]
theorem badPt_end (zs : List Int) (k : Nat) (h : ¬ k < zs.length) : badPt (zs.drop k) k = -1 := by
  rw [List.drop_of_length_le (by omega)]; rfl
theorem badPt_ge : ∀ (zs : List Int) (k : Nat), badPt zs k = -1 ∨ ((k : Int) ≤ badPt zs k ∧ badPt zs k < k + zs.length)
  | [], _ => .inl rfl
  | z :: r, k => by
    unfold badPt
    split
    · rcases badPt_ge r (k + 1) with h | h
      · exact .inl h
      · right; simp only [List.length_cons]; omega
    · right; simp only [List.length_cons]; omega

theorem add0 (b j : Nat) : (⟨b, 0, none⟩ : Addr).add j = ⟨b, j, none⟩ := by
  unfold Addr.add
  by_cases hj : j = 0
  · subst hj; rfl
  · simp [hj]
theorem info21 : (Tryd.prog.info? 21).map (fun i => (i.zero, i.size, i.bytes)) = some (some (.int .i32 0), 1, 4) := by kernel_rfl
theorem isPt_bd {p : Int} (h : isPt p = true) : 0 ≤ p ∧ p ≤ 1114111 := by
  unfold isPt at h
  rw [decide_eq_true_eq] at h
  omega

theorem text_nil (a : Option Addr) (cap : Nat) (w : World) :
    Calls Tryd.prog 15 #[.slice a 0 cap] w fun e w' => e = .returned (.tuple #[.string (runesBytes []), .nilIface]) ∧ Below w.heap.size w w' := by
  obtain ⟨i0, hi, hz0, hz1, hz2⟩ := info_parts info21
  have hmk : ∀ W : World, (Instr.makeSlice 59 (.int .i64 0) (.int .i64 0)).run Tryd.prog W = .ok (.slice (some ⟨W.heap.size, 0, none⟩) 0 0) (W.alloc (.cells (madeCells (Value.int .i32 0).cells (0 * i0.size)) 21)) := fun W => by
    have h := run_make (P := Tryd.prog) W 59 21 i0 (.int .i32 0) Tryd.underlying59 hi hz0 .i64 .i64 0 0 (by decide) (by decide) (by omega) (by decide)
    simpa using h
  have hcv : ∀ W a, (convert 59 9 (.slice (some a) 0 0)).run Tryd.prog W = .ok (.string (runesBytes [])) W := fun W a => by
    have h := run_convert_runes (P := Tryd.prog) W 59 9 21 a 0 0 [] (Nat.le_refl _) Tryd.underlying59 Tryd.underlying21 Tryd.underlying9 (fun j hj => by simp at hj)
    simpa using h
  go_enter Tryd.func15, Tryd.ntmps15
  go_wp2
  refine wp_loop_rounds 1 ?_
  rw [rounds_succ]
  go_wp2
  go_ret2
  exact ⟨rfl, (Below.refl _ _).alloc (Nat.le_refl _) _⟩

set_option maxHeartbeats 4000000 in
set_option maxRecDepth 100000 in
theorem text_cons (b off cap : Nat) (zs : List Int) (w : World) (hlen : zs.length ≤ 17592186044416) (h0 : zs ≠ [])
    (hc : ∀ j, j < zs.length → w.cell? ⟨b, off + j, none⟩ = some (.int .i64 (zs[j]?.getD 0))) :
    Calls Tryd.prog 15 #[.slice (some ⟨b, off, none⟩) zs.length cap] w fun e w' => ∃ t v, e = .returned (.tuple #[.string t, v]) ∧ Below w.heap.size w w' ∧
      ((badPt zs 0 = -1 ∧ t = runesBytes zs ∧ v = .nilIface) ∨ (badPt zs 0 ≠ -1 ∧ t = ⟨#[]⟩ ∧ FaultAt w.heap.size (badPt zs 0) v w')) := by
  obtain ⟨i0, hi, hz0, hz1, hz2⟩ := info_parts info21
  obtain ⟨n, hn⟩ : ∃ n, zs.length = n := ⟨_, rfl⟩
  have hn0 : 0 < n := by
    rw [← hn]
    exact List.length_pos_iff.2 h0
  have hblt : b < w.heap.size := by
    have h1 := hc 0 (by omega)
    rcases Nat.lt_or_ge b w.heap.size with h | h
    · exact h
    · simp [World.cell?, Array.getElem?_eq_none h] at h1
  obtain ⟨M, hM⟩ : ∃ M, M = madeCells (Value.int .i32 0).cells (((n : Nat) : Int).toNat * i0.size) := ⟨_, rfl⟩
  have hMs : M.size = n := by rw [hM, size_madeCells, hz1]; simp
  have hmk : ∀ W : World, (Instr.makeSlice 59 (.int .i64 (n : Int)) (.int .i64 (n : Int))).run Tryd.prog W = .ok (.slice (some ⟨W.heap.size, 0, none⟩) n n) (W.alloc (.cells M 21)) := fun W => by
    have h := run_make (P := Tryd.prog) W 59 21 i0 (.int .i32 0) Tryd.underlying59 hi hz0 .i64 .i64 (n : Int) (n : Int) (by omega) (by omega) (by rw [hz2]; omega) (by omega)
    rw [← hM] at h
    simpa using h
  clear hM hi hz0 hz1 hz2 h0
  rw [hn]
  have HN : Hid (zs.length = n) := hn
  rw [hn] at hc hlen
  clear hn
  go_enter Tryd.func15, Tryd.ntmps15
  go_wp2
  go_loopw [12] (fun x wr => ∃ (k : Nat) (C : Array Value), x = .int .i64 (k : Int) ∧ k ≤ n ∧ wr = w.alloc (.cells C 21) ∧ C.size = n ∧ Hid (∀ j, j < k → C[j]? = some (.int .i32 (zs[j]?.getD 0))) ∧ Hid (badPt (zs.drop k) k = badPt zs 0)) (fun x _ => n - (intOf x).toNat)
  case atStart => exact ⟨0, M, rfl, Nat.zero_le _, rfl, hMs, fun j hj => by omega, rfl⟩
  case round =>
    obtain ⟨k, C, rfl, hk, rfl, hCs, HC, HB⟩ := hrel
    by_cases hlt : k < n
    · have hck : (w.alloc (.cells C 21)).cell? ⟨b, off + k, none⟩ = some (.int .i64 (zs[k]?.getD 0)) := by
        rw [World.cell?_alloc_lt _ _ ⟨b, off + k, none⟩ hblt]; exact hc k hlt
      obtain ⟨z, hz⟩ : ∃ z, zs[k]?.getD 0 = z := ⟨_, rfl⟩
      have HZ : Hid (zs[k]?.getD 0 = z) := hz
      rw [hz] at hck
      clear hz
      have hi0 : (0 : Int) ≤ (k : Int) := by omega
      have hi1 : (k : Int) < (n : Int) := by omega
      clear hc
      cases hp : isPt z with
      | false =>
        have HE : Hid (badPt zs 0 = k) := by
          show _ = _
          rw [← HB.out, badPt_hit zs k (by rw [HN.out]; exact hlt) (by rw [HZ.out]; exact hp)]
        go_wp2_with (first
          | (go_at_call 28; refine (isPoint_own _ _).mono ?_; rintro e w1 ⟨rfl, hw1⟩; subst hw1)
          | (go_at_call 29; refine (fault_any _ _).mono ?_; rintro e w2 ⟨v, rfl, ⟨bf, rfl, hf1, hf2⟩, hb2⟩))
        go_ret2
        rw [HE.out]
        exact ⟨_, _, rfl, ((Below.refl _ _).alloc (Nat.le_refl _) _).trans (hb2.mono (by simp)), .inr ⟨by omega, rfl, ⟨bf, rfl, by simp at hf1; omega, hf2⟩⟩⟩
      | true =>
        have hbd := isPt_bd hp
        obtain ⟨v0, hv0⟩ : ∃ v0, C[k]? = some v0 := ⟨C[k]'(by omega), Array.getElem?_eq_getElem (by omega)⟩
        go_wp2_with (go_at_call 28; refine (isPoint_own _ _).mono ?_; rintro e w1 ⟨rfl, hw1⟩; subst hw1)
        go_roundw
        case rel =>
          refine ⟨k + 1, C.setIfInBounds k (.int .i32 z), by go_num, by omega, rfl, by simp [hCs], ?_, ?_⟩
          · intro j hj
            rw [Array.getElem?_setIfInBounds]
            by_cases hjk : k = j
            · subst hjk
              rw [if_pos rfl, if_pos (by omega), HZ.out]
            · rw [if_neg hjk]
              exact HC.out j (by omega)
          · show _ = _
            rw [← HB.out, badPt_next zs k (by rw [HN.out]; exact hlt) (by rw [HZ.out]; exact hp)]
        case measure => simp [intOf]; omega
    · have ek : k = n := by omega
      have HE : Hid (badPt zs 0 = -1) := by
        show _ = _
        rw [← HB.out, badPt_end zs k (by rw [HN.out]; exact hlt)]
      have hcv : (convert 59 9 (.slice (some ⟨w.heap.size, 0, none⟩) n n)).run Tryd.prog (w.alloc (.cells C 21)) = .ok (.string (runesBytes zs)) (w.alloc (.cells C 21)) := by
        have h := run_convert_runes (P := Tryd.prog) (w.alloc (.cells C 21)) 59 9 21 ⟨w.heap.size, 0, none⟩ n n zs (by rw [HN.out]; exact Nat.le_refl _) Tryd.underlying59 Tryd.underlying21 Tryd.underlying9 (fun j hj => by
          have h2 := HC.out j (by rw [HN.out] at hj; omega)
          rw [HN.out] at hj
          rw [List.getD_eq_getElem?_getD, ← h2]
          rw [add0]
          exact World.cell?_alloc_mark _ _ _ _ _)
        rw [List.take_of_length_le (by rw [HN.out]; exact Nat.le_refl _)] at h
        exact h
      clear hc ek
      go_wp2
      go_ret2
      exact ⟨_, _, rfl, (Below.refl _ _).alloc (Nat.le_refl _) _, .inl ⟨HE.out, rfl, rfl⟩⟩

/-- utf.Text at every slice of numbers. -/
theorem text_any (v0 : Value) (zs : List Int) (w : World) (hlen : zs.length ≤ 17592186044416) (hv : SlIs w v0 zs) :
    Calls Tryd.prog 15 #[v0] w fun e w' => ∃ t v, e = .returned (.tuple #[.string t, v]) ∧ Below w.heap.size w w' ∧
      ((badPt zs 0 = -1 ∧ t = runesBytes zs ∧ v = .nilIface) ∨ (badPt zs 0 ≠ -1 ∧ t = ⟨#[]⟩ ∧ FaultAt w.heap.size (badPt zs 0) v w')) := by
  rcases hv with ⟨h0, a, cap, rfl⟩ | ⟨b, off, cap, rfl, hc⟩
  · subst h0
    refine (text_nil a cap w).mono ?_
    rintro e w' ⟨rfl, hb⟩
    exact ⟨_, _, rfl, hb, .inl ⟨rfl, rfl, rfl⟩⟩
  · by_cases h0 : zs = []
    · subst h0
      refine (text_nil _ cap w).mono ?_
      rintro e w' ⟨rfl, hb⟩
      exact ⟨_, _, rfl, hb, .inl ⟨rfl, rfl, rfl⟩⟩
    · exact text_cons b off cap zs w hlen h0 hc
end RefW
end Go.Proofs.YtpjlpinjjklhhaaDoor
