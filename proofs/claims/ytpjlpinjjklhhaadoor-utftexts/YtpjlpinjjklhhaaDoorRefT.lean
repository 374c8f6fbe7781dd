/- What the reference's Text does at every slice of numbers, and the walk of UtfTexts itself. -/
import Derived.Test.YtpjlpinjjklhhaaDoorTxt
import Derived.Test.YtpjlpinjjklhhaaDoorLawP
import Derived.Test.YtpjlpinjjklhhaaDoorCut
namespace Go.Proofs.YtpjlpinjjklhhaaDoor
open Go.RowKit
namespace RefW

/-! The model's encoding of a character is the list of its bytes. -/
theorem u8_of (x : Int) (m : Nat) (h : x.toNat = m) : x.toNat.toUInt8 = UInt8.ofNat m := by rw [h]
theorem encode_eq (r : Int) (h : isPt r = true) : Utf8.encode r = ⟨(Lib.encodeRune r).toArray⟩ := by
  have hv : Utf8.valid r = true := by
    unfold isPt at h
    rw [decide_eq_true_eq] at h
    unfold Utf8.valid
    simp only [Bool.or_eq_true, Bool.and_eq_true, decide_eq_true_eq]
    omega
  unfold isPt at h
  rw [decide_eq_true_eq] at h
  unfold Utf8.encode Lib.encodeRune
  simp only [hv, if_true]
  rcases (show (0 ≤ r ∧ r < 128) ∨ (128 ≤ r ∧ r < 2048) ∨ (2048 ≤ r ∧ r < 65536) ∨ 65536 ≤ r by omega) with g | g | g | g
  · rw [if_pos (by omega), Lib.encodeRuneZ_one (by omega) (by omega)]
    rfl
  · rw [if_neg (by omega), if_pos (by omega), Lib.encodeRuneZ_two (by omega) (by omega)]
    simp only [List.map_cons, List.map_nil]
    rw [u8_of (192 + r / 64) (192 + r.toNat / 64) (by omega), u8_of (128 + r % 64) (128 + r.toNat % 64) (by omega)]
  · rw [if_neg (by omega), if_neg (by omega), if_pos (by omega), Lib.encodeRuneZ_three (by omega)]
    simp only [List.map_cons, List.map_nil]
    rw [u8_of (224 + r / 4096) (224 + r.toNat / 4096) (by omega), u8_of (128 + r / 64 % 64) (128 + r.toNat / 64 % 64) (by omega), u8_of (128 + r % 64) (128 + r.toNat % 64) (by omega)]
  · rw [if_neg (by omega), if_neg (by omega), if_neg (by omega), Lib.encodeRuneZ_four (by omega) (by omega)]
    simp only [List.map_cons, List.map_nil]
    rw [u8_of (240 + r / 262144) (240 + r.toNat / 262144) (by omega), u8_of (128 + r / 4096 % 64) (128 + r.toNat / 4096 % 64) (by omega), u8_of (128 + r / 64 % 64) (128 + r.toNat / 64 % 64) (by omega), u8_of (128 + r % 64) (128 + r.toNat % 64) (by omega)]
theorem runes_fold : ∀ (zs : List Int) (k : Nat) (acc : List UInt8), badPt zs k = -1 → zs.foldl (fun r n => r ++ Utf8.encode n) (⟨acc.toArray⟩ : ByteArray) = ⟨(acc ++ zs.flatMap Lib.encodeRune).toArray⟩
  | [], _, acc, _ => by simp
  | z :: r, k, acc, h => by
    unfold badPt at h
    cases hz : isPt z with
    | false => rw [hz] at h; simp at h
    | true =>
      rw [hz] at h
      simp only [if_true] at h
      simp only [List.foldl_cons, List.flatMap_cons]
      rw [encode_eq z hz, show (⟨acc.toArray⟩ : ByteArray) ++ ⟨(Lib.encodeRune z).toArray⟩ = ⟨(acc ++ Lib.encodeRune z).toArray⟩ by apply ByteArray.ext; simp [ByteArray.data_append], runes_fold r (k + 1) _ h]
      simp
theorem runes_eq (zs : List Int) (h : badPt zs 0 = -1) : runesBytes zs = ⟨(zs.flatMap Lib.encodeRune).toArray⟩ := by
  have := runes_fold zs 0 [] h
  rw [List.nil_append] at this
  exact this

theorem cells_eq (zs : List Int) : zs.flatMap Lib.runeCells = Lib.byteCells (zs.flatMap Lib.encodeRune) := by
  induction zs with
  | nil => rfl
  | cons z r ih => simp only [List.flatMap_cons]; rw [ih, Lib.byteCells_append, Lib.byteCells_encodeRune]
theorem cells_len (zs : List Int) : (zs.flatMap Lib.runeCells).length ≤ 4 * zs.length := by
  induction zs with
  | nil => simp
  | cons z r ih =>
    have := (Lib.runeCells_le z).2
    simp only [List.flatMap_cons, List.length_append, List.length_cons]
    omega
theorem one_cell (r : Int) : ∀ u ∈ Lib.runeCells r, u.oneCell' = true := by
  intro u hu
  unfold Lib.runeCells at hu
  rw [List.mem_map] at hu
  obtain ⟨x, _, rfl⟩ := hu
  rfl
theorem take_next (zs : List Int) (k : Nat) (h : k < zs.length) : (zs.take (k + 1)).flatMap Lib.runeCells = (zs.take k).flatMap Lib.runeCells ++ Lib.runeCells (zs[k]?.getD 0) := by
  rw [List.take_succ_eq_append_getElem h, List.flatMap_append, List.getElem?_eq_getElem h]
  simp

/-- string(b) where b owns the bytes l. -/
theorem conv_own {w : World} {base : Nat} {v : Value} {l : List UInt8} (h : w.ownsRow base 5 1 v l.length (Lib.byteCells l)) : (convert 62 9 v).run Tryd.prog w = .ok (.string ⟨l.toArray⟩) w := by
  rcases h.2 with ⟨rfl, h0⟩ | ⟨g, cap, cur, rfl, hg, hh, hr⟩
  · have : l = [] := List.eq_nil_of_length_eq_zero h0
    subst this
    rw [run_convert_bytes_string w 62 9 5 none 0 0 Tryd.underlying62 Tryd.underlying5 Tryd.underlying9]
    rfl
  · refine run_convert_bytes_back w 62 9 5 ⟨g, 0, none⟩ cap l Tryd.underlying62 Tryd.underlying5 Tryd.underlying9 (fun j hj => ?_)
    rw [add0]
    have := h.cellAt j (by simpa using hj)
    rw [this]
    simp [Lib.byteCells, List.getElem?_eq_getElem hj]

set_option maxHeartbeats 4000000 in
set_option maxRecDepth 100000 in
theorem rtext_any (v0 : Value) (zs : List Int) (w : World) (hlen : zs.length ≤ 17592186044416) (hv : SlIs w v0 zs) :
    Calls Tryd.prog 16 #[v0] w fun e w' => ∃ t, e = .returned (.tuple #[.string t, .int .i64 (badPt zs 0)]) ∧ Below w.heap.size w w' ∧ (badPt zs 0 = -1 → t = runesBytes zs) := by
  obtain ⟨i0, hi, hz0, hz1, hz2⟩ := info_parts info5
  obtain ⟨n, hn⟩ : ∃ n, zs.length = n := ⟨_, rfl⟩
  have HV : Hid (SlIs w v0 zs) := hv
  obtain ⟨a0, c0, rfl⟩ : ∃ a c, v0 = .slice a n c := by
    rcases hv with ⟨h0, a, cap, rfl⟩ | ⟨b, off, cap, rfl, hc⟩
    · subst h0; subst hn; exact ⟨_, _, rfl⟩
    · rw [hn]; exact ⟨_, _, rfl⟩
  clear hv
  have HN : Hid (zs.length = n) := hn
  rw [hn] at hlen
  clear hn
  go_enter Tryd.func16, Tryd.ntmps16
  go_wp2
  go_loopw [4, 5] (fun v x wr => ∃ k : Nat, x = .int .i64 (k : Int) ∧ k ≤ n ∧ wr.ownsRow w.heap.size 5 1 v ((zs.take k).flatMap Lib.runeCells).length ((zs.take k).flatMap Lib.runeCells) ∧ Below w.heap.size w wr ∧ Hid (badPt (zs.drop k) k = badPt zs 0)) (fun _ x _ => n - (intOf x).toNat)
  case atStart => exact ⟨0, rfl, Nat.zero_le _, World.ownsRow_nil _ _ _ _, Below.refl _ _, rfl⟩
  case round =>
    obtain ⟨k, rfl, hk, hown, hbw, HB⟩ := hrel
    have hsz := hbw.size
    by_cases hlt : k < n
    · rcases HV.out with ⟨h0, _⟩ | ⟨b, off, cap, hv0, hc⟩
      · exfalso; have := HN.out; subst h0; simp at this; omega
      · obtain ⟨z, hz⟩ : ∃ z, zs[k]?.getD 0 = z := ⟨_, rfl⟩
        have HZ : Hid (zs[k]?.getD 0 = z) := hz
        have hck0 := hc k (by rw [HN.out]; exact hlt)
        rw [hz] at hck0
        have hblt : b < w.heap.size := by
          rcases Nat.lt_or_ge b w.heap.size with h | h
          · exact h
          · simp [World.cell?, Array.getElem?_eq_none h] at hck0
        have hck : wr.cell? ⟨b, off + k, none⟩ = some (.int .i64 z) := (hbw.cell (p := ⟨b, off + k, none⟩) hblt).trans hck0
        obtain rfl : a0 = some ⟨b, off, none⟩ := by
          injection hv0
        have hi0 : (0 : Int) ≤ (k : Int) := by omega
        have hi1 : (k : Int) < (n : Int) := by omega
        clear hc hz hv0 hck0
        cases hp : isPt z with
        | false =>
          have HE : Hid (badPt zs 0 = k) := by
            show _ = _
            rw [← HB.out, badPt_hit zs k (by rw [HN.out]; exact hlt) (by rw [HZ.out]; exact hp)]
          go_wp2_with (go_at_call 30; refine (isPoint_any _ _).mono ?_; rintro e w1 ⟨rfl, hw1⟩; replace hw1 := hw1.symm; subst hw1)
          go_ret2
          rw [HE.out]
          exact ⟨_, rfl, hbw, fun h => by omega⟩
        | true =>
          have hl1 := cells_len (zs.take k)
          have hl2 := (Lib.runeCells_le z).2
          have hl3 : (zs.take k).length ≤ k := List.length_take_le _ _
          obtain ⟨D, hD⟩ : ∃ D, (zs.take k).flatMap Lib.runeCells = D := ⟨_, rfl⟩
          obtain ⟨E, hE⟩ : ∃ E, Lib.runeCells z = E := ⟨_, rfl⟩
          have HD : Hid ((zs.take k).flatMap Lib.runeCells = D) := hD
          have HEE : Hid (Lib.runeCells z = E) := hE
          have h1c := one_cell z
          have cBy := fun W => Bytes_any z W hp
          rw [hD] at hown hl1
          rw [hE] at hl2 h1c cBy
          clear hD hE
          go_wp2_with (first
            | (go_at_call 30; refine (isPoint_any _ _).mono ?_; rintro e w1 ⟨rfl, hw1⟩; replace hw1 := hw1.symm; subst hw1)
            | (go_at_call 31; refine (cBy _).mono ?_; rintro e w2 ⟨rfl, hw2⟩; replace hw2 := hw2.symm; subst hw2)
            | (at_builtin; (refine wpList_append_own _ rfl _ _ 62 rfl w.heap.size 5 i0 (.int .u8 0) 1 1 Tryd.underlying62 hi hz0 hz1 hz2 rfl (by decide) _ _ _ rfl (hown.alloc _) ⟨wr.heap.size, 0, none⟩ E.length E.length E rfl (by simp) (fun j u hj => by rw [add0, World.cell?_alloc_mark]; simpa using hj) h1c (by unfold maxLen; omega) (by omega) (by simp; omega) ?_); intro v' w3 hown' hgrow3 hnil3))
          have hbw3 : Below w.heap.size w w3 := Below.grown (hbw.alloc (by omega) _) hgrow3 (by simp; omega) (fun j hj => by have := (hown.lt _ hj).1; omega)
          have R1 : w3.ownsRow w.heap.size 5 1 v' ((zs.take (k + 1)).flatMap Lib.runeCells).length ((zs.take (k + 1)).flatMap Lib.runeCells) := by
            rw [take_next zs k (by rw [HN.out]; exact hlt), HZ.out, HD.out, HEE.out, List.length_append]
            exact hown'
          have R2 : Hid (badPt (zs.drop (k + 1)) (k + 1) = badPt zs 0) := by
            show _ = _
            rw [← HB.out, badPt_next zs k (by rw [HN.out]; exact hlt) (by rw [HZ.out]; exact hp)]
          go_roundw
          case rel => exact ⟨k + 1, by go_num, by omega, R1, hbw3, R2⟩
          case measure => simp [intOf]; omega
    · have HE : Hid (badPt zs 0 = -1) := by
        show _ = _
        rw [← HB.out, badPt_end zs k (by rw [HN.out]; exact hlt)]
      rw [List.take_of_length_le (by rw [HN.out]; omega), cells_eq, Lib.byteCells_length] at hown
      have hcv := conv_own hown
      go_wp2
      go_ret2
      rw [HE.out]
      exact ⟨_, rfl, hbw, fun _ => (runes_eq zs HE.out).symm⟩
end RefW
end Go.Proofs.YtpjlpinjjklhhaaDoor
