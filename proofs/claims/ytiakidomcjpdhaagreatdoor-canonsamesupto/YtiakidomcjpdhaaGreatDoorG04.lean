/- What hexDigit, utf.Pair and numberAhead of the reader do: contracts, by walking their text. What numbered and escaped of the reader do: contracts, by walking their text. What escaped of the reader does: a contract, by walking its text. What quoted of the reader does: a contract, by walking its text. Values as trees, how they lie in memory, and what the reader reads, as plain functions; nothing of the program. -/
import Derived.Test.YtiakidomcjpdhaaGreatDoorG03
import Derived.Laws.Cover4
namespace Go.Proofs.YtiakidomcjpdhaaGreatDoor
open Go.RowKit

/-- What a hexadecimal digit counts; -1: it is none. -/
def hexD (c : Nat) : Int := if 48 ≤ c ∧ c ≤ 57 then (c : Int) - 48 else if 97 ≤ c ∧ c ≤ 102 then (c : Int) - 97 + 10 else if 65 ≤ c ∧ c ≤ 70 then (c : Int) - 65 + 10 else -1
theorem hexD_bd (c : Nat) : -1 ≤ hexD c ∧ hexD c ≤ 15 := by
  unfold hexD
  repeat' split
  all_goals omega

theorem hexDigit_any (c : Nat) (w : World) (hc : c ≤ 2147483647) :
    Calls Tryz.prog 155 #[.int .i32 (c : Int)] w fun e w' => e = .returned (.int .i64 (hexD c)) ∧ w' = w := by
  go_enter Tryz.func155, Tryz.ntmps155
  go_wp2
  all_goals
    go_ret
    refine ⟨?_, rfl⟩
    simp [hexD]
    try (repeat' split) <;> omega

theorem pair_no (h l : Int) (w : World) (hn : h < 55296 ∨ 56320 ≤ h ∨ l < 56320 ∨ 57343 < l) :
    Calls Tryz.prog 156 #[.int .i64 h, .int .i64 l] w fun e w' => e = .returned (.tuple #[.int .i64 0, .iface 31 (.int .i64 1)]) ∧ w' = w := by
  by_cases h1 : h < 55296
  · go_enter Tryz.func156, Tryz.ntmps156
    go_wp2
    go_ret2
    exact ⟨rfl, rfl⟩
  · by_cases h2 : 56320 ≤ h
    · go_enter Tryz.func156, Tryz.ntmps156
      go_wp2
      go_ret2
      exact ⟨rfl, rfl⟩
    · by_cases h3 : l < 56320
      · go_enter Tryz.func156, Tryz.ntmps156
        go_wp2
        go_ret2
        exact ⟨rfl, rfl⟩
      · have h4 : 57343 < l := by omega
        go_enter Tryz.func156, Tryz.ntmps156
        go_wp2
        go_ret2
        exact ⟨rfl, rfl⟩
theorem pair_yes (h l : Int) (w : World) (h1 : 55296 ≤ h) (h2 : h < 56320) (h3 : 56320 ≤ l) (h4 : l ≤ 57343) :
    Calls Tryz.prog 156 #[.int .i64 h, .int .i64 l] w fun e w' => e = .returned (.tuple #[.int .i64 (65536 + (h - 55296) * 1024 + l - 56320), .nilIface]) ∧ w' = w := by
  go_enter Tryz.func156, Tryz.ntmps156
  go_wp2
  go_ret2
  exact ⟨rfl, rfl⟩

def aheadF (t : ByteArray) : Nat → Nat → Int → Int
  | 0, _, n => n
  | f + 1, pos, n => if pos < t.size then (if hexD (Utf8.decode t pos).1 = -1 then -1 else aheadF t f (pos + (Utf8.decode t pos).2) (n * 16 + hexD (Utf8.decode t pos).1)) else n
def aheadT (s : ByteArray) (p : Nat) : ByteArray := ⟨(Lib.trimPrefix (s.extract p s.size).data.toList [92, 117]).toArray⟩
/-- The number of the escape that comes next; -1: none does. -/
def aheadS (s : ByteArray) (p : Nat) : Int :=
  if Lib.hasPrefix (s.extract p s.size).data.toList [92, 117] = true then (if (aheadT s p).size < 4 then -1 else aheadF ((aheadT s p).extract 0 4) 4 0 0) else -1

theorem pow_step (n d pos k : Nat) (h : n < 16 ^ pos) (hd : d < 16) (hk : 0 < k) : n * 16 + d < 16 ^ (pos + k) := by
  have h1 : 16 ^ (pos + 1) ≤ 16 ^ (pos + k) := Nat.pow_le_pow_right (by decide) (by omega)
  rw [Nat.pow_succ] at h1
  omega
theorem pow_le (pos : Nat) (h : pos ≤ 4) : 16 ^ pos ≤ 65536 := Nat.pow_le_pow_right (n := 16) (by decide) h

set_option maxHeartbeats 4000000 in
theorem ahead_any (w : World) (rb : Nat) (s : ByteArray) (p : Nat) (bad : Int) (dep : Nat) (hr : RdAt w rb s p bad dep) (hp : p ≤ s.size) (_hs : s.size ≤ 140737488351232) :
    Calls Tryz.prog 157 #[.pointer (some ⟨rb, 0, none⟩)] w fun e w' => e = .returned (.int .i64 (aheadS s p)) ∧ Below w.heap.size w w' := by
  have c0 := hr.c0
  have c1 := hr.c1
  have hcp := fun w => strings_CutPrefix (s.extract p s.size) ⟨#[92, 117]⟩ w
  have hs1 : (p : Int) ≤ (s.size : Int) := by omega
  obtain ⟨T, hT⟩ : ∃ T, (⟨(Lib.trimPrefix (s.extract p s.size).data.toList [92, 117]).toArray⟩ : ByteArray) = T := ⟨_, rfl⟩
  cases hx : Lib.hasPrefix (s.extract p s.size).data.toList [92, 117] with
  | false =>
    have E : Hid (aheadS s p = -1) := by show _ = _; rw [aheadS, hx]; simp
    simp only [hT, hx] at hcp
    go_enter Tryz.func157, Tryz.ntmps157
    go_wp2
    go_quiet (first | (go_at_call 158; refine Calls.quiet_of_same (hcp _)))
    go_wp2
    go_ret
    rw [E.out]
    exact ⟨rfl, below_drewN (Below.refl _ _) _⟩
  | true =>
    have E0 : Hid (aheadS s p = if T.size < 4 then -1 else aheadF (T.extract 0 4) 4 0 0) := by show _ = _; rw [aheadS, hx, if_pos rfl]; unfold aheadT; rw [hT]
    simp only [hT, hx] at hcp
    clear hT
    by_cases h4 : T.size < 4
    · have E : Hid (aheadS s p = -1) := by show _ = _; rw [E0.out, if_pos h4]
      have h4' : (T.size : Int) < 4 := by omega
      go_enter Tryz.func157, Tryz.ntmps157
      go_wp2
      go_quiet (first | (go_at_call 158; refine Calls.quiet_of_same (hcp _)))
      go_wp2
      go_ret
      rw [E.out]
      exact ⟨rfl, below_drewN (Below.refl _ _) _⟩
    · have E : Hid (aheadS s p = aheadF (T.extract 0 4) 4 0 0) := by show _ = _; rw [E0.out, if_neg h4]
      have h4' : ¬ (T.size : Int) < 4 := by omega
      have hsz : (T.extract 0 4).size = 4 := by simp; omega
      go_enter Tryz.func157, Tryz.ntmps157
      go_wp2
      go_quiet (first | (go_at_call 158; refine Calls.quiet_of_same (hcp _)))
      go_wp2
      obtain ⟨U, hU⟩ : ∃ U, T.extract 0 4 = U := ⟨_, rfl⟩
      simp only [hU] at hsz E ⊢
      clear hU E0
      go_loopw [5] (fun v w' => ∃ (pos f m : Nat), w' = (w.drewN nq).iter U pos ∧ v = .int .i64 (m : Int) ∧ Hid (aheadF U f pos m = aheadF U 4 0 0) ∧ 4 ≤ pos + f ∧ m < 16 ^ pos ∧ pos ≤ 4) (fun _ w' => U.size - w'.iterPos w.heap.size)
      case atStart => exact ⟨0, 4, 0, rfl, rfl, rfl, by omega, by decide, by omega⟩
      case round =>
        obtain ⟨pos, f, m, rfl, rfl, HA, hf, hm, hps⟩ := hrel
        by_cases hpp : pos < U.size
        · have hnx : ∀ ty, (Instr.next (.pointer (some ⟨w.heap.size, 0, none⟩)) true ty).run Tryz.prog ((w.drewN nq).iter U pos) = _ := fun ty => run_next_any (w.drewN nq) U pos ty hpp
          have hwd := decode_fits U pos hpp
          have hdl := decode_le U pos
          obtain ⟨f, rfl⟩ : ∃ g, f = g + 1 := ⟨f - 1, by omega⟩
          have hbd := hexD_bd (Utf8.decode U pos).1
          have hpw := pow_le pos hps
          by_cases hh : hexD (Utf8.decode U pos).1 = -1
          · have hh' : (hexD (Utf8.decode U pos).1 == -1) = true := by simp [hh]
            have HE : Hid (aheadS s p = -1) := by show _ = _; rw [E.out, ← HA.out, aheadF, if_pos hpp, if_pos hh]
            clear HA E hh
            go_wp2_with (first | (go_at_call 155; refine (hexDigit_any _ _ (by omega)).mono ?_; rintro e w1 ⟨rfl, rfl⟩))
            go_ret
            rw [HE.out]
            exact ⟨rfl, (below_drewN (Below.refl _ _) _).alloc (Nat.le_refl _) _⟩
          · have hh' : (hexD (Utf8.decode U pos).1 == -1) = false := by simpa using hh
            have HA' : Hid (aheadF U f (pos + (Utf8.decode U pos).2) ((m : Int) * 16 + hexD (Utf8.decode U pos).1) = aheadF U 4 0 0) := by show _ = _; rw [← HA.out, aheadF, if_pos hpp, if_neg hh]
            have hpw2 := pow_step m (hexD (Utf8.decode U pos).1).toNat pos (Utf8.decode U pos).2 hm (by omega) (by omega)
            clear HA E
            go_wp2_with (first | (go_at_call 155; refine (hexDigit_any _ _ hdl).mono ?_; rintro e w1 ⟨rfl, rfl⟩))
            go_roundw
            case rel => exact ⟨_, f, m * 16 + (hexD (Utf8.decode U pos).1).toNat, rfl, by simp; omega, by rw [show ((m * 16 + (hexD (Utf8.decode U pos).1).toNat : Nat) : Int) = (m : Int) * 16 + hexD (Utf8.decode U pos).1 by omega]; exact HA', by omega, hpw2, by omega⟩
            case measure =>
              rw [show ((w.drewN nq).iter U (pos + (Utf8.decode U pos).2)).iterPos w.heap.size = pos + (Utf8.decode U pos).2 from iterPos_of (World.iter_heap (w.drewN nq) U _), show ((w.drewN nq).iter U pos).iterPos w.heap.size = pos from iterPos_of (World.iter_heap (w.drewN nq) U _)]
              omega
        · have hnx : ∀ ty, (Instr.next (.pointer (some ⟨w.heap.size, 0, none⟩)) true ty).run Tryz.prog ((w.drewN nq).iter U pos) = _ := fun ty => run_next_end (w.drewN nq) U pos ty hpp
          have HE : Hid ((m : Int) = aheadS s p) := by
            show _ = _
            rw [E.out, ← HA.out]
            cases f with
            | zero => rfl
            | succ f => rw [aheadF, if_neg hpp]
          clear HA E
          go_wp2
          go_ret
          rw [← HE.out]
          exact ⟨rfl, (below_drewN (Below.refl _ _) _).alloc (Nat.le_refl _) _⟩
end Go.Proofs.YtiakidomcjpdhaaGreatDoor

namespace Go.Proofs.YtiakidomcjpdhaaGreatDoor
open Go.RowKit

def hexF (s : ByteArray) (bad : Int) : Nat → Nat → Nat → Except (Nat × Nat) (Nat × Nat)
  | 0, n, p => .ok (n, p)
  | k + 1, n, p =>
    match chS s bad p with
    | .error x => .error x
    | .ok (c, q) => if hexD c = -1 then .error (p, 3) else hexF s bad k (n * 16 + (hexD c).toNat) q
def numberedS (s : ByteArray) (bad : Int) (slash p : Nat) : Except (Nat × Nat) (Nat × Nat) :=
  match hexF s bad 4 0 p with
  | .error x => .error x
  | .ok (n, q) =>
    if n < 55296 ∨ 57343 < n then .ok (n, q)
    else if n < 56320 ∧ 56320 ≤ aheadS s q ∧ aheadS s q ≤ 57343 then .ok (65536 + (n - 55296) * 1024 + (aheadS s q).toNat - 56320, q + 6)
    else .error (slash, 7)

theorem chS_ok {s : ByteArray} {bad : Int} {p c q : Nat} (h : chS s bad p = .ok (c, q)) (hp : p ≤ s.size) : c ≤ 2147483647 ∧ p < q ∧ q ≤ s.size := by
  unfold chS at h
  split at h
  · cases h
  · split at h
    · cases h
    · injection h with h
      injection h with h1 h2
      have := decode_fits s p (by omega)
      have := decode_le s p
      omega
theorem aheadS_room (s : ByteArray) (q : Nat) (h : aheadS s q ≠ -1) : q + 6 ≤ s.size := by
  unfold aheadS at h
  split at h
  · rename_i hx
    split at h
    · exact absurd rfl h
    · rename_i h4
      unfold aheadT Lib.trimPrefix at h4
      rw [if_pos hx] at h4
      have e : (⟨(List.drop 2 (s.extract q s.size).data.toList).toArray⟩ : ByteArray).size = s.size - q - 2 := by
        rw [Lib.size_eq, cut_data]
        simp
        rw [Lib.size_eq]
        simp
        omega
      change ¬ (⟨(List.drop 2 (s.extract q s.size).data.toList).toArray⟩ : ByteArray).size < 4 at h4
      rw [e] at h4
      omega
  · exact absurd rfl h

set_option maxHeartbeats 8000000 in
theorem numbered_any (w : World) (rb : Nat) (s : ByteArray) (slash p : Nat) (bad : Int) (dep : Nat) (hr : RdAt w rb s p bad dep) (hT : Tabs w) (hrb : 6 ≤ rb) (hp : p ≤ s.size) (hs : s.size ≤ 140737488351232) :
    Calls Tryz.prog 149 #[.pointer (some ⟨rb, 0, none⟩), .int .i64 (slash : Int)] w (Out (numberedS s bad slash p)
      (fun x e w' => e = .returned (.int .i32 (x.1 : Int)) ∧ RdAt w' rb s x.2 bad dep ∧ p ≤ x.2 ∧ x.2 ≤ s.size ∧ Fr (Own rb) w w') (Fr (Own rb) w)) := by
  obtain ⟨N, hN⟩ : ∃ N, numberedS s bad slash p = N := ⟨_, rfl⟩
  rw [hN]
  go_enter Tryz.func149, Tryz.ntmps149
  go_wp2
  go_loopw [5, 10] (fun v u w' => ∃ (n i q : Nat), v = .int .i64 (n : Int) ∧ u = .int .i64 (i : Int) ∧ i ≤ 4 ∧ RdAt w' rb s q bad dep ∧ Hid (hexF s bad (4 - i) n q = hexF s bad 4 0 p) ∧ n < 16 ^ i ∧ p ≤ q ∧ q ≤ s.size ∧ Fr (Own rb) w w') (fun _ u _ => 4 - (match u with | .int _ n => n.toNat | _ => 0))
  case atStart => exact ⟨0, 0, p, rfl, rfl, by omega, hr, rfl, by decide, by omega, hp, Fr.refl _ _⟩
  case round =>
    obtain ⟨n, i, q, rfl, rfl, hi, hr0, HX, hn, hpq, hq, f0⟩ := hrel
    have hT0 : Tabs wr := hT.fr f0 (by show ¬ _ = _; omega) (by show ¬ _ = _; omega)
    have hpw := pow_le i hi
    by_cases h4 : i < 4
    · have h4' : (i : Int) < 4 := by omega
      obtain ⟨k, hk⟩ : ∃ k, 4 - i = k + 1 := ⟨3 - i, by omega⟩
      have c1 := hr0.c1
      cases hc : chS s bad q with
      | error x =>
        have HC : Hid (chS s bad q = .error (x.1, x.2)) := hc
        have HN : Hid (N = .error (x.1, x.2)) := by
          show _ = _
          rw [← hN, numberedS, ← HX.out, hk, hexF, hc]
        clear hc HX hN
        go_wp2_with (first | (go_at_call 130; refine (character_any _ _ _ _ _ _ hr0 hT0 hrb hq hs).mono ?_; intro e w2 ho; obtain ⟨⟨bk, rfl, hbk⟩, f2⟩ := Out.isNo HC.out ho; clear ho))
        exact panics0 (Out.no HN.out ⟨⟨_, rfl, hbk⟩, f0.trans f2⟩)
      | ok x =>
        obtain ⟨c, q1⟩ := x
        have hck := chS_ok hc hq
        have HC : Hid (chS s bad q = .ok (c, q1)) := hc
        have hbd := hexD_bd c
        by_cases hh : hexD c = -1
        · have hh' : (hexD c == -1) = true := by simp [hh]
          have HN : Hid (N = .error (q, 3)) := by
            show _ = _
            rw [← hN, numberedS, ← HX.out, hk, hexF, hc]
            simp only [if_pos hh]
          clear hc HX hN hh
          go_wp2_with (first
            | (go_at_call 130; refine (character_any _ _ _ _ _ _ hr0 hT0 hrb hq hs).mono ?_; intro e w2 ho; obtain ⟨rfl, hr2, hq1, hq2, f2⟩ := Out.isOk HC.out ho; clear ho)
            | (go_at_call 155; refine (hexDigit_any _ _ hck.1).mono ?_; rintro e w3 ⟨rfl, rfl⟩)
            | (go_at_call 71; refine (amiss_any _ _ _).mono ?_; rintro e w4 ⟨rfl, rfl⟩))
          exact panics0 (Out.no HN.out ⟨⟨_, rfl, heap_alloc_new _ _⟩, (f0.trans f2).trans (Fr.alloc _ _ _)⟩)
        · have hh' : (hexD c == -1) = false := by simpa using hh
          have HX' : Hid (hexF s bad (4 - (i + 1)) (n * 16 + (hexD c).toNat) q1 = hexF s bad 4 0 p) := by
            show _ = _
            rw [← HX.out, hk, hexF, hc, show 4 - (i + 1) = k by omega]
            simp only [if_neg hh]
          have hpw2 := pow_step n (hexD c).toNat i 1 hn (by omega) (by omega)
          clear hc HX hN
          go_wp2_with (first
            | (go_at_call 130; refine (character_any _ _ _ _ _ _ hr0 hT0 hrb hq hs).mono ?_; intro e w2 ho; obtain ⟨rfl, hr2, hq1, hq2, f2⟩ := Out.isOk HC.out ho; clear ho)
            | (go_at_call 155; refine (hexDigit_any _ _ hck.1).mono ?_; rintro e w3 ⟨rfl, rfl⟩))
          go_roundw
          case rel => exact ⟨n * 16 + (hexD c).toNat, i + 1, q1, by simp; omega, by simp, by omega, hr2, HX', hpw2, by omega, hq2, f0.trans f2⟩
          case measure => simp; omega
    · have h4' : ¬ (i : Int) < 4 := by omega
      have hi4 : i = 4 := by omega
      have HX' : Hid (hexF s bad 4 0 p = .ok (n, q)) := by
        show _ = _
        rw [← HX.out, hi4]
        rfl
      have HN : Hid (N = if n < 55296 ∨ 57343 < n then .ok (n, q) else if n < 56320 ∧ 56320 ≤ aheadS s q ∧ aheadS s q ≤ 57343 then .ok (65536 + (n - 55296) * 1024 + (aheadS s q).toNat - 56320, q + 6) else .error (slash, 7)) := by
        show _ = _
        rw [← hN, numberedS, HX'.out]
      have hn2 : (n : Int) < 65536 := by omega
      clear HX HX' hN hi4 hn hpw h4
      by_cases g1 : (n : Int) < 55296
      · have HE : Hid (N = .ok (n, q)) := by show _ = _; rw [HN.out, if_pos (.inl (by omega))]
        clear HN
        go_wp2
        go_ret
        exact Out.yes HE.out ⟨rfl, hr0, hpq, hq, f0⟩
      · by_cases g2 : 57343 < (n : Int)
        · have HE : Hid (N = .ok (n, q)) := by show _ = _; rw [HN.out, if_pos (.inr (by omega))]
          clear HN
          go_wp2
          go_ret
          exact Out.yes HE.out ⟨rfl, hr0, hpq, hq, f0⟩
        · obtain ⟨A, hA⟩ : ∃ A, aheadS s q = A := ⟨_, rfl⟩
          have ha := ahead_any wr rb s q bad dep hr0 hq hs
          by_cases g3 : (n : Int) < 56320 ∧ 56320 ≤ A ∧ A ≤ 57343
          · have HE : Hid (N = .ok (65536 + (n - 55296) * 1024 + (aheadS s q).toNat - 56320, q + 6)) := by show _ = _; rw [HN.out, if_neg (by omega), if_pos (by omega)]
            have hroom := aheadS_room s q (by omega)
            obtain ⟨g3, g4, g5⟩ := g3
            rw [hA] at HE ha
            obtain ⟨V, hV⟩ : ∃ V, 65536 + (n - 55296) * 1024 + A.toNat - 56320 = V := ⟨_, rfl⟩
            have hV2 : Hid (65536 + ((n : Int) - 55296) * 1024 + A - 56320 = (V : Int)) := by show _ = _; omega
            rw [hV] at HE
            clear HN hA hV
            go_wp2_with (first
              | (go_at_call 157; refine ha.mono ?_; rintro e w2 ⟨rfl, hb2⟩; have hr2 : RdAt w2 rb s q bad dep := hr0.kept (S := fun _ => False) (Fr.of_below hb2) id; have d1 := hr2.c1; have z1 := hr2.fz 1)
              | (go_at_call 156; refine (pair_yes _ _ _ (by omega) g3 g4 g5).mono ?_; rintro e w3 ⟨rfl, rfl⟩))
            go_ret
            refine Out.yes (x := (V, q + 6)) HE.out ⟨?_, hr2.set1 (q + 6), by simp; omega, hroom, (f0.trans (Fr.of_below hb2)).trans (Fr.setCell _ _ _ rfl)⟩
            rw [← hV2.out]
            simp
          · have HE : Hid (N = .error (slash, 7)) := by show _ = _; rw [HN.out, if_neg (by omega), if_neg (by omega)]
            rw [hA] at ha
            have g4 : (n : Int) < 55296 ∨ 56320 ≤ (n : Int) ∨ A < 56320 ∨ 57343 < A := by omega
            clear HN hA g3
            go_wp2_with (first
              | (go_at_call 157; refine ha.mono ?_; rintro e w2 ⟨rfl, hb2⟩)
              | (go_at_call 156; refine (pair_no _ _ _ g4).mono ?_; rintro e w3 ⟨rfl, rfl⟩)
              | (go_at_call 71; refine (amiss_any _ _ _).mono ?_; rintro e w4 ⟨rfl, rfl⟩))
            exact panics0 (Out.no HE.out ⟨⟨_, rfl, heap_alloc_new _ _⟩, (f0.trans (Fr.of_below hb2)).trans (Fr.alloc _ _ _)⟩)
end Go.Proofs.YtiakidomcjpdhaaGreatDoor

namespace Go.Proofs.YtiakidomcjpdhaaGreatDoor
open Go.RowKit

def escC (s : ByteArray) (bad : Int) (slash p c q : Nat) : Except (Nat × Nat) (Nat × Nat) :=
  if c = 34 then .ok (34, q) else if c = 92 then .ok (92, q) else if c = 47 then .ok (47, q) else if c = 98 then .ok (8, q) else if c = 102 then .ok (12, q)
  else if c = 110 then .ok (10, q) else if c = 114 then .ok (13, q) else if c = 116 then .ok (9, q) else if c = 117 then numberedS s bad slash q else .error (p, 3)
/-- The character that is meant behind a backslash at slash, and the place behind it. -/
def escS (s : ByteArray) (bad : Int) (slash p : Nat) : Except (Nat × Nat) (Nat × Nat) :=
  match chS s bad p with
  | .error x => .error x
  | .ok (c, q) => escC s bad slash p c q

set_option maxHeartbeats 8000000 in
theorem escaped_any (w : World) (rb : Nat) (s : ByteArray) (slash p : Nat) (bad : Int) (dep : Nat) (hr : RdAt w rb s p bad dep) (hT : Tabs w) (hrb : 6 ≤ rb) (hp : p ≤ s.size) (hs : s.size ≤ 140737488351232) :
    Calls Tryz.prog 131 #[.pointer (some ⟨rb, 0, none⟩), .int .i64 (slash : Int)] w (Out (escS s bad slash p)
      (fun x e w' => e = .returned (.int .i32 (x.1 : Int)) ∧ RdAt w' rb s x.2 bad dep ∧ p < x.2 ∧ x.2 ≤ s.size ∧ Fr (Own rb) w w') (Fr (Own rb) w)) := by
  obtain ⟨N, hN⟩ : ∃ N, escS s bad slash p = N := ⟨_, rfl⟩
  rw [hN]
  have c1 := hr.c1
  cases hc : chS s bad p with
  | error x =>
    have HC : Hid (chS s bad p = .error (x.1, x.2)) := hc
    have HN : Hid (N = .error (x.1, x.2)) := by show _ = _; rw [← hN, escS, hc]
    clear hc hN
    go_enter Tryz.func131, Tryz.ntmps131
    go_wp2_with (first | (go_at_call 130; refine (character_any _ _ _ _ _ _ hr hT hrb hp hs).mono ?_; intro e w2 ho; obtain ⟨⟨bk, rfl, hbk⟩, f2⟩ := Out.isNo HC.out ho; clear ho))
    exact panics0 (Out.no HN.out ⟨⟨_, rfl, hbk⟩, f2⟩)
  | ok x =>
    obtain ⟨c, q⟩ := x
    have hck := chS_ok hc hp
    have HN : Hid (N = escC s bad slash p c q) := by show _ = _; rw [← hN, escS, hc]
    have hch := (character_any _ _ _ _ _ _ hr hT hrb hp hs)
    rw [hc] at hch
    clear hc hN
    by_cases k34 : c = 34
    · subst k34
      have HE : Hid (N = .ok (34, q)) := by show _ = _; rw [HN.out]; rfl
      clear HN
      go_enter Tryz.func131, Tryz.ntmps131
      go_wp2_with (first | (go_at_call 130; refine hch.mono ?_; rintro e w2 ⟨rfl, hr2, hq1, hq2, f2⟩))
      go_ret
      exact Out.yes HE.out ⟨rfl, hr2, hq1, hq2, f2⟩
    by_cases k92 : c = 92
    · subst k92
      have HE : Hid (N = .ok (92, q)) := by show _ = _; rw [HN.out]; rfl
      clear HN
      go_enter Tryz.func131, Tryz.ntmps131
      go_wp2_with (first | (go_at_call 130; refine hch.mono ?_; rintro e w2 ⟨rfl, hr2, hq1, hq2, f2⟩))
      go_ret
      exact Out.yes HE.out ⟨rfl, hr2, hq1, hq2, f2⟩
    by_cases k47 : c = 47
    · subst k47
      have HE : Hid (N = .ok (47, q)) := by show _ = _; rw [HN.out]; rfl
      clear HN
      go_enter Tryz.func131, Tryz.ntmps131
      go_wp2_with (first | (go_at_call 130; refine hch.mono ?_; rintro e w2 ⟨rfl, hr2, hq1, hq2, f2⟩))
      go_ret
      exact Out.yes HE.out ⟨rfl, hr2, hq1, hq2, f2⟩
    by_cases k98 : c = 98
    · subst k98
      have HE : Hid (N = .ok (8, q)) := by show _ = _; rw [HN.out]; rfl
      clear HN
      go_enter Tryz.func131, Tryz.ntmps131
      go_wp2_with (first | (go_at_call 130; refine hch.mono ?_; rintro e w2 ⟨rfl, hr2, hq1, hq2, f2⟩))
      go_ret
      exact Out.yes HE.out ⟨rfl, hr2, hq1, hq2, f2⟩
    by_cases k102 : c = 102
    · subst k102
      have HE : Hid (N = .ok (12, q)) := by show _ = _; rw [HN.out]; rfl
      clear HN
      go_enter Tryz.func131, Tryz.ntmps131
      go_wp2_with (first | (go_at_call 130; refine hch.mono ?_; rintro e w2 ⟨rfl, hr2, hq1, hq2, f2⟩))
      go_ret
      exact Out.yes HE.out ⟨rfl, hr2, hq1, hq2, f2⟩
    by_cases k110 : c = 110
    · subst k110
      have HE : Hid (N = .ok (10, q)) := by show _ = _; rw [HN.out]; rfl
      clear HN
      go_enter Tryz.func131, Tryz.ntmps131
      go_wp2_with (first | (go_at_call 130; refine hch.mono ?_; rintro e w2 ⟨rfl, hr2, hq1, hq2, f2⟩))
      go_ret
      exact Out.yes HE.out ⟨rfl, hr2, hq1, hq2, f2⟩
    by_cases k114 : c = 114
    · subst k114
      have HE : Hid (N = .ok (13, q)) := by show _ = _; rw [HN.out]; rfl
      clear HN
      go_enter Tryz.func131, Tryz.ntmps131
      go_wp2_with (first | (go_at_call 130; refine hch.mono ?_; rintro e w2 ⟨rfl, hr2, hq1, hq2, f2⟩))
      go_ret
      exact Out.yes HE.out ⟨rfl, hr2, hq1, hq2, f2⟩
    by_cases k116 : c = 116
    · subst k116
      have HE : Hid (N = .ok (9, q)) := by show _ = _; rw [HN.out]; rfl
      clear HN
      go_enter Tryz.func131, Tryz.ntmps131
      go_wp2_with (first | (go_at_call 130; refine hch.mono ?_; rintro e w2 ⟨rfl, hr2, hq1, hq2, f2⟩))
      go_ret
      exact Out.yes HE.out ⟨rfl, hr2, hq1, hq2, f2⟩
    have HM : Hid (N = if c = 117 then numberedS s bad slash q else .error (p, 3)) := by show _ = _; rw [HN.out, escC, if_neg k34, if_neg k92, if_neg k47, if_neg k98, if_neg k102, if_neg k110, if_neg k114, if_neg k116]
    clear HN
    have m34 : ((c : Int) == 34) = false := by simp; omega
    have m92 : ((c : Int) == 92) = false := by simp; omega
    have m47 : ((c : Int) == 47) = false := by simp; omega
    have m98 : ((c : Int) == 98) = false := by simp; omega
    have m102 : ((c : Int) == 102) = false := by simp; omega
    have m110 : ((c : Int) == 110) = false := by simp; omega
    have m114 : ((c : Int) == 114) = false := by simp; omega
    have m116 : ((c : Int) == 116) = false := by simp; omega
    clear k34 k92 k47 k98 k102 k110 k114 k116
    by_cases k117 : c = 117
    · have HE : Hid (N = numberedS s bad slash q) := by show _ = _; rw [HM.out, if_pos k117]
      have m117 : ((c : Int) == 117) = true := by simp [k117]
      clear HM k117
      cases hn : numberedS s bad slash q with
      | error x =>
        have HE' : Hid (N = .error (x.1, x.2)) := by show _ = _; rw [HE.out, hn]
        have HX : Hid (numberedS s bad slash q = .error (x.1, x.2)) := hn
        clear HE hn
        go_enter Tryz.func131, Tryz.ntmps131
        go_wp2_with (first
          | (go_at_call 130; refine hch.mono ?_; rintro e w2 ⟨rfl, hr2, hq1, hq2, f2⟩)
          | (go_at_call 149; refine (numbered_any _ _ _ _ _ _ _ hr2 (hT.fr f2 (by show ¬ _ = _; omega) (by show ¬ _ = _; omega)) hrb hq2 hs).mono ?_; intro e w3 ho; obtain ⟨⟨bk, rfl, hbk⟩, f3⟩ := Out.isNo HX.out ho; clear ho))
        exact panics0 (Out.no HE'.out ⟨⟨_, rfl, hbk⟩, f2.trans f3⟩)
      | ok x =>
        have HE' : Hid (N = .ok x) := by show _ = _; rw [HE.out, hn]
        have HX : Hid (numberedS s bad slash q = .ok x) := hn
        clear HE hn
        go_enter Tryz.func131, Tryz.ntmps131
        go_wp2_with (first
          | (go_at_call 130; refine hch.mono ?_; rintro e w2 ⟨rfl, hr2, hq1, hq2, f2⟩)
          | (go_at_call 149; refine (numbered_any _ _ _ _ _ _ _ hr2 (hT.fr f2 (by show ¬ _ = _; omega) (by show ¬ _ = _; omega)) hrb hq2 hs).mono ?_; intro e w3 ho; obtain ⟨rfl, hr3, hq3, hq4, f3⟩ := Out.isOk HX.out ho; clear ho))
        go_ret
        exact Out.yes HE'.out ⟨rfl, hr3, by omega, hq4, f2.trans f3⟩
    · have HE : Hid (N = .error (p, 3)) := by show _ = _; rw [HM.out, if_neg k117]
      have m117 : ((c : Int) == 117) = false := by simp; omega
      clear HM k117
      go_enter Tryz.func131, Tryz.ntmps131
      go_wp2_with (first
        | (go_at_call 130; refine hch.mono ?_; rintro e w2 ⟨rfl, hr2, hq1, hq2, f2⟩)
        | (go_at_call 71; refine (amiss_any _ _ _).mono ?_; rintro e w4 ⟨rfl, rfl⟩))
      exact panics0 (Out.no HE.out ⟨⟨_, rfl, heap_alloc_new _ _⟩, f2.trans (Fr.alloc _ _ _)⟩)
end Go.Proofs.YtiakidomcjpdhaaGreatDoor

namespace Go.Proofs.YtiakidomcjpdhaaGreatDoor
open Go.RowKit

theorem Fr.grownNew {S : Nat → Prop} {w w1 w2 : World} {row : Option Nat} (h : Fr S w w1) (g : w1.grownBy w2 row) (hs : ∀ k, row = some k → w.heap.size ≤ k ∨ S k) : Fr S w w2 :=
  ⟨g.os.trans h.os, g.tape.trans h.tape, g.output.trans h.output, Nat.le_trans h.size g.size, fun k hk hn =>
    (g.block k (Nat.lt_of_lt_of_le hk h.size) (fun e => by rcases hs k e.symm with a | a; · omega
                                                           · exact hn a)).trans (h.block k hk hn)⟩
theorem own_fr {S : Nat → Prop} {w w' : World} {base : Nat} {e : TypeId} {size : Nat} {v : Value} {n : Nat} {xs : List Value} (h : w.ownsRow base e size v n xs) (f : Fr S w w') (hs : ∀ k, base ≤ k → ¬ S k) : w'.ownsRow base e size v n xs := by
  obtain ⟨h1, h2⟩ := h
  refine ⟨h1, ?_⟩
  rcases h2 with h2 | ⟨g, cap, cur, a, b, c, d⟩
  · exact .inl h2
  · exact .inr ⟨g, cap, cur, a, b, (f.block g (lt_of_block c) (hs g b)).trans c, d⟩
theorem own_base {w : World} {base base' : Nat} {e : TypeId} {size : Nat} {v : Value} {n : Nat} {xs : List Value} (h : w.ownsRow base e size v n xs) (hb : base' ≤ base) : w.ownsRow base' e size v n xs := by
  obtain ⟨h1, h2⟩ := h
  refine ⟨h1, ?_⟩
  rcases h2 with h2 | ⟨g, cap, cur, a, b, c, d⟩
  · exact .inl h2
  · exact .inr ⟨g, cap, cur, a, Nat.le_trans hb b, c, d⟩

/-- Characters as the cells of a row; as a string. -/
def runes (l : List Nat) : List Value := l.map fun (n : Nat) => Value.int .i32 (n : Int)
def txt (l : List Nat) : ByteArray := runesBytes (l.map fun (n : Nat) => (n : Int))

theorem addr_add (g j : Nat) : (⟨g, 0, none⟩ : Addr).add j = ⟨g, j, none⟩ := by
  cases j with
  | zero => rfl
  | succ j => simp [Addr.add]
theorem conv_runes {w : World} {base : Nat} {v : Value} {zs : List Nat} (h : w.ownsRow base 21 1 v zs.length (runes zs)) : (convert 155 9 v).run Tryz.prog w = .ok (.string (txt zs)) w := by
  rcases h.2 with ⟨rfl, h0⟩ | ⟨g, cap, cur, rfl, hb, hg, hn, hc, hz, ht⟩
  · have : zs = [] := List.eq_nil_of_length_eq_zero h0
    subst this
    exact run_convert_runes_nil w 155 9 21 0 0 Tryz.underlying155 Tryz.underlying21 Tryz.underlying9
  · have h2 := run_convert_runes (P := Tryz.prog) w 155 9 21 ⟨g, 0, none⟩ zs.length cap (zs.map fun (n : Nat) => (n : Int)) (by simp) Tryz.underlying155 Tryz.underlying21 Tryz.underlying9 (fun j hj => by
      have hj' : j < zs.length := by simpa using hj
      have hj2 : j < (cur.toList.take (zs.length * 1)).length := by rw [ht]; simpa [runes] using hj'
      have e1 : cur[j]? = some (Value.int .i32 (zs[j] : Int)) := by
        have e2 : (cur.toList.take (zs.length * 1))[j]? = (runes zs)[j]? := by rw [ht]
        rw [List.getElem?_take_of_lt (by omega)] at e2
        simp [runes, List.getElem?_eq_getElem hj'] at e2
        exact e2
      have e3 : (zs.map fun (n : Nat) => (n : Int)).getD j 0 = (zs[j] : Int) := by simp [List.getD, List.getElem?_eq_getElem hj']
      rw [e3]
      rw [addr_add]
      simp only [World.cell?, hg]
      simpa using e1)
    rw [h2, List.take_of_length_le (by simp)]
    rfl

def quF (s : ByteArray) (bad : Int) : Nat → List Nat → Nat → Except (Nat × Nat) (List Nat × Nat)
  | 0, _, p => .error (p, 3)
  | f + 1, acc, p =>
    match chS s bad p with
    | .error x => .error x
    | .ok (c, q) =>
      if c = 34 then .ok (acc, q)
      else if c = 92 then (match escS s bad p q with | .error x => .error x | .ok (d, q2) => quF s bad f (acc ++ [d]) q2)
      else if c < 32 then .error (p, 3) else quF s bad f (acc ++ [c]) q
/-- A text from its first quote on: its characters, and the place behind it. -/
def quotedS (s : ByteArray) (bad : Int) (p : Nat) : Except (Nat × Nat) (List Nat × Nat) := if nx s p = 34 then quF s bad (s.size + 1) [] (p + 1) else .error (p, 3)

theorem info21 : (Tryz.prog.info? 21).map (fun i => (i.zero, i.size, i.bytes)) = some (some (.int .i32 0), 1, 4) := by kernel_rfl

set_option maxRecDepth 20000 in
set_option maxHeartbeats 8000000 in
theorem quoted_any (w : World) (rb : Nat) (s : ByteArray) (p : Nat) (bad : Int) (dep : Nat) (hr : RdAt w rb s p bad dep) (hT : Tabs w) (hrb : 6 ≤ rb) (hp : p ≤ s.size) (hs : s.size ≤ 65536) :
    Calls Tryz.prog 101 #[.pointer (some ⟨rb, 0, none⟩)] w (Out (quotedS s bad p)
      (fun x e w' => e = .returned (.string (txt x.1)) ∧ RdAt w' rb s x.2 bad dep ∧ p < x.2 ∧ x.2 ≤ s.size ∧ Fr (Own rb) w w') (Fr (Own rb) w)) := by
  obtain ⟨i0, hi, hz0, hz1, hz2⟩ := info_parts info21
  have hlt := hr.lt
  have hs2 : s.size ≤ 140737488351232 := by omega
  obtain ⟨N, hN⟩ : ∃ N, quotedS s bad p = N := ⟨_, rfl⟩
  rw [hN]
  by_cases h0 : nx s p = 34
  · have HN : Hid (N = quF s bad (s.size + 1) [] (p + 1)) := by show _ = _; rw [← hN, quotedS, if_pos h0]
    have hl := lt_of_nx (s := s) (p := p) (by omega)
    clear hN
    go_enter Tryz.func101, Tryz.ntmps101
    go_wp2_with (go_at_call 129; refine (want_yes _ _ _ _ _ _ 34 hr hp hs2 h0).mono ?_; rintro e w1 ⟨rfl, hr1, f1⟩)
    go_loopw [3] (fun v w' => ∃ (acc : List Nat) (q f : Nat), w'.ownsRow w.heap.size 21 1 v acc.length (runes acc) ∧ RdAt w' rb s q bad dep ∧ Hid (N = quF s bad f acc q) ∧ s.size < q + f ∧ p + 1 ≤ q ∧ q ≤ s.size ∧ acc.length ≤ q ∧ Fr (Own rb) w w') (fun _ w' => s.size - posOf w' rb)
    case atStart => exact ⟨[], p + 1, s.size + 1, World.ownsRow_nil _ _ _ _, hr1, HN, by omega, by omega, by omega, by simp, f1⟩
    case round =>
      obtain ⟨acc, q, f, hown, hr0, HQ, hf, hpq, hq, hac, f0⟩ := hrel
      have hT0 : Tabs wr := hT.fr f0 (by show ¬ _ = _; omega) (by show ¬ _ = _; omega)
      obtain ⟨f, rfl⟩ : ∃ g, f = g + 1 := ⟨f - 1, by omega⟩
      have c1 := hr0.c1
      have hpos0 := hr0.pos
      have hch := character_any _ _ _ _ _ _ hr0 hT0 hrb hq hs2
      have HQ2 : Hid (N = match chS s bad q with
        | .error x => .error x
        | .ok (c, r) =>
          if c = 34 then .ok (acc, r)
          else if c = 92 then (match escS s bad q r with | .error x => .error x | .ok (d, q2) => quF s bad f (acc ++ [d]) q2)
          else if c < 32 then .error (q, 3) else quF s bad f (acc ++ [c]) r) := by show _ = _; rw [HQ.out, quF]
      clear HQ
      cases hc : chS s bad q with
      | error x =>
        rw [hc] at hch
        have HE : Hid (N = .error (x.1, x.2)) := by show _ = _; rw [HQ2.out, hc]
        clear HQ2 hc
        go_wp2_with (go_at_call 130; refine hch.mono ?_; rintro e w2 ⟨⟨bk, rfl, hbk⟩, f2⟩)
        exact panics0 (Out.no HE.out ⟨⟨_, rfl, hbk⟩, f0.trans f2⟩)
      | ok x =>
        obtain ⟨c, r⟩ := x
        have hck := chS_ok hc hq
        rw [hc] at hch
        have HQ3 : Hid (N = if c = 34 then .ok (acc, r)
          else if c = 92 then (match escS s bad q r with | .error x => .error x | .ok (d, q2) => quF s bad f (acc ++ [d]) q2)
          else if c < 32 then .error (q, 3) else quF s bad f (acc ++ [c]) r) := by show _ = _; rw [HQ2.out, hc]
        clear HQ2 hc
        by_cases k34 : c = 34
        · have HE : Hid (N = .ok (acc, r)) := by show _ = _; rw [HQ3.out, if_pos k34]
          subst k34
          clear HQ3
          go_wp2_with (go_at_call 130; refine hch.mono ?_; rintro e w2 ⟨rfl, hr2, hq1, hq2, f2⟩; have hcv := conv_runes (own_fr hown f2 (fun k hk e => by have : k = rb := e; omega)))
          go_ret
          exact Out.yes HE.out ⟨rfl, hr2, by show p < r; omega, hq2, f0.trans f2⟩
        · have m34 : ((c : Int) == 34) = false := by simp; omega
          by_cases k92 : c = 92
          · have HQ4 : Hid (N = match escS s bad q r with | .error x => .error x | .ok (d, q2) => quF s bad f (acc ++ [d]) q2) := by show _ = _; rw [HQ3.out, if_neg k34, if_pos k92]
            have m92 : ((c : Int) == 92) = true := by simp [k92]
            clear HQ3 k34 k92
            cases hx : escS s bad q r with
            | error x =>
              have HE : Hid (N = .error (x.1, x.2)) := by show _ = _; rw [HQ4.out, hx]
              have HX : Hid (escS s bad q r = .error (x.1, x.2)) := hx
              clear HQ4 hx
              go_wp2_with (first
                | (go_at_call 130; refine hch.mono ?_; rintro e w2 ⟨rfl, hr2, hq1, hq2, f2⟩)
                | (go_at_call 131; refine (escaped_any _ _ _ _ _ _ _ hr2 (hT0.fr f2 (by show ¬ _ = _; omega) (by show ¬ _ = _; omega)) hrb hq2 hs2).mono ?_; intro e w3 ho; obtain ⟨⟨bk, rfl, hbk⟩, f3⟩ := Out.isNo HX.out ho; clear ho))
              exact panics0 (Out.no HE.out ⟨⟨_, rfl, hbk⟩, (f0.trans f2).trans f3⟩)
            | ok x =>
              obtain ⟨d, q2⟩ := x
              have HE : Hid (N = quF s bad f (acc ++ [d]) q2) := by show _ = _; rw [HQ4.out, hx]
              have HX : Hid (escS s bad q r = .ok (d, q2)) := hx
              clear HQ4 hx
              go_wp2_with (first
                | (go_at_call 130; refine hch.mono ?_; rintro e w2 ⟨rfl, hr2, hq1, hq2, f2⟩)
                | (go_at_call 131; refine (escaped_any _ _ _ _ _ _ _ hr2 (hT0.fr f2 (by show ¬ _ = _; omega) (by show ¬ _ = _; omega)) hrb hq2 hs2).mono ?_; intro e w4 ho; obtain ⟨rfl, hr4, hq3, hq4, f4⟩ := Out.isOk HX.out ho; clear ho; have f5 := f2.trans f4; have hown2 := own_fr hown f5 (fun k hk e => by have : k = rb := e; omega); have hsz2 := Nat.le_trans f0.size f5.size)
                | (at_builtin; refine wpList_append_own _ rfl _ _ 155 rfl w.heap.size 21 i0 (.int .i32 0) 1 4 Tryz.underlying155 hi hz0 hz1 hz2 rfl (by decide) _ _ _ rfl (hown2.alloc _) ⟨w4.heap.size, 0, none⟩ 1 1 [.int .i32 (d : Int)] rfl rfl (cell_one_new _ _ _) (fun x hx => by simp at hx; subst hx; rfl) (by unfold maxLen; omega) (by omega) (by simp; omega) ?_; intro v' w3 hown' hgrow3 hnil3))
              have f3 : Fr (Own rb) w w3 := ((f0.trans f5).allocNew _).grownNew hgrow3 (fun k hk => .inl ((hown2.lt _ hk).1))
              have hr3 : RdAt w3 rb s q2 bad dep := (hr4.alloc _).kept (S := fun k => w.heap.size ≤ k) (Fr.grown hgrow3 (fun k hk _ => (hown2.lt _ hk).1)) (by omega)
              have hq3' : r < q2 := hq3
              go_roundw
              case rel => exact ⟨acc ++ [d], q2, f, by simpa [runes] using hown', hr3, HE, by omega, by omega, hq4, by simp; omega, f3⟩
              case measure => rw [hr3.pos, hpos0]; omega
          · have m92 : ((c : Int) == 92) = false := by simp; omega
            by_cases k32 : c < 32
            · have m32 : (c : Int) < 32 := by omega
              have HE : Hid (N = .error (q, 3)) := by show _ = _; rw [HQ3.out, if_neg k34, if_neg k92, if_pos k32]
              clear HQ3 k34 k92 k32
              go_wp2_with (first
                | (go_at_call 130; refine hch.mono ?_; rintro e w2 ⟨rfl, hr2, hq1, hq2, f2⟩)
                | (go_at_call 71; refine (amiss_any _ _ _).mono ?_; rintro e w4 ⟨rfl, rfl⟩))
              exact panics0 (Out.no HE.out ⟨⟨_, rfl, heap_alloc_new _ _⟩, (f0.trans f2).trans (Fr.alloc _ _ _)⟩)
            · have m32 : ¬ (c : Int) < 32 := by omega
              have HE : Hid (N = quF s bad f (acc ++ [c]) r) := by show _ = _; rw [HQ3.out, if_neg k34, if_neg k92, if_neg k32]
              clear HQ3 k34 k92 k32
              go_wp2_with (first
                | (go_at_call 130; refine hch.mono ?_; rintro e w2 ⟨rfl, hr2, hq1, hq2, f2⟩; have hown2 := own_fr hown f2 (fun k hk e => by have : k = rb := e; omega); have hsz2 := Nat.le_trans f0.size f2.size)
                | (at_builtin; refine wpList_append_own _ rfl _ _ 155 rfl w.heap.size 21 i0 (.int .i32 0) 1 4 Tryz.underlying155 hi hz0 hz1 hz2 rfl (by decide) _ _ _ rfl (hown2.alloc _) ⟨w2.heap.size, 0, none⟩ 1 1 [.int .i32 (c : Int)] rfl rfl (cell_one_new _ _ _) (fun x hx => by simp at hx; subst hx; rfl) (by unfold maxLen; omega) (by omega) (by simp; omega) ?_; intro v' w3 hown' hgrow3 hnil3))
              have f3 : Fr (Own rb) w w3 := ((f0.trans f2).allocNew _).grownNew hgrow3 (fun k hk => .inl ((hown2.lt _ hk).1))
              have hr3 : RdAt w3 rb s r bad dep := (hr2.alloc _).kept (S := fun k => w.heap.size ≤ k) (Fr.grown hgrow3 (fun k hk _ => (hown2.lt _ hk).1)) (by omega)
              go_roundw
              case rel => exact ⟨acc ++ [c], r, f, by simpa [runes] using hown', hr3, HE, by omega, by omega, hq2, by simp; omega, f3⟩
              case measure => rw [hr3.pos, hpos0]; omega
  · have HN : Hid (N = .error (p, 3)) := by show _ = _; rw [← hN, quotedS, if_neg h0]
    clear hN
    go_enter Tryz.func101, Tryz.ntmps101
    go_wp2_with (go_at_call 129; refine (want_no _ _ _ _ _ _ 34 hr hp hs2 h0).mono ?_; rintro e w1 ⟨⟨bk, rfl, hbk⟩, f1⟩)
    exact panics0 (Out.no HN.out ⟨⟨_, rfl, hbk⟩, f1⟩)
end Go.Proofs.YtiakidomcjpdhaaGreatDoor

namespace Go.Proofs.YtiakidomcjpdhaaGreatDoor
open Go.RowKit

/-- A value: its kind, and all that it may hold. -/
inductive GV where
  | mk (kind : Int) (b : Bool) (n : Int) (t : ByteArray) (l : List GV) (f : List (ByteArray × GV))

/-- A slice value of n elements of so many cells each, which read so; its block is one of ok, where there is an element (without one it may lie anywhere). -/
def SlAt (w : World) (ok : Nat → Prop) (v : Value) (n size : Nat) (xs : List Value) : Prop :=
  xs.length = n * size ∧ ((∃ a c, v = .slice a 0 c ∧ n = 0) ∨
    ∃ b off cap, v = .slice (some ⟨b, off, none⟩) n cap ∧ (0 < n → ok b) ∧ n ≤ cap ∧ ∀ i, i < n * size → w.cell? ⟨b, off + i, none⟩ = xs[i]?)

mutual
def LaidV (w : World) (ok : Nat → Prop) : GV → List Value → Prop
  | .mk k b n t l f, cs => ∃ sl sf xs ys, cs = [.int .i64 k, .bool b, .int .i64 n, .string t, sl, sf] ∧ SlAt w ok sl l.length 6 xs ∧ SlAt w ok sf f.length 7 ys ∧ LaidL w ok l xs ∧ LaidF w ok f ys
def LaidL (w : World) (ok : Nat → Prop) : List GV → List Value → Prop
  | [], xs => xs = []
  | x :: l, xs => ∃ a r, xs = a ++ r ∧ LaidV w ok x a ∧ LaidL w ok l r
def LaidF (w : World) (ok : Nat → Prop) : List (ByteArray × GV) → List Value → Prop
  | [], xs => xs = []
  | x :: l, xs => ∃ a r, xs = a ++ r ∧ LaidP w ok x a ∧ LaidF w ok l r
def LaidP (w : World) (ok : Nat → Prop) : ByteArray × GV → List Value → Prop
  | (nm, x), cs => ∃ a, cs = .string nm :: a ∧ LaidV w ok x a
end

theorem SlAt.conv {w w' : World} {ok ok' : Nat → Prop} {v : Value} {n size : Nat} {xs : List Value} (h : SlAt w ok v n size xs) (hsz : 0 < size) (hk : ∀ b, ok b → b < w.heap.size → ok' b ∧ w'.heap[b]? = w.heap[b]?) : SlAt w' ok' v n size xs := by
  obtain ⟨h1, h2⟩ := h
  refine ⟨h1, ?_⟩
  rcases h2 with h2 | ⟨b, off, cap, rfl, hb, hc, hr⟩
  · exact .inl h2
  · by_cases hn : 0 < n
    · have hlt : b < w.heap.size := by
        have h3 := hr 0 (Nat.mul_pos hn hsz)
        rw [List.getElem?_eq_getElem (by rw [h1]; exact Nat.mul_pos hn hsz)] at h3
        exact World.block_lt_of_cell? w _ h3
      obtain ⟨h4, h5⟩ := hk b (hb hn) hlt
      exact .inr ⟨b, off, cap, rfl, fun _ => h4, hc, fun i hi => (World.cell?_of_block (a := ⟨b, off + i, none⟩) h5).trans (hr i hi)⟩
    · have : n = 0 := by omega
      subst this
      exact .inr ⟨b, off, cap, rfl, fun h => absurd h hn, hc, fun i hi => by simp at hi⟩

mutual
theorem LaidV.conv {w w' : World} {ok ok' : Nat → Prop} (hk : ∀ b, ok b → b < w.heap.size → ok' b ∧ w'.heap[b]? = w.heap[b]?) : ∀ {x : GV} {cs : List Value}, LaidV w ok x cs → LaidV w' ok' x cs
  | .mk k b n t l f, cs, h => by
    unfold LaidV at h ⊢
    obtain ⟨sl, sf, xs, ys, h0, h1, h2, h3, h4⟩ := h
    exact ⟨sl, sf, xs, ys, h0, h1.conv (by decide) hk, h2.conv (by decide) hk, LaidL.conv hk h3, LaidF.conv hk h4⟩
theorem LaidL.conv {w w' : World} {ok ok' : Nat → Prop} (hk : ∀ b, ok b → b < w.heap.size → ok' b ∧ w'.heap[b]? = w.heap[b]?) : ∀ {l : List GV} {xs : List Value}, LaidL w ok l xs → LaidL w' ok' l xs
  | [], xs, h => by unfold LaidL at h ⊢; exact h
  | x :: l, xs, h => by
    unfold LaidL at h ⊢
    obtain ⟨a, r, h0, h1, h2⟩ := h
    exact ⟨a, r, h0, LaidV.conv hk h1, LaidL.conv hk h2⟩
theorem LaidF.conv {w w' : World} {ok ok' : Nat → Prop} (hk : ∀ b, ok b → b < w.heap.size → ok' b ∧ w'.heap[b]? = w.heap[b]?) : ∀ {l : List (ByteArray × GV)} {xs : List Value}, LaidF w ok l xs → LaidF w' ok' l xs
  | [], xs, h => by unfold LaidF at h ⊢; exact h
  | x :: l, xs, h => by
    unfold LaidF at h ⊢
    obtain ⟨a, r, h0, h1, h2⟩ := h
    exact ⟨a, r, h0, LaidP.conv hk h1, LaidF.conv hk h2⟩
theorem LaidP.conv {w w' : World} {ok ok' : Nat → Prop} (hk : ∀ b, ok b → b < w.heap.size → ok' b ∧ w'.heap[b]? = w.heap[b]?) : ∀ {x : ByteArray × GV} {xs : List Value}, LaidP w ok x xs → LaidP w' ok' x xs
  | (nm, x), xs, h => by
    unfold LaidP at h ⊢
    obtain ⟨a, h0, h1⟩ := h
    exact ⟨a, h0, LaidV.conv hk h1⟩
end

theorem LaidV.len {w : World} {ok : Nat → Prop} {x : GV} {cs : List Value} (h : LaidV w ok x cs) : cs.length = 6 := by
  cases x
  unfold LaidV at h
  obtain ⟨sl, sf, xs, ys, rfl, _⟩ := h
  rfl
theorem LaidL.snoc {w : World} {ok : Nat → Prop} {x : GV} {a : List Value} (hx : LaidV w ok x a) : ∀ {l : List GV} {xs : List Value}, LaidL w ok l xs → LaidL w ok (l ++ [x]) (xs ++ a)
  | [], xs, h => by
    unfold LaidL at h
    subst h
    show LaidL w ok [x] ([] ++ a)
    unfold LaidL
    exact ⟨a, [], by simp, hx, by unfold LaidL; rfl⟩
  | y :: l, xs, h => by
    unfold LaidL at h
    obtain ⟨b, r, rfl, h1, h2⟩ := h
    show LaidL w ok (y :: (l ++ [x])) _
    unfold LaidL
    exact ⟨b, r ++ a, by simp, h1, LaidL.snoc hx h2⟩
theorem LaidF.snoc {w : World} {ok : Nat → Prop} {x : ByteArray × GV} {a : List Value} (hx : LaidP w ok x a) : ∀ {l : List (ByteArray × GV)} {xs : List Value}, LaidF w ok l xs → LaidF w ok (l ++ [x]) (xs ++ a)
  | [], xs, h => by
    unfold LaidF at h
    subst h
    show LaidF w ok [x] ([] ++ a)
    unfold LaidF
    exact ⟨a, [], by simp, hx, by unfold LaidF; rfl⟩
  | y :: l, xs, h => by
    unfold LaidF at h
    obtain ⟨b, r, rfl, h1, h2⟩ := h
    show LaidF w ok (y :: (l ++ [x])) _
    unfold LaidF
    exact ⟨b, r ++ a, by simp, h1, LaidF.snoc hx h2⟩
/-- A row that the call owns, as a slice that reads so. -/
theorem slAt_of_own {w : World} {base : Nat} {e : TypeId} {size : Nat} {v : Value} {n : Nat} {xs : List Value} (h : w.ownsRow base e size v n xs) : SlAt w (fun b => base ≤ b) v n size xs := by
  refine ⟨h.1, ?_⟩
  rcases h.2 with h2 | ⟨g, cap, cur, rfl, hb, hg, hn, hc, hz, ht⟩
  · exact .inl ⟨none, 0, h2⟩
  · refine .inr ⟨g, 0, cap, rfl, fun _ => hb, hn, fun i hi => ?_⟩
    have e2 : (cur.toList.take (n * size))[i]? = xs[i]? := by rw [ht]
    rw [List.getElem?_take_of_lt hi] at e2
    simp only [World.cell?, hg, Nat.zero_add]
    rw [← e2]
    simp

/-! What the reader reads. -/
def elemsF {σ : Type} (s : ByteArray) (one : σ → Nat → Except (Nat × Nat) (σ × Nat)) (close : Nat) : Nat → σ → Nat → Except (Nat × Nat) (σ × Nat)
  | 0, _, p => .error (p, 3)
  | f + 1, st, p =>
    match one st p with
    | .error x => .error x
    | .ok (st2, q) =>
      if nx s (bl s q) = close then .ok (st2, bl s q + 1)
      else if nx s (bl s q) = 44 then elemsF s one close f st2 (bl s (bl s q + 1)) else .error (bl s q, 3)
/-- From an opening bracket at p to the place behind its closing one. -/
def bracketS {σ : Type} (s : ByteArray) (one : σ → Nat → Except (Nat × Nat) (σ × Nat)) (close : Nat) (st : σ) (p : Nat) : Except (Nat × Nat) (σ × Nat) :=
  if nx s (bl s (p + 1)) = close then .ok (st, bl s (p + 1) + 1) else elemsF s one close (s.size + 1) st (bl s (p + 1))
def oneL (val : Nat → Except (Nat × Nat) (GV × Nat)) (l : List GV) (p : Nat) : Except (Nat × Nat) (List GV × Nat) :=
  match val p with
  | .error x => .error x
  | .ok (x, q) => .ok (l ++ [x], q)
def oneF (s : ByteArray) (bad : Int) (val : Nat → Except (Nat × Nat) (GV × Nat)) (l : List (ByteArray × GV)) (p : Nat) : Except (Nat × Nat) (List (ByteArray × GV) × Nat) :=
  match quotedS s bad p with
  | .error x => .error x
  | .ok (cs, q) =>
    if l.any (fun y => decide (y.1 = txt cs)) then .error (p, 6)
    else if nx s (bl s q) = 58 then
      (match val (bl s (bl s q + 1)) with
      | .error x => .error x
      | .ok (x, r) => .ok (l ++ [(txt cs, x)], r))
    else .error (bl s q, 3)
def listS (s : ByteArray) (val : Nat → Except (Nat × Nat) (GV × Nat)) (p : Nat) : Except (Nat × Nat) (GV × Nat) :=
  match bracketS s (oneL val) 93 [] p with
  | .error x => .error x
  | .ok (l, q) => .ok (.mk 4 false 0 ⟨#[]⟩ l [], q)
def objS (s : ByteArray) (bad : Int) (val : Nat → Except (Nat × Nat) (GV × Nat)) (p : Nat) : Except (Nat × Nat) (GV × Nat) :=
  match bracketS s (oneF s bad val) 125 [] p with
  | .error x => .error x
  | .ok (l, q) => .ok (.mk 5 false 0 ⟨#[]⟩ [] l, q)
def valC (s : ByteArray) (bad : Int) (lst obj : Nat → Except (Nat × Nat) (GV × Nat)) (p : Nat) : Except (Nat × Nat) (GV × Nat) :=
  if nx s p = 110 then (match wordS s [110, 117, 108, 108] p with | .error x => .error x | .ok q => .ok (.mk 0 false 0 ⟨#[]⟩ [] [], q))
  else if nx s p = 116 then (match wordS s [116, 114, 117, 101] p with | .error x => .error x | .ok q => .ok (.mk 1 true 0 ⟨#[]⟩ [] [], q))
  else if nx s p = 102 then (match wordS s [102, 97, 108, 115, 101] p with | .error x => .error x | .ok q => .ok (.mk 1 false 0 ⟨#[]⟩ [] [], q))
  else if nx s p = 34 then (match quotedS s bad p with | .error x => .error x | .ok (cs, q) => .ok (.mk 3 false 0 (txt cs) [] [], q))
  else if nx s p = 91 then lst p
  else if nx s p = 123 then obj p
  else if nx s p = 45 ∨ isDg (nx s p) = true then (match numberS s p with | .error x => .error x | .ok (n, q) => .ok (.mk 2 false n ⟨#[]⟩ [] [], q))
  else .error (p, 3)
/-- A value at p, with so many brackets still to open. -/
def valS (s : ByteArray) (bad : Int) : Nat → Nat → Except (Nat × Nat) (GV × Nat)
  | 0 => valC s bad (fun p => .error (p, 4)) (fun p => .error (p, 4))
  | k + 1 => valC s bad (listS s (valS s bad k)) (objS s bad (valS s bad k))
/-- The value of a text, or what is amiss. -/
def parseS (s : ByteArray) : Except (Nat × Nat) GV :=
  match valS s (badAt s 0) 32 (bl s 0) with
  | .error x => .error x
  | .ok (x, q) => if bl s q < s.size then .error (bl s q, 3) else .ok x
end Go.Proofs.YtiakidomcjpdhaaGreatDoor
