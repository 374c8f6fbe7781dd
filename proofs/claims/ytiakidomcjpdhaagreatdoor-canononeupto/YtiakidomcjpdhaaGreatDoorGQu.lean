/- What hexDigit, utf.Pair and numberAhead of the reader do: contracts, by walking their text. What numbered and escaped of the reader do: contracts, by walking their text. What escaped of the reader does: a contract, by walking its text. What quoted of the reader does: a contract, by walking its text. Values as trees, how they lie in memory, and what the reader reads, as plain functions; nothing of the program. What bracketed and elements of the reader do, whatever the closure that reads one element does: contracts, by walking their text. What bracketed of the reader does, whatever the closure that reads one element does: contracts, by walking its text. The closure by which the reader reads one element of a list, behind the call of value: what it does then, in whatever order. -/
import Derived.Test.YtiakidomcjpdhaaGreatDoorGCh
import Derived.Laws.Cover4
import Derived.Deep.RegionLaw
import Derived.Maps.AppendAt
namespace Go.Proofs.YtiakidomcjpdhaaGreatDoor
open Go.RowKit

/-- What a hexadecimal digit counts; -1: it is none. -/
def hexD (c : Nat) : Int := if 48 ≤ c ∧ c ≤ 57 then (c : Int) - 48 else if 97 ≤ c ∧ c ≤ 102 then (c : Int) - 97 + 10 else if 65 ≤ c ∧ c ≤ 70 then (c : Int) - 65 + 10 else -1
theorem hexD_bd (c : Nat) : -1 ≤ hexD c ∧ hexD c ≤ 15 := by
  unfold hexD
  repeat' split
  all_goals omega

theorem hexDigit_any (c : Nat) (w : World) (hc : c ≤ 2147483647) :
    Calls Tryz.prog 155 #[.int .i32 (c : Int)] w fun e w' => e = .returned (.int .i64 (hexD c)) ∧ w' = w := by
  go_enter Tryz.func155, Tryz.ntmps155
  go_wp2
  all_goals
    go_ret
    refine ⟨?_, rfl⟩
    simp [hexD]
    try (repeat' split) <;> omega

theorem pair_no (h l : Int) (w : World) (hn : h < 55296 ∨ 56320 ≤ h ∨ l < 56320 ∨ 57343 < l) :
    Calls Tryz.prog 156 #[.int .i64 h, .int .i64 l] w fun e w' => e = .returned (.tuple #[.int .i64 0, .iface 31 (.int .i64 1)]) ∧ w' = w := by
  by_cases h1 : h < 55296
  · go_enter Tryz.func156, Tryz.ntmps156
    go_wp2
    go_ret2
    exact ⟨rfl, rfl⟩
  · by_cases h2 : 56320 ≤ h
    · go_enter Tryz.func156, Tryz.ntmps156
      go_wp2
      go_ret2
      exact ⟨rfl, rfl⟩
    · by_cases h3 : l < 56320
      · go_enter Tryz.func156, Tryz.ntmps156
        go_wp2
        go_ret2
        exact ⟨rfl, rfl⟩
      · have h4 : 57343 < l := by omega
        go_enter Tryz.func156, Tryz.ntmps156
        go_wp2
        go_ret2
        exact ⟨rfl, rfl⟩
theorem pair_yes (h l : Int) (w : World) (h1 : 55296 ≤ h) (h2 : h < 56320) (h3 : 56320 ≤ l) (h4 : l ≤ 57343) :
    Calls Tryz.prog 156 #[.int .i64 h, .int .i64 l] w fun e w' => e = .returned (.tuple #[.int .i64 (65536 + (h - 55296) * 1024 + l - 56320), .nilIface]) ∧ w' = w := by
  go_enter Tryz.func156, Tryz.ntmps156
  go_wp2
  go_ret2
  exact ⟨rfl, rfl⟩

def aheadF (t : ByteArray) : Nat → Nat → Int → Int
  | 0, _, n => n
  | f + 1, pos, n => if pos < t.size then (if hexD (Utf8.decode t pos).1 = -1 then -1 else aheadF t f (pos + (Utf8.decode t pos).2) (n * 16 + hexD (Utf8.decode t pos).1)) else n
def aheadT (s : ByteArray) (p : Nat) : ByteArray := ⟨(Lib.trimPrefix (s.extract p s.size).data.toList [92, 117]).toArray⟩
/-- The number of the escape that comes next; -1: none does. -/
def aheadS (s : ByteArray) (p : Nat) : Int :=
  if Lib.hasPrefix (s.extract p s.size).data.toList [92, 117] = true then (if (aheadT s p).size < 4 then -1 else aheadF ((aheadT s p).extract 0 4) 4 0 0) else -1

theorem pow_step (n d pos k : Nat) (h : n < 16 ^ pos) (hd : d < 16) (hk : 0 < k) : n * 16 + d < 16 ^ (pos + k) := by
  have h1 : 16 ^ (pos + 1) ≤ 16 ^ (pos + k) := Nat.pow_le_pow_right (by decide) (by omega)
  rw [Nat.pow_succ] at h1
  omega
theorem pow_le (pos : Nat) (h : pos ≤ 4) : 16 ^ pos ≤ 65536 := Nat.pow_le_pow_right (n := 16) (by decide) h

set_option maxHeartbeats 4000000 in
theorem ahead_any (w : World) (rb : Nat) (s : ByteArray) (p : Nat) (bad : Int) (dep : Nat) (hr : RdAt w rb s p bad dep) (hp : p ≤ s.size) (_hs : s.size ≤ 140737488351232) :
    Calls Tryz.prog 157 #[.pointer (some ⟨rb, 0, none⟩)] w fun e w' => e = .returned (.int .i64 (aheadS s p)) ∧ Below w.heap.size w w' := by
  have c0 := hr.c0
  have c1 := hr.c1
  have hcp := fun w => strings_CutPrefix (s.extract p s.size) ⟨#[92, 117]⟩ w
  have hs1 : (p : Int) ≤ (s.size : Int) := by omega
  obtain ⟨T, hT⟩ : ∃ T, (⟨(Lib.trimPrefix (s.extract p s.size).data.toList [92, 117]).toArray⟩ : ByteArray) = T := ⟨_, rfl⟩
  cases hx : Lib.hasPrefix (s.extract p s.size).data.toList [92, 117] with
  | false =>
    have E : Hid (aheadS s p = -1) := by show _ = _; rw [aheadS, hx]; simp
    simp only [hT, hx] at hcp
    go_enter Tryz.func157, Tryz.ntmps157
    go_wp2
    go_quiet (first | (go_at_call 158; refine Calls.quiet_of_same (hcp _)))
    go_wp2
    go_ret
    rw [E.out]
    exact ⟨rfl, below_drewN (Below.refl _ _) _⟩
  | true =>
    have E0 : Hid (aheadS s p = if T.size < 4 then -1 else aheadF (T.extract 0 4) 4 0 0) := by show _ = _; rw [aheadS, hx, if_pos rfl]; unfold aheadT; rw [hT]
    simp only [hT, hx] at hcp
    clear hT
    by_cases h4 : T.size < 4
    · have E : Hid (aheadS s p = -1) := by show _ = _; rw [E0.out, if_pos h4]
      have h4' : (T.size : Int) < 4 := by omega
      go_enter Tryz.func157, Tryz.ntmps157
      go_wp2
      go_quiet (first | (go_at_call 158; refine Calls.quiet_of_same (hcp _)))
      go_wp2
      go_ret
      rw [E.out]
      exact ⟨rfl, below_drewN (Below.refl _ _) _⟩
    · have E : Hid (aheadS s p = aheadF (T.extract 0 4) 4 0 0) := by show _ = _; rw [E0.out, if_neg h4]
      have h4' : ¬ (T.size : Int) < 4 := by omega
      have hsz : (T.extract 0 4).size = 4 := by simp; omega
      go_enter Tryz.func157, Tryz.ntmps157
      go_wp2
      go_quiet (first | (go_at_call 158; refine Calls.quiet_of_same (hcp _)))
      go_wp2
      obtain ⟨U, hU⟩ : ∃ U, T.extract 0 4 = U := ⟨_, rfl⟩
      simp only [hU] at hsz E ⊢
      clear hU E0
      go_loopw [5] (fun v w' => ∃ (pos f m : Nat), w' = (w.drewN nq).iter U pos ∧ v = .int .i64 (m : Int) ∧ Hid (aheadF U f pos m = aheadF U 4 0 0) ∧ 4 ≤ pos + f ∧ m < 16 ^ pos ∧ pos ≤ 4) (fun _ w' => U.size - w'.iterPos w.heap.size)
      case atStart => exact ⟨0, 4, 0, rfl, rfl, rfl, by omega, by decide, by omega⟩
      case round =>
        obtain ⟨pos, f, m, rfl, rfl, HA, hf, hm, hps⟩ := hrel
        by_cases hpp : pos < U.size
        · have hnx : ∀ ty, (Instr.next (.pointer (some ⟨w.heap.size, 0, none⟩)) true ty).run Tryz.prog ((w.drewN nq).iter U pos) = _ := fun ty => run_next_any (w.drewN nq) U pos ty hpp
          have hwd := decode_fits U pos hpp
          have hdl := decode_le U pos
          obtain ⟨f, rfl⟩ : ∃ g, f = g + 1 := ⟨f - 1, by omega⟩
          have hbd := hexD_bd (Utf8.decode U pos).1
          have hpw := pow_le pos hps
          by_cases hh : hexD (Utf8.decode U pos).1 = -1
          · have hh' : (hexD (Utf8.decode U pos).1 == -1) = true := by simp [hh]
            have HE : Hid (aheadS s p = -1) := by show _ = _; rw [E.out, ← HA.out, aheadF, if_pos hpp, if_pos hh]
            clear HA E hh
            go_wp2_with (first | (go_at_call 155; refine (hexDigit_any _ _ (by omega)).mono ?_; rintro e w1 ⟨rfl, rfl⟩))
            go_ret
            rw [HE.out]
            exact ⟨rfl, (below_drewN (Below.refl _ _) _).alloc (Nat.le_refl _) _⟩
          · have hh' : (hexD (Utf8.decode U pos).1 == -1) = false := by simpa using hh
            have HA' : Hid (aheadF U f (pos + (Utf8.decode U pos).2) ((m : Int) * 16 + hexD (Utf8.decode U pos).1) = aheadF U 4 0 0) := by show _ = _; rw [← HA.out, aheadF, if_pos hpp, if_neg hh]
            have hpw2 := pow_step m (hexD (Utf8.decode U pos).1).toNat pos (Utf8.decode U pos).2 hm (by omega) (by omega)
            clear HA E
            go_wp2_with (first | (go_at_call 155; refine (hexDigit_any _ _ hdl).mono ?_; rintro e w1 ⟨rfl, rfl⟩))
            go_roundw
            case rel => exact ⟨_, f, m * 16 + (hexD (Utf8.decode U pos).1).toNat, rfl, by simp; omega, by rw [show ((m * 16 + (hexD (Utf8.decode U pos).1).toNat : Nat) : Int) = (m : Int) * 16 + hexD (Utf8.decode U pos).1 by omega]; exact HA', by omega, hpw2, by omega⟩
            case measure =>
              rw [show ((w.drewN nq).iter U (pos + (Utf8.decode U pos).2)).iterPos w.heap.size = pos + (Utf8.decode U pos).2 from iterPos_of (World.iter_heap (w.drewN nq) U _), show ((w.drewN nq).iter U pos).iterPos w.heap.size = pos from iterPos_of (World.iter_heap (w.drewN nq) U _)]
              omega
        · have hnx : ∀ ty, (Instr.next (.pointer (some ⟨w.heap.size, 0, none⟩)) true ty).run Tryz.prog ((w.drewN nq).iter U pos) = _ := fun ty => run_next_end (w.drewN nq) U pos ty hpp
          have HE : Hid ((m : Int) = aheadS s p) := by
            show _ = _
            rw [E.out, ← HA.out]
            cases f with
            | zero => rfl
            | succ f => rw [aheadF, if_neg hpp]
          clear HA E
          go_wp2
          go_ret
          rw [← HE.out]
          exact ⟨rfl, (below_drewN (Below.refl _ _) _).alloc (Nat.le_refl _) _⟩
end Go.Proofs.YtiakidomcjpdhaaGreatDoor

namespace Go.Proofs.YtiakidomcjpdhaaGreatDoor
open Go.RowKit

def hexF (s : ByteArray) (bad : Int) : Nat → Nat → Nat → Except (Nat × Nat) (Nat × Nat)
  | 0, n, p => .ok (n, p)
  | k + 1, n, p =>
    match chS s bad p with
    | .error x => .error x
    | .ok (c, q) => if hexD c = -1 then .error (p, 3) else hexF s bad k (n * 16 + (hexD c).toNat) q
def numberedS (s : ByteArray) (bad : Int) (slash p : Nat) : Except (Nat × Nat) (Nat × Nat) :=
  match hexF s bad 4 0 p with
  | .error x => .error x
  | .ok (n, q) =>
    if n < 55296 ∨ 57343 < n then .ok (n, q)
    else if n < 56320 ∧ 56320 ≤ aheadS s q ∧ aheadS s q ≤ 57343 then .ok (65536 + (n - 55296) * 1024 + (aheadS s q).toNat - 56320, q + 6)
    else .error (slash, 7)

theorem chS_ok {s : ByteArray} {bad : Int} {p c q : Nat} (h : chS s bad p = .ok (c, q)) (hp : p ≤ s.size) : c ≤ 2147483647 ∧ p < q ∧ q ≤ s.size := by
  unfold chS at h
  split at h
  · cases h
  · split at h
    · cases h
    · injection h with h
      injection h with h1 h2
      have := decode_fits s p (by omega)
      have := decode_le s p
      omega
theorem aheadS_room (s : ByteArray) (q : Nat) (h : aheadS s q ≠ -1) : q + 6 ≤ s.size := by
  unfold aheadS at h
  split at h
  · rename_i hx
    split at h
    · exact absurd rfl h
    · rename_i h4
      unfold aheadT Lib.trimPrefix at h4
      rw [if_pos hx] at h4
      have e : (⟨(List.drop 2 (s.extract q s.size).data.toList).toArray⟩ : ByteArray).size = s.size - q - 2 := by
        rw [Lib.size_eq, cut_data]
        simp
        rw [Lib.size_eq]
        simp
        omega
      change ¬ (⟨(List.drop 2 (s.extract q s.size).data.toList).toArray⟩ : ByteArray).size < 4 at h4
      rw [e] at h4
      omega
  · exact absurd rfl h

set_option maxHeartbeats 8000000 in
theorem numbered_any (w : World) (rb : Nat) (s : ByteArray) (slash p : Nat) (bad : Int) (dep : Nat) (hr : RdAt w rb s p bad dep) (hT : Tabs w) (hrb : 6 ≤ rb) (hp : p ≤ s.size) (hs : s.size ≤ 140737488351232) :
    Calls Tryz.prog 149 #[.pointer (some ⟨rb, 0, none⟩), .int .i64 (slash : Int)] w (Out (numberedS s bad slash p)
      (fun x e w' => e = .returned (.int .i32 (x.1 : Int)) ∧ RdAt w' rb s x.2 bad dep ∧ p ≤ x.2 ∧ x.2 ≤ s.size ∧ Fr (Own rb) w w') (Fr (Own rb) w)) := by
  obtain ⟨N, hN⟩ : ∃ N, numberedS s bad slash p = N := ⟨_, rfl⟩
  rw [hN]
  go_enter Tryz.func149, Tryz.ntmps149
  go_wp2
  go_loopw [5, 10] (fun v u w' => ∃ (n i q : Nat), v = .int .i64 (n : Int) ∧ u = .int .i64 (i : Int) ∧ i ≤ 4 ∧ RdAt w' rb s q bad dep ∧ Hid (hexF s bad (4 - i) n q = hexF s bad 4 0 p) ∧ n < 16 ^ i ∧ p ≤ q ∧ q ≤ s.size ∧ Fr (Own rb) w w') (fun _ u _ => 4 - (match u with | .int _ n => n.toNat | _ => 0))
  case atStart => exact ⟨0, 0, p, rfl, rfl, by omega, hr, rfl, by decide, by omega, hp, Fr.refl _ _⟩
  case round =>
    obtain ⟨n, i, q, rfl, rfl, hi, hr0, HX, hn, hpq, hq, f0⟩ := hrel
    have hT0 : Tabs wr := hT.fr f0 (by show ¬ _ = _; omega) (by show ¬ _ = _; omega)
    have hpw := pow_le i hi
    by_cases h4 : i < 4
    · have h4' : (i : Int) < 4 := by omega
      obtain ⟨k, hk⟩ : ∃ k, 4 - i = k + 1 := ⟨3 - i, by omega⟩
      have c1 := hr0.c1
      cases hc : chS s bad q with
      | error x =>
        have HC : Hid (chS s bad q = .error (x.1, x.2)) := hc
        have HN : Hid (N = .error (x.1, x.2)) := by
          show _ = _
          rw [← hN, numberedS, ← HX.out, hk, hexF, hc]
        clear hc HX hN
        go_wp2_with (first | (go_at_call 130; refine (character_any _ _ _ _ _ _ hr0 hT0 hrb hq hs).mono ?_; intro e w2 ho; obtain ⟨⟨bk, rfl, hbk⟩, f2⟩ := Out.isNo HC.out ho; clear ho))
        exact panics0 (Out.no HN.out ⟨⟨_, rfl, hbk⟩, f0.trans f2⟩)
      | ok x =>
        obtain ⟨c, q1⟩ := x
        have hck := chS_ok hc hq
        have HC : Hid (chS s bad q = .ok (c, q1)) := hc
        have hbd := hexD_bd c
        by_cases hh : hexD c = -1
        · have hh' : (hexD c == -1) = true := by simp [hh]
          have HN : Hid (N = .error (q, 3)) := by
            show _ = _
            rw [← hN, numberedS, ← HX.out, hk, hexF, hc]
            simp only [if_pos hh]
          clear hc HX hN hh
          go_wp2_with (first
            | (go_at_call 130; refine (character_any _ _ _ _ _ _ hr0 hT0 hrb hq hs).mono ?_; intro e w2 ho; obtain ⟨rfl, hr2, hq1, hq2, f2⟩ := Out.isOk HC.out ho; clear ho)
            | (go_at_call 155; refine (hexDigit_any _ _ hck.1).mono ?_; rintro e w3 ⟨rfl, rfl⟩)
            | (go_at_call 71; refine (amiss_any _ _ _).mono ?_; rintro e w4 ⟨rfl, rfl⟩))
          exact panics0 (Out.no HN.out ⟨⟨_, rfl, heap_alloc_new _ _⟩, (f0.trans f2).trans (Fr.alloc _ _ _)⟩)
        · have hh' : (hexD c == -1) = false := by simpa using hh
          have HX' : Hid (hexF s bad (4 - (i + 1)) (n * 16 + (hexD c).toNat) q1 = hexF s bad 4 0 p) := by
            show _ = _
            rw [← HX.out, hk, hexF, hc, show 4 - (i + 1) = k by omega]
            simp only [if_neg hh]
          have hpw2 := pow_step n (hexD c).toNat i 1 hn (by omega) (by omega)
          clear hc HX hN
          go_wp2_with (first
            | (go_at_call 130; refine (character_any _ _ _ _ _ _ hr0 hT0 hrb hq hs).mono ?_; intro e w2 ho; obtain ⟨rfl, hr2, hq1, hq2, f2⟩ := Out.isOk HC.out ho; clear ho)
            | (go_at_call 155; refine (hexDigit_any _ _ hck.1).mono ?_; rintro e w3 ⟨rfl, rfl⟩))
          go_roundw
          case rel => exact ⟨n * 16 + (hexD c).toNat, i + 1, q1, by simp; omega, by simp, by omega, hr2, HX', hpw2, by omega, hq2, f0.trans f2⟩
          case measure => simp; omega
    · have h4' : ¬ (i : Int) < 4 := by omega
      have hi4 : i = 4 := by omega
      have HX' : Hid (hexF s bad 4 0 p = .ok (n, q)) := by
        show _ = _
        rw [← HX.out, hi4]
        rfl
      have HN : Hid (N = if n < 55296 ∨ 57343 < n then .ok (n, q) else if n < 56320 ∧ 56320 ≤ aheadS s q ∧ aheadS s q ≤ 57343 then .ok (65536 + (n - 55296) * 1024 + (aheadS s q).toNat - 56320, q + 6) else .error (slash, 7)) := by
        show _ = _
        rw [← hN, numberedS, HX'.out]
      have hn2 : (n : Int) < 65536 := by omega
      clear HX HX' hN hi4 hn hpw h4
      by_cases g1 : (n : Int) < 55296
      · have HE : Hid (N = .ok (n, q)) := by show _ = _; rw [HN.out, if_pos (.inl (by omega))]
        clear HN
        go_wp2
        go_ret
        exact Out.yes HE.out ⟨rfl, hr0, hpq, hq, f0⟩
      · by_cases g2 : 57343 < (n : Int)
        · have HE : Hid (N = .ok (n, q)) := by show _ = _; rw [HN.out, if_pos (.inr (by omega))]
          clear HN
          go_wp2
          go_ret
          exact Out.yes HE.out ⟨rfl, hr0, hpq, hq, f0⟩
        · obtain ⟨A, hA⟩ : ∃ A, aheadS s q = A := ⟨_, rfl⟩
          have ha := ahead_any wr rb s q bad dep hr0 hq hs
          by_cases g3 : (n : Int) < 56320 ∧ 56320 ≤ A ∧ A ≤ 57343
          · have HE : Hid (N = .ok (65536 + (n - 55296) * 1024 + (aheadS s q).toNat - 56320, q + 6)) := by show _ = _; rw [HN.out, if_neg (by omega), if_pos (by omega)]
            have hroom := aheadS_room s q (by omega)
            obtain ⟨g3, g4, g5⟩ := g3
            rw [hA] at HE ha
            obtain ⟨V, hV⟩ : ∃ V, 65536 + (n - 55296) * 1024 + A.toNat - 56320 = V := ⟨_, rfl⟩
            have hV2 : Hid (65536 + ((n : Int) - 55296) * 1024 + A - 56320 = (V : Int)) := by show _ = _; omega
            rw [hV] at HE
            clear HN hA hV
            go_wp2_with (first
              | (go_at_call 157; refine ha.mono ?_; rintro e w2 ⟨rfl, hb2⟩; have hr2 : RdAt w2 rb s q bad dep := hr0.kept (S := fun _ => False) (Fr.of_below hb2) id; have d1 := hr2.c1; have z1 := hr2.fz 1)
              | (go_at_call 156; refine (pair_yes _ _ _ (by omega) g3 g4 g5).mono ?_; rintro e w3 ⟨rfl, rfl⟩))
            go_ret
            refine Out.yes (x := (V, q + 6)) HE.out ⟨?_, hr2.set1 (q + 6), by simp; omega, hroom, (f0.trans (Fr.of_below hb2)).trans (Fr.setCell _ _ _ rfl)⟩
            rw [← hV2.out]
            simp
          · have HE : Hid (N = .error (slash, 7)) := by show _ = _; rw [HN.out, if_neg (by omega), if_neg (by omega)]
            rw [hA] at ha
            have g4 : (n : Int) < 55296 ∨ 56320 ≤ (n : Int) ∨ A < 56320 ∨ 57343 < A := by omega
            clear HN hA g3
            go_wp2_with (first
              | (go_at_call 157; refine ha.mono ?_; rintro e w2 ⟨rfl, hb2⟩)
              | (go_at_call 156; refine (pair_no _ _ _ g4).mono ?_; rintro e w3 ⟨rfl, rfl⟩)
              | (go_at_call 71; refine (amiss_any _ _ _).mono ?_; rintro e w4 ⟨rfl, rfl⟩))
            exact panics0 (Out.no HE.out ⟨⟨_, rfl, heap_alloc_new _ _⟩, (f0.trans (Fr.of_below hb2)).trans (Fr.alloc _ _ _)⟩)
end Go.Proofs.YtiakidomcjpdhaaGreatDoor

namespace Go.Proofs.YtiakidomcjpdhaaGreatDoor
open Go.RowKit

def escC (s : ByteArray) (bad : Int) (slash p c q : Nat) : Except (Nat × Nat) (Nat × Nat) :=
  if c = 34 then .ok (34, q) else if c = 92 then .ok (92, q) else if c = 47 then .ok (47, q) else if c = 98 then .ok (8, q) else if c = 102 then .ok (12, q)
  else if c = 110 then .ok (10, q) else if c = 114 then .ok (13, q) else if c = 116 then .ok (9, q) else if c = 117 then numberedS s bad slash q else .error (p, 3)
/-- The character that is meant behind a backslash at slash, and the place behind it. -/
def escS (s : ByteArray) (bad : Int) (slash p : Nat) : Except (Nat × Nat) (Nat × Nat) :=
  match chS s bad p with
  | .error x => .error x
  | .ok (c, q) => escC s bad slash p c q

set_option maxHeartbeats 8000000 in
theorem escaped_any (w : World) (rb : Nat) (s : ByteArray) (slash p : Nat) (bad : Int) (dep : Nat) (hr : RdAt w rb s p bad dep) (hT : Tabs w) (hrb : 6 ≤ rb) (hp : p ≤ s.size) (hs : s.size ≤ 140737488351232) :
    Calls Tryz.prog 131 #[.pointer (some ⟨rb, 0, none⟩), .int .i64 (slash : Int)] w (Out (escS s bad slash p)
      (fun x e w' => e = .returned (.int .i32 (x.1 : Int)) ∧ RdAt w' rb s x.2 bad dep ∧ p < x.2 ∧ x.2 ≤ s.size ∧ Fr (Own rb) w w') (Fr (Own rb) w)) := by
  obtain ⟨N, hN⟩ : ∃ N, escS s bad slash p = N := ⟨_, rfl⟩
  rw [hN]
  have c1 := hr.c1
  cases hc : chS s bad p with
  | error x =>
    have HC : Hid (chS s bad p = .error (x.1, x.2)) := hc
    have HN : Hid (N = .error (x.1, x.2)) := by show _ = _; rw [← hN, escS, hc]
    clear hc hN
    go_enter Tryz.func131, Tryz.ntmps131
    go_wp2_with (first | (go_at_call 130; refine (character_any _ _ _ _ _ _ hr hT hrb hp hs).mono ?_; intro e w2 ho; obtain ⟨⟨bk, rfl, hbk⟩, f2⟩ := Out.isNo HC.out ho; clear ho))
    exact panics0 (Out.no HN.out ⟨⟨_, rfl, hbk⟩, f2⟩)
  | ok x =>
    obtain ⟨c, q⟩ := x
    have hck := chS_ok hc hp
    have HN : Hid (N = escC s bad slash p c q) := by show _ = _; rw [← hN, escS, hc]
    have hch := (character_any _ _ _ _ _ _ hr hT hrb hp hs)
    rw [hc] at hch
    clear hc hN
    by_cases k34 : c = 34
    · subst k34
      have HE : Hid (N = .ok (34, q)) := by show _ = _; rw [HN.out]; rfl
      clear HN
      go_enter Tryz.func131, Tryz.ntmps131
      go_wp2_with (first | (go_at_call 130; refine hch.mono ?_; rintro e w2 ⟨rfl, hr2, hq1, hq2, f2⟩))
      go_ret
      exact Out.yes HE.out ⟨rfl, hr2, hq1, hq2, f2⟩
    by_cases k92 : c = 92
    · subst k92
      have HE : Hid (N = .ok (92, q)) := by show _ = _; rw [HN.out]; rfl
      clear HN
      go_enter Tryz.func131, Tryz.ntmps131
      go_wp2_with (first | (go_at_call 130; refine hch.mono ?_; rintro e w2 ⟨rfl, hr2, hq1, hq2, f2⟩))
      go_ret
      exact Out.yes HE.out ⟨rfl, hr2, hq1, hq2, f2⟩
    by_cases k47 : c = 47
    · subst k47
      have HE : Hid (N = .ok (47, q)) := by show _ = _; rw [HN.out]; rfl
      clear HN
      go_enter Tryz.func131, Tryz.ntmps131
      go_wp2_with (first | (go_at_call 130; refine hch.mono ?_; rintro e w2 ⟨rfl, hr2, hq1, hq2, f2⟩))
      go_ret
      exact Out.yes HE.out ⟨rfl, hr2, hq1, hq2, f2⟩
    by_cases k98 : c = 98
    · subst k98
      have HE : Hid (N = .ok (8, q)) := by show _ = _; rw [HN.out]; rfl
      clear HN
      go_enter Tryz.func131, Tryz.ntmps131
      go_wp2_with (first | (go_at_call 130; refine hch.mono ?_; rintro e w2 ⟨rfl, hr2, hq1, hq2, f2⟩))
      go_ret
      exact Out.yes HE.out ⟨rfl, hr2, hq1, hq2, f2⟩
    by_cases k102 : c = 102
    · subst k102
      have HE : Hid (N = .ok (12, q)) := by show _ = _; rw [HN.out]; rfl
      clear HN
      go_enter Tryz.func131, Tryz.ntmps131
      go_wp2_with (first | (go_at_call 130; refine hch.mono ?_; rintro e w2 ⟨rfl, hr2, hq1, hq2, f2⟩))
      go_ret
      exact Out.yes HE.out ⟨rfl, hr2, hq1, hq2, f2⟩
    by_cases k110 : c = 110
    · subst k110
      have HE : Hid (N = .ok (10, q)) := by show _ = _; rw [HN.out]; rfl
      clear HN
      go_enter Tryz.func131, Tryz.ntmps131
      go_wp2_with (first | (go_at_call 130; refine hch.mono ?_; rintro e w2 ⟨rfl, hr2, hq1, hq2, f2⟩))
      go_ret
      exact Out.yes HE.out ⟨rfl, hr2, hq1, hq2, f2⟩
    by_cases k114 : c = 114
    · subst k114
      have HE : Hid (N = .ok (13, q)) := by show _ = _; rw [HN.out]; rfl
      clear HN
      go_enter Tryz.func131, Tryz.ntmps131
      go_wp2_with (first | (go_at_call 130; refine hch.mono ?_; rintro e w2 ⟨rfl, hr2, hq1, hq2, f2⟩))
      go_ret
      exact Out.yes HE.out ⟨rfl, hr2, hq1, hq2, f2⟩
    by_cases k116 : c = 116
    · subst k116
      have HE : Hid (N = .ok (9, q)) := by show _ = _; rw [HN.out]; rfl
      clear HN
      go_enter Tryz.func131, Tryz.ntmps131
      go_wp2_with (first | (go_at_call 130; refine hch.mono ?_; rintro e w2 ⟨rfl, hr2, hq1, hq2, f2⟩))
      go_ret
      exact Out.yes HE.out ⟨rfl, hr2, hq1, hq2, f2⟩
    have HM : Hid (N = if c = 117 then numberedS s bad slash q else .error (p, 3)) := by show _ = _; rw [HN.out, escC, if_neg k34, if_neg k92, if_neg k47, if_neg k98, if_neg k102, if_neg k110, if_neg k114, if_neg k116]
    clear HN
    have m34 : ((c : Int) == 34) = false := by simp; omega
    have m92 : ((c : Int) == 92) = false := by simp; omega
    have m47 : ((c : Int) == 47) = false := by simp; omega
    have m98 : ((c : Int) == 98) = false := by simp; omega
    have m102 : ((c : Int) == 102) = false := by simp; omega
    have m110 : ((c : Int) == 110) = false := by simp; omega
    have m114 : ((c : Int) == 114) = false := by simp; omega
    have m116 : ((c : Int) == 116) = false := by simp; omega
    clear k34 k92 k47 k98 k102 k110 k114 k116
    by_cases k117 : c = 117
    · have HE : Hid (N = numberedS s bad slash q) := by show _ = _; rw [HM.out, if_pos k117]
      have m117 : ((c : Int) == 117) = true := by simp [k117]
      clear HM k117
      cases hn : numberedS s bad slash q with
      | error x =>
        have HE' : Hid (N = .error (x.1, x.2)) := by show _ = _; rw [HE.out, hn]
        have HX : Hid (numberedS s bad slash q = .error (x.1, x.2)) := hn
        clear HE hn
        go_enter Tryz.func131, Tryz.ntmps131
        go_wp2_with (first
          | (go_at_call 130; refine hch.mono ?_; rintro e w2 ⟨rfl, hr2, hq1, hq2, f2⟩)
          | (go_at_call 149; refine (numbered_any _ _ _ _ _ _ _ hr2 (hT.fr f2 (by show ¬ _ = _; omega) (by show ¬ _ = _; omega)) hrb hq2 hs).mono ?_; intro e w3 ho; obtain ⟨⟨bk, rfl, hbk⟩, f3⟩ := Out.isNo HX.out ho; clear ho))
        exact panics0 (Out.no HE'.out ⟨⟨_, rfl, hbk⟩, f2.trans f3⟩)
      | ok x =>
        have HE' : Hid (N = .ok x) := by show _ = _; rw [HE.out, hn]
        have HX : Hid (numberedS s bad slash q = .ok x) := hn
        clear HE hn
        go_enter Tryz.func131, Tryz.ntmps131
        go_wp2_with (first
          | (go_at_call 130; refine hch.mono ?_; rintro e w2 ⟨rfl, hr2, hq1, hq2, f2⟩)
          | (go_at_call 149; refine (numbered_any _ _ _ _ _ _ _ hr2 (hT.fr f2 (by show ¬ _ = _; omega) (by show ¬ _ = _; omega)) hrb hq2 hs).mono ?_; intro e w3 ho; obtain ⟨rfl, hr3, hq3, hq4, f3⟩ := Out.isOk HX.out ho; clear ho))
        go_ret
        exact Out.yes HE'.out ⟨rfl, hr3, by omega, hq4, f2.trans f3⟩
    · have HE : Hid (N = .error (p, 3)) := by show _ = _; rw [HM.out, if_neg k117]
      have m117 : ((c : Int) == 117) = false := by simp; omega
      clear HM k117
      go_enter Tryz.func131, Tryz.ntmps131
      go_wp2_with (first
        | (go_at_call 130; refine hch.mono ?_; rintro e w2 ⟨rfl, hr2, hq1, hq2, f2⟩)
        | (go_at_call 71; refine (amiss_any _ _ _).mono ?_; rintro e w4 ⟨rfl, rfl⟩))
      exact panics0 (Out.no HE.out ⟨⟨_, rfl, heap_alloc_new _ _⟩, f2.trans (Fr.alloc _ _ _)⟩)
end Go.Proofs.YtiakidomcjpdhaaGreatDoor

namespace Go.Proofs.YtiakidomcjpdhaaGreatDoor
open Go.RowKit

theorem Fr.grownNew {S : Nat → Prop} {w w1 w2 : World} {row : Option Nat} (h : Fr S w w1) (g : w1.grownBy w2 row) (hs : ∀ k, row = some k → w.heap.size ≤ k ∨ S k) : Fr S w w2 :=
  ⟨g.os.trans h.os, g.tape.trans h.tape, g.output.trans h.output, Nat.le_trans h.size g.size, fun k hk hn =>
    (g.block k (Nat.lt_of_lt_of_le hk h.size) (fun e => by rcases hs k e.symm with a | a; · omega
                                                           · exact hn a)).trans (h.block k hk hn)⟩
theorem own_fr {S : Nat → Prop} {w w' : World} {base : Nat} {e : TypeId} {size : Nat} {v : Value} {n : Nat} {xs : List Value} (h : w.ownsRow base e size v n xs) (f : Fr S w w') (hs : ∀ k, base ≤ k → ¬ S k) : w'.ownsRow base e size v n xs := by
  obtain ⟨h1, h2⟩ := h
  refine ⟨h1, ?_⟩
  rcases h2 with h2 | ⟨g, cap, cur, a, b, c, d⟩
  · exact .inl h2
  · exact .inr ⟨g, cap, cur, a, b, (f.block g (lt_of_block c) (hs g b)).trans c, d⟩
theorem own_base {w : World} {base base' : Nat} {e : TypeId} {size : Nat} {v : Value} {n : Nat} {xs : List Value} (h : w.ownsRow base e size v n xs) (hb : base' ≤ base) : w.ownsRow base' e size v n xs := by
  obtain ⟨h1, h2⟩ := h
  refine ⟨h1, ?_⟩
  rcases h2 with h2 | ⟨g, cap, cur, a, b, c, d⟩
  · exact .inl h2
  · exact .inr ⟨g, cap, cur, a, Nat.le_trans hb b, c, d⟩

/-- Characters as the cells of a row; as a string. -/
def runes (l : List Nat) : List Value := l.map fun (n : Nat) => Value.int .i32 (n : Int)
def txt (l : List Nat) : ByteArray := runesBytes (l.map fun (n : Nat) => (n : Int))

theorem addr_add (g j : Nat) : (⟨g, 0, none⟩ : Addr).add j = ⟨g, j, none⟩ := by
  cases j with
  | zero => rfl
  | succ j => simp [Addr.add]
theorem conv_runes {w : World} {base : Nat} {v : Value} {zs : List Nat} (h : w.ownsRow base 21 1 v zs.length (runes zs)) : (convert 155 9 v).run Tryz.prog w = .ok (.string (txt zs)) w := by
  rcases h.2 with ⟨rfl, h0⟩ | ⟨g, cap, cur, rfl, hb, hg, hn, hc, hz, ht⟩
  · have : zs = [] := List.eq_nil_of_length_eq_zero h0
    subst this
    exact run_convert_runes_nil w 155 9 21 0 0 Tryz.underlying155 Tryz.underlying21 Tryz.underlying9
  · have h2 := run_convert_runes (P := Tryz.prog) w 155 9 21 ⟨g, 0, none⟩ zs.length cap (zs.map fun (n : Nat) => (n : Int)) (by simp) Tryz.underlying155 Tryz.underlying21 Tryz.underlying9 (fun j hj => by
      have hj' : j < zs.length := by simpa using hj
      have hj2 : j < (cur.toList.take (zs.length * 1)).length := by rw [ht]; simpa [runes] using hj'
      have e1 : cur[j]? = some (Value.int .i32 (zs[j] : Int)) := by
        have e2 : (cur.toList.take (zs.length * 1))[j]? = (runes zs)[j]? := by rw [ht]
        rw [List.getElem?_take_of_lt (by omega)] at e2
        simp [runes, List.getElem?_eq_getElem hj'] at e2
        exact e2
      have e3 : (zs.map fun (n : Nat) => (n : Int)).getD j 0 = (zs[j] : Int) := by simp [List.getD, List.getElem?_eq_getElem hj']
      rw [e3]
      rw [addr_add]
      simp only [World.cell?, hg]
      simpa using e1)
    rw [h2, List.take_of_length_le (by simp)]
    rfl

def quF (s : ByteArray) (bad : Int) : Nat → List Nat → Nat → Except (Nat × Nat) (List Nat × Nat)
  | 0, _, p => .error (p, 3)
  | f + 1, acc, p =>
    match chS s bad p with
    | .error x => .error x
    | .ok (c, q) =>
      if c = 34 then .ok (acc, q)
      else if c = 92 then (match escS s bad p q with | .error x => .error x | .ok (d, q2) => quF s bad f (acc ++ [d]) q2)
      else if c < 32 then .error (p, 3) else quF s bad f (acc ++ [c]) q
/-- A text from its first quote on: its characters, and the place behind it. -/
def quotedS (s : ByteArray) (bad : Int) (p : Nat) : Except (Nat × Nat) (List Nat × Nat) := if nx s p = 34 then quF s bad (s.size + 1) [] (p + 1) else .error (p, 3)

theorem info21 : (Tryz.prog.info? 21).map (fun i => (i.zero, i.size, i.bytes)) = some (some (.int .i32 0), 1, 4) := by kernel_rfl

set_option maxRecDepth 20000 in
set_option maxHeartbeats 8000000 in
theorem quoted_any (w : World) (rb : Nat) (s : ByteArray) (p : Nat) (bad : Int) (dep : Nat) (hr : RdAt w rb s p bad dep) (hT : Tabs w) (hrb : 6 ≤ rb) (hp : p ≤ s.size) (hs : s.size ≤ 65536) :
    Calls Tryz.prog 101 #[.pointer (some ⟨rb, 0, none⟩)] w (Out (quotedS s bad p)
      (fun x e w' => e = .returned (.string (txt x.1)) ∧ RdAt w' rb s x.2 bad dep ∧ p < x.2 ∧ x.2 ≤ s.size ∧ Fr (Own rb) w w') (Fr (Own rb) w)) := by
  obtain ⟨i0, hi, hz0, hz1, hz2⟩ := info_parts info21
  have hlt := hr.lt
  have hs2 : s.size ≤ 140737488351232 := by omega
  obtain ⟨N, hN⟩ : ∃ N, quotedS s bad p = N := ⟨_, rfl⟩
  rw [hN]
  by_cases h0 : nx s p = 34
  · have HN : Hid (N = quF s bad (s.size + 1) [] (p + 1)) := by show _ = _; rw [← hN, quotedS, if_pos h0]
    have hl := lt_of_nx (s := s) (p := p) (by omega)
    clear hN
    go_enter Tryz.func101, Tryz.ntmps101
    go_wp2_with (go_at_call 129; refine (want_yes _ _ _ _ _ _ 34 hr hp hs2 h0).mono ?_; rintro e w1 ⟨rfl, hr1, f1⟩)
    go_loopw [3] (fun v w' => ∃ (acc : List Nat) (q f : Nat), w'.ownsRow w.heap.size 21 1 v acc.length (runes acc) ∧ RdAt w' rb s q bad dep ∧ Hid (N = quF s bad f acc q) ∧ s.size < q + f ∧ p + 1 ≤ q ∧ q ≤ s.size ∧ acc.length ≤ q ∧ Fr (Own rb) w w') (fun _ w' => s.size - posOf w' rb)
    case atStart => exact ⟨[], p + 1, s.size + 1, World.ownsRow_nil _ _ _ _, hr1, HN, by omega, by omega, by omega, by simp, f1⟩
    case round =>
      obtain ⟨acc, q, f, hown, hr0, HQ, hf, hpq, hq, hac, f0⟩ := hrel
      have hT0 : Tabs wr := hT.fr f0 (by show ¬ _ = _; omega) (by show ¬ _ = _; omega)
      obtain ⟨f, rfl⟩ : ∃ g, f = g + 1 := ⟨f - 1, by omega⟩
      have c1 := hr0.c1
      have hpos0 := hr0.pos
      have hch := character_any _ _ _ _ _ _ hr0 hT0 hrb hq hs2
      have HQ2 : Hid (N = match chS s bad q with
        | .error x => .error x
        | .ok (c, r) =>
          if c = 34 then .ok (acc, r)
          else if c = 92 then (match escS s bad q r with | .error x => .error x | .ok (d, q2) => quF s bad f (acc ++ [d]) q2)
          else if c < 32 then .error (q, 3) else quF s bad f (acc ++ [c]) r) := by show _ = _; rw [HQ.out, quF]
      clear HQ
      cases hc : chS s bad q with
      | error x =>
        rw [hc] at hch
        have HE : Hid (N = .error (x.1, x.2)) := by show _ = _; rw [HQ2.out, hc]
        clear HQ2 hc
        go_wp2_with (go_at_call 130; refine hch.mono ?_; rintro e w2 ⟨⟨bk, rfl, hbk⟩, f2⟩)
        exact panics0 (Out.no HE.out ⟨⟨_, rfl, hbk⟩, f0.trans f2⟩)
      | ok x =>
        obtain ⟨c, r⟩ := x
        have hck := chS_ok hc hq
        rw [hc] at hch
        have HQ3 : Hid (N = if c = 34 then .ok (acc, r)
          else if c = 92 then (match escS s bad q r with | .error x => .error x | .ok (d, q2) => quF s bad f (acc ++ [d]) q2)
          else if c < 32 then .error (q, 3) else quF s bad f (acc ++ [c]) r) := by show _ = _; rw [HQ2.out, hc]
        clear HQ2 hc
        by_cases k34 : c = 34
        · have HE : Hid (N = .ok (acc, r)) := by show _ = _; rw [HQ3.out, if_pos k34]
          subst k34
          clear HQ3
          go_wp2_with (go_at_call 130; refine hch.mono ?_; rintro e w2 ⟨rfl, hr2, hq1, hq2, f2⟩; have hcv := conv_runes (own_fr hown f2 (fun k hk e => by have : k = rb := e; omega)))
          go_ret
          exact Out.yes HE.out ⟨rfl, hr2, by show p < r; omega, hq2, f0.trans f2⟩
        · have m34 : ((c : Int) == 34) = false := by simp; omega
          by_cases k92 : c = 92
          · have HQ4 : Hid (N = match escS s bad q r with | .error x => .error x | .ok (d, q2) => quF s bad f (acc ++ [d]) q2) := by show _ = _; rw [HQ3.out, if_neg k34, if_pos k92]
            have m92 : ((c : Int) == 92) = true := by simp [k92]
            clear HQ3 k34 k92
            cases hx : escS s bad q r with
            | error x =>
              have HE : Hid (N = .error (x.1, x.2)) := by show _ = _; rw [HQ4.out, hx]
              have HX : Hid (escS s bad q r = .error (x.1, x.2)) := hx
              clear HQ4 hx
              go_wp2_with (first
                | (go_at_call 130; refine hch.mono ?_; rintro e w2 ⟨rfl, hr2, hq1, hq2, f2⟩)
                | (go_at_call 131; refine (escaped_any _ _ _ _ _ _ _ hr2 (hT0.fr f2 (by show ¬ _ = _; omega) (by show ¬ _ = _; omega)) hrb hq2 hs2).mono ?_; intro e w3 ho; obtain ⟨⟨bk, rfl, hbk⟩, f3⟩ := Out.isNo HX.out ho; clear ho))
              exact panics0 (Out.no HE.out ⟨⟨_, rfl, hbk⟩, (f0.trans f2).trans f3⟩)
            | ok x =>
              obtain ⟨d, q2⟩ := x
              have HE : Hid (N = quF s bad f (acc ++ [d]) q2) := by show _ = _; rw [HQ4.out, hx]
              have HX : Hid (escS s bad q r = .ok (d, q2)) := hx
              clear HQ4 hx
              go_wp2_with (first
                | (go_at_call 130; refine hch.mono ?_; rintro e w2 ⟨rfl, hr2, hq1, hq2, f2⟩)
                | (go_at_call 131; refine (escaped_any _ _ _ _ _ _ _ hr2 (hT0.fr f2 (by show ¬ _ = _; omega) (by show ¬ _ = _; omega)) hrb hq2 hs2).mono ?_; intro e w4 ho; obtain ⟨rfl, hr4, hq3, hq4, f4⟩ := Out.isOk HX.out ho; clear ho; have f5 := f2.trans f4; have hown2 := own_fr hown f5 (fun k hk e => by have : k = rb := e; omega); have hsz2 := Nat.le_trans f0.size f5.size)
                | (at_builtin; refine wpList_append_own _ rfl _ _ 155 rfl w.heap.size 21 i0 (.int .i32 0) 1 4 Tryz.underlying155 hi hz0 hz1 hz2 rfl (by decide) _ _ _ rfl (hown2.alloc _) ⟨w4.heap.size, 0, none⟩ 1 1 [.int .i32 (d : Int)] rfl rfl (cell_one_new _ _ _) (fun x hx => by simp at hx; subst hx; rfl) (by unfold maxLen; omega) (by omega) (by simp; omega) ?_; intro v' w3 hown' hgrow3 hnil3))
              have f3 : Fr (Own rb) w w3 := ((f0.trans f5).allocNew _).grownNew hgrow3 (fun k hk => .inl ((hown2.lt _ hk).1))
              have hr3 : RdAt w3 rb s q2 bad dep := (hr4.alloc _).kept (S := fun k => w.heap.size ≤ k) (Fr.grown hgrow3 (fun k hk _ => (hown2.lt _ hk).1)) (by omega)
              have hq3' : r < q2 := hq3
              go_roundw
              case rel => exact ⟨acc ++ [d], q2, f, by simpa [runes] using hown', hr3, HE, by omega, by omega, hq4, by simp; omega, f3⟩
              case measure => rw [hr3.pos, hpos0]; omega
          · have m92 : ((c : Int) == 92) = false := by simp; omega
            by_cases k32 : c < 32
            · have m32 : (c : Int) < 32 := by omega
              have HE : Hid (N = .error (q, 3)) := by show _ = _; rw [HQ3.out, if_neg k34, if_neg k92, if_pos k32]
              clear HQ3 k34 k92 k32
              go_wp2_with (first
                | (go_at_call 130; refine hch.mono ?_; rintro e w2 ⟨rfl, hr2, hq1, hq2, f2⟩)
                | (go_at_call 71; refine (amiss_any _ _ _).mono ?_; rintro e w4 ⟨rfl, rfl⟩))
              exact panics0 (Out.no HE.out ⟨⟨_, rfl, heap_alloc_new _ _⟩, (f0.trans f2).trans (Fr.alloc _ _ _)⟩)
            · have m32 : ¬ (c : Int) < 32 := by omega
              have HE : Hid (N = quF s bad f (acc ++ [c]) r) := by show _ = _; rw [HQ3.out, if_neg k34, if_neg k92, if_neg k32]
              clear HQ3 k34 k92 k32
              go_wp2_with (first
                | (go_at_call 130; refine hch.mono ?_; rintro e w2 ⟨rfl, hr2, hq1, hq2, f2⟩; have hown2 := own_fr hown f2 (fun k hk e => by have : k = rb := e; omega); have hsz2 := Nat.le_trans f0.size f2.size)
                | (at_builtin; refine wpList_append_own _ rfl _ _ 155 rfl w.heap.size 21 i0 (.int .i32 0) 1 4 Tryz.underlying155 hi hz0 hz1 hz2 rfl (by decide) _ _ _ rfl (hown2.alloc _) ⟨w2.heap.size, 0, none⟩ 1 1 [.int .i32 (c : Int)] rfl rfl (cell_one_new _ _ _) (fun x hx => by simp at hx; subst hx; rfl) (by unfold maxLen; omega) (by omega) (by simp; omega) ?_; intro v' w3 hown' hgrow3 hnil3))
              have f3 : Fr (Own rb) w w3 := ((f0.trans f2).allocNew _).grownNew hgrow3 (fun k hk => .inl ((hown2.lt _ hk).1))
              have hr3 : RdAt w3 rb s r bad dep := (hr2.alloc _).kept (S := fun k => w.heap.size ≤ k) (Fr.grown hgrow3 (fun k hk _ => (hown2.lt _ hk).1)) (by omega)
              go_roundw
              case rel => exact ⟨acc ++ [c], r, f, by simpa [runes] using hown', hr3, HE, by omega, by omega, hq2, by simp; omega, f3⟩
              case measure => rw [hr3.pos, hpos0]; omega
  · have HN : Hid (N = .error (p, 3)) := by show _ = _; rw [← hN, quotedS, if_neg h0]
    clear hN
    go_enter Tryz.func101, Tryz.ntmps101
    go_wp2_with (go_at_call 129; refine (want_no _ _ _ _ _ _ 34 hr hp hs2 h0).mono ?_; rintro e w1 ⟨⟨bk, rfl, hbk⟩, f1⟩)
    exact panics0 (Out.no HN.out ⟨⟨_, rfl, hbk⟩, f1⟩)
end Go.Proofs.YtiakidomcjpdhaaGreatDoor

namespace Go.Proofs.YtiakidomcjpdhaaGreatDoor
open Go.RowKit

/-- A value: its kind, and all that it may hold. -/
inductive GV where
  | mk (kind : Int) (b : Bool) (n : Int) (t : ByteArray) (l : List GV) (f : List (ByteArray × GV))

/-- A slice value of n elements of so many cells each, which read so; its block is one of ok, where there is an element (without one it may lie anywhere). -/
def SlAt (w : World) (ok : Nat → Prop) (v : Value) (n size : Nat) (xs : List Value) : Prop :=
  xs.length = n * size ∧ ((∃ a c, v = .slice a 0 c ∧ n = 0) ∨
    ∃ b off cap, v = .slice (some ⟨b, off, none⟩) n cap ∧ (0 < n → ok b) ∧ n ≤ cap ∧ ∀ i, i < n * size → w.cell? ⟨b, off + i, none⟩ = xs[i]?)

mutual
def LaidV (w : World) (ok : Nat → Prop) : GV → List Value → Prop
  | .mk k b n t l f, cs => ∃ sl sf xs ys, cs = [.int .i64 k, .bool b, .int .i64 n, .string t, sl, sf] ∧ SlAt w ok sl l.length 6 xs ∧ SlAt w ok sf f.length 7 ys ∧ LaidL w ok l xs ∧ LaidF w ok f ys
def LaidL (w : World) (ok : Nat → Prop) : List GV → List Value → Prop
  | [], xs => xs = []
  | x :: l, xs => ∃ a r, xs = a ++ r ∧ LaidV w ok x a ∧ LaidL w ok l r
def LaidF (w : World) (ok : Nat → Prop) : List (ByteArray × GV) → List Value → Prop
  | [], xs => xs = []
  | x :: l, xs => ∃ a r, xs = a ++ r ∧ LaidP w ok x a ∧ LaidF w ok l r
def LaidP (w : World) (ok : Nat → Prop) : ByteArray × GV → List Value → Prop
  | (nm, x), cs => ∃ a, cs = .string nm :: a ∧ LaidV w ok x a
end

theorem SlAt.conv {w w' : World} {ok ok' : Nat → Prop} {v : Value} {n size : Nat} {xs : List Value} (h : SlAt w ok v n size xs) (hsz : 0 < size) (hk : ∀ b, ok b → b < w.heap.size → ok' b ∧ w'.heap[b]? = w.heap[b]?) : SlAt w' ok' v n size xs := by
  obtain ⟨h1, h2⟩ := h
  refine ⟨h1, ?_⟩
  rcases h2 with h2 | ⟨b, off, cap, rfl, hb, hc, hr⟩
  · exact .inl h2
  · by_cases hn : 0 < n
    · have hlt : b < w.heap.size := by
        have h3 := hr 0 (Nat.mul_pos hn hsz)
        rw [List.getElem?_eq_getElem (by rw [h1]; exact Nat.mul_pos hn hsz)] at h3
        exact World.block_lt_of_cell? w _ h3
      obtain ⟨h4, h5⟩ := hk b (hb hn) hlt
      exact .inr ⟨b, off, cap, rfl, fun _ => h4, hc, fun i hi => (World.cell?_of_block (a := ⟨b, off + i, none⟩) h5).trans (hr i hi)⟩
    · have : n = 0 := by omega
      subst this
      exact .inr ⟨b, off, cap, rfl, fun h => absurd h hn, hc, fun i hi => by simp at hi⟩

mutual
theorem LaidV.conv {w w' : World} {ok ok' : Nat → Prop} (hk : ∀ b, ok b → b < w.heap.size → ok' b ∧ w'.heap[b]? = w.heap[b]?) : ∀ {x : GV} {cs : List Value}, LaidV w ok x cs → LaidV w' ok' x cs
  | .mk k b n t l f, cs, h => by
    unfold LaidV at h ⊢
    obtain ⟨sl, sf, xs, ys, h0, h1, h2, h3, h4⟩ := h
    exact ⟨sl, sf, xs, ys, h0, h1.conv (by decide) hk, h2.conv (by decide) hk, LaidL.conv hk h3, LaidF.conv hk h4⟩
theorem LaidL.conv {w w' : World} {ok ok' : Nat → Prop} (hk : ∀ b, ok b → b < w.heap.size → ok' b ∧ w'.heap[b]? = w.heap[b]?) : ∀ {l : List GV} {xs : List Value}, LaidL w ok l xs → LaidL w' ok' l xs
  | [], xs, h => by unfold LaidL at h ⊢; exact h
  | x :: l, xs, h => by
    unfold LaidL at h ⊢
    obtain ⟨a, r, h0, h1, h2⟩ := h
    exact ⟨a, r, h0, LaidV.conv hk h1, LaidL.conv hk h2⟩
theorem LaidF.conv {w w' : World} {ok ok' : Nat → Prop} (hk : ∀ b, ok b → b < w.heap.size → ok' b ∧ w'.heap[b]? = w.heap[b]?) : ∀ {l : List (ByteArray × GV)} {xs : List Value}, LaidF w ok l xs → LaidF w' ok' l xs
  | [], xs, h => by unfold LaidF at h ⊢; exact h
  | x :: l, xs, h => by
    unfold LaidF at h ⊢
    obtain ⟨a, r, h0, h1, h2⟩ := h
    exact ⟨a, r, h0, LaidP.conv hk h1, LaidF.conv hk h2⟩
theorem LaidP.conv {w w' : World} {ok ok' : Nat → Prop} (hk : ∀ b, ok b → b < w.heap.size → ok' b ∧ w'.heap[b]? = w.heap[b]?) : ∀ {x : ByteArray × GV} {xs : List Value}, LaidP w ok x xs → LaidP w' ok' x xs
  | (nm, x), xs, h => by
    unfold LaidP at h ⊢
    obtain ⟨a, h0, h1⟩ := h
    exact ⟨a, h0, LaidV.conv hk h1⟩
end

theorem LaidV.len {w : World} {ok : Nat → Prop} {x : GV} {cs : List Value} (h : LaidV w ok x cs) : cs.length = 6 := by
  cases x
  unfold LaidV at h
  obtain ⟨sl, sf, xs, ys, rfl, _⟩ := h
  rfl
theorem LaidL.snoc {w : World} {ok : Nat → Prop} {x : GV} {a : List Value} (hx : LaidV w ok x a) : ∀ {l : List GV} {xs : List Value}, LaidL w ok l xs → LaidL w ok (l ++ [x]) (xs ++ a)
  | [], xs, h => by
    unfold LaidL at h
    subst h
    show LaidL w ok [x] ([] ++ a)
    unfold LaidL
    exact ⟨a, [], by simp, hx, by unfold LaidL; rfl⟩
  | y :: l, xs, h => by
    unfold LaidL at h
    obtain ⟨b, r, rfl, h1, h2⟩ := h
    show LaidL w ok (y :: (l ++ [x])) _
    unfold LaidL
    exact ⟨b, r ++ a, by simp, h1, LaidL.snoc hx h2⟩
theorem LaidF.snoc {w : World} {ok : Nat → Prop} {x : ByteArray × GV} {a : List Value} (hx : LaidP w ok x a) : ∀ {l : List (ByteArray × GV)} {xs : List Value}, LaidF w ok l xs → LaidF w ok (l ++ [x]) (xs ++ a)
  | [], xs, h => by
    unfold LaidF at h
    subst h
    show LaidF w ok [x] ([] ++ a)
    unfold LaidF
    exact ⟨a, [], by simp, hx, by unfold LaidF; rfl⟩
  | y :: l, xs, h => by
    unfold LaidF at h
    obtain ⟨b, r, rfl, h1, h2⟩ := h
    show LaidF w ok (y :: (l ++ [x])) _
    unfold LaidF
    exact ⟨b, r ++ a, by simp, h1, LaidF.snoc hx h2⟩
/-- A row that the call owns, as a slice that reads so. -/
theorem slAt_of_own {w : World} {base : Nat} {e : TypeId} {size : Nat} {v : Value} {n : Nat} {xs : List Value} (h : w.ownsRow base e size v n xs) : SlAt w (fun b => base ≤ b) v n size xs := by
  refine ⟨h.1, ?_⟩
  rcases h.2 with h2 | ⟨g, cap, cur, rfl, hb, hg, hn, hc, hz, ht⟩
  · exact .inl ⟨none, 0, h2⟩
  · refine .inr ⟨g, 0, cap, rfl, fun _ => hb, hn, fun i hi => ?_⟩
    have e2 : (cur.toList.take (n * size))[i]? = xs[i]? := by rw [ht]
    rw [List.getElem?_take_of_lt hi] at e2
    simp only [World.cell?, hg, Nat.zero_add]
    rw [← e2]
    simp

/-! What the reader reads. -/
def elemsF {σ : Type} (s : ByteArray) (one : σ → Nat → Except (Nat × Nat) (σ × Nat)) (close : Nat) : Nat → σ → Nat → Except (Nat × Nat) (σ × Nat)
  | 0, _, p => .error (p, 3)
  | f + 1, st, p =>
    match one st p with
    | .error x => .error x
    | .ok (st2, q) =>
      if nx s (bl s q) = close then .ok (st2, bl s q + 1)
      else if nx s (bl s q) = 44 then elemsF s one close f st2 (bl s (bl s q + 1)) else .error (bl s q, 3)
/-- From an opening bracket at p to the place behind its closing one. -/
def bracketS {σ : Type} (s : ByteArray) (one : σ → Nat → Except (Nat × Nat) (σ × Nat)) (close : Nat) (st : σ) (p : Nat) : Except (Nat × Nat) (σ × Nat) :=
  if nx s (bl s (p + 1)) = close then .ok (st, bl s (p + 1) + 1) else elemsF s one close (s.size + 1) st (bl s (p + 1))
def oneL (val : Nat → Except (Nat × Nat) (GV × Nat)) (l : List GV) (p : Nat) : Except (Nat × Nat) (List GV × Nat) :=
  match val p with
  | .error x => .error x
  | .ok (x, q) => .ok (l ++ [x], q)
def oneF (s : ByteArray) (bad : Int) (val : Nat → Except (Nat × Nat) (GV × Nat)) (l : List (ByteArray × GV)) (p : Nat) : Except (Nat × Nat) (List (ByteArray × GV) × Nat) :=
  match quotedS s bad p with
  | .error x => .error x
  | .ok (cs, q) =>
    if l.any (fun y => decide (y.1 = txt cs)) then .error (p, 6)
    else if nx s (bl s q) = 58 then
      (match val (bl s (bl s q + 1)) with
      | .error x => .error x
      | .ok (x, r) => .ok (l ++ [(txt cs, x)], r))
    else .error (bl s q, 3)
def listS (s : ByteArray) (val : Nat → Except (Nat × Nat) (GV × Nat)) (p : Nat) : Except (Nat × Nat) (GV × Nat) :=
  match bracketS s (oneL val) 93 [] p with
  | .error x => .error x
  | .ok (l, q) => .ok (.mk 4 false 0 ⟨#[]⟩ l [], q)
def objS (s : ByteArray) (bad : Int) (val : Nat → Except (Nat × Nat) (GV × Nat)) (p : Nat) : Except (Nat × Nat) (GV × Nat) :=
  match bracketS s (oneF s bad val) 125 [] p with
  | .error x => .error x
  | .ok (l, q) => .ok (.mk 5 false 0 ⟨#[]⟩ [] l, q)
def valC (s : ByteArray) (bad : Int) (lst obj : Nat → Except (Nat × Nat) (GV × Nat)) (p : Nat) : Except (Nat × Nat) (GV × Nat) :=
  if nx s p = 110 then (match wordS s [110, 117, 108, 108] p with | .error x => .error x | .ok q => .ok (.mk 0 false 0 ⟨#[]⟩ [] [], q))
  else if nx s p = 116 then (match wordS s [116, 114, 117, 101] p with | .error x => .error x | .ok q => .ok (.mk 1 true 0 ⟨#[]⟩ [] [], q))
  else if nx s p = 102 then (match wordS s [102, 97, 108, 115, 101] p with | .error x => .error x | .ok q => .ok (.mk 1 false 0 ⟨#[]⟩ [] [], q))
  else if nx s p = 34 then (match quotedS s bad p with | .error x => .error x | .ok (cs, q) => .ok (.mk 3 false 0 (txt cs) [] [], q))
  else if nx s p = 91 then lst p
  else if nx s p = 123 then obj p
  else if nx s p = 45 ∨ isDg (nx s p) = true then (match numberS s p with | .error x => .error x | .ok (n, q) => .ok (.mk 2 false n ⟨#[]⟩ [] [], q))
  else .error (p, 3)
/-- A value at p, with so many brackets still to open. -/
def valS (s : ByteArray) (bad : Int) : Nat → Nat → Except (Nat × Nat) (GV × Nat)
  | 0 => valC s bad (fun p => .error (p, 4)) (fun p => .error (p, 4))
  | k + 1 => valC s bad (listS s (valS s bad k)) (objS s bad (valS s bad k))
/-- The value of a text, or what is amiss. -/
def parseS (s : ByteArray) : Except (Nat × Nat) GV :=
  match valS s (badAt s 0) 32 (bl s 0) with
  | .error x => .error x
  | .ok (x, q) => if bl s q < s.size then .error (bl s q, 3) else .ok x
end Go.Proofs.YtiakidomcjpdhaaGreatDoor

namespace Go.Proofs.YtiakidomcjpdhaaGreatDoor
open Go.RowKit

/-- What is asked of a closure that reads one element, and of what it keeps: I holds of its state, the reader's place and the world. -/
structure Reads {σ : Type} (K : Nat) (caps : Array Value) (one : σ → Nat → Except (Nat × Nat) (σ × Nat)) (I : σ → Nat → World → Prop) (Kp : World → Prop) (rb : Nat) (s : ByteArray) (bad : Int) (dep : Nat) : Prop where
  call : ∀ st p w, I st p w → p ≤ s.size → Calls Tryz.prog K caps w (Out (one st p) (fun x e w' => e = .returned (.tuple #[]) ∧ I x.1 x.2 w' ∧ p < x.2 ∧ x.2 ≤ s.size) Kp)
  rd : ∀ st p w, I st p w → RdAt w rb s p bad dep
  keep : ∀ st p q w w', I st p w → RdAt w' rb s q bad dep → Fr (Own rb) w w' → p ≤ q → I st q w'
  out : ∀ st p w w', I st p w → Fr (Own rb) w w' → Kp w'

set_option maxRecDepth 20000 in
set_option maxHeartbeats 8000000 in
theorem elements_78 {σ : Type} {a b : Value} {one : σ → Nat → Except (Nat × Nat) (σ × Nat)} {I : σ → Nat → World → Prop} {Kp : World → Prop} {rb : Nat} {s : ByteArray} {bad : Int} {dep : Nat}
    (R : Reads 133 #[a, b] one I Kp rb s bad dep) (close : Nat) (hcl : 0 < close) (st : σ) (p : Nat) (w : World) (h : I st p w) (hp : p ≤ s.size) (hs : s.size ≤ 65536) :
    Calls Tryz.prog 150 #[.pointer (some ⟨rb, 0, none⟩), .int .u8 (close : Int), .func (.func 133) #[] #[a, b]] w (Out (elemsF s one close (s.size + 1) st p)
      (fun x e w' => e = .returned (.tuple #[]) ∧ I x.1 x.2 w' ∧ p < x.2 ∧ x.2 ≤ s.size) Kp) := by
  have hs2 : s.size ≤ 140737488351232 := by omega
  obtain ⟨N, hN⟩ : ∃ N, elemsF s one close (s.size + 1) st p = N := ⟨_, rfl⟩
  rw [hN]
  go_enter Tryz.func150, Tryz.ntmps150
  go_wp2
  go_loopw [] (fun w' => ∃ (st' : σ) (q f : Nat), I st' q w' ∧ Hid (N = elemsF s one close f st' q) ∧ s.size < q + f ∧ p ≤ q ∧ q ≤ s.size) (fun w' => s.size - posOf w' rb)
  case atStart => exact ⟨st, p, s.size + 1, h, hN.symm, by omega, Nat.le_refl _, hp⟩
  case round =>
    obtain ⟨t, q, f, hI, HQ, hf, hpq, hq⟩ := hrel
    have hpos0 := (R.rd _ _ _ hI).pos
    obtain ⟨f, rfl⟩ : ∃ g, f = g + 1 := ⟨f - 1, by omega⟩
    have hcall := R.call _ _ _ hI hq
    cases hc : one t q with
    | error x =>
      rw [hc] at hcall
      have HE : Hid (N = .error (x.1, x.2)) := by show _ = _; rw [HQ.out, elemsF, hc]
      clear HQ hc
      go_wp2_with (go_at_call 133; refine hcall.mono ?_; rintro e w2 ⟨⟨bk, rfl, hbk⟩, f2⟩)
      exact panics0 (Out.no HE.out ⟨⟨_, rfl, hbk⟩, f2⟩)
    | ok x =>
      obtain ⟨st2, r⟩ := x
      rw [hc] at hcall
      have HQ3 : Hid (N = if nx s (bl s r) = close then .ok (st2, bl s r + 1)
        else if nx s (bl s r) = 44 then elemsF s one close f st2 (bl s (bl s r + 1)) else .error (bl s r, 3)) := by show _ = _; rw [HQ.out, elemsF, hc]
      clear HQ hc
      by_cases g1 : nx s (bl s r) = close
      · have HE : Hid (N = .ok (st2, bl s r + 1)) := by show _ = _; rw [HQ3.out, if_pos g1]
        have hlt := lt_of_nx (s := s) (p := bl s r) (by omega)
        clear HQ3
        go_wp2_with (first
          | (go_at_call 133; refine hcall.mono ?_; rintro e w2 ⟨rfl, hI2, hr1, hr2⟩; have rd2 := R.rd _ _ _ hI2; have hbl := bl_le s r hr2)
          | (go_at_call 69; refine (blanks_any _ _ _ _ _ _ rd2 hr2 hs2).mono ?_; rintro e w3 ⟨rfl, rd3, f3⟩; have hI3 := R.keep _ _ _ _ _ hI2 rd3 f3 hbl.1)
          | (go_at_call 98; refine (takes_yes _ _ _ _ _ _ _ rd3 hbl.2 hs2 g1).mono ?_; rintro e w4 ⟨rfl, rd4, f4⟩; have hI4 := R.keep _ _ _ _ _ hI3 rd4 f4 (Nat.le_succ _)))
        have hr1' : q < r := hr1
        first
          | go_end0
          | refine bodyPost_ret (results_none rfl _ _ _) rfl ?_
        exact Out.yes HE.out ⟨rfl, hI4, by show p < bl s r + 1; omega, by show bl s r + 1 ≤ _; omega⟩
      · by_cases g2 : nx s (bl s r) = 44
        · have HE : Hid (N = elemsF s one close f st2 (bl s (bl s r + 1))) := by show _ = _; rw [HQ3.out, if_neg g1, if_pos g2]
          have hlt := lt_of_nx (s := s) (p := bl s r) (by omega)
          clear HQ3
          have hbl2 := bl_le s (bl s r + 1) (by omega)
          go_wp2_with (first
            | (go_at_call 133; refine hcall.mono ?_; rintro e w2 ⟨rfl, hI2, hr1, hr2⟩; have rd2 := R.rd _ _ _ hI2; have hbl := bl_le s r hr2)
            | (go_at_call 69; have hh := rd5; refine (blanks_any _ _ _ _ _ _ rd5 hlt hs2).mono ?_; rintro e w6 ⟨rfl, rd6, f6⟩; have hI6 := R.keep _ _ _ _ _ hI5 rd6 f6 hbl2.1)
            | (go_at_call 69; refine (blanks_any _ _ _ _ _ _ rd2 hr2 hs2).mono ?_; rintro e w3 ⟨rfl, rd3, f3⟩; have hI3 := R.keep _ _ _ _ _ hI2 rd3 f3 hbl.1)
            | (go_at_call 98; refine (takes_no _ _ _ _ _ _ _ rd3 hbl.2 hs2 g1).mono ?_; rintro e w4 ⟨rfl, rd4, f4⟩; have hI4 := R.keep _ _ _ _ _ hI3 rd4 f4 (Nat.le_refl _))
            | (go_at_call 129; refine (want_yes _ _ _ _ _ _ 44 rd4 hbl.2 hs2 g2).mono ?_; rintro e w5 ⟨rfl, rd5, f5⟩; have hI5 := R.keep _ _ _ _ _ hI4 rd5 f5 (Nat.le_succ _)))
          have hr1' : q < r := hr1
          go_roundw
          case rel => exact ⟨st2, _, f, hI6, HE, by omega, by omega, hbl2.2⟩
          case measure => rw [rd6.pos, hpos0]; omega
        · have HE : Hid (N = .error (bl s r, 3)) := by show _ = _; rw [HQ3.out, if_neg g1, if_neg g2]
          clear HQ3
          go_wp2_with (first
            | (go_at_call 133; refine hcall.mono ?_; rintro e w2 ⟨rfl, hI2, hr1, hr2⟩; have rd2 := R.rd _ _ _ hI2; have hbl := bl_le s r hr2)
            | (go_at_call 69; refine (blanks_any _ _ _ _ _ _ rd2 hr2 hs2).mono ?_; rintro e w3 ⟨rfl, rd3, f3⟩; have hI3 := R.keep _ _ _ _ _ hI2 rd3 f3 hbl.1)
            | (go_at_call 98; refine (takes_no _ _ _ _ _ _ _ rd3 hbl.2 hs2 g1).mono ?_; rintro e w4 ⟨rfl, rd4, f4⟩; have hI4 := R.keep _ _ _ _ _ hI3 rd4 f4 (Nat.le_refl _))
            | (go_at_call 129; refine (want_no _ _ _ _ _ _ 44 rd4 hbl.2 hs2 g2).mono ?_; rintro e w5 ⟨⟨bk, rfl, hbk⟩, f5⟩; have hK5 := R.out _ _ _ _ hI4 f5))
          exact panics0 (Out.no HE.out ⟨⟨_, rfl, hbk⟩, hK5⟩)

set_option maxRecDepth 20000 in
set_option maxHeartbeats 8000000 in
theorem elements_79 {σ : Type} {a b c : Value} {one : σ → Nat → Except (Nat × Nat) (σ × Nat)} {I : σ → Nat → World → Prop} {Kp : World → Prop} {rb : Nat} {s : ByteArray} {bad : Int} {dep : Nat}
    (R : Reads 134 #[a, b, c] one I Kp rb s bad dep) (close : Nat) (hcl : 0 < close) (st : σ) (p : Nat) (w : World) (h : I st p w) (hp : p ≤ s.size) (hs : s.size ≤ 65536) :
    Calls Tryz.prog 150 #[.pointer (some ⟨rb, 0, none⟩), .int .u8 (close : Int), .func (.func 134) #[] #[a, b, c]] w (Out (elemsF s one close (s.size + 1) st p)
      (fun x e w' => e = .returned (.tuple #[]) ∧ I x.1 x.2 w' ∧ p < x.2 ∧ x.2 ≤ s.size) Kp) := by
  have hs2 : s.size ≤ 140737488351232 := by omega
  obtain ⟨N, hN⟩ : ∃ N, elemsF s one close (s.size + 1) st p = N := ⟨_, rfl⟩
  rw [hN]
  go_enter Tryz.func150, Tryz.ntmps150
  go_wp2
  go_loopw [] (fun w' => ∃ (st' : σ) (q f : Nat), I st' q w' ∧ Hid (N = elemsF s one close f st' q) ∧ s.size < q + f ∧ p ≤ q ∧ q ≤ s.size) (fun w' => s.size - posOf w' rb)
  case atStart => exact ⟨st, p, s.size + 1, h, hN.symm, by omega, Nat.le_refl _, hp⟩
  case round =>
    obtain ⟨t, q, f, hI, HQ, hf, hpq, hq⟩ := hrel
    have hpos0 := (R.rd _ _ _ hI).pos
    obtain ⟨f, rfl⟩ : ∃ g, f = g + 1 := ⟨f - 1, by omega⟩
    have hcall := R.call _ _ _ hI hq
    cases hc : one t q with
    | error x =>
      rw [hc] at hcall
      have HE : Hid (N = .error (x.1, x.2)) := by show _ = _; rw [HQ.out, elemsF, hc]
      clear HQ hc
      go_wp2_with (go_at_call 134; refine hcall.mono ?_; rintro e w2 ⟨⟨bk, rfl, hbk⟩, f2⟩)
      exact panics0 (Out.no HE.out ⟨⟨_, rfl, hbk⟩, f2⟩)
    | ok x =>
      obtain ⟨st2, r⟩ := x
      rw [hc] at hcall
      have HQ3 : Hid (N = if nx s (bl s r) = close then .ok (st2, bl s r + 1)
        else if nx s (bl s r) = 44 then elemsF s one close f st2 (bl s (bl s r + 1)) else .error (bl s r, 3)) := by show _ = _; rw [HQ.out, elemsF, hc]
      clear HQ hc
      by_cases g1 : nx s (bl s r) = close
      · have HE : Hid (N = .ok (st2, bl s r + 1)) := by show _ = _; rw [HQ3.out, if_pos g1]
        have hlt := lt_of_nx (s := s) (p := bl s r) (by omega)
        clear HQ3
        go_wp2_with (first
          | (go_at_call 134; refine hcall.mono ?_; rintro e w2 ⟨rfl, hI2, hr1, hr2⟩; have rd2 := R.rd _ _ _ hI2; have hbl := bl_le s r hr2)
          | (go_at_call 69; refine (blanks_any _ _ _ _ _ _ rd2 hr2 hs2).mono ?_; rintro e w3 ⟨rfl, rd3, f3⟩; have hI3 := R.keep _ _ _ _ _ hI2 rd3 f3 hbl.1)
          | (go_at_call 98; refine (takes_yes _ _ _ _ _ _ _ rd3 hbl.2 hs2 g1).mono ?_; rintro e w4 ⟨rfl, rd4, f4⟩; have hI4 := R.keep _ _ _ _ _ hI3 rd4 f4 (Nat.le_succ _)))
        have hr1' : q < r := hr1
        first
          | go_end0
          | refine bodyPost_ret (results_none rfl _ _ _) rfl ?_
        exact Out.yes HE.out ⟨rfl, hI4, by show p < bl s r + 1; omega, by show bl s r + 1 ≤ _; omega⟩
      · by_cases g2 : nx s (bl s r) = 44
        · have HE : Hid (N = elemsF s one close f st2 (bl s (bl s r + 1))) := by show _ = _; rw [HQ3.out, if_neg g1, if_pos g2]
          have hlt := lt_of_nx (s := s) (p := bl s r) (by omega)
          clear HQ3
          have hbl2 := bl_le s (bl s r + 1) (by omega)
          go_wp2_with (first
            | (go_at_call 134; refine hcall.mono ?_; rintro e w2 ⟨rfl, hI2, hr1, hr2⟩; have rd2 := R.rd _ _ _ hI2; have hbl := bl_le s r hr2)
            | (go_at_call 69; have hh := rd5; refine (blanks_any _ _ _ _ _ _ rd5 hlt hs2).mono ?_; rintro e w6 ⟨rfl, rd6, f6⟩; have hI6 := R.keep _ _ _ _ _ hI5 rd6 f6 hbl2.1)
            | (go_at_call 69; refine (blanks_any _ _ _ _ _ _ rd2 hr2 hs2).mono ?_; rintro e w3 ⟨rfl, rd3, f3⟩; have hI3 := R.keep _ _ _ _ _ hI2 rd3 f3 hbl.1)
            | (go_at_call 98; refine (takes_no _ _ _ _ _ _ _ rd3 hbl.2 hs2 g1).mono ?_; rintro e w4 ⟨rfl, rd4, f4⟩; have hI4 := R.keep _ _ _ _ _ hI3 rd4 f4 (Nat.le_refl _))
            | (go_at_call 129; refine (want_yes _ _ _ _ _ _ 44 rd4 hbl.2 hs2 g2).mono ?_; rintro e w5 ⟨rfl, rd5, f5⟩; have hI5 := R.keep _ _ _ _ _ hI4 rd5 f5 (Nat.le_succ _)))
          have hr1' : q < r := hr1
          go_roundw
          case rel => exact ⟨st2, _, f, hI6, HE, by omega, by omega, hbl2.2⟩
          case measure => rw [rd6.pos, hpos0]; omega
        · have HE : Hid (N = .error (bl s r, 3)) := by show _ = _; rw [HQ3.out, if_neg g1, if_neg g2]
          clear HQ3
          go_wp2_with (first
            | (go_at_call 134; refine hcall.mono ?_; rintro e w2 ⟨rfl, hI2, hr1, hr2⟩; have rd2 := R.rd _ _ _ hI2; have hbl := bl_le s r hr2)
            | (go_at_call 69; refine (blanks_any _ _ _ _ _ _ rd2 hr2 hs2).mono ?_; rintro e w3 ⟨rfl, rd3, f3⟩; have hI3 := R.keep _ _ _ _ _ hI2 rd3 f3 hbl.1)
            | (go_at_call 98; refine (takes_no _ _ _ _ _ _ _ rd3 hbl.2 hs2 g1).mono ?_; rintro e w4 ⟨rfl, rd4, f4⟩; have hI4 := R.keep _ _ _ _ _ hI3 rd4 f4 (Nat.le_refl _))
            | (go_at_call 129; refine (want_no _ _ _ _ _ _ 44 rd4 hbl.2 hs2 g2).mono ?_; rintro e w5 ⟨⟨bk, rfl, hbk⟩, f5⟩; have hK5 := R.out _ _ _ _ hI4 f5))
          exact panics0 (Out.no HE.out ⟨⟨_, rfl, hbk⟩, hK5⟩)
end Go.Proofs.YtiakidomcjpdhaaGreatDoor

namespace Go.Proofs.YtiakidomcjpdhaaGreatDoor
open Go.RowKit

theorem Fr.own (w : World) (rb i : Nat) (v : Value) : Fr (Own rb) w (w.setCell ⟨rb, i, none⟩ v) := Fr.setCell _ _ _ rfl
theorem deep_any (w : World) (rb : Nat) (s : ByteArray) (p : Nat) (bad : Int) (v : Value) (close : Int) (hr : RdAt w rb s p bad 32) :
    Calls Tryz.prog 132 #[.pointer (some ⟨rb, 0, none⟩), .int .u8 close, v] w fun e w' => Thrown p 4 e w' ∧ Fr (Own rb) w w' := by
  have c1 := hr.c1
  have c3 := hr.c3
  go_enter Tryz.func132, Tryz.ntmps132
  go_wp2_with (go_at_call 71; refine (amiss_any _ _ _).mono ?_; rintro e w4 ⟨rfl, rfl⟩)
  exact panics0 ⟨⟨_, rfl, heap_alloc_new _ _⟩, Fr.alloc _ _ _⟩

set_option maxRecDepth 20000 in
set_option maxHeartbeats 8000000 in
theorem bracketed_78 {σ : Type} {a b : Value} {one : σ → Nat → Except (Nat × Nat) (σ × Nat)} {I : σ → Nat → World → Prop} {Kp : World → Prop} {rb : Nat} {s : ByteArray} {bad : Int} {dep : Nat}
    (R : Reads 133 #[a, b] one I Kp rb s bad (dep + 1)) (close : Nat) (hcl : 0 < close) (st : σ) (p : Nat) (w : World) (hr : RdAt w rb s p bad dep)
    (hI : ∀ q w', RdAt w' rb s q bad (dep + 1) → Fr (Own rb) w w' → I st q w') (hp : p < s.size) (hs : s.size ≤ 65536) (hd : dep < 32) :
    Calls Tryz.prog 132 #[.pointer (some ⟨rb, 0, none⟩), .int .u8 (close : Int), .func (.func 133) #[] #[a, b]] w (Out (bracketS s one close st p)
      (fun x e w' => e = .returned (.tuple #[]) ∧ (∃ w2, I x.1 x.2 w2 ∧ w' = w2.setCell ⟨rb, 3, none⟩ (.int .i64 (dep : Int))) ∧ p < x.2 ∧ x.2 ≤ s.size) Kp) := by
  have hs2 : s.size ≤ 140737488351232 := by omega
  have c1 := hr.c1
  have c3 := hr.c3
  have z1 := hr.fz 1
  have z3 := hr.fz 3
  have hd' : ((dep : Int) == 32) = false := by simp; omega
  have hra : RdAt ((w.setCell ⟨rb, 3, none⟩ (.int .i64 ((dep : Int) + 1))).setCell ⟨rb, 1, none⟩ (.int .i64 ((p : Int) + 1))) rb s (p + 1) bad (dep + 1) := (hr.set3 (dep + 1)).set1 (p + 1)
  have fa : Fr (Own rb) w ((w.setCell ⟨rb, 3, none⟩ (.int .i64 ((dep : Int) + 1))).setCell ⟨rb, 1, none⟩ (.int .i64 ((p : Int) + 1))) := (Fr.own w rb 3 _).trans (Fr.own _ rb 1 _)
  have hbl := bl_le s (p + 1) hp
  obtain ⟨N, hN⟩ : ∃ N, bracketS s one close st p = N := ⟨_, rfl⟩
  rw [hN]
  by_cases g1 : nx s (bl s (p + 1)) = close
  · have HE : Hid (N = .ok (st, bl s (p + 1) + 1)) := by show _ = _; rw [← hN, bracketS, if_pos g1]
    have hlt := lt_of_nx (s := s) (p := bl s (p + 1)) (by omega)
    clear hN
    go_enter Tryz.func132, Tryz.ntmps132
    go_wp2_with (first
      | (go_at_call 69; refine (blanks_any _ _ _ _ _ _ hra hp hs2).mono ?_; rintro e w3 ⟨rfl, rd3, f3⟩)
      | (go_at_call 98; refine (takes_yes _ _ _ _ _ _ _ rd3 hbl.2 hs2 g1).mono ?_; rintro e w4 ⟨rfl, rd4, f4⟩; have d3 := rd4.c3; have y3 := rd4.fz 3))
    go_end0
    refine Out.yes HE.out ⟨rfl, ⟨w4, hI _ _ rd4 ((fa.trans f3).trans f4), by simp⟩, by show p < _ + 1; omega, by show _ + 1 ≤ _; omega⟩
  · have HE : Hid (N = elemsF s one close (s.size + 1) st (bl s (p + 1))) := by show _ = _; rw [← hN, bracketS, if_neg g1]
    clear hN
    cases hx : elemsF s one close (s.size + 1) st (bl s (p + 1)) with
    | error x =>
      have HE2 : Hid (N = .error (x.1, x.2)) := by show _ = _; rw [HE.out, hx]
      have HX : Hid (elemsF s one close (s.size + 1) st (bl s (p + 1)) = .error (x.1, x.2)) := hx
      clear HE hx
      go_enter Tryz.func132, Tryz.ntmps132
      go_wp2_with (first
        | (go_at_call 69; refine (blanks_any _ _ _ _ _ _ hra hp hs2).mono ?_; rintro e w3 ⟨rfl, rd3, f3⟩)
        | (go_at_call 98; refine (takes_no _ _ _ _ _ _ _ rd3 hbl.2 hs2 g1).mono ?_; rintro e w4 ⟨rfl, rd4, f4⟩; have hI4 := hI _ _ rd4 ((fa.trans f3).trans f4))
        | (go_at_call 150; refine (elements_78 R close hcl st _ _ hI4 hbl.2 hs).mono ?_; intro e w5 ho; obtain ⟨⟨bk, rfl, hbk⟩, k5⟩ := Out.isNo HX.out ho; clear ho))
      exact panics0 (Out.no HE2.out ⟨⟨_, rfl, hbk⟩, k5⟩)
    | ok x =>
      have HE2 : Hid (N = .ok x) := by show _ = _; rw [HE.out, hx]
      have HX : Hid (elemsF s one close (s.size + 1) st (bl s (p + 1)) = .ok x) := hx
      clear HE hx
      go_enter Tryz.func132, Tryz.ntmps132
      go_wp2_with (first
        | (go_at_call 69; refine (blanks_any _ _ _ _ _ _ hra hp hs2).mono ?_; rintro e w3 ⟨rfl, rd3, f3⟩)
        | (go_at_call 98; refine (takes_no _ _ _ _ _ _ _ rd3 hbl.2 hs2 g1).mono ?_; rintro e w4 ⟨rfl, rd4, f4⟩; have hI4 := hI _ _ rd4 ((fa.trans f3).trans f4))
        | (go_at_call 150; refine (elements_78 R close hcl st _ _ hI4 hbl.2 hs).mono ?_; intro e w5 ho; obtain ⟨rfl, hI5, hq1, hq2⟩ := Out.isOk HX.out ho; clear ho; have rd5 := R.rd _ _ _ hI5; have d3 := rd5.c3; have y3 := rd5.fz 3))
      go_end0
      exact Out.yes HE2.out ⟨rfl, ⟨w5, hI5, by simp⟩, by omega, hq2⟩

set_option maxRecDepth 20000 in
set_option maxHeartbeats 8000000 in
theorem bracketed_79 {σ : Type} {a b c : Value} {one : σ → Nat → Except (Nat × Nat) (σ × Nat)} {I : σ → Nat → World → Prop} {Kp : World → Prop} {rb : Nat} {s : ByteArray} {bad : Int} {dep : Nat}
    (R : Reads 134 #[a, b, c] one I Kp rb s bad (dep + 1)) (close : Nat) (hcl : 0 < close) (st : σ) (p : Nat) (w : World) (hr : RdAt w rb s p bad dep)
    (hI : ∀ q w', RdAt w' rb s q bad (dep + 1) → Fr (Own rb) w w' → I st q w') (hp : p < s.size) (hs : s.size ≤ 65536) (hd : dep < 32) :
    Calls Tryz.prog 132 #[.pointer (some ⟨rb, 0, none⟩), .int .u8 (close : Int), .func (.func 134) #[] #[a, b, c]] w (Out (bracketS s one close st p)
      (fun x e w' => e = .returned (.tuple #[]) ∧ (∃ w2, I x.1 x.2 w2 ∧ w' = w2.setCell ⟨rb, 3, none⟩ (.int .i64 (dep : Int))) ∧ p < x.2 ∧ x.2 ≤ s.size) Kp) := by
  have hs2 : s.size ≤ 140737488351232 := by omega
  have c1 := hr.c1
  have c3 := hr.c3
  have z1 := hr.fz 1
  have z3 := hr.fz 3
  have hd' : ((dep : Int) == 32) = false := by simp; omega
  have hra : RdAt ((w.setCell ⟨rb, 3, none⟩ (.int .i64 ((dep : Int) + 1))).setCell ⟨rb, 1, none⟩ (.int .i64 ((p : Int) + 1))) rb s (p + 1) bad (dep + 1) := (hr.set3 (dep + 1)).set1 (p + 1)
  have fa : Fr (Own rb) w ((w.setCell ⟨rb, 3, none⟩ (.int .i64 ((dep : Int) + 1))).setCell ⟨rb, 1, none⟩ (.int .i64 ((p : Int) + 1))) := (Fr.own w rb 3 _).trans (Fr.own _ rb 1 _)
  have hbl := bl_le s (p + 1) hp
  obtain ⟨N, hN⟩ : ∃ N, bracketS s one close st p = N := ⟨_, rfl⟩
  rw [hN]
  by_cases g1 : nx s (bl s (p + 1)) = close
  · have HE : Hid (N = .ok (st, bl s (p + 1) + 1)) := by show _ = _; rw [← hN, bracketS, if_pos g1]
    have hlt := lt_of_nx (s := s) (p := bl s (p + 1)) (by omega)
    clear hN
    go_enter Tryz.func132, Tryz.ntmps132
    go_wp2_with (first
      | (go_at_call 69; refine (blanks_any _ _ _ _ _ _ hra hp hs2).mono ?_; rintro e w3 ⟨rfl, rd3, f3⟩)
      | (go_at_call 98; refine (takes_yes _ _ _ _ _ _ _ rd3 hbl.2 hs2 g1).mono ?_; rintro e w4 ⟨rfl, rd4, f4⟩; have d3 := rd4.c3; have y3 := rd4.fz 3))
    go_end0
    refine Out.yes HE.out ⟨rfl, ⟨w4, hI _ _ rd4 ((fa.trans f3).trans f4), by simp⟩, by show p < _ + 1; omega, by show _ + 1 ≤ _; omega⟩
  · have HE : Hid (N = elemsF s one close (s.size + 1) st (bl s (p + 1))) := by show _ = _; rw [← hN, bracketS, if_neg g1]
    clear hN
    cases hx : elemsF s one close (s.size + 1) st (bl s (p + 1)) with
    | error x =>
      have HE2 : Hid (N = .error (x.1, x.2)) := by show _ = _; rw [HE.out, hx]
      have HX : Hid (elemsF s one close (s.size + 1) st (bl s (p + 1)) = .error (x.1, x.2)) := hx
      clear HE hx
      go_enter Tryz.func132, Tryz.ntmps132
      go_wp2_with (first
        | (go_at_call 69; refine (blanks_any _ _ _ _ _ _ hra hp hs2).mono ?_; rintro e w3 ⟨rfl, rd3, f3⟩)
        | (go_at_call 98; refine (takes_no _ _ _ _ _ _ _ rd3 hbl.2 hs2 g1).mono ?_; rintro e w4 ⟨rfl, rd4, f4⟩; have hI4 := hI _ _ rd4 ((fa.trans f3).trans f4))
        | (go_at_call 150; refine (elements_79 R close hcl st _ _ hI4 hbl.2 hs).mono ?_; intro e w5 ho; obtain ⟨⟨bk, rfl, hbk⟩, k5⟩ := Out.isNo HX.out ho; clear ho))
      exact panics0 (Out.no HE2.out ⟨⟨_, rfl, hbk⟩, k5⟩)
    | ok x =>
      have HE2 : Hid (N = .ok x) := by show _ = _; rw [HE.out, hx]
      have HX : Hid (elemsF s one close (s.size + 1) st (bl s (p + 1)) = .ok x) := hx
      clear HE hx
      go_enter Tryz.func132, Tryz.ntmps132
      go_wp2_with (first
        | (go_at_call 69; refine (blanks_any _ _ _ _ _ _ hra hp hs2).mono ?_; rintro e w3 ⟨rfl, rd3, f3⟩)
        | (go_at_call 98; refine (takes_no _ _ _ _ _ _ _ rd3 hbl.2 hs2 g1).mono ?_; rintro e w4 ⟨rfl, rd4, f4⟩; have hI4 := hI _ _ rd4 ((fa.trans f3).trans f4))
        | (go_at_call 150; refine (elements_79 R close hcl st _ _ hI4 hbl.2 hs).mono ?_; intro e w5 ho; obtain ⟨rfl, hI5, hq1, hq2⟩ := Out.isOk HX.out ho; clear ho; have rd5 := R.rd _ _ _ hI5; have d3 := rd5.c3; have y3 := rd5.fz 3))
      go_end0
      exact Out.yes HE2.out ⟨rfl, ⟨w5, hI5, by simp⟩, by omega, hq2⟩
end Go.Proofs.YtiakidomcjpdhaaGreatDoor

namespace Go.Proofs.YtiakidomcjpdhaaGreatDoor
open Go.RowKit

theorem Tabs.alloc {w : World} (h : Tabs w) (o : Obj) : Tabs (w.alloc o) := h.fr (Fr.alloc (fun _ => False) w o) id id
/-- append to a row of the call's own, as one step of a region that draws its order. -/
theorem step_append_own {P : Program} {ops : Array Oper} {o : Oper} {a : Act} {w : World} {K : Act → World → Prop} {Q : Exit → Act → World → Prop} {E : Prop}
    (hg : o.guard = none) (s x : Operand) (t : TypeId) (hop : o.op = Op.call { callee := Callee.builtin Builtin.append, args := #[s, x], argTypes := #[t, t] })
    (base : Nat) (e : TypeId) (i : TypeInfo) (z : Value) (size bytes : Nat) (h1 : P.underlying t = some (.slice e)) (h2 : P.info? e = some i) (h3 : i.zero = some z) (h4 : i.size = size) (h5 : i.bytes = bytes) (h6 : z.cells.size = size) (h7 : 0 < size)
    (v : Value) (n : Nat) (olds : List Value) (hs : a.eval s = v) (hown : w.ownsRow base e size v n olds)
    (ad : Addr) (m c : Nat) (news : List Value) (hx : a.eval x = .slice (some ad) m c) (hn : news.length = m * size) (hc : ∀ j u, news[j]? = some u → w.cell? (ad.add j) = some u) (h1c : ∀ u ∈ news, u.oneCell' = true)
    (b1 : n + m ≤ maxLen) (b2 : (n + m) * bytes ≤ 140737488355328) (hb : base ≤ w.heap.size)
    (hK : ∀ v' w', w'.ownsRow base e size v' (n + m) (olds ++ news) → w.grownBy w' v.ownBlock → (v'.ownBlock = v.ownBlock ∨ v'.ownBlock = some w.heap.size) → K (a.put o.dst v') w') :
    if Region.wanted o (yielded ops a.tmps) = true then Oper.wp P o a w K Q else E := by
  have hw : Region.wanted o (yielded ops a.tmps) = true := by simp [Region.wanted, hg]
  rw [if_pos hw]
  obtain ⟨v', w', hrun, r1, r2, _, r4⟩ := run_append_own_at (P := P) w base t o.type e i z size bytes h1 h2 h3 h4 h5 h6 h7 v n olds hown ad m c news hn hc h1c b1 b2 hb
  unfold Oper.wp
  simp [execOp, hop, resolve, invoke, builtin, hs, hx, hrun, Result.andThen]
  exact hK v' w' r1 r2 r4

/-- How a method that answers a value ends: a value that lies in blocks of ok. -/
def VOut (ok : Nat → Prop) (x : GV) (e : Ending) (w' : World) : Prop :=
  ∃ (k : Int) (b : Bool) (n : Int) (t : ByteArray) (a1 : Option Addr) (l1 c1 : Nat) (a2 : Option Addr) (l2 c2 : Nat),
    e = .returned (.agg #[.int .i64 k, .bool b, .int .i64 n, .string t, .slice a1 l1 c1, .slice a2 l2 c2]) ∧ LaidV w' ok x [.int .i64 k, .bool b, .int .i64 n, .string t, .slice a1 l1 c1, .slice a2 l2 c2]
theorem Out.imp {α : Type} {r : Except (Nat × Nat) α} {ok ok' : α → Ending → World → Prop} {K K' : World → Prop} {e : Ending} {w' : World} (h : Out r ok K e w') (h1 : ∀ x, ok x e w' → ok' x e w') (h2 : K w' → K' w') : Out r ok' K' e w' := by
  cases r with
  | ok x => exact h1 x h
  | error x => exact ⟨h.1, h2 h.2⟩
theorem VOut.imp {ok ok' : Nat → Prop} {x : GV} {e : Ending} {w' : World} (h : VOut ok x e w') (hk : ∀ b, ok b → ok' b) : VOut ok' x e w' := by
  obtain ⟨k, b, n, t, a1, l1, c1, a2, l2, c2, h1, h2⟩ := h
  exact ⟨k, b, n, t, a1, l1, c1, a2, l2, c2, h1, h2.conv (fun b hb _ => ⟨hk b hb, rfl⟩)⟩
/-- What is asked of value within so many brackets. -/
def ValueAt (rb : Nat) (s : ByteArray) (bad : Int) (dep : Nat) (val : Nat → Except (Nat × Nat) (GV × Nat)) : Prop :=
  ∀ w p, RdAt w rb s p bad dep → Tabs w → p ≤ s.size → Calls Tryz.prog 70 #[.pointer (some ⟨rb, 0, none⟩)] w (Out (val p)
    (fun x e w' => VOut (fun b => w.heap.size ≤ b) x.1 e w' ∧ RdAt w' rb s x.2 bad dep ∧ p < x.2 ∧ x.2 ≤ s.size ∧ Fr (Own rb) w w') (Fr (Own rb) w))

abbrev Z6 : List Value := [.int .i64 0, .bool false, .int .i64 0, .string ⟨#[]⟩, .slice none 0 0, .slice none 0 0]
theorem info26 : (Tryz.prog.info? 25).map (fun i => (i.zero, i.size, i.bytes)) = some (some (.agg #[.int .i64 0, .bool false, .int .i64 0, .string ⟨#[]⟩, .slice none 0 0, .slice none 0 0]), 6, 88) := by kernel_rfl

/-- What the closure keeps: the list so far, in v's variable. -/
structure IL (W : World) (rb r1 vb B : Nat) (s : ByteArray) (bad : Int) (dep : Nat) (l : List GV) (p : Nat) (w : World) : Prop where
  rd : RdAt w rb s p bad dep
  tb : Tabs w
  fr : Fr (Own rb) W w
  rv : w.heap[r1]? = some (.cells #[.pointer (some ⟨rb, 0, none⟩)] 75 (0, 0))
  len : l.length ≤ p
  hb : B ≤ w.heap.size
  vv : ∃ sa sc xs, w.heap[vb]? = some (.cells #[.int .i64 4, .bool false, .int .i64 0, .string ⟨#[]⟩, .slice sa l.length sc, .slice none 0 0] 25 (0, 0)) ∧ w.ownsRow B 25 6 (.slice sa l.length sc) l.length xs ∧ LaidL w (fun b => B ≤ b ∧ (Value.slice sa l.length sc).ownBlock ≠ some b) l xs

theorem cells6 {w : World} {Z : Nat} {a0 a1 a2 a3 a4 a5 : Value} {ty : TypeId} (h : w.heap[Z]? = some (.cells #[a0, a1, a2, a3, a4, a5] ty (0, 0))) : ∀ j u, [a0, a1, a2, a3, a4, a5][j]? = some u → w.cell? ((⟨Z, 0, none⟩ : Addr).add j) = some u := by
  intro j u hj
  rw [addr_add]
  simp only [World.cell?, h]
  simpa using hj
theorem Fr.new {S T : Nat → Prop} {w a b : World} (h : Fr S w a) (k : Fr T a b) (ht : ∀ j, T j → w.heap.size ≤ j) : Fr S w b :=
  ⟨k.os.trans h.os, k.tape.trans h.tape, k.output.trans h.output, Nat.le_trans h.size k.size, fun i hi hs => (k.block i (Nat.lt_of_lt_of_le hi h.size) (fun x => by have := ht i x; omega)).trans (h.block i hi hs)⟩
theorem heap_set {w : World} {g : Nat} {cur : Array Value} {ty : TypeId} {fz : Nat × Nat} (h : w.heap[g]? = some (.cells cur ty fz)) (i : Nat) (v : Value) : (w.setCell ⟨g, i, none⟩ v).heap[g]? = some (.cells (cur.setIfInBounds i v) ty fz) := by
  have hl := lt_of_block h
  simp only [World.setCell, Array.getElem?_modify, h]
  simp
theorem set6_list (xs rest : List Value) (n : Nat) (hx : xs.length = n * 6) (z0 z1 z2 z3 z4 z5 a0 a1 a2 a3 a4 a5 : Value) :
    ((((((xs ++ (z0 :: z1 :: z2 :: z3 :: z4 :: z5 :: rest)).set (n * 6) a0).set (n * 6 + 1) a1).set (n * 6 + 2) a2).set (n * 6 + 3) a3).set (n * 6 + 4) a4).set (n * 6 + 5) a5 = xs ++ (a0 :: a1 :: a2 :: a3 :: a4 :: a5 :: rest) := by
  simp [hx]
theorem split_take {L xs zs : List Value} {k : Nat} (h : L.take k = xs ++ zs) : ∃ rest, L = xs ++ (zs ++ rest) := ⟨L.drop k, by rw [← List.append_assoc, ← h, List.take_append_drop]⟩
/-- Six cells of a row that are set one by one. -/
theorem set6_take {cur : Array Value} {xs : List Value} {n : Nat} (hx : xs.length = n * 6) {z0 z1 z2 z3 z4 z5 : Value} (a0 a1 a2 a3 a4 a5 : Value) (h : cur.toList.take ((n + 1) * 6) = xs ++ [z0, z1, z2, z3, z4, z5]) :
    ((((((cur.setIfInBounds (n * 6) a0).setIfInBounds (n * 6 + 1) a1).setIfInBounds (n * 6 + 2) a2).setIfInBounds (n * 6 + 3) a3).setIfInBounds (n * 6 + 4) a4).setIfInBounds (n * 6 + 5) a5).toList.take ((n + 1) * 6) = xs ++ [a0, a1, a2, a3, a4, a5] := by
  obtain ⟨rest, hr⟩ := split_take h
  simp only [Array.toList_setIfInBounds, hr]
  have e := set6_list xs rest n hx z0 z1 z2 z3 z4 z5 a0 a1 a2 a3 a4 a5
  simp only [List.cons_append, List.nil_append] at e ⊢
  rw [e, show xs ++ a0 :: a1 :: a2 :: a3 :: a4 :: a5 :: rest = (xs ++ [a0, a1, a2, a3, a4, a5]) ++ rest by simp, List.take_left' (by simp [hx]; omega)]

/-- What the closure keeps, behind the element's stores. -/
theorem IL.snoc {W : World} {rb r1 vb B : Nat} {s : ByteArray} {bad : Int} {dep : Nat}
    (h1 : rb < B) (h2 : r1 < B) (h3 : vb < B) (h4 : rb ≠ vb) (h6 : vb ≠ r1) (h8 : 6 ≤ vb) (hWv : W.heap.size ≤ vb) (_hWB : W.heap.size ≤ B)
    {l : List GV} {n : Nat} (hn : l.length = n) {x : GV} {q : Nat} {V w2 w3 : World} (len : l.length + 1 ≤ q)
    (rd : RdAt V rb s q bad dep) (tb : Tabs V) (fr : Fr (Own rb) W V) (rv : V.heap[r1]? = some (.cells #[.pointer (some ⟨rb, 0, none⟩)] 75 (0, 0))) (hb : B ≤ V.heap.size)
    {sa : Option Addr} {sc : Nat} {xs cs : List Value} (hown : V.ownsRow B 25 6 (.slice sa n sc) n xs) (hlaid : LaidL V (fun b => B ≤ b ∧ (Value.slice sa n sc).ownBlock ≠ some b) l xs)
    (hx : LaidV V (fun b => B ≤ b ∧ (Value.slice sa n sc).ownBlock ≠ some b) x cs)
    (hgrow : V.grownBy w2 (Value.slice sa n sc).ownBlock) {g cap : Nat} {cur : Array Value}
    (hloc : some g = (Value.slice sa n sc).ownBlock ∨ some g = some V.heap.size) (hgB : B ≤ g) (hnc : n + 1 ≤ cap) (hcm : cap ≤ maxLen) (hcz : cur.size = cap * 6) (htk : cur.toList.take ((n + 1) * 6) = xs ++ cs)
    (f3 : Fr (fun k => k = g ∨ k = vb) w2 w3) (hg3 : w3.heap[g]? = some (.cells cur 25 (0, 0)))
    (hv3 : w3.heap[vb]? = some (.cells #[.int .i64 4, .bool false, .int .i64 0, .string ⟨#[]⟩, .slice (some ⟨g, 0, none⟩) (n + 1) cap, .slice none 0 0] 25 (0, 0))) :
    IL W rb r1 vb B s bad dep (l ++ [x]) q w3 := by
  have hrow : ∀ k, (Value.slice sa n sc).ownBlock = some k → B ≤ k := fun k hk => (hown.lt _ hk).1
  have f2 : Fr (fun k => B ≤ k) V w2 := Fr.grown hgrow (fun k hk _ => hrow k hk)
  have f23 : Fr (fun k => B ≤ k ∨ k = vb) V w3 := (f2.mono (fun k _ h => .inl h)).trans (f3.mono (fun k _ h => h.elim (fun e => .inl (by omega)) .inr))
  have hcs := hx.len
  have hkeep : ∀ b, (B ≤ b ∧ (Value.slice sa n sc).ownBlock ≠ some b) → b < V.heap.size → (B ≤ b ∧ (Value.slice (some ⟨g, 0, none⟩) (n + 1) cap).ownBlock ≠ some b) ∧ w3.heap[b]? = V.heap[b]? := by
    intro b hbb hlt
    have hne : g ≠ b := by
      rintro rfl
      rcases hloc with h | h
      · exact hbb.2 h.symm
      · have : g = V.heap.size := by simpa using h
        omega
    refine ⟨⟨hbb.1, by simpa [Value.ownBlock] using hne⟩, ?_⟩
    rw [f3.block b (Nat.lt_of_lt_of_le hlt hgrow.size) (by omega)]
    exact hgrow.block b hlt (fun e => hbb.2 e.symm)
  have hl2 : (l ++ [x]).length = n + 1 := by simp [hn]
  refine ⟨rd.kept f23 (by omega), tb.fr f23 (by omega) (by omega), ?_, ?_, by rw [hl2]; omega, Nat.le_trans hb f23.size, ?_⟩
  · exact fr.new f23 (fun k h => by omega)
  · rw [f23.block r1 (lt_of_block rv) (by omega)]
    exact rv
  · rw [hl2]
    refine ⟨some ⟨g, 0, none⟩, cap, xs ++ cs, hv3, ⟨by rw [List.length_append, hown.1, hcs]; omega, .inr ⟨g, cap, cur, rfl, hgB, hg3, hnc, hcm, hcz, htk⟩⟩, ?_⟩
    exact LaidL.snoc (hx.conv hkeep) (hlaid.conv hkeep)

theorem bodyPost_normal0 {fn : Func} {R : Ending → World → Prop} {tmps : Array Value} {w : World} (h : R (.returned (.tuple #[])) w) (hr : fn.results = #[] := by rfl) : bodyPost Tryz.prog fn R .normal { tmps := tmps, defers := [] } w :=
  ⟨rfl, _, results_none hr _ _ _, h⟩
/-- The operations of the closure. -/
noncomputable def ops78 : Array Oper := match Tryz.f133.body with | some (.region _ ops _) => ops | _ => #[]

set_option maxRecDepth 20000 in
set_option maxHeartbeats 8000000 in
theorem tail78 (W : World) (rb r1 vb B : Nat) (s : ByteArray) (bad : Int) (dep : Nat)
    (h1 : rb < B) (h2 : r1 < B) (h3 : vb < B) (h4 : rb ≠ vb) (h6 : vb ≠ r1) (h8 : 6 ≤ vb) (hWv : W.heap.size ≤ vb) (hWB : W.heap.size ≤ B) (hs : s.size ≤ 65536)
    (l : List GV) (n : Nat) (hn : l.length = n) (x : GV) (q : Nat) (V : World) (hq : q ≤ s.size) (len : l.length + 1 ≤ q)
    (rd : RdAt V rb s q bad dep) (tb : Tabs V) (fr : Fr (Own rb) W V) (rv : V.heap[r1]? = some (.cells #[.pointer (some ⟨rb, 0, none⟩)] 75 (0, 0))) (hb : B ≤ V.heap.size)
    (sa : Option Addr) (sc : Nat) (xs : List Value) (hvv : V.heap[vb]? = some (.cells #[.int .i64 4, .bool false, .int .i64 0, .string ⟨#[]⟩, .slice sa n sc, .slice none 0 0] 25 (0, 0)))
    (hown : V.ownsRow B 25 6 (.slice sa n sc) n xs) (hlaid : LaidL V (fun b => B ≤ b ∧ (Value.slice sa n sc).ownBlock ≠ some b) l xs)
    (k : Int) (b : Bool) (m : Int) (t : ByteArray) (a1 : Option Addr) (l1 c1 : Nat) (a2 : Option Addr) (l2 c2 : Nat)
    (hx : LaidV V (fun b => B ≤ b ∧ (Value.slice sa n sc).ownBlock ≠ some b) x [.int .i64 k, .bool b, .int .i64 m, .string t, .slice a1 l1 c1, .slice a2 l2 c2])
    (Z : Nat) (hZ : V.heap[Z]? = some (.cells #[.int .i64 0, .bool false, .int .i64 0, .string ⟨#[]⟩, .slice none 0 0, .slice none 0 0] 25 (0, 0)))
    (R : Ending → World → Prop) (hR : ∀ w', IL W rb r1 vb B s bad dep (l ++ [x]) q w' → R (.returned (.tuple #[])) w') :
    wpAny Tryz.prog .any ops78 (bodyPost Tryz.prog Tryz.f133 R) 5 #[true, true, true, true, true, true, false, false, false, false, false]
      { tmps := #[.pointer (some ⟨vb, 0, none⟩), .pointer (some ⟨r1, 0, none⟩), .pointer (some ⟨vb, 4, none⟩), .slice sa n sc, .pointer (some ⟨rb, 0, none⟩),
          .agg #[.int .i64 k, .bool b, .int .i64 m, .string t, .slice a1 l1 c1, .slice a2 l2 c2], .int .i64 (n : Int), .slice (some ⟨Z, 0, none⟩) 1 1, undef, undef, undef], defers := [] } V := by
  obtain ⟨i0, hi, hz0, hz1, hz2⟩ := info_parts info26
  dsimp only [ops78, Tryz.f133]
  refine wpAny_ready (rs := [6]) (by kernel_rfl) (by simp) ?_
  refine AllReady.cons rfl (fun K hK => ?_) AllReady.nil
  refine step_append_own rfl (.tmp 3) (.tmp 7) 22 rfl B 25 i0 _ 6 88 Tryz.underlying22 hi hz0 hz1 hz2 rfl (by decide) (.slice sa n sc) n xs rfl hown ⟨Z, 0, none⟩ 1 1 Z6 rfl rfl (cells6 hZ) (by simp [Value.oneCell']) (by unfold maxLen; omega) (by omega) hb ?_
  intro v' w2 hown' hgrow hloc
  rcases hown'.2 with ⟨_, h0⟩ | ⟨g, cap, cur, rfl, hgB, hg, hnc, hcm, hcz, htk⟩
  · omega
  refine hK _ _ ?_
  clear hK K
  have hcells : ∀ i, i < 6 → w2.cell? ⟨g, n * 6 + i, none⟩ = Z6[i]? := by
    intro i hi
    simp only [World.cell?, hg]
    have e1 : (cur.toList.take ((n + 1) * 6))[n * 6 + i]? = (xs ++ Z6)[n * 6 + i]? := by rw [htk]
    rw [List.getElem?_take_of_lt (by omega), List.getElem?_append_right (by rw [hown.1]; omega), hown.1, show n * 6 + i - n * 6 = i by omega] at e1
    simpa using e1
  have y0 := hcells 0 (by decide)
  have y1 := hcells 1 (by decide)
  have y2 := hcells 2 (by decide)
  have y3 := hcells 3 (by decide)
  have y4 := hcells 4 (by decide)
  have y5 := hcells 5 (by decide)
  have hfz : ∀ j, w2.frozen? ⟨g, j, none⟩ = false := box_fz hg
  have z0 := hfz (n * 6 + 0)
  have z1 := hfz (n * 6 + 1)
  have z2 := hfz (n * 6 + 2)
  have z3 := hfz (n * 6 + 3)
  have z4 := hfz (n * 6 + 4)
  have z5 := hfz (n * 6 + 5)
  simp only [Z6, List.getElem?_cons_zero, List.getElem?_cons_succ, Nat.add_zero] at y0 y1 y2 y3 y4 y5 z0
  have hvv2 : w2.heap[vb]? = some (.cells #[.int .i64 4, .bool false, .int .i64 0, .string ⟨#[]⟩, .slice sa n sc, .slice none 0 0] 25 (0, 0)) := by
    rw [hgrow.block vb (lt_of_block hvv) (fun e => by have := (hown.lt _ e.symm).1; omega)]
    exact hvv
  have cv := (box6 hvv2).2.2.2.2.1
  have zv := box_fz hvv2 4
  have hgv : ¬ g = vb := by omega
  have hgv' : ¬ vb = g := by omega
  try simp only [Act.put, List.setIfInBounds_toArray, List.set_cons_zero, List.set_cons_succ]
  refine wpAny_take (i := 7) (v := .pointer (some ⟨g, n * 6, none⟩)) rfl (by kernel_rfl) (by kernel_rfl) (by kernel_rfl) (fun _ _ _ h => h) (Or.inl ⟨by rfl, fun w => by go_simp; intro h; omega⟩) ?_
  try simp only [Act.put, List.setIfInBounds_toArray, List.set_cons_zero, List.set_cons_succ]
  refine wpAny_take (i := 9) (v := .pointer (some ⟨vb, 4, none⟩)) rfl (by kernel_rfl) (by kernel_rfl) (by kernel_rfl) (fun _ _ _ h => h) (Or.inl ⟨by rfl, fun w => by go_simp⟩) ?_
  try simp only [Act.put, List.setIfInBounds_toArray, List.set_cons_zero, List.set_cons_succ]
  refine wpAny_ready (rs := [8, 10]) (by kernel_rfl) (by simp) ?_
  refine AllReady.cons rfl (fun K hK => ?_) (AllReady.cons rfl (fun K hK => ?_) AllReady.nil)
  · go_simp
    refine hK _ _ ?_
    clear hK K
    refine wpAny_ready (rs := [10]) (by kernel_rfl) (by simp) ?_
    refine AllReady.cons rfl (fun K hK => ?_) AllReady.nil
    go_simp
    refine hK _ _ ?_
    clear hK K
    refine wpAny_done (by kernel_rfl) ?_ _
    refine bodyPost_normal0 (hR _ ?_)
    have g1 := heap_set (heap_set (heap_set (heap_set (heap_set (heap_set (hg) (n * 6) (.int .i64 k)) (n * 6 + 1) (.bool b)) (n * 6 + 2) (.int .i64 m)) (n * 6 + 3) (.string t)) (n * 6 + 4) (.slice a1 l1 c1)) (n * 6 + 5) (.slice a2 l2 c2)
    have v1 : (((((((w2.setCell ⟨g, n * 6, none⟩ (.int .i64 k)).setCell ⟨g, n * 6 + 1, none⟩ (.bool b)).setCell ⟨g, n * 6 + 2, none⟩ (.int .i64 m)).setCell ⟨g, n * 6 + 3, none⟩ (.string t)).setCell ⟨g, n * 6 + 4, none⟩ (.slice a1 l1 c1)).setCell ⟨g, n * 6 + 5, none⟩ (.slice a2 l2 c2)).heap[vb]?) = some (.cells #[.int .i64 4, .bool false, .int .i64 0, .string ⟨#[]⟩, .slice sa n sc, .slice none 0 0] 25 (0, 0)) := by
      rw [Below.heap_setCell _ _ _ _ hgv', Below.heap_setCell _ _ _ _ hgv', Below.heap_setCell _ _ _ _ hgv', Below.heap_setCell _ _ _ _ hgv', Below.heap_setCell _ _ _ _ hgv', Below.heap_setCell _ _ _ _ hgv']
      exact hvv2
    refine IL.snoc h1 h2 h3 h4 h6 h8 hWv hWB hn len rd tb fr rv hb hown hlaid hx hgrow (by simpa [Value.ownBlock] using hloc) hgB hnc hcm (by simpa using hcz) (set6_take hown.1 _ _ _ _ _ _ htk) (((((((Fr.setCell _ _ _ (.inl rfl)).trans (Fr.setCell _ _ _ (.inl rfl))).trans (Fr.setCell _ _ _ (.inl rfl))).trans (Fr.setCell _ _ _ (.inl rfl))).trans (Fr.setCell _ _ _ (.inl rfl))).trans (Fr.setCell _ _ _ (.inl rfl))).trans (Fr.setCell _ _ _ (.inr rfl))) ?_ (heap_set v1 4 _)
    rw [Below.heap_setCell _ _ _ _ hgv]
    exact g1
  · go_simp
    refine hK _ _ ?_
    clear hK K
    refine wpAny_ready (rs := [8]) (by kernel_rfl) (by simp) ?_
    refine AllReady.cons rfl (fun K hK => ?_) AllReady.nil
    go_simp
    refine hK _ _ ?_
    clear hK K
    refine wpAny_done (by kernel_rfl) ?_ _
    refine bodyPost_normal0 (hR _ ?_)
    have g0 : (w2.setCell ⟨vb, 4, none⟩ (.slice (some ⟨g, 0, none⟩) (n + 1) cap)).heap[g]? = some (.cells cur 25 (0, 0)) := by
      rw [Below.heap_setCell _ _ _ _ hgv]
      exact hg
    refine IL.snoc h1 h2 h3 h4 h6 h8 hWv hWB hn len rd tb fr rv hb hown hlaid hx hgrow (by simpa [Value.ownBlock] using hloc) hgB hnc hcm (by simpa using hcz) (set6_take hown.1 _ _ _ _ _ _ htk) ((Fr.setCell _ _ _ (.inr rfl)).trans ((((((Fr.setCell _ _ _ (.inl rfl)).trans (Fr.setCell _ _ _ (.inl rfl))).trans (Fr.setCell _ _ _ (.inl rfl))).trans (Fr.setCell _ _ _ (.inl rfl))).trans (Fr.setCell _ _ _ (.inl rfl))).trans (Fr.setCell _ _ _ (.inl rfl)))) (heap_set (heap_set (heap_set (heap_set (heap_set (heap_set (g0) (n * 6) (.int .i64 k)) (n * 6 + 1) (.bool b)) (n * 6 + 2) (.int .i64 m)) (n * 6 + 3) (.string t)) (n * 6 + 4) (.slice a1 l1 c1)) (n * 6 + 5) (.slice a2 l2 c2)) ?_
    rw [Below.heap_setCell _ _ _ _ hgv', Below.heap_setCell _ _ _ _ hgv', Below.heap_setCell _ _ _ _ hgv', Below.heap_setCell _ _ _ _ hgv', Below.heap_setCell _ _ _ _ hgv', Below.heap_setCell _ _ _ _ hgv']
    exact heap_set hvv2 4 _
end Go.Proofs.YtiakidomcjpdhaaGreatDoor
