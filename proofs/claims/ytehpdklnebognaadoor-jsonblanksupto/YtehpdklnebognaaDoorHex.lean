/- What hexDigit, utf.Pair and numberAhead of the reader do: contracts, by walking their text. -/
import Derived.Test.YtehpdklnebognaaDoorCh
namespace Go.Proofs.YtehpdklnebognaaDoor
open Go.RowKit

/-- What a hexadecimal digit counts; -1: it is none. -/
def hexD (c : Nat) : Int := if 48 ≤ c ∧ c ≤ 57 then (c : Int) - 48 else if 97 ≤ c ∧ c ≤ 102 then (c : Int) - 97 + 10 else if 65 ≤ c ∧ c ≤ 70 then (c : Int) - 65 + 10 else -1
theorem hexD_bd (c : Nat) : -1 ≤ hexD c ∧ hexD c ≤ 15 := by
  unfold hexD
  repeat' split
  all_goals omega

theorem hexDigit_any (c : Nat) (w : World) (hc : c ≤ 2147483647) :
    Calls Tryd.prog 95 #[.int .i32 (c : Int)] w fun e w' => e = .returned (.int .i64 (hexD c)) ∧ w' = w := by
  go_enter Tryd.func95, Tryd.ntmps95
  go_wp2
  all_goals
    go_ret
    refine ⟨?_, rfl⟩
    simp [hexD]
    try (repeat' split) <;> omega

theorem pair_no (h l : Int) (w : World) (hn : h < 55296 ∨ 56320 ≤ h ∨ l < 56320 ∨ 57343 < l) :
    Calls Tryd.prog 96 #[.int .i64 h, .int .i64 l] w fun e w' => e = .returned (.tuple #[.int .i64 0, .iface 31 (.int .i64 1)]) ∧ w' = w := by
  by_cases h1 : h < 55296
  · go_enter Tryd.func96, Tryd.ntmps96
    go_wp2
    go_ret2
    exact ⟨rfl, rfl⟩
  · by_cases h2 : 56320 ≤ h
    · go_enter Tryd.func96, Tryd.ntmps96
      go_wp2
      go_ret2
      exact ⟨rfl, rfl⟩
    · by_cases h3 : l < 56320
      · go_enter Tryd.func96, Tryd.ntmps96
        go_wp2
        go_ret2
        exact ⟨rfl, rfl⟩
      · have h4 : 57343 < l := by omega
        go_enter Tryd.func96, Tryd.ntmps96
        go_wp2
        go_ret2
        exact ⟨rfl, rfl⟩
theorem pair_yes (h l : Int) (w : World) (h1 : 55296 ≤ h) (h2 : h < 56320) (h3 : 56320 ≤ l) (h4 : l ≤ 57343) :
    Calls Tryd.prog 96 #[.int .i64 h, .int .i64 l] w fun e w' => e = .returned (.tuple #[.int .i64 (65536 + (h - 55296) * 1024 + l - 56320), .nilIface]) ∧ w' = w := by
  go_enter Tryd.func96, Tryd.ntmps96
  go_wp2
  go_ret2
  exact ⟨rfl, rfl⟩

def aheadF (t : ByteArray) : Nat → Nat → Int → Int
  | 0, _, n => n
  | f + 1, pos, n => if pos < t.size then (if hexD (Utf8.decode t pos).1 = -1 then -1 else aheadF t f (pos + (Utf8.decode t pos).2) (n * 16 + hexD (Utf8.decode t pos).1)) else n
def aheadT (s : ByteArray) (p : Nat) : ByteArray := ⟨(Lib.trimPrefix (s.extract p s.size).data.toList [92, 117]).toArray⟩
/-- The number of the escape that comes next; -1: none does. -/
def aheadS (s : ByteArray) (p : Nat) : Int :=
  if Lib.hasPrefix (s.extract p s.size).data.toList [92, 117] = true then (if (aheadT s p).size < 4 then -1 else aheadF ((aheadT s p).extract 0 4) 4 0 0) else -1

theorem pow_step (n d pos k : Nat) (h : n < 16 ^ pos) (hd : d < 16) (hk : 0 < k) : n * 16 + d < 16 ^ (pos + k) := by
  have h1 : 16 ^ (pos + 1) ≤ 16 ^ (pos + k) := Nat.pow_le_pow_right (by decide) (by omega)
  rw [Nat.pow_succ] at h1
  omega
theorem pow_le (pos : Nat) (h : pos ≤ 4) : 16 ^ pos ≤ 65536 := Nat.pow_le_pow_right (n := 16) (by decide) h

set_option maxHeartbeats 4000000 in
theorem ahead_any (w : World) (rb : Nat) (s : ByteArray) (p : Nat) (bad : Int) (dep : Nat) (hr : RdAt w rb s p bad dep) (hp : p ≤ s.size) (_hs : s.size ≤ 140737488351232) :
    Calls Tryd.prog 97 #[.pointer (some ⟨rb, 0, none⟩)] w fun e w' => e = .returned (.int .i64 (aheadS s p)) ∧ Below w.heap.size w w' := by
  have c0 := hr.c0
  have c1 := hr.c1
  have hcp := fun w => strings_CutPrefix (s.extract p s.size) ⟨#[92, 117]⟩ w
  have hs1 : (p : Int) ≤ (s.size : Int) := by omega
  obtain ⟨T, hT⟩ : ∃ T, (⟨(Lib.trimPrefix (s.extract p s.size).data.toList [92, 117]).toArray⟩ : ByteArray) = T := ⟨_, rfl⟩
  cases hx : Lib.hasPrefix (s.extract p s.size).data.toList [92, 117] with
  | false =>
    have E : Hid (aheadS s p = -1) := by show _ = _; rw [aheadS, hx]; simp
    simp only [hT, hx] at hcp
    go_enter Tryd.func97, Tryd.ntmps97
    go_wp2
    go_quiet (first | (go_at_call 103; refine Calls.quiet_of_same (hcp _)))
    go_wp2
    go_ret
    rw [E.out]
    exact ⟨rfl, below_drewN (Below.refl _ _) _⟩
  | true =>
    have E0 : Hid (aheadS s p = if T.size < 4 then -1 else aheadF (T.extract 0 4) 4 0 0) := by show _ = _; rw [aheadS, hx, if_pos rfl]; unfold aheadT; rw [hT]
    simp only [hT, hx] at hcp
    clear hT
    by_cases h4 : T.size < 4
    · have E : Hid (aheadS s p = -1) := by show _ = _; rw [E0.out, if_pos h4]
      have h4' : (T.size : Int) < 4 := by omega
      go_enter Tryd.func97, Tryd.ntmps97
      go_wp2
      go_quiet (first | (go_at_call 103; refine Calls.quiet_of_same (hcp _)))
      go_wp2
      go_ret
      rw [E.out]
      exact ⟨rfl, below_drewN (Below.refl _ _) _⟩
    · have E : Hid (aheadS s p = aheadF (T.extract 0 4) 4 0 0) := by show _ = _; rw [E0.out, if_neg h4]
      have h4' : ¬ (T.size : Int) < 4 := by omega
      have hsz : (T.extract 0 4).size = 4 := by simp; omega
      go_enter Tryd.func97, Tryd.ntmps97
      go_wp2
      go_quiet (first | (go_at_call 103; refine Calls.quiet_of_same (hcp _)))
      go_wp2
      obtain ⟨U, hU⟩ : ∃ U, T.extract 0 4 = U := ⟨_, rfl⟩
      simp only [hU] at hsz E ⊢
      clear hU E0
      go_loopw [5] (fun v w' => ∃ (pos f m : Nat), w' = (w.drewN nq).iter U pos ∧ v = .int .i64 (m : Int) ∧ Hid (aheadF U f pos m = aheadF U 4 0 0) ∧ 4 ≤ pos + f ∧ m < 16 ^ pos ∧ pos ≤ 4) (fun _ w' => U.size - w'.iterPos w.heap.size)
      case atStart => exact ⟨0, 4, 0, rfl, rfl, rfl, by omega, by decide, by omega⟩
      case round =>
        obtain ⟨pos, f, m, rfl, rfl, HA, hf, hm, hps⟩ := hrel
        by_cases hpp : pos < U.size
        · have hnx : ∀ ty, (Instr.next (.pointer (some ⟨w.heap.size, 0, none⟩)) true ty).run Tryd.prog ((w.drewN nq).iter U pos) = _ := fun ty => run_next_any (w.drewN nq) U pos ty hpp
          have hwd := decode_fits U pos hpp
          have hdl := decode_le U pos
          obtain ⟨f, rfl⟩ : ∃ g, f = g + 1 := ⟨f - 1, by omega⟩
          have hbd := hexD_bd (Utf8.decode U pos).1
          have hpw := pow_le pos hps
          by_cases hh : hexD (Utf8.decode U pos).1 = -1
          · have hh' : (hexD (Utf8.decode U pos).1 == -1) = true := by simp [hh]
            have HE : Hid (aheadS s p = -1) := by show _ = _; rw [E.out, ← HA.out, aheadF, if_pos hpp, if_pos hh]
            clear HA E hh
            go_wp2_with (first | (go_at_call 95; refine (hexDigit_any _ _ (by omega)).mono ?_; rintro e w1 ⟨rfl, rfl⟩))
            go_ret
            rw [HE.out]
            exact ⟨rfl, (below_drewN (Below.refl _ _) _).alloc (Nat.le_refl _) _⟩
          · have hh' : (hexD (Utf8.decode U pos).1 == -1) = false := by simpa using hh
            have HA' : Hid (aheadF U f (pos + (Utf8.decode U pos).2) ((m : Int) * 16 + hexD (Utf8.decode U pos).1) = aheadF U 4 0 0) := by show _ = _; rw [← HA.out, aheadF, if_pos hpp, if_neg hh]
            have hpw2 := pow_step m (hexD (Utf8.decode U pos).1).toNat pos (Utf8.decode U pos).2 hm (by omega) (by omega)
            clear HA E
            go_wp2_with (first | (go_at_call 95; refine (hexDigit_any _ _ hdl).mono ?_; rintro e w1 ⟨rfl, rfl⟩))
            go_roundw
            case rel => exact ⟨_, f, m * 16 + (hexD (Utf8.decode U pos).1).toNat, rfl, by simp; omega, by rw [show ((m * 16 + (hexD (Utf8.decode U pos).1).toNat : Nat) : Int) = (m : Int) * 16 + hexD (Utf8.decode U pos).1 by omega]; exact HA', by omega, hpw2, by omega⟩
            case measure =>
              rw [show ((w.drewN nq).iter U (pos + (Utf8.decode U pos).2)).iterPos w.heap.size = pos + (Utf8.decode U pos).2 from iterPos_of (World.iter_heap (w.drewN nq) U _), show ((w.drewN nq).iter U pos).iterPos w.heap.size = pos from iterPos_of (World.iter_heap (w.drewN nq) U _)]
              omega
        · have hnx : ∀ ty, (Instr.next (.pointer (some ⟨w.heap.size, 0, none⟩)) true ty).run Tryd.prog ((w.drewN nq).iter U pos) = _ := fun ty => run_next_end (w.drewN nq) U pos ty hpp
          have HE : Hid ((m : Int) = aheadS s p) := by
            show _ = _
            rw [E.out, ← HA.out]
            cases f with
            | zero => rfl
            | succ f => rw [aheadF, if_neg hpp]
          clear HA E
          go_wp2
          go_ret
          rw [← HE.out]
          exact ⟨rfl, (below_drewN (Below.refl _ _) _).alloc (Nat.le_refl _) _⟩
end Go.Proofs.YtehpdklnebognaaDoor
