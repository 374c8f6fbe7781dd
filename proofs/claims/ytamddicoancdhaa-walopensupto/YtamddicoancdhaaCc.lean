/- The first record of some bytes, and what firstRecord does, by walking its text; errors' numbers. -/
import Derived.Test.YtamddicoancdhaaCs
namespace Go.Proofs.Ytamddicoancdhaa
open Go.RowKit
namespace Wl
open Bw Rg

/-- The record of the frame that bytes begin with, if it is a whole one. -/
def fst (bs : List UInt8) : Option (List UInt8) :=
  if bs.length < 8 then none else if 2097152 < num bs ∨ bs.length - 8 < num bs then none
  else if num (bs.drop 4) = chk (bs.take 4 ++ (bs.drop 8).take (num bs)) then some ((bs.drop 8).take (num bs)) else none
theorem fst_len {bs r : List UInt8} (h : fst bs = some r) : 8 + r.length ≤ bs.length := by
  unfold fst at h
  split at h
  · cases h
  · split at h
    · cases h
    · split at h
      · simp only [Option.some.injEq] at h
        subst h
        simp
        omega
      · cases h
/-- What firstRecord answers. -/
def FstOut (w : World) (v : Value) (bs : List UInt8) (e : Ending) (w' : World) : Prop :=
  ∃ r, e = .returned (.tuple #[r, .bool (fst bs).isSome]) ∧ (∀ x, fst bs = some x → SlM w' r x ∧ blk r = blk v) ∧ Below w.heap.size w w'
theorem first_short (v : Value) (bs : List UInt8) (w : World) (hv : SlM w v bs) (h : bs.length < 8) : Calls Try.prog 31 #[v] w (FstOut w v bs) := by
  have hf : fst bs = none := if_pos h
  have hlen := SlM.len hv
  have h' : (bs.length : Int) < 8 := by omega
  clear hv
  unfold FstOut
  rw [hf]
  obtain ⟨n, hn⟩ : ∃ n, bs.length = n := ⟨_, rfl⟩
  rw [hn] at hlen h'
  go_enter Try.func31, Try.ntmps31
  go_wp2
  go_ret2
  exact ⟨_, rfl, (fun x hx => by cases hx), Below.refl _ _⟩
set_option maxHeartbeats 1000000 in
theorem first_long (v : Value) (bs : List UInt8) (w : World) (hv : SlM w v bs) (h : 8 ≤ bs.length) (hl : bs.length ≤ 140737488355328) : Calls Try.prog 31 #[v] w (FstOut w v bs) := by
  have hlen := SlM.len hv
  obtain ⟨u4, s4, hu4, b4⟩ := SlM.from hv 4 (by omega) .i64
  obtain ⟨u8, s8, hu8, b8⟩ := SlM.from hv 8 (by omega) .i64
  obtain ⟨t4, st4, ht4, bt4⟩ := SlM.upto hv 4 (by omega) .i64
  have s4' : ∀ W, (Instr.slice 22 v (some (.int .i64 4)) none none).run Try.prog W = .ok u4 W := s4
  have s8' : ∀ W, (Instr.slice 22 v (some (.int .i64 8)) none none).run Try.prog W = .ok u8 W := s8
  have st4' : ∀ W, (Instr.slice 22 v none (some (.int .i64 4)) none).run Try.prog W = .ok t4 W := st4
  clear s4 s8 st4
  have hlen8 := SlM.len hu8
  rw [List.length_drop] at hlen8
  have h' : ¬ (bs.length : Int) < 8 := by omega
  have c1 : ∀ x : Cl w.heap.size w, Calls Try.prog 44 #[v] x.u fun e w' => e = .returned (.int .u32 (num bs : Int)) ∧ Below x.u.heap.size x.u w' := fun x => numberOf_any v bs x.u (hv.below x.h (Nat.le_refl _)) (by omega) hl
  have c2 : ∀ x : Cl w.heap.size w, Calls Try.prog 44 #[u4] x.u fun e w' => e = .returned (.int .u32 (num (bs.drop 4) : Int)) ∧ Below x.u.heap.size x.u w' := fun x => numberOf_any u4 (bs.drop 4) x.u (hu4.below x.h (Nat.le_refl _)) (by rw [List.length_drop]; omega) (by rw [List.length_drop]; omega)
  have n1 := num_lt bs
  have n2 := num_lt (bs.drop 4)
  have hfst : fst bs = if 2097152 < num bs ∨ bs.length - 8 < num bs then none else if num (bs.drop 4) = chk (bs.take 4 ++ (bs.drop 8).take (num bs)) then some ((bs.drop 8).take (num bs)) else none := if_neg (by omega)
  obtain ⟨N, hN⟩ : ∃ N, num bs = N := ⟨_, rfl⟩
  obtain ⟨M, hM⟩ : ∃ M, num (bs.drop 4) = M := ⟨_, rfl⟩
  obtain ⟨n, hn⟩ : ∃ n, bs.length = n := ⟨_, rfl⟩
  obtain ⟨n8, hn8⟩ : ∃ n8, n - 8 = n8 := ⟨_, rfl⟩
  rw [hN] at c1 n1 hfst
  rw [hM] at c2 n2 hfst
  rw [hn] at hlen hlen8 h' h hl hfst
  rw [hn8] at hlen8 hfst
  have hne := Cl.ne w.heap.size w
  have HN : Hid (bs.length = n) := hn
  have HV : Hid (SlM w v bs) := hv
  have H8 : Hid (SlM w u8 (bs.drop 8) ∧ blk u8 = blk v) := ⟨hu8, b8⟩
  have HT : Hid (SlM w t4 (bs.take 4)) := ht4
  have HF : Hid (fst bs = if 2097152 < N ∨ n8 < N then none else if M = chk (bs.take 4 ++ (bs.drop 8).take N) then some ((bs.drop 8).take N) else none) := hfst
  have HN8 : Hid (n - 8 = n8) := hn8
  clear hN hM hn hv hu8 ht4 hu4 b4 b8 bt4 hfst hn8
  have hw3 : IntKind.i64.wrap (N : Int) = (N : Int) := by rw [IntKind.wrap_i64]; omega
  unfold FstOut
  by_cases hbig : 2097152 < N
  · have hbig' : (2097152 : Int) < (N : Int) := by omega
    have HF' : Hid (fst bs = none) := by show _ = _; rw [HF.out, if_pos (.inl hbig)]
    rw [HF'.out]
    go_enter Try.func31, Try.ntmps31
    go_wp2
    refine region_cl (N := w.heap.size) (W := w) (by kernel_rfl) (by kernel_rfl) (Below.refl _ _) ?_
    go_big_quiet_step (fail)
    go_big_quiet_step ((go_at_call 44; exact cl_of (c1 _) (Nat.le_refl _)))
    go_big_quiet_step (fail)
    go_big_quiet_step (fail)
    go_big_quiet_step ((go_at_call 44; exact cl_of (c2 _) (Nat.le_refl _)))
    repeat (go_big_quiet_step (fail))
    refine wpQuiet_nil ?_
    rintro _ ⟨x, rfl⟩
    have hx := x.h
    clear c1 c2
    go_wp2
    go_ret2
    exact ⟨_, rfl, (fun x hx => by cases hx), hx⟩
  · have hbig' : ¬ (2097152 : Int) < (N : Int) := by omega
    by_cases hmore : n8 < N
    · have hmore' : (n8 : Int) < (N : Int) := by omega
      have HF' : Hid (fst bs = none) := by show _ = _; rw [HF.out, if_pos (.inr hmore)]
      rw [HF'.out]
      go_enter Try.func31, Try.ntmps31
      go_wp2
      refine region_cl (N := w.heap.size) (W := w) (by kernel_rfl) (by kernel_rfl) (Below.refl _ _) ?_
      go_big_quiet_step (fail)
      go_big_quiet_step ((go_at_call 44; exact cl_of (c1 _) (Nat.le_refl _)))
      go_big_quiet_step (fail)
      go_big_quiet_step (fail)
      go_big_quiet_step ((go_at_call 44; exact cl_of (c2 _) (Nat.le_refl _)))
      repeat (go_big_quiet_step (fail))
      refine wpQuiet_nil ?_
      rintro _ ⟨x, rfl⟩
      have hx := x.h
      clear c1 c2
      go_wp2
      go_ret2
      exact ⟨_, rfl, (fun x hx => by cases hx), hx⟩
    · have hmore' : ¬ (n8 : Int) < (N : Int) := by omega
      obtain ⟨r, sr, hr, br⟩ := SlM.upto H8.out.1 N (by rw [List.length_drop, HN.out, HN8.out]; omega) .u32
      have HF2 : Hid (fst bs = if M = chk (bs.take 4 ++ (bs.drop 8).take N) then some ((bs.drop 8).take N) else none) := by show _ = _; rw [HF.out, if_neg (by omega)]
      have hck := chk_lt (bs.take 4 ++ (bs.drop 8).take N)
      have c3 := fun W (hW : Below w.heap.size w W) => checkOf_any t4 r (bs.take 4) ((bs.drop 8).take N) W (HT.out.below hW (Nat.le_refl _)) (hr.below hW (Nat.le_refl _)) (by simp; omega) (by have := List.length_take_le N (bs.drop 8); omega)
      obtain ⟨C, hC⟩ : ∃ C, chk (bs.take 4 ++ (bs.drop 8).take N) = C := ⟨_, rfl⟩
      rw [hC] at hck c3
      have HF3 : Hid (fst bs = if M = C then some ((bs.drop 8).take N) else none) := by show _ = _; rw [HF2.out, hC]
      have HR : Hid (SlM w r ((bs.drop 8).take N) ∧ blk r = blk v) := ⟨hr, br.trans H8.out.2⟩
      have e : (fst bs).isSome = ((M : Int) == (C : Int)) := by
        rw [HF3.out, Bool.eq_iff_iff]
        split
        · simp; omega
        · simp; omega
      rw [e]
      clear e hC HF HF2 hr br
      go_enter Try.func31, Try.ntmps31
      go_wp2
      refine region_cl (N := w.heap.size) (W := w) (by kernel_rfl) (by kernel_rfl) (Below.refl _ _) ?_
      go_big_quiet_step (fail)
      go_big_quiet_step ((go_at_call 44; exact cl_of (c1 _) (Nat.le_refl _)))
      go_big_quiet_step (fail)
      go_big_quiet_step (fail)
      go_big_quiet_step ((go_at_call 44; exact cl_of (c2 _) (Nat.le_refl _)))
      repeat (go_big_quiet_step (fail))
      refine wpQuiet_nil ?_
      rintro _ ⟨x, rfl⟩
      have c4 := c3 _ x.h
      have HX : Hid (Below w.heap.size w x.u) := x.h
      clear c1 c2 c3
      go_wp2_with (go_at_call 27; refine Calls.mono c4 ?_; rintro e w1 ⟨rfl, rfl⟩)
      go_ret2
      refine ⟨_, rfl, fun y hy => ?_, HX.out⟩
      rw [HF3.out] at hy
      split at hy
      · cases hy
        exact ⟨HR.out.1.below HX.out (Nat.le_refl _), HR.out.2⟩
      · cases hy
theorem first_any (v : Value) (bs : List UInt8) (w : World) (hv : SlM w v bs) (hl : bs.length ≤ 140737488355328) : Calls Try.prog 31 #[v] w (FstOut w v bs) := by
  by_cases h : bs.length < 8
  · exact first_short v bs w hv h
  · exact first_long v bs w hv (by omega) hl
theorem code_0 (w : World) : Calls Try.prog 13 #[.nilIface] w fun e w' => e = .returned (.int .i64 0) ∧ w' = w := by
  go_enter Try.func13, Try.ntmps13
  go_wp2
  go_ret
  exact ⟨rfl, rfl⟩
theorem code_2 (w : World) : Calls Try.prog 13 #[Dk.code 2] w fun e w' => e = .returned (.int .i64 2) ∧ w' = w := by
  have n1 : ∀ W : World, (binOp .eql 25 (.iface 47 (.int .i64 2)) (.iface 47 (.int .i64 1))).run Try.prog W = .ok (.bool false) W := fun W => Dk.bin_err 2 1 W
  have n2 : ∀ W : World, (binOp .eql 25 (.iface 47 (.int .i64 2)) (.iface 47 (.int .i64 2))).run Try.prog W = .ok (.bool true) W := fun W => Dk.bin_err 2 2 W
  unfold Dk.code
  go_enter Try.func13, Try.ntmps13
  go_wp2
  go_ret
  exact ⟨rfl, rfl⟩
end Wl
end Go.Proofs.Ytamddicoancdhaa
