/- The first record of some bytes, and what firstRecord does, by walking its text; errors' numbers. The records that bytes begin with: plain mathematics; rows of slices that a call owns. -/
import Derived.Test.YtcinjdaanhpbjaaGreatXaf
namespace Go.Proofs.YtcinjdaanhpbjaaGreat
open Go.RowKit
namespace Wl
open Bw Rg

/-- The record of the frame that bytes begin with, if it is a whole one. -/
def fst (bs : List UInt8) : Option (List UInt8) :=
  if bs.length < 8 then none else if 2097152 < num bs ∨ bs.length - 8 < num bs then none
  else if num (bs.drop 4) = chk (bs.take 4 ++ (bs.drop 8).take (num bs)) then some ((bs.drop 8).take (num bs)) else none
theorem fst_len {bs r : List UInt8} (h : fst bs = some r) : 8 + r.length ≤ bs.length := by
  unfold fst at h
  split at h
  · cases h
  · split at h
    · cases h
    · split at h
      · simp only [Option.some.injEq] at h
        subst h
        simp
        omega
      · cases h
/-- What firstRecord answers. -/
def FstOut (w : World) (v : Value) (bs : List UInt8) (e : Ending) (w' : World) : Prop :=
  ∃ r, e = .returned (.tuple #[r, .bool (fst bs).isSome]) ∧ (∀ x, fst bs = some x → SlM w' r x ∧ blk r = blk v) ∧ Below w.heap.size w w'
theorem first_short (v : Value) (bs : List UInt8) (w : World) (hv : SlM w v bs) (h : bs.length < 8) : Calls Tryz.prog 94 #[v] w (FstOut w v bs) := by
  have hf : fst bs = none := if_pos h
  have hlen := SlM.len hv
  have h' : (bs.length : Int) < 8 := by omega
  clear hv
  unfold FstOut
  rw [hf]
  obtain ⟨n, hn⟩ : ∃ n, bs.length = n := ⟨_, rfl⟩
  rw [hn] at hlen h'
  go_enter Tryz.func94, Tryz.ntmps94
  go_wp2
  go_ret2
  exact ⟨_, rfl, (fun x hx => by cases hx), Below.refl _ _⟩
set_option maxHeartbeats 1000000 in
theorem first_long (v : Value) (bs : List UInt8) (w : World) (hv : SlM w v bs) (h : 8 ≤ bs.length) (hl : bs.length ≤ 140737488355328) : Calls Tryz.prog 94 #[v] w (FstOut w v bs) := by
  have hlen := SlM.len hv
  obtain ⟨u4, s4, hu4, b4⟩ := SlM.from hv 4 (by omega) .i64
  obtain ⟨u8, s8, hu8, b8⟩ := SlM.from hv 8 (by omega) .i64
  obtain ⟨t4, st4, ht4, bt4⟩ := SlM.upto hv 4 (by omega) .i64
  have s4' : ∀ W, (Instr.slice 43 v (some (.int .i64 4)) none none).run Tryz.prog W = .ok u4 W := s4
  have s8' : ∀ W, (Instr.slice 43 v (some (.int .i64 8)) none none).run Tryz.prog W = .ok u8 W := s8
  have st4' : ∀ W, (Instr.slice 43 v none (some (.int .i64 4)) none).run Tryz.prog W = .ok t4 W := st4
  clear s4 s8 st4
  have hlen8 := SlM.len hu8
  rw [List.length_drop] at hlen8
  have h' : ¬ (bs.length : Int) < 8 := by omega
  have c1 : ∀ x : Cl w.heap.size w, Calls Tryz.prog 113 #[v] x.u fun e w' => e = .returned (.int .u32 (num bs : Int)) ∧ Below x.u.heap.size x.u w' := fun x => numberOf_any v bs x.u (hv.below x.h (Nat.le_refl _)) (by omega) hl
  have c2 : ∀ x : Cl w.heap.size w, Calls Tryz.prog 113 #[u4] x.u fun e w' => e = .returned (.int .u32 (num (bs.drop 4) : Int)) ∧ Below x.u.heap.size x.u w' := fun x => numberOf_any u4 (bs.drop 4) x.u (hu4.below x.h (Nat.le_refl _)) (by rw [List.length_drop]; omega) (by rw [List.length_drop]; omega)
  have n1 := num_lt bs
  have n2 := num_lt (bs.drop 4)
  have hfst : fst bs = if 2097152 < num bs ∨ bs.length - 8 < num bs then none else if num (bs.drop 4) = chk (bs.take 4 ++ (bs.drop 8).take (num bs)) then some ((bs.drop 8).take (num bs)) else none := if_neg (by omega)
  obtain ⟨N, hN⟩ : ∃ N, num bs = N := ⟨_, rfl⟩
  obtain ⟨M, hM⟩ : ∃ M, num (bs.drop 4) = M := ⟨_, rfl⟩
  obtain ⟨n, hn⟩ : ∃ n, bs.length = n := ⟨_, rfl⟩
  obtain ⟨n8, hn8⟩ : ∃ n8, n - 8 = n8 := ⟨_, rfl⟩
  rw [hN] at c1 n1 hfst
  rw [hM] at c2 n2 hfst
  rw [hn] at hlen hlen8 h' h hl hfst
  rw [hn8] at hlen8 hfst
  have hne := Cl.ne w.heap.size w
  have HN : Hid (bs.length = n) := hn
  have HV : Hid (SlM w v bs) := hv
  have H8 : Hid (SlM w u8 (bs.drop 8) ∧ blk u8 = blk v) := ⟨hu8, b8⟩
  have HT : Hid (SlM w t4 (bs.take 4)) := ht4
  have HF : Hid (fst bs = if 2097152 < N ∨ n8 < N then none else if M = chk (bs.take 4 ++ (bs.drop 8).take N) then some ((bs.drop 8).take N) else none) := hfst
  have HN8 : Hid (n - 8 = n8) := hn8
  clear hN hM hn hv hu8 ht4 hu4 b4 b8 bt4 hfst hn8
  have hw3 : IntKind.i64.wrap (N : Int) = (N : Int) := by rw [IntKind.wrap_i64]; omega
  unfold FstOut
  by_cases hbig : 2097152 < N
  · have hbig' : (2097152 : Int) < (N : Int) := by omega
    have HF' : Hid (fst bs = none) := by show _ = _; rw [HF.out, if_pos (.inl hbig)]
    rw [HF'.out]
    go_enter Tryz.func94, Tryz.ntmps94
    go_wp2
    refine region_cl (N := w.heap.size) (W := w) (by kernel_rfl) (by kernel_rfl) (Below.refl _ _) ?_
    go_big_quiet_step (fail)
    go_big_quiet_step ((go_at_call 113; exact cl_of (c1 _) (Nat.le_refl _)))
    go_big_quiet_step (fail)
    go_big_quiet_step (fail)
    go_big_quiet_step ((go_at_call 113; exact cl_of (c2 _) (Nat.le_refl _)))
    repeat (go_big_quiet_step (fail))
    refine wpQuiet_nil ?_
    rintro _ ⟨x, rfl⟩
    have hx := x.h
    clear c1 c2
    go_wp2
    go_ret2
    exact ⟨_, rfl, (fun x hx => by cases hx), hx⟩
  · have hbig' : ¬ (2097152 : Int) < (N : Int) := by omega
    by_cases hmore : n8 < N
    · have hmore' : (n8 : Int) < (N : Int) := by omega
      have HF' : Hid (fst bs = none) := by show _ = _; rw [HF.out, if_pos (.inr hmore)]
      rw [HF'.out]
      go_enter Tryz.func94, Tryz.ntmps94
      go_wp2
      refine region_cl (N := w.heap.size) (W := w) (by kernel_rfl) (by kernel_rfl) (Below.refl _ _) ?_
      go_big_quiet_step (fail)
      go_big_quiet_step ((go_at_call 113; exact cl_of (c1 _) (Nat.le_refl _)))
      go_big_quiet_step (fail)
      go_big_quiet_step (fail)
      go_big_quiet_step ((go_at_call 113; exact cl_of (c2 _) (Nat.le_refl _)))
      repeat (go_big_quiet_step (fail))
      refine wpQuiet_nil ?_
      rintro _ ⟨x, rfl⟩
      have hx := x.h
      clear c1 c2
      go_wp2
      go_ret2
      exact ⟨_, rfl, (fun x hx => by cases hx), hx⟩
    · have hmore' : ¬ (n8 : Int) < (N : Int) := by omega
      obtain ⟨r, sr, hr, br⟩ := SlM.upto H8.out.1 N (by rw [List.length_drop, HN.out, HN8.out]; omega) .u32
      have HF2 : Hid (fst bs = if M = chk (bs.take 4 ++ (bs.drop 8).take N) then some ((bs.drop 8).take N) else none) := by show _ = _; rw [HF.out, if_neg (by omega)]
      have hck := chk_lt (bs.take 4 ++ (bs.drop 8).take N)
      have c3 := fun W (hW : Below w.heap.size w W) => checkOf_any t4 r (bs.take 4) ((bs.drop 8).take N) W (HT.out.below hW (Nat.le_refl _)) (hr.below hW (Nat.le_refl _)) (by simp; omega) (by have := List.length_take_le N (bs.drop 8); omega)
      obtain ⟨C, hC⟩ : ∃ C, chk (bs.take 4 ++ (bs.drop 8).take N) = C := ⟨_, rfl⟩
      rw [hC] at hck c3
      have HF3 : Hid (fst bs = if M = C then some ((bs.drop 8).take N) else none) := by show _ = _; rw [HF2.out, hC]
      have HR : Hid (SlM w r ((bs.drop 8).take N) ∧ blk r = blk v) := ⟨hr, br.trans H8.out.2⟩
      have e : (fst bs).isSome = ((M : Int) == (C : Int)) := by
        rw [HF3.out, Bool.eq_iff_iff]
        split
        · simp; omega
        · simp; omega
      rw [e]
      clear e hC HF HF2 hr br
      go_enter Tryz.func94, Tryz.ntmps94
      go_wp2
      refine region_cl (N := w.heap.size) (W := w) (by kernel_rfl) (by kernel_rfl) (Below.refl _ _) ?_
      go_big_quiet_step (fail)
      go_big_quiet_step ((go_at_call 113; exact cl_of (c1 _) (Nat.le_refl _)))
      go_big_quiet_step (fail)
      go_big_quiet_step (fail)
      go_big_quiet_step ((go_at_call 113; exact cl_of (c2 _) (Nat.le_refl _)))
      repeat (go_big_quiet_step (fail))
      refine wpQuiet_nil ?_
      rintro _ ⟨x, rfl⟩
      have c4 := c3 _ x.h
      have HX : Hid (Below w.heap.size w x.u) := x.h
      clear c1 c2 c3
      go_wp2_with (go_at_call 71; refine Calls.mono c4 ?_; rintro e w1 ⟨rfl, rfl⟩)
      go_ret2
      refine ⟨_, rfl, fun y hy => ?_, HX.out⟩
      rw [HF3.out] at hy
      split at hy
      · cases hy
        exact ⟨HR.out.1.below HX.out (Nat.le_refl _), HR.out.2⟩
      · cases hy
theorem first_any (v : Value) (bs : List UInt8) (w : World) (hv : SlM w v bs) (hl : bs.length ≤ 140737488355328) : Calls Tryz.prog 94 #[v] w (FstOut w v bs) := by
  by_cases h : bs.length < 8
  · exact first_short v bs w hv h
  · exact first_long v bs w hv (by omega) hl
theorem code_0 (w : World) : Calls Tryz.prog 13 #[.nilIface] w fun e w' => e = .returned (.int .i64 0) ∧ w' = w := by
  go_enter Tryz.func13, Tryz.ntmps13
  go_wp2
  go_ret
  exact ⟨rfl, rfl⟩
theorem code_2 (w : World) : Calls Tryz.prog 13 #[Dk.code 2] w fun e w' => e = .returned (.int .i64 2) ∧ w' = w := by
  have n1 : ∀ W : World, (binOp .eql 38 (.iface 48 (.int .i64 2)) (.iface 48 (.int .i64 1))).run Tryz.prog W = .ok (.bool false) W := fun W => Dk.bin_err 2 1 W
  have n2 : ∀ W : World, (binOp .eql 38 (.iface 48 (.int .i64 2)) (.iface 48 (.int .i64 2))).run Tryz.prog W = .ok (.bool true) W := fun W => Dk.bin_err 2 2 W
  unfold Dk.code
  go_enter Tryz.func13, Tryz.ntmps13
  go_wp2
  go_ret
  exact ⟨rfl, rfl⟩
end Wl
end Go.Proofs.YtcinjdaanhpbjaaGreat

namespace Go.Proofs.YtcinjdaanhpbjaaGreat
open Go.RowKit
namespace Wl
open Bw Rg

def scanF : Nat → List UInt8 → List (List UInt8) × Nat
  | 0, _ => ([], 0)
  | k + 1, bs => match fst bs with
    | none => ([], 0)
    | some r => (r :: (scanF k (bs.drop (8 + r.length))).1, 8 + r.length + (scanF k (bs.drop (8 + r.length))).2)
/-- The records of the whole frames that bytes begin with, and how many bytes these take. -/
def scan (bs : List UInt8) : List (List UInt8) × Nat := scanF (bs.length + 1) bs
theorem scanF_fuel : ∀ (k k' : Nat) (bs : List UInt8), bs.length < k → bs.length < k' → scanF k bs = scanF k' bs
  | 0, _, _, h, _ => by omega
  | _ + 1, 0, _, _, h => by omega
  | k + 1, k' + 1, bs, h, h' => by
    unfold scanF
    cases hf : fst bs with
    | none => rfl
    | some r =>
      have hl := fst_len hf
      have e := scanF_fuel k k' (bs.drop (8 + r.length)) (by rw [List.length_drop]; omega) (by rw [List.length_drop]; omega)
      simp only [e]
theorem scan_none {bs : List UInt8} (h : fst bs = none) : scan bs = ([], 0) := by
  unfold scan scanF
  rw [h]
theorem scan_some {bs r : List UInt8} (h : fst bs = some r) : scan bs = (r :: (scan (bs.drop (8 + r.length))).1, 8 + r.length + (scan (bs.drop (8 + r.length))).2) := by
  have hl := fst_len h
  have e := scanF_fuel bs.length ((bs.drop (8 + r.length)).length + 1) (bs.drop (8 + r.length)) (by rw [List.length_drop]; omega) (by omega)
  show scanF (bs.length + 1) bs = _
  unfold scanF
  rw [h]
  simp only [e]
  rfl
theorem scan_le : ∀ (n : Nat) (bs : List UInt8), bs.length ≤ n → (scan bs).2 ≤ bs.length ∧ 8 * (scan bs).1.length ≤ bs.length := by
  intro n
  induction n with
  | zero =>
    intro bs hb
    have h0 : fst bs = none := if_pos (by omega)
    rw [scan_none h0]
    simp
  | succ n ih =>
    intro bs hb
    cases hf : fst bs with
    | none => rw [scan_none hf]; simp
    | some r =>
      have hl := fst_len hf
      have h1 := ih (bs.drop (8 + r.length)) (by rw [List.length_drop]; omega)
      rw [List.length_drop] at h1
      rw [scan_some hf]
      simp only [List.length_cons]
      omega
/-- A frame's bytes say what firstRecord asks. -/
theorem frame_is {bs : List UInt8} (h : 8 ≤ bs.length) (h2 : num bs ≤ bs.length - 8) : frame ((bs.drop 8).take (num bs)) = bs.take (8 + num bs) ↔ num (bs.drop 4) = chk (bs.take 4 ++ (bs.drop 8).take (num bs)) := by
  have hl : ((bs.drop 8).take (num bs)).length = num bs := by simp; omega
  unfold frame
  rw [hl, le4_num bs (by omega)]
  have e : bs.take (8 + num bs) = bs.take 4 ++ (bs.drop 4).take 4 ++ (bs.drop 8).take (num bs) := by
    rw [List.take_add, show (8 : Nat) = 4 + 4 from rfl, List.take_add]
  rw [e, List.append_cancel_right_eq, List.append_cancel_left_eq, ← le4_num (bs.drop 4) (by rw [List.length_drop]; omega)]
  constructor
  · intro h3
    have h4 := congrArg (fun l => num (l ++ [])) h3
    simp only [num_le4 _ (chk_lt _), num_le4 _ (num_lt _)] at h4
    exact h4.symm
  · intro h3
    rw [h3]
/-- What a frame ahead of any bytes begins with. -/
theorem fst_frame (r rest : List UInt8) (h : r.length ≤ 2097152) : fst (frame r ++ rest) = some r := by
  have hl := frame_len r
  have e0 : frame r ++ rest = le4 r.length ++ (le4 (chk (le4 r.length ++ r)) ++ (r ++ rest)) := by simp [frame]
  have hn : num (frame r ++ rest) = r.length := by rw [e0]; exact num_le4 _ (by omega) _
  have e4 : (frame r ++ rest).drop 4 = le4 (chk (le4 r.length ++ r)) ++ (r ++ rest) := by rw [e0]; exact List.drop_left' (le4_len _)
  have t4 : (frame r ++ rest).take 4 = le4 r.length := by rw [e0]; exact List.take_left' (le4_len _)
  have e8 : (frame r ++ rest).drop 8 = r ++ rest := by
    rw [show (8 : Nat) = 4 + 4 from rfl, ← List.drop_drop, e4]
    exact List.drop_left' (le4_len _)
  unfold fst
  rw [hn, if_neg (by rw [List.length_append, hl]; omega), if_neg (by rw [List.length_append, hl]; omega), e4, t4, e8, num_le4 _ (chk_lt _), List.take_left, if_pos rfl]
/-- A row of slices that the call owns. -/
def RowS (base : Nat) (w : World) (v : Value) (us : List Value) : Prop := w.ownsRow base 43 1 v us.length us
theorem info22 : (Tryz.prog.info? 43).map (fun i => (i.zero, i.size, i.bytes)) = some (some (.slice none 0 0), 1, 24) := by kernel_rfl
theorem RowS.nil (base : Nat) (w : World) : RowS base w (.slice none 0 0) [] := World.ownsRow_nil _ _ _ _
theorem RowS.kept {base : Nat} {w w' : World} {v : Value} {us : List Value} (h : RowS base w v us) (f : Below w.heap.size w w') : RowS base w' v us := own_kept h f
theorem RowS.lt {base : Nat} {w : World} {v : Value} {us : List Value} (h : RowS base w v us) : ∀ k, v.ownBlock = some k → base ≤ k := by
  intro k hk
  rcases h.2 with ⟨rfl, _⟩ | ⟨b, cap, cur, rfl, hb, _⟩
  · cases hk
  · have e : b = k := by simpa [Value.ownBlock] using hk
    omega
theorem RowS.gt {base : Nat} {w : World} {v : Value} {us : List Value} (h : RowS base w v us) : ∀ k, v.ownBlock = some k → k < w.heap.size := by
  intro k hk
  rcases h.2 with ⟨rfl, _⟩ | ⟨b, cap, cur, rfl, hb, hg, _⟩
  · cases hk
  · have e : b = k := by simpa [Value.ownBlock] using hk
    subst e
    exact lt_of_block hg
theorem RowS.mono {base base' : Nat} {w : World} {v : Value} {us : List Value} (h : RowS base w v us) (hb : base' ≤ base) : RowS base' w v us := by
  refine ⟨h.1, ?_⟩
  rcases h.2 with h2 | ⟨g, cap, cur, a, b, c, d⟩
  · exact .inl h2
  · exact .inr ⟨g, cap, cur, a, by omega, c, d⟩
/-- A row of bytes lies in another block. -/
theorem RowS.ne {base base' : Nat} {w : World} {v x : Value} {us : List Value} {bs : List UInt8} (h : RowS base w v us) (hr : RowB base' w x bs) : ∀ k, x.ownBlock = some k → some k ≠ v.ownBlock := by
  intro k hk e
  rcases h.2 with ⟨rfl, _⟩ | ⟨b, cap, cur, rfl, hb, hg, _⟩
  · cases e
  · rcases hr.2 with ⟨rfl, _⟩ | ⟨b', cap', cur', rfl, hb', hg', _⟩
    · cases hk
    · have e1 : b' = k := by simpa [Value.ownBlock] using hk
      have e2 : k = b := by simpa [Value.ownBlock] using e
      subst e1
      subst e2
      rw [hg] at hg'
      simp at hg'
theorem RowS.cell {base : Nat} {w : World} {v : Value} {us : List Value} (h : RowS base w v us) : (us = [] ∧ ∃ a c, v = .slice a 0 c) ∨ ∃ b cap, v = .slice (some ⟨b, 0, none⟩) us.length cap ∧ us.length ≤ cap ∧ cap ≤ 9223372036854775807 ∧ ∀ i u, us[i]? = some u → w.cell? ⟨b, 0 + i, none⟩ = some u := by
  rcases h.2 with ⟨rfl, h0⟩ | ⟨g, cap, cur, rfl, hb, hg, hn, hc, hz, ht⟩
  · exact .inl ⟨List.eq_nil_of_length_eq_zero h0, _, _, rfl⟩
  · refine .inr ⟨g, cap, rfl, hn, by unfold maxLen at hc; omega, fun i u hu => ?_⟩
    have hi : i < us.length := (List.getElem?_eq_some_iff.1 hu).1
    have e2 : (cur.toList.take (us.length * 1))[i]? = us[i]? := by rw [ht]
    rw [List.getElem?_take_of_lt (by omega), hu] at e2
    simp only [World.cell?, hg, Nat.zero_add]
    simpa using e2
/-- One slice, put behind a row of slices. -/
theorem app_s {w : World} {ops : Array Oper} {rest : List Oper} {o : Oper} {a : Act} {Q : Exit → Act → World → Prop} (hgd : o.guard = none) (s x : Operand)
    (ho : o.op = .call { callee := .builtin .append, args := #[s, x], argTypes := #[107, 107] }) (base : Nat) (v : Value) (us : List Value) (hs : a.eval s = v) (hrow : RowS base w v us) (p : Option Addr) (l c : Nat) (hx : a.eval x = .slice (some ⟨w.heap.size, 0, none⟩) 1 1)
    (hlen : us.length ≤ 1099511627776) (hbase : base ≤ w.heap.size)
    (h : ∀ v' w', RowS base w' v' (us ++ [.slice p l c]) → w.grownBy w' v.ownBlock → (v'.ownBlock = v.ownBlock ∨ ∃ k, v'.ownBlock = some k ∧ w.heap.size ≤ k) → wpList Tryz.prog ops Q rest (a.put o.dst v') w') : wpList Tryz.prog ops Q (o :: rest) a (w.alloc (.cells #[.slice p l c] 43)) := by
  obtain ⟨i0, hi, hz0, hz1, hz2⟩ := info_parts info22
  have hba : Below w.heap.size w (w.alloc (.cells #[.slice p l c] 43)) := (Below.refl _ _).alloc (Nat.le_refl _) _
  refine wpList_append_own_at _ hgd s x 107 ho base 43 i0 (.slice none 0 0) 1 24 Tryz.underlying107 hi hz0 hz1 hz2 rfl (by decide) v _ _ hs (hrow.kept hba) ⟨w.heap.size, 0, none⟩ 1 1 [.slice p l c] hx rfl (cell_one_new w _ _) (by simp [Value.oneCell']) (by unfold maxLen; omega) (by omega) (by simp; omega) ?_
  intro v' w3 hown' hgrow3 _ hat
  refine h v' w3 ?_ ⟨hgrow3.os, hgrow3.tape, hgrow3.output, Nat.le_trans hba.size hgrow3.size, fun k hk hn => ?_⟩ ?_
  · unfold RowS
    rw [List.length_append]
    exact hown'
  · rw [hgrow3.block k (Nat.lt_of_lt_of_le hk hba.size) hn]
    exact hba.block k hk
  · rcases hat with e | e
    · exact .inl e
    · exact .inr ⟨_, e, hba.size⟩
theorem grown_below {w w' : World} {v : Value} {base : Nat} {us : List Value} (h : RowS base w v us) (g : w.grownBy w' v.ownBlock) (hb : base ≤ w.heap.size) : Below base w w' :=
  ⟨g.os, g.tape, g.output, g.size, fun k hk => g.block k (by omega) (fun e => by have := h.lt k e.symm; omega)⟩
/-- Records that the call owns: the row, and each record's bytes. -/
def Recs (base : Nat) (w : World) (v : Value) (LL : List (List UInt8)) : Prop :=
  ∃ us, RowS base w v us ∧ us.length = LL.length ∧ ∀ (i : Nat) (bs : List UInt8), LL[i]? = some bs → ∃ u, us[i]? = some u ∧ RowB base w u bs
/-- Records in a row that the call owns; their bytes lie elsewhere, in the world w0. -/
def Refs (base : Nat) (w0 w : World) (v : Value) (LL : List (List UInt8)) : Prop :=
  ∃ us, RowS base w v us ∧ us.length = LL.length ∧ ∀ (i : Nat) (bs : List UInt8), LL[i]? = some bs → ∃ u, us[i]? = some u ∧ SlM w0 u bs
theorem Recs.nil (base : Nat) (w : World) : Recs base w (.slice none 0 0) [] := ⟨[], RowS.nil _ _, rfl, fun i bs h => by simp at h⟩
theorem Refs.nil (base : Nat) (w0 w : World) : Refs base w0 w (.slice none 0 0) [] := ⟨[], RowS.nil _ _, rfl, fun i bs h => by simp at h⟩
theorem Recs.kept {base : Nat} {w w' : World} {v : Value} {LL : List (List UInt8)} (h : Recs base w v LL) (f : Below w.heap.size w w') : Recs base w' v LL := by
  obtain ⟨us, h1, h2, h3⟩ := h
  refine ⟨us, h1.kept f, h2, fun i bs hi => ?_⟩
  obtain ⟨u, hu, hr⟩ := h3 i bs hi
  exact ⟨u, hu, hr.kept f⟩
theorem Refs.kept {base : Nat} {w0 w w' : World} {v : Value} {LL : List (List UInt8)} (h : Refs base w0 w v LL) (f : Below w.heap.size w w') : Refs base w0 w' v LL := by
  obtain ⟨us, h1, h2, h3⟩ := h
  exact ⟨us, h1.kept f, h2, h3⟩
theorem Recs.mono {base base' : Nat} {w : World} {v : Value} {LL : List (List UInt8)} (h : Recs base w v LL) (hb : base' ≤ base) : Recs base' w v LL := by
  obtain ⟨us, h1, h2, h3⟩ := h
  refine ⟨us, h1.mono hb, h2, fun i bs hi => ?_⟩
  obtain ⟨u, hu, hr⟩ := h3 i bs hi
  exact ⟨u, hu, hr.mono hb⟩
theorem row_sls {base : Nat} {w : World} {v : Value} {us : List Value} {LL : List (List UInt8)} (h1 : RowS base w v us) (h2 : us.length = LL.length) (h3 : ∀ (i : Nat) (bs : List UInt8), LL[i]? = some bs → ∃ u, us[i]? = some u ∧ SlM w u bs) : SlS w v LL := by
  rcases h1.cell with ⟨rfl, a, c, rfl⟩ | ⟨b, cap, rfl, h4, h5, h6⟩
  · exact .inl ⟨List.eq_nil_of_length_eq_zero h2.symm, _, _, rfl⟩
  · rw [h2] at h4 ⊢
    refine .inr ⟨b, 0, cap, rfl, h4, h5, fun i bs hi => ?_⟩
    obtain ⟨u, hu, hs⟩ := h3 i bs hi
    exact ⟨u, h6 i u hu, hs⟩
theorem Recs.sls {base : Nat} {w : World} {v : Value} {LL : List (List UInt8)} (h : Recs base w v LL) : SlS w v LL := by
  obtain ⟨us, h1, h2, h3⟩ := h
  refine row_sls h1 h2 (fun i bs hi => ?_)
  obtain ⟨u, hu, hr⟩ := h3 i bs hi
  exact ⟨u, hu, hr.slm⟩
theorem Refs.sls {base : Nat} {w0 w : World} {v : Value} {LL : List (List UInt8)} (h : Refs base w0 w v LL) (hb : Below w0.heap.size w0 w) : SlS w v LL := by
  obtain ⟨us, h1, h2, h3⟩ := h
  refine row_sls h1 h2 (fun i bs hi => ?_)
  obtain ⟨u, hu, hr⟩ := h3 i bs hi
  exact ⟨u, hu, hr.below hb (Nat.le_refl _)⟩
theorem get_snoc {α : Type} {l : List α} {x y : α} {i : Nat} (h : (l ++ [x])[i]? = some y) : l[i]? = some y ∨ (i = l.length ∧ y = x) := by
  rcases Nat.lt_or_ge i l.length with hi | hi
  · rw [List.getElem?_append_left hi] at h
    exact .inl h
  · rw [List.getElem?_append_right hi] at h
    have : i - l.length = 0 := by
      rcases Nat.eq_zero_or_pos (i - l.length) with h0 | h0
      · exact h0
      · rw [List.getElem?_eq_none (by simp; omega)] at h
        cases h
    rw [this] at h
    simp at h
    exact .inr ⟨by omega, h.symm⟩
theorem get_snoc_old {α : Type} {l : List α} {x y : α} {i : Nat} (h : l[i]? = some y) : (l ++ [x])[i]? = some y := by
  rw [List.getElem?_append_left (List.getElem?_eq_some_iff.1 h).1]
  exact h
/-- A record of the call's own more. -/
theorem Recs.snoc {base : Nat} {w w' : World} {v v' u : Value} {us : List Value} {LL : List (List UInt8)} {bs : List UInt8} (h1 : RowS base w v us) (h2 : us.length = LL.length) (h3 : ∀ (i : Nat) (bs : List UInt8), LL[i]? = some bs → ∃ u, us[i]? = some u ∧ RowB base w u bs) (hu : RowB base w u bs) (hr : RowS base w' v' (us ++ [u])) (g : w.grownBy w' v.ownBlock) : Recs base w' v' (LL ++ [bs]) := by
  have kept : ∀ x xs, RowB base w x xs → RowB base w' x xs := fun x xs hx => hx.other (fun k hk => g.block k (hx.gt k hk) (h1.ne hx k hk))
  refine ⟨us ++ [u], hr, by simp [h2], fun i xs hi => ?_⟩
  rcases get_snoc hi with hi | ⟨rfl, rfl⟩
  · obtain ⟨x, hx, hr⟩ := h3 i xs hi
    exact ⟨x, get_snoc_old hx, kept x xs hr⟩
  · exact ⟨u, by rw [← h2]; simp, kept u xs hu⟩
theorem Refs.snoc {base : Nat} {w0 w' : World} {v' u : Value} {us : List Value} {LL : List (List UInt8)} {bs : List UInt8} (h2 : us.length = LL.length) (h3 : ∀ (i : Nat) (bs : List UInt8), LL[i]? = some bs → ∃ u, us[i]? = some u ∧ SlM w0 u bs) (hu : SlM w0 u bs) (hr : RowS base w' v' (us ++ [u])) : Refs base w0 w' v' (LL ++ [bs]) := by
  refine ⟨us ++ [u], hr, by simp [h2], fun i xs hi => ?_⟩
  rcases get_snoc hi with hi | ⟨rfl, rfl⟩
  · obtain ⟨x, hx, hr⟩ := h3 i xs hi
    exact ⟨x, get_snoc_old hx, hr⟩
  · exact ⟨u, by rw [← h2]; simp, hu⟩
end Wl
end Go.Proofs.YtcinjdaanhpbjaaGreat
