/- What a log's Append and Clear do at any disk, told by the model: by walking their texts; Open in all its cases. -/
import Derived.Test.YtcinjdaanhpbjaaGreatLg
namespace Go.Proofs.YtcinjdaanhpbjaaGreat
open Go.RowKit
namespace Wl
open Bw Rg Dk Rf

/-- Append of a record: an error's number, what is left. -/
def logA (a : Ab) (s : ByteArray) (bs : List UInt8) : Int × Ab :=
  if 2097152 < bs.length then (2, a) else if (appendM a s (frame bs)).1 = 0 then syncM (appendM a s (frame bs)).2 s else appendM a s (frame bs)
/-- What a call of a log answers. -/
def LOut (w : World) (d : Ds) (r : Int × Ab) (e : Ending) (w' : World) : Prop := ∃ d', e = .returned (codeV r.1) ∧ DS w d d' r.2 w'
section
variable {w : World} {d : Ds} {a : Ab}
theorem logA_long (lb : Nat) (b : Value) (bs : List UInt8) (h : DP w d a) (s : ByteArray) (hb : SlM w b bs) (hl : 2097152 < bs.length) : Calls Tryz.prog 37 #[.pointer (some ⟨lb, 0, none⟩), b] w (LOut w d (logA a s bs)) := by
  have c9 := frame_long b bs w hb hl
  have HO : Hid (logA a s bs = (2, a)) := if_pos hl
  have HQ : Hid (DP w d a) := h
  clear h
  go_enter Tryz.func37, Tryz.ntmps37
  go_wp2_with (go_at_call 42; refine Calls.mono c9 ?_; rintro e w1 ⟨rfl, rfl⟩)
  go_ret
  unfold LOut
  rw [HO.out]
  exact ⟨d, rfl, DS.refl HQ.out⟩
theorem row_apart {D : List Nat} {W : World} {v : Value} {bs : List UInt8} {base : Nat} (h : RowB base W v bs) (hD : ∀ k ∈ D, k < base) : ∀ y l c, v = .slice (some y) l c → 0 < l → y.block ∉ D := fun y l c e _ hc => by
  have h1 := hD _ hc
  rcases h.2 with ⟨h2, _⟩ | ⟨g, cap, cur, h2, h3, _⟩
  · rw [e] at h2
    cases h2
  · rw [e] at h2
    cases h2
    exact absurd h1 (by show ¬ g < base; omega)
set_option maxHeartbeats 2000000 in
theorem logA_any (lb : Nat) (b : Value) (bs : List UInt8) (s : ByteArray) (h : DP w d a) (hg : Rf.Good a) (hlog : LogAt w lb d.db s) (hnf : lb ∉ d.foot) (hs : s.size ≤ 140737488355328) (hb : SlM w b bs) (hl : bs.length ≤ 2097152) (hbig : usedA a.L + (8 + bs.length) ≤ 140737488355328) (hg2 : Rf.Good (appendM a s (frame bs)).2) :
    Calls Tryz.prog 37 #[.pointer (some ⟨lb, 0, none⟩), b] w (LOut w d (logA a s bs)) := by
  have c9 := frame_ok b bs w hb hl
  obtain ⟨R, hR⟩ : ∃ R, appendM a s (frame bs) = R := ⟨_, rfl⟩
  have c27 : ∀ (W : World) (v : Value), DP W d a → RowB w.heap.size W v (frame bs) → Calls Tryz.prog 27 #[.pointer (some ⟨d.db, 0, none⟩), .string s, v] W fun e w' => ∃ d', e = .returned (codeV R.1) ∧ DS W d d' R.2 w' := fun W v hW hv => by
    rw [← hR]
    exact dout_ds (dappend hW hg s v (frame bs) hs hv.slm (row_apart hv h.at'.lt) (by rw [frame_len]; omega))
  have ho2 : logA a s bs = if R.1 = 0 then syncM R.2 s else R := by unfold logA; rw [if_neg (by omega), hR]
  rw [hR] at hg2
  have HO : Hid (logA a s bs = if R.1 = 0 then syncM R.2 s else R) := ho2
  obtain ⟨D, hD⟩ : ∃ D, d.db = D := ⟨_, rfl⟩
  have HQ : Hid (DP w d a ∧ d.db = D ∧ LogAt w lb d.db s ∧ lb ∉ d.foot ∧ Rf.Good R.2) := ⟨h, hD, hlog, hnf, hg2⟩
  have HL : Hid (LogAt w lb D s) := hD ▸ hlog
  rw [hD] at c27
  clear hD h hlog hnf hb hbig hR ho2 hg2 hg
  obtain ⟨r, a'⟩ := R
  by_cases hz : r = 0
  · subst hz
    simp only [codeV_zero] at c27
    have HO2 : Hid (logA a s bs = syncM a' s) := by show _ = _; rw [HO.out]; exact if_pos rfl
    clear HO
    go_enter Tryz.func37, Tryz.ntmps37
    go_wp2_with (go_at_call 42; refine Calls.mono c9 ?_; rintro e w1 ⟨f1, rfl, hr1, hb1⟩; have HB1 := (show Hid (Below w.heap.size w w1) from hb1); have HR1 := (show Hid (RowB w.heap.size w1 f1 (frame bs)) from hr1); clear hr1 hb1)
    have HL1 : Hid (LogAt w1 lb D s) := HL.out.below HB1.out
    have k0 : ∀ z : Cl w1.heap.size w1, z.u.cell? ⟨lb, 0, none⟩ = some (.pointer (some ⟨D, 0, none⟩)) := fun z => z.cell HL1.out.c0 HL1.out.lt
    have k1 : ∀ z : Cl w1.heap.size w1, z.u.cell? ⟨lb, 1, none⟩ = some (.string s) := fun z => z.cell HL1.out.c1 HL1.out.lt
    have hne := Cl.ne w1.heap.size w1
    apply region_cl_tail (N := w1.heap.size) (W := w1) 9 12 (by kernel_rfl) (Below.refl _ _)
    case hl => simp only [List.take_succ_cons, List.take_zero]; rfl
    case ht => simp only [List.drop_succ_cons, List.drop_zero]; rfl
    case hB => kernel_rfl
    case hT => kernel_rfl
    case h =>
      repeat (go_big_quiet_step (fail))
      refine wpQuiet_nil ?_
      rintro _ ⟨z, rfl⟩
      have HZ : Hid (Below w1.heap.size w1 z.u) := z.h
      obtain ⟨w2, hw2⟩ : ∃ w2, z.u = w2 := ⟨_, rfl⟩
      rw [hw2] at HZ ⊢
      clear hw2 hne k0 k1
      have HB2 : Hid (Below w.heap.size w w2) := HB1.out.trans (HZ.out.mono HB1.out.size)
      have c27' := c27 w2 f1 (HQ.out.1.below HB2.out) (HR1.out.kept HZ.out)
      clear c27
      go_wp2_with (go_at_call 27; refine Calls.mono c27' ?_; rintro e w3 ⟨d3, rfl, h3⟩; have H3 := (show Hid (DS w d d3 a' w3) from (DS.of HQ.out.1 HB2.out).trans h3); clear h3 c27')
      have HL3 : Hid (LogAt w3 lb D s) := HL.out.fr H3.out.fr HQ.out.2.2.2.1
      have k2 : ∀ z : Cl w3.heap.size w3, z.u.cell? ⟨lb, 0, none⟩ = some (.pointer (some ⟨D, 0, none⟩)) := fun z => z.cell HL3.out.c0 HL3.out.lt
      have k3 : ∀ z : Cl w3.heap.size w3, z.u.cell? ⟨lb, 1, none⟩ = some (.string s) := fun z => z.cell HL3.out.c1 HL3.out.lt
      have hne := Cl.ne w3.heap.size w3
      apply region_cl_tail (N := w3.heap.size) (W := w3) 8 12 (by kernel_rfl) (Below.refl _ _)
      case hl => simp only [List.take_succ_cons, List.take_zero]; rfl
      case ht => simp only [List.drop_succ_cons, List.drop_zero]; rfl
      case hB => kernel_rfl
      case hT => kernel_rfl
      case h =>
        repeat (go_big_quiet_step (fail))
        refine wpQuiet_nil ?_
        rintro _ ⟨z, rfl⟩
        have HZ3 : Hid (Below w3.heap.size w3 z.u) := z.h
        obtain ⟨w4, hw4⟩ : ∃ w4, z.u = w4 := ⟨_, rfl⟩
        rw [hw4] at HZ3 ⊢
        clear hw4 hne k2 k3
        have c45 := dout_ds (dsync (H3.out.dp.below HZ3.out) HQ.out.2.2.2.2 s hs)
        rw [H3.out.db, HQ.out.2.1] at c45
        go_wp2_with (go_at_call 45; refine Calls.mono c45 ?_; rintro e w5 ⟨d5, rfl, h5⟩)
        go_ret
        unfold LOut
        rw [HO2.out]
        exact ⟨d5, rfl, (H3.out.below HZ3.out).trans h5⟩
  · simp only [codeV_ne hz] at c27
    have HO2 : Hid (logA a s bs = (r, a')) := by show _ = _; rw [HO.out]; exact if_neg hz
    clear HO
    go_enter Tryz.func37, Tryz.ntmps37
    go_wp2_with (go_at_call 42; refine Calls.mono c9 ?_; rintro e w1 ⟨f1, rfl, hr1, hb1⟩; have HB1 := (show Hid (Below w.heap.size w w1) from hb1); have HR1 := (show Hid (RowB w.heap.size w1 f1 (frame bs)) from hr1); clear hr1 hb1)
    have HL1 : Hid (LogAt w1 lb D s) := HL.out.below HB1.out
    have k0 : ∀ z : Cl w1.heap.size w1, z.u.cell? ⟨lb, 0, none⟩ = some (.pointer (some ⟨D, 0, none⟩)) := fun z => z.cell HL1.out.c0 HL1.out.lt
    have k1 : ∀ z : Cl w1.heap.size w1, z.u.cell? ⟨lb, 1, none⟩ = some (.string s) := fun z => z.cell HL1.out.c1 HL1.out.lt
    have hne := Cl.ne w1.heap.size w1
    apply region_cl_tail (N := w1.heap.size) (W := w1) 9 12 (by kernel_rfl) (Below.refl _ _)
    case hl => simp only [List.take_succ_cons, List.take_zero]; rfl
    case ht => simp only [List.drop_succ_cons, List.drop_zero]; rfl
    case hB => kernel_rfl
    case hT => kernel_rfl
    case h =>
      repeat (go_big_quiet_step (fail))
      refine wpQuiet_nil ?_
      rintro _ ⟨z, rfl⟩
      have HZ : Hid (Below w1.heap.size w1 z.u) := z.h
      obtain ⟨w2, hw2⟩ : ∃ w2, z.u = w2 := ⟨_, rfl⟩
      rw [hw2] at HZ ⊢
      clear hw2 hne k0 k1
      have HB2 : Hid (Below w.heap.size w w2) := HB1.out.trans (HZ.out.mono HB1.out.size)
      have c27' := c27 w2 f1 (HQ.out.1.below HB2.out) (HR1.out.kept HZ.out)
      clear c27
      go_wp2_with (go_at_call 27; refine Calls.mono c27' ?_; rintro e w3 ⟨d3, rfl, h3⟩; have H3 := (show Hid (DS w d d3 a' w3) from (DS.of HQ.out.1 HB2.out).trans h3); clear h3 c27')
      go_ret
      unfold LOut
      rw [HO2.out]
      exact ⟨d3, by rw [codeV_ne hz]; rfl, H3.out⟩
/-- Clear: an error's number, what is left. -/
def clrA (a : Ab) (s : ByteArray) : Int × Ab := if (truncM a s 0).1 = 9 then (0, (truncM a s 0).2) else truncM a s 0
theorem bin_eerr (a b : Int) (W : World) : (binOp .eql 38 (.iface 48 (.int .i64 a)) (.iface 48 (.int .i64 b))).run Tryz.prog W = .ok (.bool (a == b)) W := bin_err a b W
set_option maxHeartbeats 1000000 in
theorem clear_any (lb : Nat) (s : ByteArray) (h : DP w d a) (hg : Rf.Good a) (hlog : LogAt w lb d.db s) (hs : s.size ≤ 140737488355328) : Calls Tryz.prog 76 #[.pointer (some ⟨lb, 0, none⟩)] w (LOut w d (clrA a s)) := by
  obtain ⟨R, hR⟩ : ∃ R, truncM a s 0 = R := ⟨_, rfl⟩
  have c66 : ∀ (W : World), DP W d a → Calls Tryz.prog 66 #[.pointer (some ⟨d.db, 0, none⟩), .string s, .int .i64 0] W fun e w' => ∃ d', e = .returned (codeV R.1) ∧ DS W d d' R.2 w' := fun W hW => by
    rw [← hR]
    exact dout_ds (dtrunc hW hg s 0 hs)
  have HO : Hid (clrA a s = if R.1 = 9 then (0, R.2) else R) := by show _ = _; unfold clrA; rw [hR]
  obtain ⟨D, hD⟩ : ∃ D, d.db = D := ⟨_, rfl⟩
  have HQ : Hid (DP w d a ∧ d.db = D) := ⟨h, hD⟩
  rw [hD] at c66 hlog
  have k0 : ∀ z : Cl w.heap.size w, z.u.cell? ⟨lb, 0, none⟩ = some (.pointer (some ⟨D, 0, none⟩)) := fun z => z.cell hlog.c0 hlog.lt
  have k1 : ∀ z : Cl w.heap.size w, z.u.cell? ⟨lb, 1, none⟩ = some (.string s) := fun z => z.cell hlog.c1 hlog.lt
  have hne := Cl.ne w.heap.size w
  clear hD h hlog hR hg
  obtain ⟨r, a'⟩ := R
  by_cases hz : r = 0
  · subst hz
    simp only [codeV_zero] at c66
    have n9 := nil_eql 9
    go_enter Tryz.func76, Tryz.ntmps76
    go_wp2
    apply region_cl_tail (N := w.heap.size) (W := w) 8 12 (by kernel_rfl) (Below.refl _ _)
    case hl => simp only [List.take_succ_cons, List.take_zero]; rfl
    case ht => simp only [List.drop_succ_cons, List.drop_zero]; rfl
    case hB => kernel_rfl
    case hT => kernel_rfl
    case h =>
      repeat (go_big_quiet_step (fail))
      refine wpQuiet_nil ?_
      rintro _ ⟨z, rfl⟩
      have HZ : Hid (Below w.heap.size w z.u) := z.h
      obtain ⟨w2, hw2⟩ : ∃ w2, z.u = w2 := ⟨_, rfl⟩
      rw [hw2] at HZ ⊢
      clear hw2 hne k0 k1
      have c66' := c66 w2 (HQ.out.1.below HZ.out)
      clear c66
      go_wp2_with (go_at_call 66; refine Calls.mono c66' ?_; rintro e w3 ⟨d3, rfl, h3⟩; have H3 := (show Hid (DS w d d3 a' w3) from (DS.of HQ.out.1 HZ.out).trans h3); clear h3 c66')
      go_ret
      unfold LOut
      rw [HO.out]
      exact ⟨d3, rfl, H3.out⟩
  · by_cases hz9 : r = 9
    · subst hz9
      simp only [codeV_ne hz] at c66
      have n9 : ∀ W : World, (binOp .eql 38 (.iface 48 (.int .i64 9)) (.iface 48 (.int .i64 9))).run Tryz.prog W = .ok (.bool true) W := fun W => bin_eerr 9 9 W
      go_enter Tryz.func76, Tryz.ntmps76
      go_wp2
      apply region_cl_tail (N := w.heap.size) (W := w) 8 12 (by kernel_rfl) (Below.refl _ _)
      case hl => simp only [List.take_succ_cons, List.take_zero]; rfl
      case ht => simp only [List.drop_succ_cons, List.drop_zero]; rfl
      case hB => kernel_rfl
      case hT => kernel_rfl
      case h =>
        repeat (go_big_quiet_step (fail))
        refine wpQuiet_nil ?_
        rintro _ ⟨z, rfl⟩
        have HZ : Hid (Below w.heap.size w z.u) := z.h
        obtain ⟨w2, hw2⟩ : ∃ w2, z.u = w2 := ⟨_, rfl⟩
        rw [hw2] at HZ ⊢
        clear hw2 hne k0 k1
        have c66' := c66 w2 (HQ.out.1.below HZ.out)
        clear c66
        go_wp2_with (go_at_call 66; refine Calls.mono c66' ?_; rintro e w3 ⟨d3, rfl, h3⟩; have H3 := (show Hid (DS w d d3 a' w3) from (DS.of HQ.out.1 HZ.out).trans h3); clear h3 c66')
        go_ret
        unfold LOut
        rw [HO.out]
        exact ⟨d3, rfl, H3.out⟩
    · simp only [codeV_ne hz] at c66
      have n9 : ∀ W : World, (binOp .eql 38 (.iface 48 (.int .i64 r)) (.iface 48 (.int .i64 9))).run Tryz.prog W = .ok (.bool false) W := fun W => by rw [bin_eerr r 9 W]; simp [hz9]
      go_enter Tryz.func76, Tryz.ntmps76
      go_wp2
      apply region_cl_tail (N := w.heap.size) (W := w) 8 12 (by kernel_rfl) (Below.refl _ _)
      case hl => simp only [List.take_succ_cons, List.take_zero]; rfl
      case ht => simp only [List.drop_succ_cons, List.drop_zero]; rfl
      case hB => kernel_rfl
      case hT => kernel_rfl
      case h =>
        repeat (go_big_quiet_step (fail))
        refine wpQuiet_nil ?_
        rintro _ ⟨z, rfl⟩
        have HZ : Hid (Below w.heap.size w z.u) := z.h
        obtain ⟨w2, hw2⟩ : ∃ w2, z.u = w2 := ⟨_, rfl⟩
        rw [hw2] at HZ ⊢
        clear hw2 hne k0 k1
        have c66' := c66 w2 (HQ.out.1.below HZ.out)
        clear c66
        go_wp2_with (go_at_call 66; refine Calls.mono c66' ?_; rintro e w3 ⟨d3, rfl, h3⟩; have H3 := (show Hid (DS w d d3 a' w3) from (DS.of HQ.out.1 HZ.out).trans h3); clear h3 c66')
        go_ret
        unfold LOut
        rw [HO.out]
        rw [if_neg hz9]
        exact ⟨d3, by rw [codeV_ne hz]; rfl, H3.out⟩
theorem opn_any (s : ByteArray) (h : DP w d a) (hg : Rf.Good a) (hs : s.size ≤ 140737488355328) (hn : isNm s = true) (hbl : usedA a.L ≤ 1099511627776) : Calls Tryz.prog 81 #[.pointer (some ⟨d.db, 0, none⟩), .string s] w (OpnOut w d a s) := by
  cases ho : a.on with
  | false => exact opn_off s h hg hs hn ho
  | true =>
    cases hf : findA s a.L with
    | none => exact opn_none s h hg hs hn ho hf
    | some x =>
      have hr : readM a s = (x.2.1, 0) := by simp [readM, ho, hf]
      have hl : x.2.1.length ≤ 1099511627776 := by
        have h1 : x.2.1.length ≤ usedA a.L := by
          obtain ⟨L1, L2, e⟩ := List.append_of_mem (find_some hf).1
          unfold usedA
          rw [e, List.map_append, List.sum_append, List.map_cons, List.sum_cons]
          omega
        omega
      by_cases hw : (scan x.2.1).2 < x.2.1.length
      · exact opn_torn s x.2.1 h hg hs hn ho hr hl hw (fun W hW => dtrunc hW hg s _ hs)
      · exact opn_whole s x.2.1 h hg hs hn ho hr hl hw
end
end Wl
end Go.Proofs.YtcinjdaanhpbjaaGreat
