/- What a log's Append and Clear do, by walking their texts. -/
import Derived.Test.YtamddicoancdhaaLg
namespace Go.Proofs.Ytamddicoancdhaa
open Go.RowKit
namespace Wl
open Bw Rg Dk

theorem eq_nil (n : Int) (W : World) : (Op.equalIn 10000 25 .nilIface (.iface 47 (.int .i64 n))).run Try.prog W = .ok false W := by
  rw [show (10000 : Nat) = 9999 + 1 from rfl, Op.equalIn]
  simp only [Sem.run_bind, run_underlying Try.underlying25, Result.andThen_ok]
  simp
theorem nil_eql (n : Int) (W : World) : (binOp .eql 25 .nilIface (.iface 47 (.int .i64 n))).run Try.prog W = .ok (.bool false) W := by
  simp only [binOp]
  simp [Op.equal, Op.maxDepth, eq_nil n W]
theorem logA_long (lb : Nat) (b : Value) (bs : List UInt8) (w : World) (hb : SlM w b bs) (h : 2097152 < bs.length) : Calls Try.prog 22 #[.pointer (some ⟨lb, 0, none⟩), b] w fun e w' => e = .returned (code 2) ∧ w' = w := by
  have c9 := frame_long b bs w hb h
  go_enter Try.func22, Try.ntmps22
  go_wp2_with (go_at_call 9; refine Calls.mono c9 ?_; rintro e w1 ⟨rfl, rfl⟩)
  go_ret
  exact ⟨rfl, rfl⟩
/-- What an Append of a frame leaves. -/
def appR (x : S1) (fb : List UInt8) : Int × S1 :=
  if x.on = false then (11, x) else if x.bud = 0 ∨ less x.bud = 0 then (11, ⟨false, 0, some (byt x.o ++ fb, syn x.o)⟩)
  else (0, ⟨true, less (less x.bud), some (byt x.o ++ fb, (byt x.o ++ fb).length)⟩)
set_option maxHeartbeats 1000000 in
theorem logA_off (lb : Nat) (b : Value) (bs : List UInt8) (w : World) (d : Ds) (s : ByteArray) (x : S1) (h : DQ w d s x) (hlog : LogAt w lb d.db s) (hnf : lb ∉ d.foot) (hn : isNm s = true) (hb : SlM w b bs) (hl : bs.length ≤ 2097152) (hs : s.size ≤ 140737488355328) (ho : x.on = false) :
    Calls Try.prog 22 #[.pointer (some ⟨lb, 0, none⟩), b] w (QOut w d s (appR x (frame bs)).1 (appR x (frame bs)).2) := by
  have HA : Hid (appR x (frame bs) = (11, x)) := if_pos ho
  have c9 := frame_ok b bs w hb hl
  obtain ⟨D, hD⟩ : ∃ D, d.db = D := ⟨_, rfl⟩
  have HD : Hid (d.db = D) := hD
  have HQ : Hid (DQ w d s x) := h
  have HLG : Hid (LogAt w lb D s ∧ lb ∉ d.foot ∧ lb < w.heap.size) := ⟨hD ▸ hlog, hnf, hlog.lt⟩
  clear hD h hlog hnf hb
  go_enter Try.func22, Try.ntmps22
  go_wp2_with (go_at_call 9; refine Calls.mono c9 ?_; rintro e w1 ⟨f1, rfl, hr1, hb1⟩; have HB1 := (show Hid (Below w.heap.size w w1) from hb1); have HR1 := (show Hid (RowB w.heap.size w1 f1 (frame bs)) from hr1); clear hr1 hb1)
  have HL1 : Hid (LogAt w1 lb D s) := HLG.out.1.fr (Fr.of_below (S := fun _ => False) HB1.out) id
  have k0 : ∀ z : Cl w1.heap.size w1, z.u.cell? ⟨lb, 0, none⟩ = some (.pointer (some ⟨D, 0, none⟩)) := fun z => z.cell HL1.out.c0 HL1.out.lt
  have k1 : ∀ z : Cl w1.heap.size w1, z.u.cell? ⟨lb, 1, none⟩ = some (.string s) := fun z => z.cell HL1.out.c1 HL1.out.lt
  have hne := Cl.ne w1.heap.size w1
  apply region_cl_tail (N := w1.heap.size) (W := w1) 9 12 (by kernel_rfl) (Below.refl _ _)
  case hl => simp only [List.take_succ_cons, List.take_zero]; rfl
  case ht => simp only [List.drop_succ_cons, List.drop_zero]; rfl
  case hB => kernel_rfl
  case hT => kernel_rfl
  case h =>
    repeat (go_big_quiet_step (fail))
    refine wpQuiet_nil ?_
    rintro _ ⟨z, rfl⟩
    have HZ : Hid (Below w1.heap.size w1 z.u) := z.h
    obtain ⟨w2, hw2⟩ : ∃ w2, z.u = w2 := ⟨_, rfl⟩
    rw [hw2] at HZ ⊢
    clear hw2 hne k0 k1
    have HB2 : Hid (Below w.heap.size w w2) := HB1.out.trans (HZ.out.mono HB1.out.size)
    have c20 : Calls Try.prog 20 #[.pointer (some ⟨d.db, 0, none⟩), .string s, f1] w2 fun e w' => ∃ d', d'.db = d.db ∧ e = .returned (code 11) ∧ DQ w' d' s x ∧ Fr (Of d) w2 w' ∧ Grew d d' w2 := by
      have hq2 := HQ.out.below HB2.out
      have := qoff_append hq2 f1 hs hn ho
      exact this
    rw [HD.out] at c20
    go_wp2_with (go_at_call 20; refine Calls.mono c20 ?_; rintro e w3 ⟨d3, hdb3, rfl, hq3, hf3, hg3⟩; have H3 := (show Hid (d3.db = D ∧ DQ w3 d3 s x ∧ Fr (Of d) w w3 ∧ Grew d d3 w) from ⟨hdb3, hq3, (Fr.of_below HB2.out).and hf3 (fun _ _ e => e), fun k hk => (hg3 k hk).imp id (fun h => Nat.le_trans HB2.out.size h)⟩); clear hdb3 hq3 hf3 hg3 c20)
    go_ret
    obtain ⟨e1, e2, e3, e4⟩ := H3.out
    rw [HA.out]
    exact ⟨d3, e1.trans HD.out.symm, rfl, e2, e3, e4⟩
set_option maxHeartbeats 1000000 in
theorem logA_cut (lb : Nat) (b : Value) (bs : List UInt8) (w : World) (d : Ds) (s : ByteArray) (x : S1) (h : DQ w d s x) (hlog : LogAt w lb d.db s) (hnf : lb ∉ d.foot) (hn : isNm s = true) (hb : SlM w b bs) (hl : bs.length ≤ 2097152) (hbig : (byt x.o).length + (frame bs).length ≤ 70368744177664) (ho : x.on = true) (hz : x.bud = 0) :
    Calls Try.prog 22 #[.pointer (some ⟨lb, 0, none⟩), b] w (QOut w d s (appR x (frame bs)).1 (appR x (frame bs)).2) := by
  have HA : Hid (appR x (frame bs) = (11, ⟨false, 0, some (byt x.o ++ frame bs, syn x.o)⟩)) := by show _ = _; unfold appR; rw [if_neg (by rw [ho]; simp), if_pos (.inl hz)]
  have HG : Hid ((byt x.o).length + (frame bs).length ≤ 70368744177664) := hbig
  have c9 := frame_ok b bs w hb hl
  obtain ⟨D, hD⟩ : ∃ D, d.db = D := ⟨_, rfl⟩
  have HD : Hid (d.db = D) := hD
  have HQ : Hid (DQ w d s x) := h
  have HLG : Hid (LogAt w lb D s ∧ lb ∉ d.foot ∧ lb < w.heap.size) := ⟨hD ▸ hlog, hnf, hlog.lt⟩
  clear hD h hlog hnf hb hbig
  go_enter Try.func22, Try.ntmps22
  go_wp2_with (go_at_call 9; refine Calls.mono c9 ?_; rintro e w1 ⟨f1, rfl, hr1, hb1⟩; have HB1 := (show Hid (Below w.heap.size w w1) from hb1); have HR1 := (show Hid (RowB w.heap.size w1 f1 (frame bs)) from hr1); clear hr1 hb1)
  have HL1 : Hid (LogAt w1 lb D s) := HLG.out.1.fr (Fr.of_below (S := fun _ => False) HB1.out) id
  have k0 : ∀ z : Cl w1.heap.size w1, z.u.cell? ⟨lb, 0, none⟩ = some (.pointer (some ⟨D, 0, none⟩)) := fun z => z.cell HL1.out.c0 HL1.out.lt
  have k1 : ∀ z : Cl w1.heap.size w1, z.u.cell? ⟨lb, 1, none⟩ = some (.string s) := fun z => z.cell HL1.out.c1 HL1.out.lt
  have hne := Cl.ne w1.heap.size w1
  apply region_cl_tail (N := w1.heap.size) (W := w1) 9 12 (by kernel_rfl) (Below.refl _ _)
  case hl => simp only [List.take_succ_cons, List.take_zero]; rfl
  case ht => simp only [List.drop_succ_cons, List.drop_zero]; rfl
  case hB => kernel_rfl
  case hT => kernel_rfl
  case h =>
    repeat (go_big_quiet_step (fail))
    refine wpQuiet_nil ?_
    rintro _ ⟨z, rfl⟩
    have HZ : Hid (Below w1.heap.size w1 z.u) := z.h
    obtain ⟨w2, hw2⟩ : ∃ w2, z.u = w2 := ⟨_, rfl⟩
    rw [hw2] at HZ ⊢
    clear hw2 hne k0 k1
    have HB2 : Hid (Below w.heap.size w w2) := HB1.out.trans (HZ.out.mono HB1.out.size)
    have c20 : Calls Try.prog 20 #[.pointer (some ⟨d.db, 0, none⟩), .string s, f1] w2 fun e w' => ∃ d', d'.db = d.db ∧ e = .returned (code 11) ∧ DQ w' d' s ⟨false, 0, some (byt x.o ++ frame bs, syn x.o)⟩ ∧ Fr (Of d) w2 w' ∧ Grew d d' w2 := by
      have hq2 := HQ.out.below HB2.out
      have hap : ∀ y l c, f1 = .slice (some y) l c → 0 < l → y.block ∉ d.foot := fun y l c e hl hc => by
        have h1 := HQ.out.at'.lt _ hc
        have h2 := HR1.out.2
        rcases h2 with ⟨h2, _⟩ | ⟨g, cap, cur, h2, h3, _⟩
        · rw [e] at h2
          cases h2
        · rw [e] at h2
          cases h2
          exact absurd h1 (by show ¬ g < _; omega)
      have := qappend hq2 f1 (frame bs) hn ho (HR1.out.slm.below HZ.out (Nat.le_refl _)) hap HG.out
      unfold stepS at this
      rw [if_pos hz] at this
      simp only [hz] at this
      exact this
    rw [HD.out] at c20
    go_wp2_with (go_at_call 20; refine Calls.mono c20 ?_; rintro e w3 ⟨d3, hdb3, rfl, hq3, hf3, hg3⟩; have H3 := (show Hid (d3.db = D ∧ DQ w3 d3 s ⟨false, 0, some (byt x.o ++ frame bs, syn x.o)⟩ ∧ Fr (Of d) w w3 ∧ Grew d d3 w) from ⟨hdb3, hq3, (Fr.of_below HB2.out).and hf3 (fun _ _ e => e), fun k hk => (hg3 k hk).imp id (fun h => Nat.le_trans HB2.out.size h)⟩); clear hdb3 hq3 hf3 hg3 c20)
    go_ret
    obtain ⟨e1, e2, e3, e4⟩ := H3.out
    rw [HA.out]
    exact ⟨d3, e1.trans HD.out.symm, rfl, e2, e3, e4⟩
set_option maxHeartbeats 1000000 in
theorem logA_cut2 (lb : Nat) (b : Value) (bs : List UInt8) (w : World) (d : Ds) (s : ByteArray) (x : S1) (h : DQ w d s x) (hlog : LogAt w lb d.db s) (hnf : lb ∉ d.foot) (hn : isNm s = true) (hb : SlM w b bs) (hl : bs.length ≤ 2097152) (hbig : (byt x.o).length + (frame bs).length ≤ 70368744177664) (ho : x.on = true) (hz : x.bud ≠ 0) (hz2 : less x.bud = 0) :
    Calls Try.prog 22 #[.pointer (some ⟨lb, 0, none⟩), b] w (QOut w d s (appR x (frame bs)).1 (appR x (frame bs)).2) := by
  have HA : Hid (appR x (frame bs) = (11, ⟨false, 0, some (byt x.o ++ frame bs, syn x.o)⟩)) := by show _ = _; unfold appR; rw [if_neg (by rw [ho]; simp), if_pos (.inr hz2)]
  have HG : Hid ((byt x.o).length + (frame bs).length ≤ 70368744177664) := hbig
  have c9 := frame_ok b bs w hb hl
  obtain ⟨D, hD⟩ : ∃ D, d.db = D := ⟨_, rfl⟩
  have HD : Hid (d.db = D) := hD
  have HQ : Hid (DQ w d s x) := h
  have HLG : Hid (LogAt w lb D s ∧ lb ∉ d.foot ∧ lb < w.heap.size) := ⟨hD ▸ hlog, hnf, hlog.lt⟩
  clear hD h hlog hnf hb hbig
  go_enter Try.func22, Try.ntmps22
  go_wp2_with (go_at_call 9; refine Calls.mono c9 ?_; rintro e w1 ⟨f1, rfl, hr1, hb1⟩; have HB1 := (show Hid (Below w.heap.size w w1) from hb1); have HR1 := (show Hid (RowB w.heap.size w1 f1 (frame bs)) from hr1); clear hr1 hb1)
  have HL1 : Hid (LogAt w1 lb D s) := HLG.out.1.fr (Fr.of_below (S := fun _ => False) HB1.out) id
  have k0 : ∀ z : Cl w1.heap.size w1, z.u.cell? ⟨lb, 0, none⟩ = some (.pointer (some ⟨D, 0, none⟩)) := fun z => z.cell HL1.out.c0 HL1.out.lt
  have k1 : ∀ z : Cl w1.heap.size w1, z.u.cell? ⟨lb, 1, none⟩ = some (.string s) := fun z => z.cell HL1.out.c1 HL1.out.lt
  have hne := Cl.ne w1.heap.size w1
  apply region_cl_tail (N := w1.heap.size) (W := w1) 9 12 (by kernel_rfl) (Below.refl _ _)
  case hl => simp only [List.take_succ_cons, List.take_zero]; rfl
  case ht => simp only [List.drop_succ_cons, List.drop_zero]; rfl
  case hB => kernel_rfl
  case hT => kernel_rfl
  case h =>
    repeat (go_big_quiet_step (fail))
    refine wpQuiet_nil ?_
    rintro _ ⟨z, rfl⟩
    have HZ : Hid (Below w1.heap.size w1 z.u) := z.h
    obtain ⟨w2, hw2⟩ : ∃ w2, z.u = w2 := ⟨_, rfl⟩
    rw [hw2] at HZ ⊢
    clear hw2 hne k0 k1
    have HB2 : Hid (Below w.heap.size w w2) := HB1.out.trans (HZ.out.mono HB1.out.size)
    have c20 : Calls Try.prog 20 #[.pointer (some ⟨d.db, 0, none⟩), .string s, f1] w2 fun e w' => ∃ d', d'.db = d.db ∧ e = .returned .nilIface ∧ DQ w' d' s ⟨true, 0, some (byt x.o ++ frame bs, syn x.o)⟩ ∧ Fr (Of d) w2 w' ∧ Grew d d' w2 := by
      have hq2 := HQ.out.below HB2.out
      have hap : ∀ y l c, f1 = .slice (some y) l c → 0 < l → y.block ∉ d.foot := fun y l c e hl hc => by
        have h1 := HQ.out.at'.lt _ hc
        have h2 := HR1.out.2
        rcases h2 with ⟨h2, _⟩ | ⟨g, cap, cur, h2, h3, _⟩
        · rw [e] at h2
          cases h2
        · rw [e] at h2
          cases h2
          exact absurd h1 (by show ¬ g < _; omega)
      have := qappend hq2 f1 (frame bs) hn ho (HR1.out.slm.below HZ.out (Nat.le_refl _)) hap HG.out
      unfold stepS at this
      rw [if_neg hz] at this
      simp only [ho] at this
      rw [hz2] at this
      exact this
    rw [HD.out] at c20
    go_wp2_with (go_at_call 20; refine Calls.mono c20 ?_; rintro e w3 ⟨d3, hdb3, rfl, hq3, hf3, hg3⟩; have H3 := (show Hid (d3.db = D ∧ DQ w3 d3 s ⟨true, 0, some (byt x.o ++ frame bs, syn x.o)⟩ ∧ Fr (Of d) w w3 ∧ Grew d d3 w) from ⟨hdb3, hq3, (Fr.of_below HB2.out).and hf3 (fun _ _ e => e), fun k hk => (hg3 k hk).imp id (fun h => Nat.le_trans HB2.out.size h)⟩); clear hdb3 hq3 hf3 hg3 c20)
    have HL3 : Hid (LogAt w3 lb D s) := HLG.out.1.fr H3.out.2.2.1 HLG.out.2.1
    have k2 : ∀ z : Cl w3.heap.size w3, z.u.cell? ⟨lb, 0, none⟩ = some (.pointer (some ⟨D, 0, none⟩)) := fun z => z.cell HL3.out.c0 HL3.out.lt
    have k3 : ∀ z : Cl w3.heap.size w3, z.u.cell? ⟨lb, 1, none⟩ = some (.string s) := fun z => z.cell HL3.out.c1 HL3.out.lt
    have hne := Cl.ne w3.heap.size w3
    apply region_cl_tail (N := w3.heap.size) (W := w3) 8 12 (by kernel_rfl) (Below.refl _ _)
    case hl => simp only [List.take_succ_cons, List.take_zero]; rfl
    case ht => simp only [List.drop_succ_cons, List.drop_zero]; rfl
    case hB => kernel_rfl
    case hT => kernel_rfl
    case h =>
      repeat (go_big_quiet_step (fail))
      refine wpQuiet_nil ?_
      rintro _ ⟨z, rfl⟩
      have HZ3 : Hid (Below w3.heap.size w3 z.u) := z.h
      obtain ⟨w4, hw4⟩ : ∃ w4, z.u = w4 := ⟨_, rfl⟩
      rw [hw4] at HZ3 ⊢
      clear hw4 hne k2 k3
      have c42 : Calls Try.prog 42 #[.pointer (some ⟨d3.db, 0, none⟩), .string s] w4 fun e w' => ∃ d', d'.db = d3.db ∧ e = .returned (code 11) ∧ DQ w' d' s ⟨false, 0, some (byt x.o ++ frame bs, syn x.o)⟩ ∧ Fr (Of d3) w4 w' ∧ Grew d3 d' w4 := by
        have := qsync (H3.out.2.1.below HZ3.out) rfl rfl
        unfold stepS at this
        rw [if_pos rfl, if_pos rfl] at this
        exact this
      rw [H3.out.1] at c42
      go_wp2_with (go_at_call 42; refine Calls.mono c42 ?_; rintro e w5 ⟨d5, hdb5, rfl, hq5, hf5, hg5⟩)
      go_ret
      obtain ⟨e1, e2, e3, e4⟩ := H3.out
      rw [HA.out]
      refine ⟨d5, hdb5.trans HD.out.symm, rfl, hq5, e3.and ((Fr.of_below (S := Of d3) HZ3.out).and hf5 (fun _ _ e => e)) (fun k hk hc => ?_), fun k hk => ?_⟩
      · rcases e4 k hc with h1 | h1
        · exact h1
        · omega
      · rcases hg5 k hk with h1 | h1
        · exact e4 k h1
        · exact .inr (Nat.le_trans (Nat.le_trans e3.size HZ3.out.size) h1)
set_option maxHeartbeats 1000000 in
theorem logA_done (lb : Nat) (b : Value) (bs : List UInt8) (w : World) (d : Ds) (s : ByteArray) (x : S1) (h : DQ w d s x) (hlog : LogAt w lb d.db s) (hnf : lb ∉ d.foot) (hn : isNm s = true) (hb : SlM w b bs) (hl : bs.length ≤ 2097152) (hbig : (byt x.o).length + (frame bs).length ≤ 70368744177664) (ho : x.on = true) (hz : x.bud ≠ 0) (hz2 : less x.bud ≠ 0) :
    Calls Try.prog 22 #[.pointer (some ⟨lb, 0, none⟩), b] w (QOut w d s (appR x (frame bs)).1 (appR x (frame bs)).2) := by
  have HA : Hid (appR x (frame bs) = (0, ⟨true, less (less x.bud), some (byt x.o ++ frame bs, (byt x.o ++ frame bs).length)⟩)) := by show _ = _; unfold appR; rw [if_neg (by rw [ho]; simp), if_neg (fun h => h.elim hz hz2)]
  have HG : Hid ((byt x.o).length + (frame bs).length ≤ 70368744177664) := hbig
  have c9 := frame_ok b bs w hb hl
  obtain ⟨D, hD⟩ : ∃ D, d.db = D := ⟨_, rfl⟩
  have HD : Hid (d.db = D) := hD
  have HQ : Hid (DQ w d s x) := h
  have HLG : Hid (LogAt w lb D s ∧ lb ∉ d.foot ∧ lb < w.heap.size) := ⟨hD ▸ hlog, hnf, hlog.lt⟩
  clear hD h hlog hnf hb hbig
  go_enter Try.func22, Try.ntmps22
  go_wp2_with (go_at_call 9; refine Calls.mono c9 ?_; rintro e w1 ⟨f1, rfl, hr1, hb1⟩; have HB1 := (show Hid (Below w.heap.size w w1) from hb1); have HR1 := (show Hid (RowB w.heap.size w1 f1 (frame bs)) from hr1); clear hr1 hb1)
  have HL1 : Hid (LogAt w1 lb D s) := HLG.out.1.fr (Fr.of_below (S := fun _ => False) HB1.out) id
  have k0 : ∀ z : Cl w1.heap.size w1, z.u.cell? ⟨lb, 0, none⟩ = some (.pointer (some ⟨D, 0, none⟩)) := fun z => z.cell HL1.out.c0 HL1.out.lt
  have k1 : ∀ z : Cl w1.heap.size w1, z.u.cell? ⟨lb, 1, none⟩ = some (.string s) := fun z => z.cell HL1.out.c1 HL1.out.lt
  have hne := Cl.ne w1.heap.size w1
  apply region_cl_tail (N := w1.heap.size) (W := w1) 9 12 (by kernel_rfl) (Below.refl _ _)
  case hl => simp only [List.take_succ_cons, List.take_zero]; rfl
  case ht => simp only [List.drop_succ_cons, List.drop_zero]; rfl
  case hB => kernel_rfl
  case hT => kernel_rfl
  case h =>
    repeat (go_big_quiet_step (fail))
    refine wpQuiet_nil ?_
    rintro _ ⟨z, rfl⟩
    have HZ : Hid (Below w1.heap.size w1 z.u) := z.h
    obtain ⟨w2, hw2⟩ : ∃ w2, z.u = w2 := ⟨_, rfl⟩
    rw [hw2] at HZ ⊢
    clear hw2 hne k0 k1
    have HB2 : Hid (Below w.heap.size w w2) := HB1.out.trans (HZ.out.mono HB1.out.size)
    have c20 : Calls Try.prog 20 #[.pointer (some ⟨d.db, 0, none⟩), .string s, f1] w2 fun e w' => ∃ d', d'.db = d.db ∧ e = .returned .nilIface ∧ DQ w' d' s ⟨true, less x.bud, some (byt x.o ++ frame bs, syn x.o)⟩ ∧ Fr (Of d) w2 w' ∧ Grew d d' w2 := by
      have hq2 := HQ.out.below HB2.out
      have hap : ∀ y l c, f1 = .slice (some y) l c → 0 < l → y.block ∉ d.foot := fun y l c e hl hc => by
        have h1 := HQ.out.at'.lt _ hc
        have h2 := HR1.out.2
        rcases h2 with ⟨h2, _⟩ | ⟨g, cap, cur, h2, h3, _⟩
        · rw [e] at h2
          cases h2
        · rw [e] at h2
          cases h2
          exact absurd h1 (by show ¬ g < _; omega)
      have := qappend hq2 f1 (frame bs) hn ho (HR1.out.slm.below HZ.out (Nat.le_refl _)) hap HG.out
      unfold stepS at this
      rw [if_neg hz] at this
      simp only [ho] at this
      exact this
    rw [HD.out] at c20
    go_wp2_with (go_at_call 20; refine Calls.mono c20 ?_; rintro e w3 ⟨d3, hdb3, rfl, hq3, hf3, hg3⟩; have H3 := (show Hid (d3.db = D ∧ DQ w3 d3 s ⟨true, less x.bud, some (byt x.o ++ frame bs, syn x.o)⟩ ∧ Fr (Of d) w w3 ∧ Grew d d3 w) from ⟨hdb3, hq3, (Fr.of_below HB2.out).and hf3 (fun _ _ e => e), fun k hk => (hg3 k hk).imp id (fun h => Nat.le_trans HB2.out.size h)⟩); clear hdb3 hq3 hf3 hg3 c20)
    have HL3 : Hid (LogAt w3 lb D s) := HLG.out.1.fr H3.out.2.2.1 HLG.out.2.1
    have k2 : ∀ z : Cl w3.heap.size w3, z.u.cell? ⟨lb, 0, none⟩ = some (.pointer (some ⟨D, 0, none⟩)) := fun z => z.cell HL3.out.c0 HL3.out.lt
    have k3 : ∀ z : Cl w3.heap.size w3, z.u.cell? ⟨lb, 1, none⟩ = some (.string s) := fun z => z.cell HL3.out.c1 HL3.out.lt
    have hne := Cl.ne w3.heap.size w3
    apply region_cl_tail (N := w3.heap.size) (W := w3) 8 12 (by kernel_rfl) (Below.refl _ _)
    case hl => simp only [List.take_succ_cons, List.take_zero]; rfl
    case ht => simp only [List.drop_succ_cons, List.drop_zero]; rfl
    case hB => kernel_rfl
    case hT => kernel_rfl
    case h =>
      repeat (go_big_quiet_step (fail))
      refine wpQuiet_nil ?_
      rintro _ ⟨z, rfl⟩
      have HZ3 : Hid (Below w3.heap.size w3 z.u) := z.h
      obtain ⟨w4, hw4⟩ : ∃ w4, z.u = w4 := ⟨_, rfl⟩
      rw [hw4] at HZ3 ⊢
      clear hw4 hne k2 k3
      have c42 : Calls Try.prog 42 #[.pointer (some ⟨d3.db, 0, none⟩), .string s] w4 fun e w' => ∃ d', d'.db = d3.db ∧ e = .returned .nilIface ∧ DQ w' d' s ⟨true, less (less x.bud), some (byt x.o ++ frame bs, (byt x.o ++ frame bs).length)⟩ ∧ Fr (Of d3) w4 w' ∧ Grew d3 d' w4 := by
        have := qsync (H3.out.2.1.below HZ3.out) rfl rfl
        unfold stepS at this
        rw [if_neg (show ¬ less x.bud = 0 from hz2), if_neg (show ¬ less x.bud = 0 from hz2)] at this
        exact this
      rw [H3.out.1] at c42
      go_wp2_with (go_at_call 42; refine Calls.mono c42 ?_; rintro e w5 ⟨d5, hdb5, rfl, hq5, hf5, hg5⟩)
      go_ret
      obtain ⟨e1, e2, e3, e4⟩ := H3.out
      rw [HA.out]
      refine ⟨d5, hdb5.trans HD.out.symm, rfl, hq5, e3.and ((Fr.of_below (S := Of d3) HZ3.out).and hf5 (fun _ _ e => e)) (fun k hk hc => ?_), fun k hk => ?_⟩
      · rcases e4 k hc with h1 | h1
        · exact h1
        · omega
      · rcases hg5 k hk with h1 | h1
        · exact e4 k h1
        · exact .inr (Nat.le_trans (Nat.le_trans e3.size HZ3.out.size) h1)
theorem logA_any (lb : Nat) (b : Value) (bs : List UInt8) (w : World) (d : Ds) (s : ByteArray) (x : S1) (h : DQ w d s x) (hlog : LogAt w lb d.db s) (hnf : lb ∉ d.foot) (hn : isNm s = true) (hs : s.size ≤ 140737488355328) (hb : SlM w b bs) (hl : bs.length ≤ 2097152) (hbig : (byt x.o).length + (frame bs).length ≤ 70368744177664) :
    Calls Try.prog 22 #[.pointer (some ⟨lb, 0, none⟩), b] w (QOut w d s (appR x (frame bs)).1 (appR x (frame bs)).2) := by
  cases ho : x.on with
  | false => exact logA_off lb b bs w d s x h hlog hnf hn hb hl hs ho
  | true =>
    by_cases hz : x.bud = 0
    · exact logA_cut lb b bs w d s x h hlog hnf hn hb hl hbig ho hz
    · by_cases hz2 : less x.bud = 0
      · exact logA_cut2 lb b bs w d s x h hlog hnf hn hb hl hbig ho hz hz2
      · exact logA_done lb b bs w d s x h hlog hnf hn hb hl hbig ho hz hz2
set_option maxHeartbeats 1000000 in
/-- Clear, where there is a file and the power stays. -/
theorem clear_any (lb : Nat) (w : World) (d : Ds) (s : ByteArray) (bs : List UInt8) (sy : Nat) (h : DQ w d s ⟨true, -1, some (bs, sy)⟩) (hlog : LogAt w lb d.db s) :
    Calls Try.prog 23 #[.pointer (some ⟨lb, 0, none⟩)] w (QOut w d s 0 ⟨true, -1, some ([], 0)⟩) := by
  obtain ⟨D, hD⟩ : ∃ D, d.db = D := ⟨_, rfl⟩
  have HD : Hid (d.db = D) := hD
  have HQ : Hid (DQ w d s ⟨true, -1, some (bs, sy)⟩) := h
  rw [hD] at hlog
  have HLG : Hid (LogAt w lb D s) := hlog
  have k0 : ∀ z : Cl w.heap.size w, z.u.cell? ⟨lb, 0, none⟩ = some (.pointer (some ⟨D, 0, none⟩)) := fun z => z.cell hlog.c0 hlog.lt
  have k1 : ∀ z : Cl w.heap.size w, z.u.cell? ⟨lb, 1, none⟩ = some (.string s) := fun z => z.cell hlog.c1 hlog.lt
  have hne := Cl.ne w.heap.size w
  have n9 := nil_eql 9
  clear hD h hlog
  go_enter Try.func23, Try.ntmps23
  go_wp2
  apply region_cl_tail (N := w.heap.size) (W := w) 8 12 (by kernel_rfl) (Below.refl _ _)
  case hl => simp only [List.take_succ_cons, List.take_zero]; rfl
  case ht => simp only [List.drop_succ_cons, List.drop_zero]; rfl
  case hB => kernel_rfl
  case hT => kernel_rfl
  case h =>
    repeat (go_big_quiet_step (fail))
    refine wpQuiet_nil ?_
    rintro _ ⟨z, rfl⟩
    have HZ : Hid (Below w.heap.size w z.u) := z.h
    obtain ⟨w2, hw2⟩ : ∃ w2, z.u = w2 := ⟨_, rfl⟩
    rw [hw2] at HZ ⊢
    clear hw2 hne k0 k1
    have c35 : Calls Try.prog 35 #[.pointer (some ⟨d.db, 0, none⟩), .string s, .int .i64 0] w2 fun e w' => ∃ d', d'.db = d.db ∧ e = .returned .nilIface ∧ DQ w' d' s ⟨true, -1, some ([], 0)⟩ ∧ Fr (Of d) w2 w' ∧ Grew d d' w2 := by
      have := qtrunc (HQ.out.below HZ.out) rfl rfl (by show (-1 : Int) ≠ 0; decide) 0 (Nat.zero_le _)
      exact this
    rw [HD.out] at c35
    go_wp2_with (go_at_call 35; refine Calls.mono c35 ?_; rintro e w3 ⟨d3, hdb3, rfl, hq3, hf3, hg3⟩; have H3 := (show Hid (d3.db = D ∧ DQ w3 d3 s ⟨true, -1, some ([], 0)⟩ ∧ Fr (Of d) w w3 ∧ Grew d d3 w) from ⟨hdb3, hq3, (Fr.of_below HZ.out).and hf3 (fun _ _ e => e), fun k hk => (hg3 k hk).imp id (fun h => Nat.le_trans HZ.out.size h)⟩); clear hdb3 hq3 hf3 hg3 c35)
    go_ret
    obtain ⟨e1, e2, e3, e4⟩ := H3.out
    exact ⟨d3, e1.trans HD.out.symm, rfl, e2, e3, e4⟩
end Wl
end Go.Proofs.Ytamddicoancdhaa
