/- The walk of FieldInvs: it answers true. -/
import Derived.Test.YtgdekigdbbldoaaLa
namespace Go.Proofs.Ytgdekigdbbldoaa
open Go.RowKit
namespace Fd
open Rg Pratt

set_option maxHeartbeats 8000000 in
set_option maxRecDepth 8000 in
theorem invs_zero (a : Nat) (ha : a < 115792089237316195423570985008687907853269984665640564039457584007913129639936) (hyp : a % p = 0) (w : World) :
    Calls Try.prog 4 #[bv a] w fun e w' => e = .returned (.bool true) ∧ Below w.heap.size w w' := by
  have cS := fun W => shown_any W
  have cI : ∀ W : World, Calls Try.prog 23 #[bv a] W fun e w' => e = .returned (.tuple #[bv 0, .iface 35 (.int .i64 28)]) ∧ Below W.heap.size W w' := fun W => inv_zero a W ha hyp
  have c0 : ∀ W : World, Calls Try.prog 24 #[.int .u8 0] W fun e w' => e = .returned (bv 0) ∧ Below W.heap.size W w' := fun W => small_any 0 W (by decide)
  have e28 : ∀ W : World, (binOp .eql 32 (.iface 35 (.int .i64 28)) (.iface 35 (.int .i64 28))).run Try.prog W = .ok (.bool true) W := fun W => bin_err 28 28 W
  have HIA : Hid (∀ W : World, Calls Try.prog 14 #[.agg (bvc a).toArray] W fun e w' => ∃ X : Option Addr × Nat, e = .returned (.slice X.1 0 X.2) ∧ Below W.heap.size W w') := fun W => (Dt.in_any a W (by rw [← Dt.two256]; exact ha)).mono fun e w' ⟨v, h1, ⟨A, L, cap, h2, _, _, h3⟩, h4⟩ => ⟨(A, cap), by rw [h1, h2, h3.nil_iff.2 hyp], h4⟩
  have q0 : ∀ W : World, (Op.equalIn 10000 22 (.agg (bvc 0).toArray) (.agg (bvc 0).toArray)).run Try.prog W = .ok true W := fun W => by have h := eq22 0 0 W (by decide) (by decide); rwa [decide_eq_true rfl] at h
  unfold bv at cI c0 ⊢
  have LA : Hid (L32 (bvc a)) := l32 a
  have LX0 : Hid (L32 (bvc 0)) := l32 0
  obtain ⟨A, hA⟩ : ∃ X, bvc a = X := ⟨_, rfl⟩
  obtain ⟨X0, hX0⟩ : ∃ X, bvc 0 = X := ⟨_, rfl⟩
  rw [hA] at LA cI HIA ⊢
  rw [hX0] at LX0 cI c0 q0
  clear hA hX0
  clear ha hyp
  have hz := zero22
  have HBN : Hid (∀ (W : World) (R : List Value), R.length = 32 → Bo ((W.alloc (.cells z22 22)).setCells W.heap.size 0 R) W.heap.size R ∧ Below W.heap.size W ((W.alloc (.cells z22 22)).setCells W.heap.size 0 R)) := box_new
  have HLT : Hid (∀ (R : List Value), L32 R → ∀ W : World, (W.alloc (.cells z22 22)).there W.heap.size 0 R.toArray.size) := fun R h => h.t
  obtain ⟨Z, hZ⟩ : ∃ Z, z22 = Z := ⟨_, rfl⟩
  rw [hZ] at hz HBN HLT
  clear hZ
  obtain ⟨n, hn⟩ : ∃ n, w.heap.size = n := ⟨_, rfl⟩
  have BA : Hid (Bo (w.alloc (.cells A.toArray 22)) n A) := by show Bo _ _ _; rw [← hn]; exact bo1 _ _
  have HBW : Hid (Below w.heap.size w (w.alloc (.cells A.toArray 22))) := ((Below.refl _ _).alloc (by simp) _)
  have BA_0 := BA
  have HB_0 := (show Hid (Below w.heap.size w (w.alloc (.cells A.toArray 22))) from HBW.out)
  have TK_0 := (show Hid True from trivial)
  go_enter Try.func4, Try.ntmps4
  go_wp2_with (first
    | (refine wpList_load_mid rfl 22 (.tmp 1) rfl n 0 rfl A _ BA_0.out.1 Try.underlying22 rfl LA.out.i ?_)
    | (refine wpList_load_mid rfl 22 (.tmp 1) rfl n 0 rfl A _ BA_1.out.1 Try.underlying22 rfl LA.out.i ?_)
    | (refine wpList_load_mid rfl 22 (.tmp 1) rfl n 0 rfl A _ BA_2.out.1 Try.underlying22 rfl LA.out.i ?_)
    | (refine wpList_load_mid rfl 22 (.tmp 1) rfl n 0 rfl A _ BA_3.out.1 Try.underlying22 rfl LA.out.i ?_)
    | (refine wpList_load_mid rfl 22 (.tmp 4) rfl bBI 0 rfl X0 _ BI_3.out.1 Try.underlying22 rfl LX0.out.i ?_)
    | (refine wpList_load_mid rfl 22 (.tmp 1) rfl n 0 rfl A _ BA_4.out.1 Try.underlying22 rfl LA.out.i ?_)
    | (refine wpList_load_mid rfl 22 (.tmp 4) rfl bBI 0 rfl X0 _ BI_4.out.1 Try.underlying22 rfl LX0.out.i ?_)
    | (have hq := TK_0; go_at_call 13; refine (cS _).mono ?_; rintro e w1 ⟨rfl, hb⟩; have HB_1 := (show Hid (Below w.heap.size w w1) from HB_0.out.trans (hb.mono HB_0.out.size)); have BA_1 := (show Hid (Bo w1 n A) from BA_0.out.below hb); have TK_1 := (show Hid True from trivial); clear hq TK_0 hb HB_0 BA_0)
    | (have hq := TK_1; go_at_call 23; refine (cI _).mono ?_; rintro e w2 ⟨rfl, hb⟩; have HB_2 := (show Hid (Below w.heap.size w w2) from HB_1.out.trans (hb.mono HB_1.out.size)); have BA_2 := (show Hid (Bo w2 n A) from BA_1.out.below hb); have TK_2 := (show Hid True from trivial); clear hq TK_1 hb HB_1 BA_1)
    | (have hq := TK_2; refine wpList_store_mid rfl 22 (.tmp 4) (.tmp 11) rfl w2.heap.size 0 X0.toArray rfl rfl (HLT.out X0 LX0.out w2) LX0.out.j LX0.out.o ?_; simp only; have hbx := HBN.out w2 X0 LX0.out.l; obtain ⟨w3, hw3⟩ : ∃ v, (w2.alloc (.cells Z 22)).setCells w2.heap.size 0 X0 = v := ⟨_, rfl⟩; rw [hw3] at hbx ⊢; clear hw3; have hb := hbx.2; replace hbx := hbx.1; obtain ⟨bBI, hbBI⟩ : ∃ b, w2.heap.size = b := ⟨_, rfl⟩; rw [hbBI] at hbx ⊢; clear hbBI; have HB_3 := (show Hid (Below w.heap.size w w3) from HB_2.out.trans (hb.mono HB_2.out.size)); have BA_3 := (show Hid (Bo w3 n A) from BA_2.out.below hb); have BI_3 := (show Hid (Bo w3 bBI X0) from hbx); have TK_3 := (show Hid True from trivial); clear hq TK_2 hb HB_2 BA_2 hbx)
    | (have hq := TK_3; go_at_call 14; refine (HIA.out _).mono ?_; rintro e w4 ⟨⟨xa, xc⟩, rfl, hb⟩; have HB_4 := (show Hid (Below w.heap.size w w4) from HB_3.out.trans (hb.mono HB_3.out.size)); have BA_4 := (show Hid (Bo w4 n A) from BA_3.out.below hb); have BI_4 := (show Hid (Bo w4 bBI X0) from BI_3.out.below hb); have TK_4 := (show Hid True from trivial); clear hq TK_3 hb HB_3 BA_3 BI_3))
  have HQBA := (show Hid _ from BA_4.out.cl)
  have HQBI := (show Hid _ from BI_4.out.cl)
  have hne := Cl.ne w4.heap.size w4
  refine region_cl (N := w4.heap.size) (W := w4) (by kernel_rfl) (by kernel_rfl) (Below.refl _ _) ?_
  repeat (first
    | (go_big_quiet_want; (first | (refine quiet_load 22 _ rfl n 0 rfl A _ HQBA.out Try.underlying22 rfl LA.out.i ?_) | (refine quiet_load 22 _ rfl bBI 0 rfl X0 _ HQBI.out Try.underlying22 rfl LX0.out.i ?_)); simp only [Act.put, List.setIfInBounds_toArray, List.set_cons_zero, List.set_cons_succ]; go_big_quiet_on)
    | go_big_quiet_step ((first | (go_at_call 24; exact cl_of (c0 _) (Nat.le_refl _)))))
  refine wpQuiet_nil ?_
  rintro _ ⟨xq, rfl⟩
  have hb := xq.h
  have HB_5 := (show Hid (Below w.heap.size w xq.u) from HB_4.out.trans (hb.mono HB_4.out.size))
  have BA_5 := (show Hid (Bo xq.u n A) from BA_4.out.below hb)
  have BI_5 := (show Hid (Bo xq.u bBI X0) from BI_4.out.below hb)
  obtain ⟨w5, hw5⟩ : ∃ v, xq.u = v := ⟨_, rfl⟩
  rw [hw5] at HB_5 BA_5 BI_5 ⊢
  clear hw5 hb xq hne HB_4 BA_4 BI_4 HQBA HQBI
  go_wp2
  go_ret
  exact ⟨rfl, HB_5.out⟩

set_option maxHeartbeats 8000000 in
set_option maxRecDepth 8000 in
theorem invs_some (a : Nat) (ha : a < 115792089237316195423570985008687907853269984665640564039457584007913129639936) (hyp : ¬ a % p = 0) (w : World) :
    Calls Try.prog 4 #[bv a] w fun e w' => e = .returned (.bool true) ∧ Below w.heap.size w w' := by
  have cS := fun W => shown_any W
  obtain ⟨i, hil, _, hip, cI⟩ := inv_at a ha hyp
  obtain ⟨x, hap⟩ : ∃ x, a % p = x := ⟨_, rfl⟩
  rw [hap] at hyp hip
  have hxl : x < p := by rw [← hap]; exact Nat.mod_lt _ (by decide)
  have HIA : Hid (∀ W : World, Calls Try.prog 14 #[.agg (bvc a).toArray] W fun e w' => ∃ X : Option Addr × Nat × Nat, e = .returned (.slice X.1 X.2.1 X.2.2) ∧ (0 < X.2.1 ∧ Dt.Num w' (.slice X.1 X.2.1 X.2.2) x) ∧ Below W.heap.size W w') := fun W => (Dt.in_any a W (by rw [← Dt.two256]; exact ha)).mono fun e w' ⟨v, h1, h0, h4⟩ => by
    rw [hap] at h0
    obtain ⟨A, L, cap, h2, h5, h6, h3⟩ := h0
    refine ⟨(A, L.length, cap), by rw [h1, h2], ⟨?_, ⟨A, L, cap, rfl, h5, h6, h3⟩⟩, h4⟩
    rcases Nat.eq_zero_or_pos L.length with h | h
    · exact absurd (h3.nil_iff.1 h) hyp
    · exact h
  have HIN : Hid (∀ (W : World) (u : Value), Dt.Num W u x → Calls Try.prog 25 #[u] W fun e w' => ∃ v, e = .returned v ∧ Dt.Num w' v i ∧ Below W.heap.size W w') := fun W u h => by have h1 := Dt.inv_num h hxl; rwa [← hip] at h1
  have en := eq_nil
  have HBI : Hid (∀ (W : World) (v : Value), Dt.Num W v i → Calls Try.prog 16 #[v] W fun e w' => e = .returned (.agg (bvc i).toArray) ∧ Below W.heap.size W w') := fun W v h => Dt.bytes_num h
  have qi : ∀ W : World, (Op.equalIn 10000 22 (.agg (bvc i).toArray) (.agg (bvc i).toArray)).run Try.prog W = .ok true W := fun W => by have h := eq22 i i W (Nat.lt_trans hil plt) (Nat.lt_trans hil plt); rwa [decide_eq_true rfl] at h
  unfold bv at cI ⊢
  have LA : Hid (L32 (bvc a)) := l32 a
  have LI : Hid (L32 (bvc i)) := l32 i
  obtain ⟨A, hA⟩ : ∃ X, bvc a = X := ⟨_, rfl⟩
  obtain ⟨I, hI⟩ : ∃ X, bvc i = X := ⟨_, rfl⟩
  rw [hA] at LA cI HIA ⊢
  rw [hI] at LI cI HBI qi
  clear hA hI
  clear ha hyp hap hip hil hxl
  have hz := zero22
  have HBN : Hid (∀ (W : World) (R : List Value), R.length = 32 → Bo ((W.alloc (.cells z22 22)).setCells W.heap.size 0 R) W.heap.size R ∧ Below W.heap.size W ((W.alloc (.cells z22 22)).setCells W.heap.size 0 R)) := box_new
  have HLT : Hid (∀ (R : List Value), L32 R → ∀ W : World, (W.alloc (.cells z22 22)).there W.heap.size 0 R.toArray.size) := fun R h => h.t
  obtain ⟨Z, hZ⟩ : ∃ Z, z22 = Z := ⟨_, rfl⟩
  rw [hZ] at hz HBN HLT
  clear hZ
  obtain ⟨n, hn⟩ : ∃ n, w.heap.size = n := ⟨_, rfl⟩
  have BA : Hid (Bo (w.alloc (.cells A.toArray 22)) n A) := by show Bo _ _ _; rw [← hn]; exact bo1 _ _
  have HBW : Hid (Below w.heap.size w (w.alloc (.cells A.toArray 22))) := ((Below.refl _ _).alloc (by simp) _)
  have BA_0 := BA
  have HB_0 := (show Hid (Below w.heap.size w (w.alloc (.cells A.toArray 22))) from HBW.out)
  have TK_0 := (show Hid True from trivial)
  go_enter Try.func4, Try.ntmps4
  go_wp2_with (first
    | (refine wpList_load_mid rfl 22 (.tmp 1) rfl n 0 rfl A _ BA_0.out.1 Try.underlying22 rfl LA.out.i ?_)
    | (refine wpList_load_mid rfl 22 (.tmp 1) rfl n 0 rfl A _ BA_1.out.1 Try.underlying22 rfl LA.out.i ?_)
    | (refine wpList_load_mid rfl 22 (.tmp 1) rfl n 0 rfl A _ BA_2.out.1 Try.underlying22 rfl LA.out.i ?_)
    | (refine wpList_load_mid rfl 22 (.tmp 1) rfl n 0 rfl A _ BA_3.out.1 Try.underlying22 rfl LA.out.i ?_)
    | (refine wpList_load_mid rfl 22 (.tmp 4) rfl bBI 0 rfl I _ BI_3.out.1 Try.underlying22 rfl LI.out.i ?_)
    | (refine wpList_load_mid rfl 22 (.tmp 1) rfl n 0 rfl A _ BA_4.out.1 Try.underlying22 rfl LA.out.i ?_)
    | (refine wpList_load_mid rfl 22 (.tmp 4) rfl bBI 0 rfl I _ BI_4.out.1 Try.underlying22 rfl LI.out.i ?_)
    | (have hq := TK_0; go_at_call 13; refine (cS _).mono ?_; rintro e w1 ⟨rfl, hb⟩; have HB_1 := (show Hid (Below w.heap.size w w1) from HB_0.out.trans (hb.mono HB_0.out.size)); have BA_1 := (show Hid (Bo w1 n A) from BA_0.out.below hb); have TK_1 := (show Hid True from trivial); clear hq TK_0 hb HB_0 BA_0)
    | (have hq := TK_1; go_at_call 23; refine (cI _).mono ?_; rintro e w2 ⟨rfl, hb⟩; have HB_2 := (show Hid (Below w.heap.size w w2) from HB_1.out.trans (hb.mono HB_1.out.size)); have BA_2 := (show Hid (Bo w2 n A) from BA_1.out.below hb); have TK_2 := (show Hid True from trivial); clear hq TK_1 hb HB_1 BA_1)
    | (have hq := TK_2; refine wpList_store_mid rfl 22 (.tmp 4) (.tmp 11) rfl w2.heap.size 0 I.toArray rfl rfl (HLT.out I LI.out w2) LI.out.j LI.out.o ?_; simp only; have hbx := HBN.out w2 I LI.out.l; obtain ⟨w3, hw3⟩ : ∃ v, (w2.alloc (.cells Z 22)).setCells w2.heap.size 0 I = v := ⟨_, rfl⟩; rw [hw3] at hbx ⊢; clear hw3; have hb := hbx.2; replace hbx := hbx.1; obtain ⟨bBI, hbBI⟩ : ∃ b, w2.heap.size = b := ⟨_, rfl⟩; rw [hbBI] at hbx ⊢; clear hbBI; have HB_3 := (show Hid (Below w.heap.size w w3) from HB_2.out.trans (hb.mono HB_2.out.size)); have BA_3 := (show Hid (Bo w3 n A) from BA_2.out.below hb); have BI_3 := (show Hid (Bo w3 bBI I) from hbx); have TK_3 := (show Hid True from trivial); clear hq TK_2 hb HB_2 BA_2 hbx)
    | (have hq := TK_3; go_at_call 14; refine (HIA.out _).mono ?_; rintro e w4 ⟨⟨xa, xn, xc⟩, rfl, ⟨hpos, hn⟩, hb⟩; have HB_4 := (show Hid (Below w.heap.size w w4) from HB_3.out.trans (hb.mono HB_3.out.size)); have BA_4 := (show Hid (Bo w4 n A) from BA_3.out.below hb); have BI_4 := (show Hid (Bo w4 bBI I) from BI_3.out.below hb); have NX_4 := (show Hid (Dt.Num w4 (.slice xa xn xc) x) from hn); replace hpos := (show (0 : Int) < (xn : Int) from (by simpa using hpos)); have hpne := (show ¬ (xn : Int) = 0 from (by omega)); have TK_4 := (show Hid True from trivial); clear hq TK_3 hb HB_3 BA_3 BI_3 hn))
  have HQI := (show Hid (Bo w4 bBI I) from BI_4.out)
  refine wp_region_held_drew (S := fun w' => Below w4.heap.size w4 w') (by kernel_rfl) (drewB w4) (fun hS => ?_)
  refine wpAnyH_take (i := 0) (v := .bool true) rfl (by kernel_rfl) (by kernel_rfl) (by kernel_rfl) (fun _ _ _ h => h) (Or.inl ⟨by kernel_rfl, fun wq hS => by go_simp⟩) hS ?_
  try simp only [Act.put, List.setIfInBounds_toArray, List.set_cons_zero, List.set_cons_succ, List.getElem_toArray, List.getElem_cons_zero]
  refine wpAnyH_take (i := 1) (v := .bool true) rfl (by kernel_rfl) (by kernel_rfl) (by kernel_rfl) (fun _ _ _ h => h) (Or.inl ⟨by kernel_rfl, fun wq hS => by go_simp⟩) hS ?_
  try simp only [Act.put, List.setIfInBounds_toArray, List.set_cons_zero, List.set_cons_succ, List.getElem_toArray, List.getElem_cons_succ, List.getElem_cons_zero]
  refine wpAnyH_take (i := 2) (v := .nilIface) rfl (by kernel_rfl) (by kernel_rfl) (by kernel_rfl) (fun _ _ _ h => h) (Or.inl ⟨by kernel_rfl, fun wq hS => by go_simp⟩) hS ?_
  try simp only [Act.put, List.setIfInBounds_toArray, List.set_cons_zero, List.set_cons_succ, List.getElem_toArray, List.getElem_cons_succ, List.getElem_cons_zero]
  refine wpAnyH_take (i := 3) (v := .bool true) rfl (by kernel_rfl) (by kernel_rfl) (by kernel_rfl) (fun _ _ _ h => h) (Or.inl ⟨by kernel_rfl, fun wq hS => by go_simp⟩) hS ?_
  try simp only [Act.put, List.setIfInBounds_toArray, List.set_cons_zero, List.set_cons_succ, List.getElem_toArray, List.getElem_cons_succ, List.getElem_cons_zero]
  refine wpAnyH_take (i := 4) (v := .bool true) rfl (by kernel_rfl) (by kernel_rfl) (by kernel_rfl) (fun _ _ _ h => h) (Or.inl ⟨by kernel_rfl, fun wq hS => by go_simp⟩) hS ?_
  try simp only [Act.put, List.setIfInBounds_toArray, List.set_cons_zero, List.set_cons_succ, List.getElem_toArray, List.getElem_cons_succ, List.getElem_cons_zero]
  refine wpAnyH_take (i := 5) (v := .bool true) rfl (by kernel_rfl) (by kernel_rfl) (by kernel_rfl) (fun _ _ _ h => h) (Or.inl ⟨by kernel_rfl, fun wq hS => by go_simp⟩) hS ?_
  try simp only [Act.put, List.setIfInBounds_toArray, List.set_cons_zero, List.set_cons_succ, List.getElem_toArray, List.getElem_cons_succ, List.getElem_cons_zero]
  refine wpAnyH_take (i := 6) (v := .agg I.toArray) rfl (by kernel_rfl) (by kernel_rfl) (by kernel_rfl) (fun _ _ _ h => h) (yieldsIf_load_mid (by kernel_rfl) 22 (.tmp 4) rfl bBI 0 rfl I _ (fun wq hq => Rg.Below.range hq HQI.out.1 HQI.out.2) Try.underlying22 rfl LI.out.i) hS ?_
  try simp only [Act.put, List.setIfInBounds_toArray, List.set_cons_zero, List.set_cons_succ, List.getElem_toArray, List.getElem_cons_succ, List.getElem_cons_zero]
  refine wpAnyH_take (i := 7) (v := .slice xa xn xc) rfl (by kernel_rfl) (by kernel_rfl) (by kernel_rfl) (fun _ _ _ h => h) (Or.inl ⟨by kernel_rfl, fun wq hS => by go_simp⟩) hS ?_
  try simp only [Act.put, List.setIfInBounds_toArray, List.set_cons_zero, List.set_cons_succ, List.getElem_toArray, List.getElem_cons_succ, List.getElem_cons_zero]
  refine wpAnyH_ready (rs := [8]) (by kernel_rfl) (by simp) ?_
  refine AllReadyH.cons rfl (fun K hK => ?_) AllReadyH.nil
  go_simp
  refine (HIN.out _ _ (NX_4.out.below hS)).mono ?_
  rintro e wu ⟨vu, rfl, hnu, hbu⟩
  have HNu : Hid (Dt.Num wu vu i) := hnu
  have hS4 : Below w4.heap.size w4 wu := hS.trans (hbu.mono hS.size)
  refine hK.out _ _ hS4 (fun hS => ?_)
  clear hK K hbu hS4 hnu
  try simp only [Act.put, List.setIfInBounds_toArray, List.set_cons_zero, List.set_cons_succ, List.getElem_toArray, List.getElem_cons_succ, List.getElem_cons_zero]
  refine wpAnyH_ready (rs := [9]) (by kernel_rfl) (by simp) ?_
  refine AllReadyH.cons rfl (fun K hK => ?_) AllReadyH.nil
  go_simp
  refine (HBI.out _ _ HNu.out).mono ?_
  rintro e wv ⟨rfl, hbv⟩
  have hS5 : Below w4.heap.size w4 wv := hS.trans (hbv.mono hS.size)
  refine hK.out _ _ hS5 (fun hS => ?_)
  clear hK K hbv hS5
  try simp only [Act.put, List.setIfInBounds_toArray, List.set_cons_zero, List.set_cons_succ, List.getElem_toArray, List.getElem_cons_succ, List.getElem_cons_zero]
  refine wpAnyH_take (i := 10) (v := .bool true) rfl (by kernel_rfl) (by kernel_rfl) (by kernel_rfl) (fun _ _ _ h => h) (Or.inl ⟨by kernel_rfl, fun wq hS => by go_simp⟩) hS ?_
  try simp only [Act.put, List.setIfInBounds_toArray, List.set_cons_zero, List.set_cons_succ, List.getElem_toArray, List.getElem_cons_succ, List.getElem_cons_zero]
  refine wpAnyH_take (i := 11) (v := .bool true) rfl (by kernel_rfl) (by kernel_rfl) (by kernel_rfl) (fun _ _ _ h => h) (Or.inl ⟨by kernel_rfl, fun wq hS => by go_simp⟩) hS ?_
  try simp only [Act.put, List.setIfInBounds_toArray, List.set_cons_zero, List.set_cons_succ, List.getElem_toArray, List.getElem_cons_succ, List.getElem_cons_zero]
  refine wpAnyH_ready (rs := [12]) (by kernel_rfl) (by simp) ?_
  refine AllReadyH.cons rfl (fun K hK => ?_) AllReadyH.nil
  go_simp
  refine hK.out _ _ hS (fun hS => ?_)
  clear hK K
  try simp only [Act.put, List.setIfInBounds_toArray, List.set_cons_zero, List.set_cons_succ, List.getElem_toArray, List.getElem_cons_succ, List.getElem_cons_zero]
  refine wpAnyH_done (by kernel_rfl) ?_ _
  have HBF := (show Hid (Below w.heap.size w wv) from HB_4.out.trans (hS.mono HB_4.out.size))
  go_wp2
  go_ret
  exact ⟨rfl, HBF.out⟩
end Fd
end Go.Proofs.Ytgdekigdbbldoaa
