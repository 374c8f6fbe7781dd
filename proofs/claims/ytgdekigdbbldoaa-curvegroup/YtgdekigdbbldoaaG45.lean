/- What withEven does: a contract, by walking its text. What withEven does where there is no root: a contract, by walking its text. -/
import Derived.Test.YtgdekigdbbldoaaG40
namespace Go.Proofs.Ytgdekigdbbldoaa
open Go.RowKit
namespace Fd
open Rg Pratt

theorem float_box {w : World} {g : Nat} {R : List Value} (hR : L32 R) (h1 : w.there g 0 32) (h2 : g < w.heap.size) : Rp (w.setCells g 0 R) g 0 R :=
  ⟨World.rangeAt_setCells_same _ _ _ _ (by rw [hR.l]; exact h1), by rw [size_setCells]; exact h2⟩
/-- Inv, whatever is told beside. -/
theorem inv_tell (a : Nat) (ha : a < 115792089237316195423570985008687907853269984665640564039457584007913129639936) : ∃ ev : Value, ∀ w : World, Calls Try.prog 23 #[bv a] w fun e w' => e = .returned (.tuple #[bv (invp a), ev]) ∧ Below w.heap.size w w' := by
  by_cases h : a % p = 0
  · have e : invp a = 0 := by
      unfold invp
      rw [h, Nat.zero_pow (by decide)]
      rfl
    rw [e]
    exact ⟨_, fun w => inv_zero a w ha h⟩
  · exact ⟨_, fun w => inv_some a w ha h⟩
/-- What x squared is, as the program reckons it. -/
def wq (y : Nat) : Nat := mulp (subp (mulp y y) cone) (invp (addp cone (mulp factor (mulp y y))))
/-- A box of 32 bytes, whole, and the answer's, a point. -/
theorem start22p (w : World) (V : List Value) :
    let e := (w.alloc (.cells V.toArray 22)).alloc (.cells z43 43)
    Rp e w.heap.size 0 V ∧ Ao w.heap.size e (w.heap.size + 1) 64 ∧ Below w.heap.size w e := by
  intro e
  have ht := there43 (w.alloc (.cells V.toArray 22))
  rw [size_alloc] at ht
  refine ⟨Rp.below ⟨Rg.range_new w V 22, by rw [size_alloc]; omega⟩ ((Below.refl _ _).alloc (Nat.le_refl _) _), ⟨by omega, ?_, ht⟩, ((Below.refl _ _).alloc (Nat.le_refl _) _).alloc (by simp) _⟩
  show _ < (World.alloc _ _).heap.size
  rw [size_alloc, size_alloc]
  omega
set_option maxHeartbeats 8000000 in
set_option maxRecDepth 8000 in
theorem withEven_some (y : Nat) (w : World) (hy : y < 115792089237316195423570985008687907853269984665640564039457584007913129639936) (hr : rt (wq y) * rt (wq y) % p = wq y) :
    Calls Try.prog 86 #[bv y] w fun e w' => e = .returned (.tuple #[pv (evn (rt (wq y))) y, .nilIface]) ∧ Below w.heap.size w w' := by
  unfold wq at hr ⊢
  have c1 : ∀ W : World, Calls Try.prog 20 #[bv y, bv y] W fun e w' => e = .returned (bv (mulp y y)) ∧ Below W.heap.size W w' := fun W => mul_any y y W hy hy
  have l1 := mulp_lt y y
  obtain ⟨k1, hk1⟩ : ∃ k, mulp y y = k := ⟨_, rfl⟩
  rw [hk1] at c1 l1 hr ⊢
  have c2 : ∀ W : World, Calls Try.prog 75 #[] W fun e w' => e = .returned (bv cone) ∧ Below W.heap.size W w' := cone_any
  have c3 : ∀ W : World, Calls Try.prog 76 #[] W fun e w' => e = .returned (bv factor) ∧ Below W.heap.size W w' := factor_any
  have c4 : ∀ W : World, Calls Try.prog 20 #[bv factor, bv k1] W fun e w' => e = .returned (bv (mulp factor k1)) ∧ Below W.heap.size W w' := fun W => mul_any factor k1 W (by decide) l1
  have l4 := mulp_lt factor k1
  obtain ⟨k4, hk4⟩ : ∃ k, mulp factor k1 = k := ⟨_, rfl⟩
  rw [hk4] at c4 l4 hr ⊢
  have c5 : ∀ W : World, Calls Try.prog 15 #[bv cone, bv k4] W fun e w' => e = .returned (bv (addp cone k4)) ∧ Below W.heap.size W w' := fun W => add_any cone k4 W (by decide) l4
  have l5 := addp_lt cone k4
  obtain ⟨k5, hk5⟩ : ∃ k, addp cone k4 = k := ⟨_, rfl⟩
  rw [hk5] at c5 l5 hr ⊢
  obtain ⟨ev, c6⟩ := inv_tell k5 l5
  have l6 := invp_lt k5
  obtain ⟨k6, hk6⟩ : ∃ k, invp k5 = k := ⟨_, rfl⟩
  rw [hk6] at c6 l6 hr ⊢
  have c7 : ∀ W : World, Calls Try.prog 18 #[bv k1, bv cone] W fun e w' => e = .returned (bv (subp k1 cone)) ∧ Below W.heap.size W w' := fun W => sub_any k1 cone W l1 (by decide)
  have l7 := subp_lt k1 cone
  obtain ⟨k7, hk7⟩ : ∃ k, subp k1 cone = k := ⟨_, rfl⟩
  rw [hk7] at c7 l7 hr ⊢
  have c8 : ∀ W : World, Calls Try.prog 20 #[bv k7, bv k6] W fun e w' => e = .returned (bv (mulp k7 k6)) ∧ Below W.heap.size W w' := fun W => mul_any k7 k6 W l7 l6
  have l8 := mulp_lt k7 k6
  have e8 : mulp k7 k6 % p = mulp k7 k6 := by unfold mulp; rw [Nat.mod_mod]
  obtain ⟨k8, hk8⟩ : ∃ k, mulp k7 k6 = k := ⟨_, rfl⟩
  rw [hk8] at c8 l8 hr e8 ⊢
  have c9 : ∀ W : World, Calls Try.prog 26 #[bv k8] W fun e w' => e = .returned (.tuple #[bv (evn (rt k8)), .nilIface]) ∧ Below W.heap.size W w' := fun W => by have h := proot_some k8 W l8 (by rw [e8]; exact hr); rwa [e8] at h
  obtain ⟨k9, hk9⟩ : ∃ k, evn (rt k8) = k := ⟨_, rfl⟩
  rw [hk9] at c9 ⊢
  have en := eq_nil
  have ex := eq_err_nil
  have LY : Hid (L32 (bvc y)) := l32 _
  have LK1 : Hid (L32 (bvc k1)) := l32 _
  have LK6 : Hid (L32 (bvc k6)) := l32 _
  have LK9 : Hid (L32 (bvc k9)) := l32 _
  have HBP : Hid (Try.prog.built 43 [(0, .agg (bvc k9).toArray), (1, .agg (bvc y).toArray)] = some (bvc k9 ++ bvc y).toArray) := build_point _ _ (bvc_len _) (bvc_len _)
  have LE : Hid (L64 (bvc k9 ++ bvc y)) := l64 _ _
  unfold bv at c1 c2 c3 c4 c5 c6 c7 c8 c9 ⊢
  unfold pv
  have HS := (show Hid _ from start22p w (bvc y))
  obtain ⟨E, hE⟩ : ∃ X, bvc k9 ++ bvc y = X := ⟨_, rfl⟩
  rw [hE] at HBP LE ⊢
  obtain ⟨Y, hY⟩ : ∃ X, bvc y = X := ⟨_, rfl⟩
  rw [hY] at c1 LY HS HBP ⊢
  obtain ⟨K1, hK1⟩ : ∃ X, bvc k1 = X := ⟨_, rfl⟩
  rw [hK1] at c1 c4 c7 LK1
  obtain ⟨O, hO⟩ : ∃ X, bvc cone = X := ⟨_, rfl⟩
  rw [hO] at c2 c5 c7
  obtain ⟨F, hF⟩ : ∃ X, bvc factor = X := ⟨_, rfl⟩
  rw [hF] at c3 c4
  obtain ⟨K4, hK4⟩ : ∃ X, bvc k4 = X := ⟨_, rfl⟩
  rw [hK4] at c4 c5
  obtain ⟨K5, hK5⟩ : ∃ X, bvc k5 = X := ⟨_, rfl⟩
  rw [hK5] at c5 c6
  obtain ⟨K6, hK6⟩ : ∃ X, bvc k6 = X := ⟨_, rfl⟩
  rw [hK6] at c6 c8 LK6
  obtain ⟨K7, hK7⟩ : ∃ X, bvc k7 = X := ⟨_, rfl⟩
  rw [hK7] at c7 c8
  obtain ⟨K8, hK8⟩ : ∃ X, bvc k8 = X := ⟨_, rfl⟩
  rw [hK8] at c8 c9
  obtain ⟨K9, hK9⟩ : ∃ X, bvc k9 = X := ⟨_, rfl⟩
  rw [hK9] at c9 LK9 HBP
  clear hE hY hK1 hO hF hK4 hK5 hK6 hK7 hK8 hK9 hk1 hk4 hk5 hk6 hk7 hk8 hk9 l1 l4 l5 l6 l7 l8 e8 hr hy
  have hz22 := zero22
  have hz43 := zero43
  have HBN22 : Hid _ := box22
  have HTH22 : Hid _ := th22
  have HTT : Hid _ := there22
  obtain ⟨Z22, hZ22⟩ : ∃ Z, z22 = Z := ⟨_, rfl⟩
  obtain ⟨Z43, hZ43⟩ : ∃ Z, z43 = Z := ⟨_, rfl⟩
  rw [hZ22] at hz22 HBN22 HTH22 HTT
  rw [hZ43] at hz43 HS
  clear hZ22 hZ43
  obtain ⟨n, hn⟩ : ∃ n, w.heap.size = n := ⟨_, rfl⟩
  have HN : Hid (w.heap.size = n) := hn
  obtain ⟨we, hwe⟩ : ∃ v, (w.alloc (.cells Y.toArray 22)).alloc (.cells Z43 43) = v := ⟨_, rfl⟩
  have BY : Hid (Rp we n 0 Y) := by have h := HS.out.1; rw [hwe, HN.out] at h; exact h
  have AO : Hid (Ao w.heap.size we (n + 1) 64) := by have h := HS.out.2.1; rw [hwe, HN.out] at h; show Ao _ _ _ _; rw [HN.out]; exact h
  have HBE : Hid (Below w.heap.size w we) := by have h := HS.out.2.2; rw [hwe] at h; exact h
  clear HS
  have BY_0 := BY
  have AO_0 := AO
  have HB_0 := (show Hid (Below we.heap.size we we) from Below.refl _ _)
  have TK_0 := (show Hid True from trivial)
  clear BY AO
  go_enter Try.func86, Try.ntmps86
  go_upto_region 2 with (first
    | (refine wpList_load_mid rfl 22 (.tmp 1) rfl n 0 rfl Y _ BY_0.out.1 Try.underlying22 rfl LY.out.i ?_)
    | (refine wpList_load_mid rfl 22 (.tmp 1) rfl n 0 rfl Y _ BY_1.out.1 Try.underlying22 rfl LY.out.i ?_)
    | (refine wpList_load_mid rfl 22 (.tmp 1) rfl n 0 rfl Y _ BY_2.out.1 Try.underlying22 rfl LY.out.i ?_)
    | (refine wpList_load_mid rfl 22 (.tmp 4) rfl bBK 0 rfl K1 _ BK_2.out.1 Try.underlying22 rfl LK1.out.i ?_)
    | (have hq := TK_0; go_at_call 20; refine (c1 _).mono ?_; rintro e w1 ⟨rfl, hb⟩; have HB_1 := (show Hid (Below we.heap.size we w1) from HB_0.out.trans (hb.mono HB_0.out.size)); have BY_1 := (show Hid (Rp w1 n 0 Y) from BY_0.out.below hb); have AO_1 := (show Hid (Ao w.heap.size w1 (n + 1) 64) from AO_0.out.below hb); have TK_1 := (show Hid True from trivial); clear hq TK_0 hb HB_0 BY_0 AO_0)
    | (have hq := TK_1; refine wpList_store_mid rfl 22 (.tmp 4) (.tmp 11) rfl w1.heap.size 0 K1.toArray rfl rfl (HTH22.out K1 LK1.out w1) LK1.out.j LK1.out.o ?_; simp only [Act.put]; have hbx := HBN22.out K1 LK1.out w1; obtain ⟨w2, hw2⟩ : ∃ v, (w1.alloc (.cells Z22 22)).setCells w1.heap.size 0 K1 = v := ⟨_, rfl⟩; rw [hw2] at hbx ⊢; clear hw2; have hb := hbx.2; replace hbx := hbx.1; obtain ⟨bBK, hbBK⟩ : ∃ b, w1.heap.size = b := ⟨_, rfl⟩; rw [hbBK] at hbx ⊢; clear hbBK; have HB_2 := (show Hid (Below we.heap.size we w2) from HB_1.out.trans (hb.mono HB_1.out.size)); have BY_2 := (show Hid (Rp w2 n 0 Y) from BY_1.out.below hb); have AO_2 := (show Hid (Ao w.heap.size w2 (n + 1) 64) from AO_1.out.below hb); have BK_2 := (show Hid (Rp w2 bBK 0 K1) from hbx); have TK_2 := (show Hid True from trivial); clear hq TK_1 hb hbx HB_1 BY_1 AO_1))
  have HB2 := (show Hid (Below w.heap.size w w2) from HBE.out.trans (HB_2.out.mono HBE.out.size))
  clear HBE HB_2 c1 HBN22 HTH22 TK_2
  go_cut [5, 6] from 12 to 20 (fun s e wx => ∃ g, s = .pointer (some ⟨g, 0, none⟩) ∧ e = ev ∧ Hid (Below w2.heap.size w2 wx ∧ Rp wx g 0 K6))
  case first =>
    refine wp_region_held_drew (S := fun w' => Below w2.heap.size w2 w') (by kernel_rfl) (drewB w2) (fun hS => ?_)
    obtain ⟨wd, hwd⟩ : ∃ v, World.drew w2 = v := ⟨_, rfl⟩
    rw [hwd] at hS ⊢
    clear hwd
    refine wpAnyH_take (i := 2) (v := .agg K1.toArray) rfl (by kernel_rfl) (by kernel_rfl) (by kernel_rfl) (fun _ _ _ h => h) (yieldsIf_load_mid (by kernel_rfl) 22 (.tmp 4) rfl bBK 0 rfl K1 _ (fun wq hq => Rg.Below.range hq BK_2.out.1 BK_2.out.2) Try.underlying22 rfl LK1.out.i) hS ?_
    try simp only [Act.put, List.setIfInBounds_toArray, List.set_cons_zero, List.set_cons_succ, List.getElem_toArray, List.getElem_cons_succ, List.getElem_cons_zero]
    refine wpAnyH_ready (rs := [0, 9]) (by kernel_rfl) (by simp) ?_
    refine AllReadyH.cons rfl (fun K hK => ?_) (AllReadyH.cons rfl (fun K hK => ?_) AllReadyH.nil)
    · go_simp
      refine (c2 _).mono ?_
      rintro e wf1 ⟨rfl, hb⟩
      have hS2 : Below w2.heap.size w2 wf1 := hS.trans (hb.mono hS.size)
      refine hK.out _ _ hS2 (fun hS => ?_)
      clear hK K hb hS2
      try simp only [Act.put, List.setIfInBounds_toArray, List.set_cons_zero, List.set_cons_succ, List.getElem_toArray, List.getElem_cons_succ, List.getElem_cons_zero]
      refine wpAnyH_ready (rs := [1, 9]) (by kernel_rfl) (by simp) ?_
      refine AllReadyH.cons rfl (fun K hK => ?_) (AllReadyH.cons rfl (fun K hK => ?_) AllReadyH.nil)
      · go_simp
        refine (c3 _).mono ?_
        rintro e wf2 ⟨rfl, hb⟩
        have hS2 : Below w2.heap.size w2 wf2 := hS.trans (hb.mono hS.size)
        refine hK.out _ _ hS2 (fun hS => ?_)
        clear hK K hb hS2
        try simp only [Act.put, List.setIfInBounds_toArray, List.set_cons_zero, List.set_cons_succ, List.getElem_toArray, List.getElem_cons_succ, List.getElem_cons_zero]
        refine wpAnyH_ready (rs := [3, 9]) (by kernel_rfl) (by simp) ?_
        refine AllReadyH.cons rfl (fun K hK => ?_) (AllReadyH.cons rfl (fun K hK => ?_) AllReadyH.nil)
        · go_simp
          refine (c4 _).mono ?_
          rintro e wf3 ⟨rfl, hb⟩
          have hS2 : Below w2.heap.size w2 wf3 := hS.trans (hb.mono hS.size)
          refine hK.out _ _ hS2 (fun hS => ?_)
          clear hK K hb hS2
          try simp only [Act.put, List.setIfInBounds_toArray, List.set_cons_zero, List.set_cons_succ, List.getElem_toArray, List.getElem_cons_succ, List.getElem_cons_zero]
          refine wpAnyH_ready (rs := [4, 9]) (by kernel_rfl) (by simp) ?_
          refine AllReadyH.cons rfl (fun K hK => ?_) (AllReadyH.cons rfl (fun K hK => ?_) AllReadyH.nil)
          · go_simp
            refine (c5 _).mono ?_
            rintro e wf4 ⟨rfl, hb⟩
            have hS2 : Below w2.heap.size w2 wf4 := hS.trans (hb.mono hS.size)
            refine hK.out _ _ hS2 (fun hS => ?_)
            clear hK K hb hS2
            try simp only [Act.put, List.setIfInBounds_toArray, List.set_cons_zero, List.set_cons_succ, List.getElem_toArray, List.getElem_cons_succ, List.getElem_cons_zero]
            refine wpAnyH_ready (rs := [5, 9]) (by kernel_rfl) (by simp) ?_
            refine AllReadyH.cons rfl (fun K hK => ?_) (AllReadyH.cons rfl (fun K hK => ?_) AllReadyH.nil)
            · go_simp
              refine (c6 _).mono ?_
              rintro e wf5 ⟨rfl, hb⟩
              have hS2 : Below w2.heap.size w2 wf5 := hS.trans (hb.mono hS.size)
              refine hK.out _ _ hS2 (fun hS => ?_)
              clear hK K hb hS2
              try simp only [Act.put, List.setIfInBounds_toArray, List.set_cons_zero, List.set_cons_succ, List.getElem_toArray, List.getElem_cons_succ, List.getElem_cons_zero]
              refine wpAnyH_take (i := 6) (v := .tuple #[.agg K6.toArray, ev]) rfl (by kernel_rfl) (by kernel_rfl) (by kernel_rfl) (fun _ _ _ h => h) (Or.inl ⟨by kernel_rfl, fun wq hS => by go_simp⟩) hS ?_
              try simp only [Act.put, List.setIfInBounds_toArray, List.set_cons_zero, List.set_cons_succ, List.getElem_toArray, List.getElem_cons_succ, List.getElem_cons_zero]
              refine wpAnyH_take (i := 7) (v := .agg K6.toArray) rfl (by kernel_rfl) (by kernel_rfl) (by kernel_rfl) (fun _ _ _ h => h) (Or.inl ⟨by kernel_rfl, fun wq hS => by go_simp⟩) hS ?_
              try simp only [Act.put, List.setIfInBounds_toArray, List.set_cons_zero, List.set_cons_succ, List.getElem_toArray, List.getElem_cons_succ, List.getElem_cons_zero]
              refine wpAnyH_take (i := 8) (v := ev) rfl (by kernel_rfl) (by kernel_rfl) (by kernel_rfl) (fun _ _ _ h => h) (Or.inl ⟨by kernel_rfl, fun wq hS => by go_simp⟩) hS ?_
              try simp only [Act.put, List.setIfInBounds_toArray, List.set_cons_zero, List.set_cons_succ, List.getElem_toArray, List.getElem_cons_succ, List.getElem_cons_zero]
              refine wpAnyH_ready (rs := [9]) (by kernel_rfl) (by simp) ?_
              refine AllReadyH.cons rfl (fun K hK => ?_) AllReadyH.nil
              go_simp
              have HT := (show Hid _ from HTT.out wf5)
              have HL : Hid (w2.heap.size ≤ wf5.heap.size ∧ wf5.heap.size < (wf5.alloc (.cells Z22 22)).heap.size) := ⟨hS.size, by rw [size_alloc]; omega⟩
              obtain ⟨g, hg⟩ : ∃ g, wf5.heap.size = g := ⟨_, rfl⟩
              refine hK.out _ _ (hS.alloc hS.size _) (fun hS => ?_)
              clear hK K
              try simp only [Act.put, List.setIfInBounds_toArray, List.set_cons_zero, List.set_cons_succ, List.getElem_toArray, List.getElem_cons_succ, List.getElem_cons_zero]
              obtain ⟨wf6, hwf6⟩ : ∃ v, wf5.alloc (.cells Z22 22) = v := ⟨_, rfl⟩
              rw [hwf6] at HT HL hS ⊢
              rw [hg] at HT HL ⊢
              clear hg hwf6
              refine wpAnyH_ready (rs := [10]) (by kernel_rfl) (by simp) ?_
              refine AllReadyH.cons rfl (fun K hK => ?_) AllReadyH.nil
              refine want_it (by kernel_rfl) ?_
              refine wp_store_mid 22 (.tmp 5) (.tmp 19) rfl g 0 K6.toArray rfl rfl (LK6.out.s (N := w2.heap.size) ⟨HL.out.1, HL.out.2, HT.out⟩) LK6.out.j LK6.out.o ?_
              simp only
              have hS2 : Below w2.heap.size w2 (wf6.setCells g 0 K6) := below_setCells hS HL.out.1
              refine hK.out _ _ hS2 (fun hS => ?_)
              clear hK K hS2
              try simp only [Act.put, List.getElem_toArray, List.getElem_cons_succ, List.getElem_cons_zero]
              refine wpAnyH_ready (rs := [11]) (by kernel_rfl) (by simp) ?_
              refine AllReadyH.cons rfl (fun K hK => ?_) AllReadyH.nil
              go_simp
              refine hK.out _ _ hS (fun hS => ?_)
              clear hK K
              try simp only [Act.put, List.setIfInBounds_toArray, List.set_cons_zero, List.set_cons_succ, List.getElem_toArray, List.getElem_cons_succ, List.getElem_cons_zero]
              refine wpAnyH_done (by kernel_rfl) ?_ _
              go_wp2
              go_meet
              case rel => exact ⟨g, rfl, rfl, ⟨hS, float_box LK6.out HT.out HL.out.2⟩⟩
            · go_simp
              have HT := (show Hid _ from HTT.out wf4)
              have HL : Hid (w2.heap.size ≤ wf4.heap.size ∧ wf4.heap.size < (wf4.alloc (.cells Z22 22)).heap.size) := ⟨hS.size, by rw [size_alloc]; omega⟩
              obtain ⟨g, hg⟩ : ∃ g, wf4.heap.size = g := ⟨_, rfl⟩
              refine hK.out _ _ (hS.alloc hS.size _) (fun hS => ?_)
              clear hK K
              try simp only [Act.put, List.setIfInBounds_toArray, List.set_cons_zero, List.set_cons_succ, List.getElem_toArray, List.getElem_cons_succ, List.getElem_cons_zero]
              obtain ⟨wf7, hwf7⟩ : ∃ v, wf4.alloc (.cells Z22 22) = v := ⟨_, rfl⟩
              rw [hwf7] at HT HL hS ⊢
              rw [hg] at HT HL ⊢
              clear hg hwf7
              refine wpAnyH_ready (rs := [5]) (by kernel_rfl) (by simp) ?_
              refine AllReadyH.cons rfl (fun K hK => ?_) AllReadyH.nil
              go_simp
              refine (c6 _).mono ?_
              rintro e wf8 ⟨rfl, hb⟩
              replace HT := (show Hid (wf8.there g 0 32) from there_below hb HT.out HL.out.2)
              replace HL := (show Hid (w2.heap.size ≤ g ∧ g < wf8.heap.size) from ⟨HL.out.1, Nat.lt_of_lt_of_le HL.out.2 hb.size⟩)
              have hS2 : Below w2.heap.size w2 wf8 := hS.trans (hb.mono hS.size)
              refine hK.out _ _ hS2 (fun hS => ?_)
              clear hK K hb hS2
              try simp only [Act.put, List.setIfInBounds_toArray, List.set_cons_zero, List.set_cons_succ, List.getElem_toArray, List.getElem_cons_succ, List.getElem_cons_zero]
              refine wpAnyH_take (i := 6) (v := .tuple #[.agg K6.toArray, ev]) rfl (by kernel_rfl) (by kernel_rfl) (by kernel_rfl) (fun _ _ _ h => h) (Or.inl ⟨by kernel_rfl, fun wq hS => by go_simp⟩) hS ?_
              try simp only [Act.put, List.setIfInBounds_toArray, List.set_cons_zero, List.set_cons_succ, List.getElem_toArray, List.getElem_cons_succ, List.getElem_cons_zero]
              refine wpAnyH_take (i := 7) (v := .agg K6.toArray) rfl (by kernel_rfl) (by kernel_rfl) (by kernel_rfl) (fun _ _ _ h => h) (Or.inl ⟨by kernel_rfl, fun wq hS => by go_simp⟩) hS ?_
              try simp only [Act.put, List.setIfInBounds_toArray, List.set_cons_zero, List.set_cons_succ, List.getElem_toArray, List.getElem_cons_succ, List.getElem_cons_zero]
              refine wpAnyH_take (i := 8) (v := ev) rfl (by kernel_rfl) (by kernel_rfl) (by kernel_rfl) (fun _ _ _ h => h) (Or.inl ⟨by kernel_rfl, fun wq hS => by go_simp⟩) hS ?_
              try simp only [Act.put, List.setIfInBounds_toArray, List.set_cons_zero, List.set_cons_succ, List.getElem_toArray, List.getElem_cons_succ, List.getElem_cons_zero]
              refine wpAnyH_ready (rs := [10]) (by kernel_rfl) (by simp) ?_
              refine AllReadyH.cons rfl (fun K hK => ?_) AllReadyH.nil
              refine want_it (by kernel_rfl) ?_
              refine wp_store_mid 22 (.tmp 5) (.tmp 19) rfl g 0 K6.toArray rfl rfl (LK6.out.s (N := w2.heap.size) ⟨HL.out.1, HL.out.2, HT.out⟩) LK6.out.j LK6.out.o ?_
              simp only
              have hS2 : Below w2.heap.size w2 (wf8.setCells g 0 K6) := below_setCells hS HL.out.1
              refine hK.out _ _ hS2 (fun hS => ?_)
              clear hK K hS2
              try simp only [Act.put, List.getElem_toArray, List.getElem_cons_succ, List.getElem_cons_zero]
              refine wpAnyH_ready (rs := [11]) (by kernel_rfl) (by simp) ?_
              refine AllReadyH.cons rfl (fun K hK => ?_) AllReadyH.nil
              go_simp
              refine hK.out _ _ hS (fun hS => ?_)
              clear hK K
              try simp only [Act.put, List.setIfInBounds_toArray, List.set_cons_zero, List.set_cons_succ, List.getElem_toArray, List.getElem_cons_succ, List.getElem_cons_zero]
              refine wpAnyH_done (by kernel_rfl) ?_ _
              go_wp2
              go_meet
              case rel => exact ⟨g, rfl, rfl, ⟨hS, float_box LK6.out HT.out HL.out.2⟩⟩
          · go_simp
            have HT := (show Hid _ from HTT.out wf3)
            have HL : Hid (w2.heap.size ≤ wf3.heap.size ∧ wf3.heap.size < (wf3.alloc (.cells Z22 22)).heap.size) := ⟨hS.size, by rw [size_alloc]; omega⟩
            obtain ⟨g, hg⟩ : ∃ g, wf3.heap.size = g := ⟨_, rfl⟩
            refine hK.out _ _ (hS.alloc hS.size _) (fun hS => ?_)
            clear hK K
            try simp only [Act.put, List.setIfInBounds_toArray, List.set_cons_zero, List.set_cons_succ, List.getElem_toArray, List.getElem_cons_succ, List.getElem_cons_zero]
            obtain ⟨wf9, hwf9⟩ : ∃ v, wf3.alloc (.cells Z22 22) = v := ⟨_, rfl⟩
            rw [hwf9] at HT HL hS ⊢
            rw [hg] at HT HL ⊢
            clear hg hwf9
            refine wpAnyH_ready (rs := [4]) (by kernel_rfl) (by simp) ?_
            refine AllReadyH.cons rfl (fun K hK => ?_) AllReadyH.nil
            go_simp
            refine (c5 _).mono ?_
            rintro e wf10 ⟨rfl, hb⟩
            replace HT := (show Hid (wf10.there g 0 32) from there_below hb HT.out HL.out.2)
            replace HL := (show Hid (w2.heap.size ≤ g ∧ g < wf10.heap.size) from ⟨HL.out.1, Nat.lt_of_lt_of_le HL.out.2 hb.size⟩)
            have hS2 : Below w2.heap.size w2 wf10 := hS.trans (hb.mono hS.size)
            refine hK.out _ _ hS2 (fun hS => ?_)
            clear hK K hb hS2
            try simp only [Act.put, List.setIfInBounds_toArray, List.set_cons_zero, List.set_cons_succ, List.getElem_toArray, List.getElem_cons_succ, List.getElem_cons_zero]
            refine wpAnyH_ready (rs := [5]) (by kernel_rfl) (by simp) ?_
            refine AllReadyH.cons rfl (fun K hK => ?_) AllReadyH.nil
            go_simp
            refine (c6 _).mono ?_
            rintro e wf11 ⟨rfl, hb⟩
            replace HT := (show Hid (wf11.there g 0 32) from there_below hb HT.out HL.out.2)
            replace HL := (show Hid (w2.heap.size ≤ g ∧ g < wf11.heap.size) from ⟨HL.out.1, Nat.lt_of_lt_of_le HL.out.2 hb.size⟩)
            have hS2 : Below w2.heap.size w2 wf11 := hS.trans (hb.mono hS.size)
            refine hK.out _ _ hS2 (fun hS => ?_)
            clear hK K hb hS2
            try simp only [Act.put, List.setIfInBounds_toArray, List.set_cons_zero, List.set_cons_succ, List.getElem_toArray, List.getElem_cons_succ, List.getElem_cons_zero]
            refine wpAnyH_take (i := 6) (v := .tuple #[.agg K6.toArray, ev]) rfl (by kernel_rfl) (by kernel_rfl) (by kernel_rfl) (fun _ _ _ h => h) (Or.inl ⟨by kernel_rfl, fun wq hS => by go_simp⟩) hS ?_
            try simp only [Act.put, List.setIfInBounds_toArray, List.set_cons_zero, List.set_cons_succ, List.getElem_toArray, List.getElem_cons_succ, List.getElem_cons_zero]
            refine wpAnyH_take (i := 7) (v := .agg K6.toArray) rfl (by kernel_rfl) (by kernel_rfl) (by kernel_rfl) (fun _ _ _ h => h) (Or.inl ⟨by kernel_rfl, fun wq hS => by go_simp⟩) hS ?_
            try simp only [Act.put, List.setIfInBounds_toArray, List.set_cons_zero, List.set_cons_succ, List.getElem_toArray, List.getElem_cons_succ, List.getElem_cons_zero]
            refine wpAnyH_take (i := 8) (v := ev) rfl (by kernel_rfl) (by kernel_rfl) (by kernel_rfl) (fun _ _ _ h => h) (Or.inl ⟨by kernel_rfl, fun wq hS => by go_simp⟩) hS ?_
            try simp only [Act.put, List.setIfInBounds_toArray, List.set_cons_zero, List.set_cons_succ, List.getElem_toArray, List.getElem_cons_succ, List.getElem_cons_zero]
            refine wpAnyH_ready (rs := [10]) (by kernel_rfl) (by simp) ?_
            refine AllReadyH.cons rfl (fun K hK => ?_) AllReadyH.nil
            refine want_it (by kernel_rfl) ?_
            refine wp_store_mid 22 (.tmp 5) (.tmp 19) rfl g 0 K6.toArray rfl rfl (LK6.out.s (N := w2.heap.size) ⟨HL.out.1, HL.out.2, HT.out⟩) LK6.out.j LK6.out.o ?_
            simp only
            have hS2 : Below w2.heap.size w2 (wf11.setCells g 0 K6) := below_setCells hS HL.out.1
            refine hK.out _ _ hS2 (fun hS => ?_)
            clear hK K hS2
            try simp only [Act.put, List.getElem_toArray, List.getElem_cons_succ, List.getElem_cons_zero]
            refine wpAnyH_ready (rs := [11]) (by kernel_rfl) (by simp) ?_
            refine AllReadyH.cons rfl (fun K hK => ?_) AllReadyH.nil
            go_simp
            refine hK.out _ _ hS (fun hS => ?_)
            clear hK K
            try simp only [Act.put, List.setIfInBounds_toArray, List.set_cons_zero, List.set_cons_succ, List.getElem_toArray, List.getElem_cons_succ, List.getElem_cons_zero]
            refine wpAnyH_done (by kernel_rfl) ?_ _
            go_wp2
            go_meet
            case rel => exact ⟨g, rfl, rfl, ⟨hS, float_box LK6.out HT.out HL.out.2⟩⟩
        · go_simp
          have HT := (show Hid _ from HTT.out wf2)
          have HL : Hid (w2.heap.size ≤ wf2.heap.size ∧ wf2.heap.size < (wf2.alloc (.cells Z22 22)).heap.size) := ⟨hS.size, by rw [size_alloc]; omega⟩
          obtain ⟨g, hg⟩ : ∃ g, wf2.heap.size = g := ⟨_, rfl⟩
          refine hK.out _ _ (hS.alloc hS.size _) (fun hS => ?_)
          clear hK K
          try simp only [Act.put, List.setIfInBounds_toArray, List.set_cons_zero, List.set_cons_succ, List.getElem_toArray, List.getElem_cons_succ, List.getElem_cons_zero]
          obtain ⟨wf12, hwf12⟩ : ∃ v, wf2.alloc (.cells Z22 22) = v := ⟨_, rfl⟩
          rw [hwf12] at HT HL hS ⊢
          rw [hg] at HT HL ⊢
          clear hg hwf12
          refine wpAnyH_ready (rs := [3]) (by kernel_rfl) (by simp) ?_
          refine AllReadyH.cons rfl (fun K hK => ?_) AllReadyH.nil
          go_simp
          refine (c4 _).mono ?_
          rintro e wf13 ⟨rfl, hb⟩
          replace HT := (show Hid (wf13.there g 0 32) from there_below hb HT.out HL.out.2)
          replace HL := (show Hid (w2.heap.size ≤ g ∧ g < wf13.heap.size) from ⟨HL.out.1, Nat.lt_of_lt_of_le HL.out.2 hb.size⟩)
          have hS2 : Below w2.heap.size w2 wf13 := hS.trans (hb.mono hS.size)
          refine hK.out _ _ hS2 (fun hS => ?_)
          clear hK K hb hS2
          try simp only [Act.put, List.setIfInBounds_toArray, List.set_cons_zero, List.set_cons_succ, List.getElem_toArray, List.getElem_cons_succ, List.getElem_cons_zero]
          refine wpAnyH_ready (rs := [4]) (by kernel_rfl) (by simp) ?_
          refine AllReadyH.cons rfl (fun K hK => ?_) AllReadyH.nil
          go_simp
          refine (c5 _).mono ?_
          rintro e wf14 ⟨rfl, hb⟩
          replace HT := (show Hid (wf14.there g 0 32) from there_below hb HT.out HL.out.2)
          replace HL := (show Hid (w2.heap.size ≤ g ∧ g < wf14.heap.size) from ⟨HL.out.1, Nat.lt_of_lt_of_le HL.out.2 hb.size⟩)
          have hS2 : Below w2.heap.size w2 wf14 := hS.trans (hb.mono hS.size)
          refine hK.out _ _ hS2 (fun hS => ?_)
          clear hK K hb hS2
          try simp only [Act.put, List.setIfInBounds_toArray, List.set_cons_zero, List.set_cons_succ, List.getElem_toArray, List.getElem_cons_succ, List.getElem_cons_zero]
          refine wpAnyH_ready (rs := [5]) (by kernel_rfl) (by simp) ?_
          refine AllReadyH.cons rfl (fun K hK => ?_) AllReadyH.nil
          go_simp
          refine (c6 _).mono ?_
          rintro e wf15 ⟨rfl, hb⟩
          replace HT := (show Hid (wf15.there g 0 32) from there_below hb HT.out HL.out.2)
          replace HL := (show Hid (w2.heap.size ≤ g ∧ g < wf15.heap.size) from ⟨HL.out.1, Nat.lt_of_lt_of_le HL.out.2 hb.size⟩)
          have hS2 : Below w2.heap.size w2 wf15 := hS.trans (hb.mono hS.size)
          refine hK.out _ _ hS2 (fun hS => ?_)
          clear hK K hb hS2
          try simp only [Act.put, List.setIfInBounds_toArray, List.set_cons_zero, List.set_cons_succ, List.getElem_toArray, List.getElem_cons_succ, List.getElem_cons_zero]
          refine wpAnyH_take (i := 6) (v := .tuple #[.agg K6.toArray, ev]) rfl (by kernel_rfl) (by kernel_rfl) (by kernel_rfl) (fun _ _ _ h => h) (Or.inl ⟨by kernel_rfl, fun wq hS => by go_simp⟩) hS ?_
          try simp only [Act.put, List.setIfInBounds_toArray, List.set_cons_zero, List.set_cons_succ, List.getElem_toArray, List.getElem_cons_succ, List.getElem_cons_zero]
          refine wpAnyH_take (i := 7) (v := .agg K6.toArray) rfl (by kernel_rfl) (by kernel_rfl) (by kernel_rfl) (fun _ _ _ h => h) (Or.inl ⟨by kernel_rfl, fun wq hS => by go_simp⟩) hS ?_
          try simp only [Act.put, List.setIfInBounds_toArray, List.set_cons_zero, List.set_cons_succ, List.getElem_toArray, List.getElem_cons_succ, List.getElem_cons_zero]
          refine wpAnyH_take (i := 8) (v := ev) rfl (by kernel_rfl) (by kernel_rfl) (by kernel_rfl) (fun _ _ _ h => h) (Or.inl ⟨by kernel_rfl, fun wq hS => by go_simp⟩) hS ?_
          try simp only [Act.put, List.setIfInBounds_toArray, List.set_cons_zero, List.set_cons_succ, List.getElem_toArray, List.getElem_cons_succ, List.getElem_cons_zero]
          refine wpAnyH_ready (rs := [10]) (by kernel_rfl) (by simp) ?_
          refine AllReadyH.cons rfl (fun K hK => ?_) AllReadyH.nil
          refine want_it (by kernel_rfl) ?_
          refine wp_store_mid 22 (.tmp 5) (.tmp 19) rfl g 0 K6.toArray rfl rfl (LK6.out.s (N := w2.heap.size) ⟨HL.out.1, HL.out.2, HT.out⟩) LK6.out.j LK6.out.o ?_
          simp only
          have hS2 : Below w2.heap.size w2 (wf15.setCells g 0 K6) := below_setCells hS HL.out.1
          refine hK.out _ _ hS2 (fun hS => ?_)
          clear hK K hS2
          try simp only [Act.put, List.getElem_toArray, List.getElem_cons_succ, List.getElem_cons_zero]
          refine wpAnyH_ready (rs := [11]) (by kernel_rfl) (by simp) ?_
          refine AllReadyH.cons rfl (fun K hK => ?_) AllReadyH.nil
          go_simp
          refine hK.out _ _ hS (fun hS => ?_)
          clear hK K
          try simp only [Act.put, List.setIfInBounds_toArray, List.set_cons_zero, List.set_cons_succ, List.getElem_toArray, List.getElem_cons_succ, List.getElem_cons_zero]
          refine wpAnyH_done (by kernel_rfl) ?_ _
          go_wp2
          go_meet
          case rel => exact ⟨g, rfl, rfl, ⟨hS, float_box LK6.out HT.out HL.out.2⟩⟩
      · go_simp
        have HT := (show Hid _ from HTT.out wf1)
        have HL : Hid (w2.heap.size ≤ wf1.heap.size ∧ wf1.heap.size < (wf1.alloc (.cells Z22 22)).heap.size) := ⟨hS.size, by rw [size_alloc]; omega⟩
        obtain ⟨g, hg⟩ : ∃ g, wf1.heap.size = g := ⟨_, rfl⟩
        refine hK.out _ _ (hS.alloc hS.size _) (fun hS => ?_)
        clear hK K
        try simp only [Act.put, List.setIfInBounds_toArray, List.set_cons_zero, List.set_cons_succ, List.getElem_toArray, List.getElem_cons_succ, List.getElem_cons_zero]
        obtain ⟨wf16, hwf16⟩ : ∃ v, wf1.alloc (.cells Z22 22) = v := ⟨_, rfl⟩
        rw [hwf16] at HT HL hS ⊢
        rw [hg] at HT HL ⊢
        clear hg hwf16
        refine wpAnyH_ready (rs := [1]) (by kernel_rfl) (by simp) ?_
        refine AllReadyH.cons rfl (fun K hK => ?_) AllReadyH.nil
        go_simp
        refine (c3 _).mono ?_
        rintro e wf17 ⟨rfl, hb⟩
        replace HT := (show Hid (wf17.there g 0 32) from there_below hb HT.out HL.out.2)
        replace HL := (show Hid (w2.heap.size ≤ g ∧ g < wf17.heap.size) from ⟨HL.out.1, Nat.lt_of_lt_of_le HL.out.2 hb.size⟩)
        have hS2 : Below w2.heap.size w2 wf17 := hS.trans (hb.mono hS.size)
        refine hK.out _ _ hS2 (fun hS => ?_)
        clear hK K hb hS2
        try simp only [Act.put, List.setIfInBounds_toArray, List.set_cons_zero, List.set_cons_succ, List.getElem_toArray, List.getElem_cons_succ, List.getElem_cons_zero]
        refine wpAnyH_ready (rs := [3]) (by kernel_rfl) (by simp) ?_
        refine AllReadyH.cons rfl (fun K hK => ?_) AllReadyH.nil
        go_simp
        refine (c4 _).mono ?_
        rintro e wf18 ⟨rfl, hb⟩
        replace HT := (show Hid (wf18.there g 0 32) from there_below hb HT.out HL.out.2)
        replace HL := (show Hid (w2.heap.size ≤ g ∧ g < wf18.heap.size) from ⟨HL.out.1, Nat.lt_of_lt_of_le HL.out.2 hb.size⟩)
        have hS2 : Below w2.heap.size w2 wf18 := hS.trans (hb.mono hS.size)
        refine hK.out _ _ hS2 (fun hS => ?_)
        clear hK K hb hS2
        try simp only [Act.put, List.setIfInBounds_toArray, List.set_cons_zero, List.set_cons_succ, List.getElem_toArray, List.getElem_cons_succ, List.getElem_cons_zero]
        refine wpAnyH_ready (rs := [4]) (by kernel_rfl) (by simp) ?_
        refine AllReadyH.cons rfl (fun K hK => ?_) AllReadyH.nil
        go_simp
        refine (c5 _).mono ?_
        rintro e wf19 ⟨rfl, hb⟩
        replace HT := (show Hid (wf19.there g 0 32) from there_below hb HT.out HL.out.2)
        replace HL := (show Hid (w2.heap.size ≤ g ∧ g < wf19.heap.size) from ⟨HL.out.1, Nat.lt_of_lt_of_le HL.out.2 hb.size⟩)
        have hS2 : Below w2.heap.size w2 wf19 := hS.trans (hb.mono hS.size)
        refine hK.out _ _ hS2 (fun hS => ?_)
        clear hK K hb hS2
        try simp only [Act.put, List.setIfInBounds_toArray, List.set_cons_zero, List.set_cons_succ, List.getElem_toArray, List.getElem_cons_succ, List.getElem_cons_zero]
        refine wpAnyH_ready (rs := [5]) (by kernel_rfl) (by simp) ?_
        refine AllReadyH.cons rfl (fun K hK => ?_) AllReadyH.nil
        go_simp
        refine (c6 _).mono ?_
        rintro e wf20 ⟨rfl, hb⟩
        replace HT := (show Hid (wf20.there g 0 32) from there_below hb HT.out HL.out.2)
        replace HL := (show Hid (w2.heap.size ≤ g ∧ g < wf20.heap.size) from ⟨HL.out.1, Nat.lt_of_lt_of_le HL.out.2 hb.size⟩)
        have hS2 : Below w2.heap.size w2 wf20 := hS.trans (hb.mono hS.size)
        refine hK.out _ _ hS2 (fun hS => ?_)
        clear hK K hb hS2
        try simp only [Act.put, List.setIfInBounds_toArray, List.set_cons_zero, List.set_cons_succ, List.getElem_toArray, List.getElem_cons_succ, List.getElem_cons_zero]
        refine wpAnyH_take (i := 6) (v := .tuple #[.agg K6.toArray, ev]) rfl (by kernel_rfl) (by kernel_rfl) (by kernel_rfl) (fun _ _ _ h => h) (Or.inl ⟨by kernel_rfl, fun wq hS => by go_simp⟩) hS ?_
        try simp only [Act.put, List.setIfInBounds_toArray, List.set_cons_zero, List.set_cons_succ, List.getElem_toArray, List.getElem_cons_succ, List.getElem_cons_zero]
        refine wpAnyH_take (i := 7) (v := .agg K6.toArray) rfl (by kernel_rfl) (by kernel_rfl) (by kernel_rfl) (fun _ _ _ h => h) (Or.inl ⟨by kernel_rfl, fun wq hS => by go_simp⟩) hS ?_
        try simp only [Act.put, List.setIfInBounds_toArray, List.set_cons_zero, List.set_cons_succ, List.getElem_toArray, List.getElem_cons_succ, List.getElem_cons_zero]
        refine wpAnyH_take (i := 8) (v := ev) rfl (by kernel_rfl) (by kernel_rfl) (by kernel_rfl) (fun _ _ _ h => h) (Or.inl ⟨by kernel_rfl, fun wq hS => by go_simp⟩) hS ?_
        try simp only [Act.put, List.setIfInBounds_toArray, List.set_cons_zero, List.set_cons_succ, List.getElem_toArray, List.getElem_cons_succ, List.getElem_cons_zero]
        refine wpAnyH_ready (rs := [10]) (by kernel_rfl) (by simp) ?_
        refine AllReadyH.cons rfl (fun K hK => ?_) AllReadyH.nil
        refine want_it (by kernel_rfl) ?_
        refine wp_store_mid 22 (.tmp 5) (.tmp 19) rfl g 0 K6.toArray rfl rfl (LK6.out.s (N := w2.heap.size) ⟨HL.out.1, HL.out.2, HT.out⟩) LK6.out.j LK6.out.o ?_
        simp only
        have hS2 : Below w2.heap.size w2 (wf20.setCells g 0 K6) := below_setCells hS HL.out.1
        refine hK.out _ _ hS2 (fun hS => ?_)
        clear hK K hS2
        try simp only [Act.put, List.getElem_toArray, List.getElem_cons_succ, List.getElem_cons_zero]
        refine wpAnyH_ready (rs := [11]) (by kernel_rfl) (by simp) ?_
        refine AllReadyH.cons rfl (fun K hK => ?_) AllReadyH.nil
        go_simp
        refine hK.out _ _ hS (fun hS => ?_)
        clear hK K
        try simp only [Act.put, List.setIfInBounds_toArray, List.set_cons_zero, List.set_cons_succ, List.getElem_toArray, List.getElem_cons_succ, List.getElem_cons_zero]
        refine wpAnyH_done (by kernel_rfl) ?_ _
        go_wp2
        go_meet
        case rel => exact ⟨g, rfl, rfl, ⟨hS, float_box LK6.out HT.out HL.out.2⟩⟩
    · go_simp
      have HT := (show Hid _ from HTT.out wd)
      have HL : Hid (w2.heap.size ≤ wd.heap.size ∧ wd.heap.size < (wd.alloc (.cells Z22 22)).heap.size) := ⟨hS.size, by rw [size_alloc]; omega⟩
      obtain ⟨g, hg⟩ : ∃ g, wd.heap.size = g := ⟨_, rfl⟩
      refine hK.out _ _ (hS.alloc hS.size _) (fun hS => ?_)
      clear hK K
      try simp only [Act.put, List.setIfInBounds_toArray, List.set_cons_zero, List.set_cons_succ, List.getElem_toArray, List.getElem_cons_succ, List.getElem_cons_zero]
      obtain ⟨wf21, hwf21⟩ : ∃ v, wd.alloc (.cells Z22 22) = v := ⟨_, rfl⟩
      rw [hwf21] at HT HL hS ⊢
      rw [hg] at HT HL ⊢
      clear hg hwf21
      refine wpAnyH_ready (rs := [0]) (by kernel_rfl) (by simp) ?_
      refine AllReadyH.cons rfl (fun K hK => ?_) AllReadyH.nil
      go_simp
      refine (c2 _).mono ?_
      rintro e wf22 ⟨rfl, hb⟩
      replace HT := (show Hid (wf22.there g 0 32) from there_below hb HT.out HL.out.2)
      replace HL := (show Hid (w2.heap.size ≤ g ∧ g < wf22.heap.size) from ⟨HL.out.1, Nat.lt_of_lt_of_le HL.out.2 hb.size⟩)
      have hS2 : Below w2.heap.size w2 wf22 := hS.trans (hb.mono hS.size)
      refine hK.out _ _ hS2 (fun hS => ?_)
      clear hK K hb hS2
      try simp only [Act.put, List.setIfInBounds_toArray, List.set_cons_zero, List.set_cons_succ, List.getElem_toArray, List.getElem_cons_succ, List.getElem_cons_zero]
      refine wpAnyH_ready (rs := [1]) (by kernel_rfl) (by simp) ?_
      refine AllReadyH.cons rfl (fun K hK => ?_) AllReadyH.nil
      go_simp
      refine (c3 _).mono ?_
      rintro e wf23 ⟨rfl, hb⟩
      replace HT := (show Hid (wf23.there g 0 32) from there_below hb HT.out HL.out.2)
      replace HL := (show Hid (w2.heap.size ≤ g ∧ g < wf23.heap.size) from ⟨HL.out.1, Nat.lt_of_lt_of_le HL.out.2 hb.size⟩)
      have hS2 : Below w2.heap.size w2 wf23 := hS.trans (hb.mono hS.size)
      refine hK.out _ _ hS2 (fun hS => ?_)
      clear hK K hb hS2
      try simp only [Act.put, List.setIfInBounds_toArray, List.set_cons_zero, List.set_cons_succ, List.getElem_toArray, List.getElem_cons_succ, List.getElem_cons_zero]
      refine wpAnyH_ready (rs := [3]) (by kernel_rfl) (by simp) ?_
      refine AllReadyH.cons rfl (fun K hK => ?_) AllReadyH.nil
      go_simp
      refine (c4 _).mono ?_
      rintro e wf24 ⟨rfl, hb⟩
      replace HT := (show Hid (wf24.there g 0 32) from there_below hb HT.out HL.out.2)
      replace HL := (show Hid (w2.heap.size ≤ g ∧ g < wf24.heap.size) from ⟨HL.out.1, Nat.lt_of_lt_of_le HL.out.2 hb.size⟩)
      have hS2 : Below w2.heap.size w2 wf24 := hS.trans (hb.mono hS.size)
      refine hK.out _ _ hS2 (fun hS => ?_)
      clear hK K hb hS2
      try simp only [Act.put, List.setIfInBounds_toArray, List.set_cons_zero, List.set_cons_succ, List.getElem_toArray, List.getElem_cons_succ, List.getElem_cons_zero]
      refine wpAnyH_ready (rs := [4]) (by kernel_rfl) (by simp) ?_
      refine AllReadyH.cons rfl (fun K hK => ?_) AllReadyH.nil
      go_simp
      refine (c5 _).mono ?_
      rintro e wf25 ⟨rfl, hb⟩
      replace HT := (show Hid (wf25.there g 0 32) from there_below hb HT.out HL.out.2)
      replace HL := (show Hid (w2.heap.size ≤ g ∧ g < wf25.heap.size) from ⟨HL.out.1, Nat.lt_of_lt_of_le HL.out.2 hb.size⟩)
      have hS2 : Below w2.heap.size w2 wf25 := hS.trans (hb.mono hS.size)
      refine hK.out _ _ hS2 (fun hS => ?_)
      clear hK K hb hS2
      try simp only [Act.put, List.setIfInBounds_toArray, List.set_cons_zero, List.set_cons_succ, List.getElem_toArray, List.getElem_cons_succ, List.getElem_cons_zero]
      refine wpAnyH_ready (rs := [5]) (by kernel_rfl) (by simp) ?_
      refine AllReadyH.cons rfl (fun K hK => ?_) AllReadyH.nil
      go_simp
      refine (c6 _).mono ?_
      rintro e wf26 ⟨rfl, hb⟩
      replace HT := (show Hid (wf26.there g 0 32) from there_below hb HT.out HL.out.2)
      replace HL := (show Hid (w2.heap.size ≤ g ∧ g < wf26.heap.size) from ⟨HL.out.1, Nat.lt_of_lt_of_le HL.out.2 hb.size⟩)
      have hS2 : Below w2.heap.size w2 wf26 := hS.trans (hb.mono hS.size)
      refine hK.out _ _ hS2 (fun hS => ?_)
      clear hK K hb hS2
      try simp only [Act.put, List.setIfInBounds_toArray, List.set_cons_zero, List.set_cons_succ, List.getElem_toArray, List.getElem_cons_succ, List.getElem_cons_zero]
      refine wpAnyH_take (i := 6) (v := .tuple #[.agg K6.toArray, ev]) rfl (by kernel_rfl) (by kernel_rfl) (by kernel_rfl) (fun _ _ _ h => h) (Or.inl ⟨by kernel_rfl, fun wq hS => by go_simp⟩) hS ?_
      try simp only [Act.put, List.setIfInBounds_toArray, List.set_cons_zero, List.set_cons_succ, List.getElem_toArray, List.getElem_cons_succ, List.getElem_cons_zero]
      refine wpAnyH_take (i := 7) (v := .agg K6.toArray) rfl (by kernel_rfl) (by kernel_rfl) (by kernel_rfl) (fun _ _ _ h => h) (Or.inl ⟨by kernel_rfl, fun wq hS => by go_simp⟩) hS ?_
      try simp only [Act.put, List.setIfInBounds_toArray, List.set_cons_zero, List.set_cons_succ, List.getElem_toArray, List.getElem_cons_succ, List.getElem_cons_zero]
      refine wpAnyH_take (i := 8) (v := ev) rfl (by kernel_rfl) (by kernel_rfl) (by kernel_rfl) (fun _ _ _ h => h) (Or.inl ⟨by kernel_rfl, fun wq hS => by go_simp⟩) hS ?_
      try simp only [Act.put, List.setIfInBounds_toArray, List.set_cons_zero, List.set_cons_succ, List.getElem_toArray, List.getElem_cons_succ, List.getElem_cons_zero]
      refine wpAnyH_ready (rs := [10]) (by kernel_rfl) (by simp) ?_
      refine AllReadyH.cons rfl (fun K hK => ?_) AllReadyH.nil
      refine want_it (by kernel_rfl) ?_
      refine wp_store_mid 22 (.tmp 5) (.tmp 19) rfl g 0 K6.toArray rfl rfl (LK6.out.s (N := w2.heap.size) ⟨HL.out.1, HL.out.2, HT.out⟩) LK6.out.j LK6.out.o ?_
      simp only
      have hS2 : Below w2.heap.size w2 (wf26.setCells g 0 K6) := below_setCells hS HL.out.1
      refine hK.out _ _ hS2 (fun hS => ?_)
      clear hK K hS2
      try simp only [Act.put, List.getElem_toArray, List.getElem_cons_succ, List.getElem_cons_zero]
      refine wpAnyH_ready (rs := [11]) (by kernel_rfl) (by simp) ?_
      refine AllReadyH.cons rfl (fun K hK => ?_) AllReadyH.nil
      go_simp
      refine hK.out _ _ hS (fun hS => ?_)
      clear hK K
      try simp only [Act.put, List.setIfInBounds_toArray, List.set_cons_zero, List.set_cons_succ, List.getElem_toArray, List.getElem_cons_succ, List.getElem_cons_zero]
      refine wpAnyH_done (by kernel_rfl) ?_ _
      go_wp2
      go_meet
      case rel => exact ⟨g, rfl, rfl, ⟨hS, float_box LK6.out HT.out HL.out.2⟩⟩
  case rest =>
    obtain ⟨g, rfl, rfl, HR⟩ := hcut
    have BY2 := (show Hid (Rp wc n 0 Y) from BY_2.out.below HR.out.1)
    have AO2 := (show Hid (Ao w.heap.size wc (n + 1) 64) from AO_2.out.below HR.out.1)
    have BK2 := (show Hid (Rp wc bBK 0 K1) from BK_2.out.below HR.out.1)
    have BI2 := (show Hid (Rp wc g 0 K6) from HR.out.2)
    have HB3 := (show Hid (Below w.heap.size w wc) from HB2.out.trans (HR.out.1.mono HB2.out.size))
    clear HR BY_2 AO_2 BK_2 HB2 c3 c4 c5 c6
    go_upto_region 3 with (fail)
    go_cut [7, 8] from 21 to 29 (fun s e wx => ∃ g2, s = .pointer (some ⟨g2, 0, none⟩) ∧ e = .nilIface ∧ Hid (Below wc.heap.size wc wx ∧ Rp wx g2 0 K9))
    case first =>
      refine wp_region_held_drew (S := fun w' => Below wc.heap.size wc w') (by kernel_rfl) (drewB wc) (fun hS => ?_)
      obtain ⟨wd, hwd⟩ : ∃ v, World.drew wc = v := ⟨_, rfl⟩
      rw [hwd] at hS ⊢
      clear hwd
      refine wpAnyH_take (i := 0) (v := .agg K1.toArray) rfl (by kernel_rfl) (by kernel_rfl) (by kernel_rfl) (fun _ _ _ h => h) (yieldsIf_load_mid (by kernel_rfl) 22 (.tmp 4) rfl bBK 0 rfl K1 _ (fun wq hq => Rg.Below.range hq BK2.out.1 BK2.out.2) Try.underlying22 rfl LK1.out.i) hS ?_
      try simp only [Act.put, List.setIfInBounds_toArray, List.set_cons_zero, List.set_cons_succ, List.getElem_toArray, List.getElem_cons_zero]
      refine wpAnyH_take (i := 3) (v := .agg K6.toArray) rfl (by kernel_rfl) (by kernel_rfl) (by kernel_rfl) (fun _ _ _ h => h) (yieldsIf_load_mid (by kernel_rfl) 22 (.tmp 5) rfl g 0 rfl K6 _ (fun wq hq => Rg.Below.range hq BI2.out.1 BI2.out.2) Try.underlying22 rfl LK6.out.i) hS ?_
      try simp only [Act.put, List.setIfInBounds_toArray, List.set_cons_zero, List.set_cons_succ, List.getElem_toArray, List.getElem_cons_succ, List.getElem_cons_zero]
      refine wpAnyH_ready (rs := [1, 9]) (by kernel_rfl) (by simp) ?_
      refine AllReadyH.cons rfl (fun K hK => ?_) (AllReadyH.cons rfl (fun K hK => ?_) AllReadyH.nil)
      · go_simp
        refine (c2 _).mono ?_
        rintro e wf1 ⟨rfl, hb⟩
        have hS2 : Below wc.heap.size wc wf1 := hS.trans (hb.mono hS.size)
        refine hK.out _ _ hS2 (fun hS => ?_)
        clear hK K hb hS2
        try simp only [Act.put, List.setIfInBounds_toArray, List.set_cons_zero, List.set_cons_succ, List.getElem_toArray, List.getElem_cons_succ, List.getElem_cons_zero]
        refine wpAnyH_ready (rs := [2, 9]) (by kernel_rfl) (by simp) ?_
        refine AllReadyH.cons rfl (fun K hK => ?_) (AllReadyH.cons rfl (fun K hK => ?_) AllReadyH.nil)
        · go_simp
          refine (c7 _).mono ?_
          rintro e wf2 ⟨rfl, hb⟩
          have hS2 : Below wc.heap.size wc wf2 := hS.trans (hb.mono hS.size)
          refine hK.out _ _ hS2 (fun hS => ?_)
          clear hK K hb hS2
          try simp only [Act.put, List.setIfInBounds_toArray, List.set_cons_zero, List.set_cons_succ, List.getElem_toArray, List.getElem_cons_succ, List.getElem_cons_zero]
          refine wpAnyH_ready (rs := [4, 9]) (by kernel_rfl) (by simp) ?_
          refine AllReadyH.cons rfl (fun K hK => ?_) (AllReadyH.cons rfl (fun K hK => ?_) AllReadyH.nil)
          · go_simp
            refine (c8 _).mono ?_
            rintro e wf3 ⟨rfl, hb⟩
            have hS2 : Below wc.heap.size wc wf3 := hS.trans (hb.mono hS.size)
            refine hK.out _ _ hS2 (fun hS => ?_)
            clear hK K hb hS2
            try simp only [Act.put, List.setIfInBounds_toArray, List.set_cons_zero, List.set_cons_succ, List.getElem_toArray, List.getElem_cons_succ, List.getElem_cons_zero]
            refine wpAnyH_ready (rs := [5, 9]) (by kernel_rfl) (by simp) ?_
            refine AllReadyH.cons rfl (fun K hK => ?_) (AllReadyH.cons rfl (fun K hK => ?_) AllReadyH.nil)
            · go_simp
              refine (c9 _).mono ?_
              rintro e wf4 ⟨rfl, hb⟩
              have hS2 : Below wc.heap.size wc wf4 := hS.trans (hb.mono hS.size)
              refine hK.out _ _ hS2 (fun hS => ?_)
              clear hK K hb hS2
              try simp only [Act.put, List.setIfInBounds_toArray, List.set_cons_zero, List.set_cons_succ, List.getElem_toArray, List.getElem_cons_succ, List.getElem_cons_zero]
              refine wpAnyH_take (i := 6) (v := .tuple #[.agg K9.toArray, .nilIface]) rfl (by kernel_rfl) (by kernel_rfl) (by kernel_rfl) (fun _ _ _ h => h) (Or.inl ⟨by kernel_rfl, fun wq hS => by go_simp⟩) hS ?_
              try simp only [Act.put, List.setIfInBounds_toArray, List.set_cons_zero, List.set_cons_succ, List.getElem_toArray, List.getElem_cons_succ, List.getElem_cons_zero]
              refine wpAnyH_take (i := 7) (v := .agg K9.toArray) rfl (by kernel_rfl) (by kernel_rfl) (by kernel_rfl) (fun _ _ _ h => h) (Or.inl ⟨by kernel_rfl, fun wq hS => by go_simp⟩) hS ?_
              try simp only [Act.put, List.setIfInBounds_toArray, List.set_cons_zero, List.set_cons_succ, List.getElem_toArray, List.getElem_cons_succ, List.getElem_cons_zero]
              refine wpAnyH_take (i := 8) (v := .nilIface) rfl (by kernel_rfl) (by kernel_rfl) (by kernel_rfl) (fun _ _ _ h => h) (Or.inl ⟨by kernel_rfl, fun wq hS => by go_simp⟩) hS ?_
              try simp only [Act.put, List.setIfInBounds_toArray, List.set_cons_zero, List.set_cons_succ, List.getElem_toArray, List.getElem_cons_succ, List.getElem_cons_zero]
              refine wpAnyH_ready (rs := [9]) (by kernel_rfl) (by simp) ?_
              refine AllReadyH.cons rfl (fun K hK => ?_) AllReadyH.nil
              go_simp
              have HT := (show Hid _ from HTT.out wf4)
              have HL : Hid (wc.heap.size ≤ wf4.heap.size ∧ wf4.heap.size < (wf4.alloc (.cells Z22 22)).heap.size) := ⟨hS.size, by rw [size_alloc]; omega⟩
              obtain ⟨g3, hg⟩ : ∃ g3, wf4.heap.size = g3 := ⟨_, rfl⟩
              refine hK.out _ _ (hS.alloc hS.size _) (fun hS => ?_)
              clear hK K
              try simp only [Act.put, List.setIfInBounds_toArray, List.set_cons_zero, List.set_cons_succ, List.getElem_toArray, List.getElem_cons_succ, List.getElem_cons_zero]
              obtain ⟨wf5, hwf5⟩ : ∃ v, wf4.alloc (.cells Z22 22) = v := ⟨_, rfl⟩
              rw [hwf5] at HT HL hS ⊢
              rw [hg] at HT HL ⊢
              clear hg hwf5
              refine wpAnyH_ready (rs := [10]) (by kernel_rfl) (by simp) ?_
              refine AllReadyH.cons rfl (fun K hK => ?_) AllReadyH.nil
              refine want_it (by kernel_rfl) ?_
              refine wp_store_mid 22 (.tmp 7) (.tmp 28) rfl g3 0 K9.toArray rfl rfl (LK9.out.s (N := wc.heap.size) ⟨HL.out.1, HL.out.2, HT.out⟩) LK9.out.j LK9.out.o ?_
              simp only
              have hS2 : Below wc.heap.size wc (wf5.setCells g3 0 K9) := below_setCells hS HL.out.1
              refine hK.out _ _ hS2 (fun hS => ?_)
              clear hK K hS2
              try simp only [Act.put, List.getElem_toArray, List.getElem_cons_succ, List.getElem_cons_zero]
              refine wpAnyH_ready (rs := [11]) (by kernel_rfl) (by simp) ?_
              refine AllReadyH.cons rfl (fun K hK => ?_) AllReadyH.nil
              go_simp
              refine hK.out _ _ hS (fun hS => ?_)
              clear hK K
              try simp only [Act.put, List.setIfInBounds_toArray, List.set_cons_zero, List.set_cons_succ, List.getElem_toArray, List.getElem_cons_succ, List.getElem_cons_zero]
              refine wpAnyH_done (by kernel_rfl) ?_ _
              go_wp2
              go_meet
              case rel => exact ⟨g3, rfl, rfl, ⟨hS, float_box LK9.out HT.out HL.out.2⟩⟩
            · go_simp
              have HT := (show Hid _ from HTT.out wf3)
              have HL : Hid (wc.heap.size ≤ wf3.heap.size ∧ wf3.heap.size < (wf3.alloc (.cells Z22 22)).heap.size) := ⟨hS.size, by rw [size_alloc]; omega⟩
              obtain ⟨g3, hg⟩ : ∃ g3, wf3.heap.size = g3 := ⟨_, rfl⟩
              refine hK.out _ _ (hS.alloc hS.size _) (fun hS => ?_)
              clear hK K
              try simp only [Act.put, List.setIfInBounds_toArray, List.set_cons_zero, List.set_cons_succ, List.getElem_toArray, List.getElem_cons_succ, List.getElem_cons_zero]
              obtain ⟨wf6, hwf6⟩ : ∃ v, wf3.alloc (.cells Z22 22) = v := ⟨_, rfl⟩
              rw [hwf6] at HT HL hS ⊢
              rw [hg] at HT HL ⊢
              clear hg hwf6
              refine wpAnyH_ready (rs := [5]) (by kernel_rfl) (by simp) ?_
              refine AllReadyH.cons rfl (fun K hK => ?_) AllReadyH.nil
              go_simp
              refine (c9 _).mono ?_
              rintro e wf7 ⟨rfl, hb⟩
              replace HT := (show Hid (wf7.there g3 0 32) from there_below hb HT.out HL.out.2)
              replace HL := (show Hid (wc.heap.size ≤ g3 ∧ g3 < wf7.heap.size) from ⟨HL.out.1, Nat.lt_of_lt_of_le HL.out.2 hb.size⟩)
              have hS2 : Below wc.heap.size wc wf7 := hS.trans (hb.mono hS.size)
              refine hK.out _ _ hS2 (fun hS => ?_)
              clear hK K hb hS2
              try simp only [Act.put, List.setIfInBounds_toArray, List.set_cons_zero, List.set_cons_succ, List.getElem_toArray, List.getElem_cons_succ, List.getElem_cons_zero]
              refine wpAnyH_take (i := 6) (v := .tuple #[.agg K9.toArray, .nilIface]) rfl (by kernel_rfl) (by kernel_rfl) (by kernel_rfl) (fun _ _ _ h => h) (Or.inl ⟨by kernel_rfl, fun wq hS => by go_simp⟩) hS ?_
              try simp only [Act.put, List.setIfInBounds_toArray, List.set_cons_zero, List.set_cons_succ, List.getElem_toArray, List.getElem_cons_succ, List.getElem_cons_zero]
              refine wpAnyH_take (i := 7) (v := .agg K9.toArray) rfl (by kernel_rfl) (by kernel_rfl) (by kernel_rfl) (fun _ _ _ h => h) (Or.inl ⟨by kernel_rfl, fun wq hS => by go_simp⟩) hS ?_
              try simp only [Act.put, List.setIfInBounds_toArray, List.set_cons_zero, List.set_cons_succ, List.getElem_toArray, List.getElem_cons_succ, List.getElem_cons_zero]
              refine wpAnyH_take (i := 8) (v := .nilIface) rfl (by kernel_rfl) (by kernel_rfl) (by kernel_rfl) (fun _ _ _ h => h) (Or.inl ⟨by kernel_rfl, fun wq hS => by go_simp⟩) hS ?_
              try simp only [Act.put, List.setIfInBounds_toArray, List.set_cons_zero, List.set_cons_succ, List.getElem_toArray, List.getElem_cons_succ, List.getElem_cons_zero]
              refine wpAnyH_ready (rs := [10]) (by kernel_rfl) (by simp) ?_
              refine AllReadyH.cons rfl (fun K hK => ?_) AllReadyH.nil
              refine want_it (by kernel_rfl) ?_
              refine wp_store_mid 22 (.tmp 7) (.tmp 28) rfl g3 0 K9.toArray rfl rfl (LK9.out.s (N := wc.heap.size) ⟨HL.out.1, HL.out.2, HT.out⟩) LK9.out.j LK9.out.o ?_
              simp only
              have hS2 : Below wc.heap.size wc (wf7.setCells g3 0 K9) := below_setCells hS HL.out.1
              refine hK.out _ _ hS2 (fun hS => ?_)
              clear hK K hS2
              try simp only [Act.put, List.getElem_toArray, List.getElem_cons_succ, List.getElem_cons_zero]
              refine wpAnyH_ready (rs := [11]) (by kernel_rfl) (by simp) ?_
              refine AllReadyH.cons rfl (fun K hK => ?_) AllReadyH.nil
              go_simp
              refine hK.out _ _ hS (fun hS => ?_)
              clear hK K
              try simp only [Act.put, List.setIfInBounds_toArray, List.set_cons_zero, List.set_cons_succ, List.getElem_toArray, List.getElem_cons_succ, List.getElem_cons_zero]
              refine wpAnyH_done (by kernel_rfl) ?_ _
              go_wp2
              go_meet
              case rel => exact ⟨g3, rfl, rfl, ⟨hS, float_box LK9.out HT.out HL.out.2⟩⟩
          · go_simp
            have HT := (show Hid _ from HTT.out wf2)
            have HL : Hid (wc.heap.size ≤ wf2.heap.size ∧ wf2.heap.size < (wf2.alloc (.cells Z22 22)).heap.size) := ⟨hS.size, by rw [size_alloc]; omega⟩
            obtain ⟨g3, hg⟩ : ∃ g3, wf2.heap.size = g3 := ⟨_, rfl⟩
            refine hK.out _ _ (hS.alloc hS.size _) (fun hS => ?_)
            clear hK K
            try simp only [Act.put, List.setIfInBounds_toArray, List.set_cons_zero, List.set_cons_succ, List.getElem_toArray, List.getElem_cons_succ, List.getElem_cons_zero]
            obtain ⟨wf8, hwf8⟩ : ∃ v, wf2.alloc (.cells Z22 22) = v := ⟨_, rfl⟩
            rw [hwf8] at HT HL hS ⊢
            rw [hg] at HT HL ⊢
            clear hg hwf8
            refine wpAnyH_ready (rs := [4]) (by kernel_rfl) (by simp) ?_
            refine AllReadyH.cons rfl (fun K hK => ?_) AllReadyH.nil
            go_simp
            refine (c8 _).mono ?_
            rintro e wf9 ⟨rfl, hb⟩
            replace HT := (show Hid (wf9.there g3 0 32) from there_below hb HT.out HL.out.2)
            replace HL := (show Hid (wc.heap.size ≤ g3 ∧ g3 < wf9.heap.size) from ⟨HL.out.1, Nat.lt_of_lt_of_le HL.out.2 hb.size⟩)
            have hS2 : Below wc.heap.size wc wf9 := hS.trans (hb.mono hS.size)
            refine hK.out _ _ hS2 (fun hS => ?_)
            clear hK K hb hS2
            try simp only [Act.put, List.setIfInBounds_toArray, List.set_cons_zero, List.set_cons_succ, List.getElem_toArray, List.getElem_cons_succ, List.getElem_cons_zero]
            refine wpAnyH_ready (rs := [5]) (by kernel_rfl) (by simp) ?_
            refine AllReadyH.cons rfl (fun K hK => ?_) AllReadyH.nil
            go_simp
            refine (c9 _).mono ?_
            rintro e wf10 ⟨rfl, hb⟩
            replace HT := (show Hid (wf10.there g3 0 32) from there_below hb HT.out HL.out.2)
            replace HL := (show Hid (wc.heap.size ≤ g3 ∧ g3 < wf10.heap.size) from ⟨HL.out.1, Nat.lt_of_lt_of_le HL.out.2 hb.size⟩)
            have hS2 : Below wc.heap.size wc wf10 := hS.trans (hb.mono hS.size)
            refine hK.out _ _ hS2 (fun hS => ?_)
            clear hK K hb hS2
            try simp only [Act.put, List.setIfInBounds_toArray, List.set_cons_zero, List.set_cons_succ, List.getElem_toArray, List.getElem_cons_succ, List.getElem_cons_zero]
            refine wpAnyH_take (i := 6) (v := .tuple #[.agg K9.toArray, .nilIface]) rfl (by kernel_rfl) (by kernel_rfl) (by kernel_rfl) (fun _ _ _ h => h) (Or.inl ⟨by kernel_rfl, fun wq hS => by go_simp⟩) hS ?_
            try simp only [Act.put, List.setIfInBounds_toArray, List.set_cons_zero, List.set_cons_succ, List.getElem_toArray, List.getElem_cons_succ, List.getElem_cons_zero]
            refine wpAnyH_take (i := 7) (v := .agg K9.toArray) rfl (by kernel_rfl) (by kernel_rfl) (by kernel_rfl) (fun _ _ _ h => h) (Or.inl ⟨by kernel_rfl, fun wq hS => by go_simp⟩) hS ?_
            try simp only [Act.put, List.setIfInBounds_toArray, List.set_cons_zero, List.set_cons_succ, List.getElem_toArray, List.getElem_cons_succ, List.getElem_cons_zero]
            refine wpAnyH_take (i := 8) (v := .nilIface) rfl (by kernel_rfl) (by kernel_rfl) (by kernel_rfl) (fun _ _ _ h => h) (Or.inl ⟨by kernel_rfl, fun wq hS => by go_simp⟩) hS ?_
            try simp only [Act.put, List.setIfInBounds_toArray, List.set_cons_zero, List.set_cons_succ, List.getElem_toArray, List.getElem_cons_succ, List.getElem_cons_zero]
            refine wpAnyH_ready (rs := [10]) (by kernel_rfl) (by simp) ?_
            refine AllReadyH.cons rfl (fun K hK => ?_) AllReadyH.nil
            refine want_it (by kernel_rfl) ?_
            refine wp_store_mid 22 (.tmp 7) (.tmp 28) rfl g3 0 K9.toArray rfl rfl (LK9.out.s (N := wc.heap.size) ⟨HL.out.1, HL.out.2, HT.out⟩) LK9.out.j LK9.out.o ?_
            simp only
            have hS2 : Below wc.heap.size wc (wf10.setCells g3 0 K9) := below_setCells hS HL.out.1
            refine hK.out _ _ hS2 (fun hS => ?_)
            clear hK K hS2
            try simp only [Act.put, List.getElem_toArray, List.getElem_cons_succ, List.getElem_cons_zero]
            refine wpAnyH_ready (rs := [11]) (by kernel_rfl) (by simp) ?_
            refine AllReadyH.cons rfl (fun K hK => ?_) AllReadyH.nil
            go_simp
            refine hK.out _ _ hS (fun hS => ?_)
            clear hK K
            try simp only [Act.put, List.setIfInBounds_toArray, List.set_cons_zero, List.set_cons_succ, List.getElem_toArray, List.getElem_cons_succ, List.getElem_cons_zero]
            refine wpAnyH_done (by kernel_rfl) ?_ _
            go_wp2
            go_meet
            case rel => exact ⟨g3, rfl, rfl, ⟨hS, float_box LK9.out HT.out HL.out.2⟩⟩
        · go_simp
          have HT := (show Hid _ from HTT.out wf1)
          have HL : Hid (wc.heap.size ≤ wf1.heap.size ∧ wf1.heap.size < (wf1.alloc (.cells Z22 22)).heap.size) := ⟨hS.size, by rw [size_alloc]; omega⟩
          obtain ⟨g3, hg⟩ : ∃ g3, wf1.heap.size = g3 := ⟨_, rfl⟩
          refine hK.out _ _ (hS.alloc hS.size _) (fun hS => ?_)
          clear hK K
          try simp only [Act.put, List.setIfInBounds_toArray, List.set_cons_zero, List.set_cons_succ, List.getElem_toArray, List.getElem_cons_succ, List.getElem_cons_zero]
          obtain ⟨wf11, hwf11⟩ : ∃ v, wf1.alloc (.cells Z22 22) = v := ⟨_, rfl⟩
          rw [hwf11] at HT HL hS ⊢
          rw [hg] at HT HL ⊢
          clear hg hwf11
          refine wpAnyH_ready (rs := [2]) (by kernel_rfl) (by simp) ?_
          refine AllReadyH.cons rfl (fun K hK => ?_) AllReadyH.nil
          go_simp
          refine (c7 _).mono ?_
          rintro e wf12 ⟨rfl, hb⟩
          replace HT := (show Hid (wf12.there g3 0 32) from there_below hb HT.out HL.out.2)
          replace HL := (show Hid (wc.heap.size ≤ g3 ∧ g3 < wf12.heap.size) from ⟨HL.out.1, Nat.lt_of_lt_of_le HL.out.2 hb.size⟩)
          have hS2 : Below wc.heap.size wc wf12 := hS.trans (hb.mono hS.size)
          refine hK.out _ _ hS2 (fun hS => ?_)
          clear hK K hb hS2
          try simp only [Act.put, List.setIfInBounds_toArray, List.set_cons_zero, List.set_cons_succ, List.getElem_toArray, List.getElem_cons_succ, List.getElem_cons_zero]
          refine wpAnyH_ready (rs := [4]) (by kernel_rfl) (by simp) ?_
          refine AllReadyH.cons rfl (fun K hK => ?_) AllReadyH.nil
          go_simp
          refine (c8 _).mono ?_
          rintro e wf13 ⟨rfl, hb⟩
          replace HT := (show Hid (wf13.there g3 0 32) from there_below hb HT.out HL.out.2)
          replace HL := (show Hid (wc.heap.size ≤ g3 ∧ g3 < wf13.heap.size) from ⟨HL.out.1, Nat.lt_of_lt_of_le HL.out.2 hb.size⟩)
          have hS2 : Below wc.heap.size wc wf13 := hS.trans (hb.mono hS.size)
          refine hK.out _ _ hS2 (fun hS => ?_)
          clear hK K hb hS2
          try simp only [Act.put, List.setIfInBounds_toArray, List.set_cons_zero, List.set_cons_succ, List.getElem_toArray, List.getElem_cons_succ, List.getElem_cons_zero]
          refine wpAnyH_ready (rs := [5]) (by kernel_rfl) (by simp) ?_
          refine AllReadyH.cons rfl (fun K hK => ?_) AllReadyH.nil
          go_simp
          refine (c9 _).mono ?_
          rintro e wf14 ⟨rfl, hb⟩
          replace HT := (show Hid (wf14.there g3 0 32) from there_below hb HT.out HL.out.2)
          replace HL := (show Hid (wc.heap.size ≤ g3 ∧ g3 < wf14.heap.size) from ⟨HL.out.1, Nat.lt_of_lt_of_le HL.out.2 hb.size⟩)
          have hS2 : Below wc.heap.size wc wf14 := hS.trans (hb.mono hS.size)
          refine hK.out _ _ hS2 (fun hS => ?_)
          clear hK K hb hS2
          try simp only [Act.put, List.setIfInBounds_toArray, List.set_cons_zero, List.set_cons_succ, List.getElem_toArray, List.getElem_cons_succ, List.getElem_cons_zero]
          refine wpAnyH_take (i := 6) (v := .tuple #[.agg K9.toArray, .nilIface]) rfl (by kernel_rfl) (by kernel_rfl) (by kernel_rfl) (fun _ _ _ h => h) (Or.inl ⟨by kernel_rfl, fun wq hS => by go_simp⟩) hS ?_
          try simp only [Act.put, List.setIfInBounds_toArray, List.set_cons_zero, List.set_cons_succ, List.getElem_toArray, List.getElem_cons_succ, List.getElem_cons_zero]
          refine wpAnyH_take (i := 7) (v := .agg K9.toArray) rfl (by kernel_rfl) (by kernel_rfl) (by kernel_rfl) (fun _ _ _ h => h) (Or.inl ⟨by kernel_rfl, fun wq hS => by go_simp⟩) hS ?_
          try simp only [Act.put, List.setIfInBounds_toArray, List.set_cons_zero, List.set_cons_succ, List.getElem_toArray, List.getElem_cons_succ, List.getElem_cons_zero]
          refine wpAnyH_take (i := 8) (v := .nilIface) rfl (by kernel_rfl) (by kernel_rfl) (by kernel_rfl) (fun _ _ _ h => h) (Or.inl ⟨by kernel_rfl, fun wq hS => by go_simp⟩) hS ?_
          try simp only [Act.put, List.setIfInBounds_toArray, List.set_cons_zero, List.set_cons_succ, List.getElem_toArray, List.getElem_cons_succ, List.getElem_cons_zero]
          refine wpAnyH_ready (rs := [10]) (by kernel_rfl) (by simp) ?_
          refine AllReadyH.cons rfl (fun K hK => ?_) AllReadyH.nil
          refine want_it (by kernel_rfl) ?_
          refine wp_store_mid 22 (.tmp 7) (.tmp 28) rfl g3 0 K9.toArray rfl rfl (LK9.out.s (N := wc.heap.size) ⟨HL.out.1, HL.out.2, HT.out⟩) LK9.out.j LK9.out.o ?_
          simp only
          have hS2 : Below wc.heap.size wc (wf14.setCells g3 0 K9) := below_setCells hS HL.out.1
          refine hK.out _ _ hS2 (fun hS => ?_)
          clear hK K hS2
          try simp only [Act.put, List.getElem_toArray, List.getElem_cons_succ, List.getElem_cons_zero]
          refine wpAnyH_ready (rs := [11]) (by kernel_rfl) (by simp) ?_
          refine AllReadyH.cons rfl (fun K hK => ?_) AllReadyH.nil
          go_simp
          refine hK.out _ _ hS (fun hS => ?_)
          clear hK K
          try simp only [Act.put, List.setIfInBounds_toArray, List.set_cons_zero, List.set_cons_succ, List.getElem_toArray, List.getElem_cons_succ, List.getElem_cons_zero]
          refine wpAnyH_done (by kernel_rfl) ?_ _
          go_wp2
          go_meet
          case rel => exact ⟨g3, rfl, rfl, ⟨hS, float_box LK9.out HT.out HL.out.2⟩⟩
      · go_simp
        have HT := (show Hid _ from HTT.out wd)
        have HL : Hid (wc.heap.size ≤ wd.heap.size ∧ wd.heap.size < (wd.alloc (.cells Z22 22)).heap.size) := ⟨hS.size, by rw [size_alloc]; omega⟩
        obtain ⟨g3, hg⟩ : ∃ g3, wd.heap.size = g3 := ⟨_, rfl⟩
        refine hK.out _ _ (hS.alloc hS.size _) (fun hS => ?_)
        clear hK K
        try simp only [Act.put, List.setIfInBounds_toArray, List.set_cons_zero, List.set_cons_succ, List.getElem_toArray, List.getElem_cons_succ, List.getElem_cons_zero]
        obtain ⟨wf15, hwf15⟩ : ∃ v, wd.alloc (.cells Z22 22) = v := ⟨_, rfl⟩
        rw [hwf15] at HT HL hS ⊢
        rw [hg] at HT HL ⊢
        clear hg hwf15
        refine wpAnyH_ready (rs := [1]) (by kernel_rfl) (by simp) ?_
        refine AllReadyH.cons rfl (fun K hK => ?_) AllReadyH.nil
        go_simp
        refine (c2 _).mono ?_
        rintro e wf16 ⟨rfl, hb⟩
        replace HT := (show Hid (wf16.there g3 0 32) from there_below hb HT.out HL.out.2)
        replace HL := (show Hid (wc.heap.size ≤ g3 ∧ g3 < wf16.heap.size) from ⟨HL.out.1, Nat.lt_of_lt_of_le HL.out.2 hb.size⟩)
        have hS2 : Below wc.heap.size wc wf16 := hS.trans (hb.mono hS.size)
        refine hK.out _ _ hS2 (fun hS => ?_)
        clear hK K hb hS2
        try simp only [Act.put, List.setIfInBounds_toArray, List.set_cons_zero, List.set_cons_succ, List.getElem_toArray, List.getElem_cons_succ, List.getElem_cons_zero]
        refine wpAnyH_ready (rs := [2]) (by kernel_rfl) (by simp) ?_
        refine AllReadyH.cons rfl (fun K hK => ?_) AllReadyH.nil
        go_simp
        refine (c7 _).mono ?_
        rintro e wf17 ⟨rfl, hb⟩
        replace HT := (show Hid (wf17.there g3 0 32) from there_below hb HT.out HL.out.2)
        replace HL := (show Hid (wc.heap.size ≤ g3 ∧ g3 < wf17.heap.size) from ⟨HL.out.1, Nat.lt_of_lt_of_le HL.out.2 hb.size⟩)
        have hS2 : Below wc.heap.size wc wf17 := hS.trans (hb.mono hS.size)
        refine hK.out _ _ hS2 (fun hS => ?_)
        clear hK K hb hS2
        try simp only [Act.put, List.setIfInBounds_toArray, List.set_cons_zero, List.set_cons_succ, List.getElem_toArray, List.getElem_cons_succ, List.getElem_cons_zero]
        refine wpAnyH_ready (rs := [4]) (by kernel_rfl) (by simp) ?_
        refine AllReadyH.cons rfl (fun K hK => ?_) AllReadyH.nil
        go_simp
        refine (c8 _).mono ?_
        rintro e wf18 ⟨rfl, hb⟩
        replace HT := (show Hid (wf18.there g3 0 32) from there_below hb HT.out HL.out.2)
        replace HL := (show Hid (wc.heap.size ≤ g3 ∧ g3 < wf18.heap.size) from ⟨HL.out.1, Nat.lt_of_lt_of_le HL.out.2 hb.size⟩)
        have hS2 : Below wc.heap.size wc wf18 := hS.trans (hb.mono hS.size)
        refine hK.out _ _ hS2 (fun hS => ?_)
        clear hK K hb hS2
        try simp only [Act.put, List.setIfInBounds_toArray, List.set_cons_zero, List.set_cons_succ, List.getElem_toArray, List.getElem_cons_succ, List.getElem_cons_zero]
        refine wpAnyH_ready (rs := [5]) (by kernel_rfl) (by simp) ?_
        refine AllReadyH.cons rfl (fun K hK => ?_) AllReadyH.nil
        go_simp
        refine (c9 _).mono ?_
        rintro e wf19 ⟨rfl, hb⟩
        replace HT := (show Hid (wf19.there g3 0 32) from there_below hb HT.out HL.out.2)
        replace HL := (show Hid (wc.heap.size ≤ g3 ∧ g3 < wf19.heap.size) from ⟨HL.out.1, Nat.lt_of_lt_of_le HL.out.2 hb.size⟩)
        have hS2 : Below wc.heap.size wc wf19 := hS.trans (hb.mono hS.size)
        refine hK.out _ _ hS2 (fun hS => ?_)
        clear hK K hb hS2
        try simp only [Act.put, List.setIfInBounds_toArray, List.set_cons_zero, List.set_cons_succ, List.getElem_toArray, List.getElem_cons_succ, List.getElem_cons_zero]
        refine wpAnyH_take (i := 6) (v := .tuple #[.agg K9.toArray, .nilIface]) rfl (by kernel_rfl) (by kernel_rfl) (by kernel_rfl) (fun _ _ _ h => h) (Or.inl ⟨by kernel_rfl, fun wq hS => by go_simp⟩) hS ?_
        try simp only [Act.put, List.setIfInBounds_toArray, List.set_cons_zero, List.set_cons_succ, List.getElem_toArray, List.getElem_cons_succ, List.getElem_cons_zero]
        refine wpAnyH_take (i := 7) (v := .agg K9.toArray) rfl (by kernel_rfl) (by kernel_rfl) (by kernel_rfl) (fun _ _ _ h => h) (Or.inl ⟨by kernel_rfl, fun wq hS => by go_simp⟩) hS ?_
        try simp only [Act.put, List.setIfInBounds_toArray, List.set_cons_zero, List.set_cons_succ, List.getElem_toArray, List.getElem_cons_succ, List.getElem_cons_zero]
        refine wpAnyH_take (i := 8) (v := .nilIface) rfl (by kernel_rfl) (by kernel_rfl) (by kernel_rfl) (fun _ _ _ h => h) (Or.inl ⟨by kernel_rfl, fun wq hS => by go_simp⟩) hS ?_
        try simp only [Act.put, List.setIfInBounds_toArray, List.set_cons_zero, List.set_cons_succ, List.getElem_toArray, List.getElem_cons_succ, List.getElem_cons_zero]
        refine wpAnyH_ready (rs := [10]) (by kernel_rfl) (by simp) ?_
        refine AllReadyH.cons rfl (fun K hK => ?_) AllReadyH.nil
        refine want_it (by kernel_rfl) ?_
        refine wp_store_mid 22 (.tmp 7) (.tmp 28) rfl g3 0 K9.toArray rfl rfl (LK9.out.s (N := wc.heap.size) ⟨HL.out.1, HL.out.2, HT.out⟩) LK9.out.j LK9.out.o ?_
        simp only
        have hS2 : Below wc.heap.size wc (wf19.setCells g3 0 K9) := below_setCells hS HL.out.1
        refine hK.out _ _ hS2 (fun hS => ?_)
        clear hK K hS2
        try simp only [Act.put, List.getElem_toArray, List.getElem_cons_succ, List.getElem_cons_zero]
        refine wpAnyH_ready (rs := [11]) (by kernel_rfl) (by simp) ?_
        refine AllReadyH.cons rfl (fun K hK => ?_) AllReadyH.nil
        go_simp
        refine hK.out _ _ hS (fun hS => ?_)
        clear hK K
        try simp only [Act.put, List.setIfInBounds_toArray, List.set_cons_zero, List.set_cons_succ, List.getElem_toArray, List.getElem_cons_succ, List.getElem_cons_zero]
        refine wpAnyH_done (by kernel_rfl) ?_ _
        go_wp2
        go_meet
        case rel => exact ⟨g3, rfl, rfl, ⟨hS, float_box LK9.out HT.out HL.out.2⟩⟩
    case rest =>
      obtain ⟨g2, rfl, rfl, HR⟩ := hcut
      have BY3 := (show Hid (Rp wc n 0 Y) from BY2.out.below HR.out.1)
      have AO3 := (show Hid (Ao w.heap.size wc (n + 1) 64) from AO2.out.below HR.out.1)
      have BX3 := (show Hid (Rp wc g2 0 K9) from HR.out.2)
      have HB4 := (show Hid (Below w.heap.size w wc) from HB3.out.trans (HR.out.1.mono HB3.out.size))
      have HT := (show Hid _ from LE.out.t AO3.out)
      clear HR BY2 AO2 BK2 BI2 HB3
      go_wp2_with (first
        | (refine wpList_load_mid rfl 22 (.tmp 7) rfl g2 0 rfl K9 _ BX3.out.1 Try.underlying22 rfl LK9.out.i ?_)
        | (refine wpList_load_mid rfl 22 (.tmp 1) rfl n 0 rfl Y _ BY3.out.1 Try.underlying22 rfl LY.out.i ?_)
        | (refine build_to rfl 43 _ rfl (some 36) rfl [(0, .agg K9.toArray), (1, .agg Y.toArray)] (by kernel_rfl) E HBP.out ?_; simp only [Act.put, List.setIfInBounds_toArray, List.set_cons_zero, List.set_cons_succ])
        | (refine wpList_store_mid rfl 43 (.tmp 2) (.tmp 36) rfl (n + 1) 0 E.toArray rfl rfl HT.out LE.out.j LE.out.o ?_; simp only))
      exact bodyPost_ret (res_ct Try.results86 rfl (end43 LE.out AO3.out) rfl) rfl ⟨rfl, below_setCells HB4.out AO3.out.1⟩
end Fd
end Go.Proofs.Ytgdekigdbbldoaa

namespace Go.Proofs.Ytgdekigdbbldoaa
open Go.RowKit
namespace Fd
open Rg Pratt

set_option maxHeartbeats 8000000 in
set_option maxRecDepth 8000 in
theorem withEven_none (y : Nat) (w : World) (hy : y < 115792089237316195423570985008687907853269984665640564039457584007913129639936) (hr : ¬ rt (wq y) * rt (wq y) % p = wq y) :
    Calls Try.prog 86 #[bv y] w fun e w' => e = .returned (.tuple #[pv 0 0, .iface 35 (.int .i64 29)]) ∧ Below w.heap.size w w' := by
  unfold wq at hr
  have c1 : ∀ W : World, Calls Try.prog 20 #[bv y, bv y] W fun e w' => e = .returned (bv (mulp y y)) ∧ Below W.heap.size W w' := fun W => mul_any y y W hy hy
  have l1 := mulp_lt y y
  obtain ⟨k1, hk1⟩ : ∃ k, mulp y y = k := ⟨_, rfl⟩
  rw [hk1] at c1 l1 hr
  have c2 : ∀ W : World, Calls Try.prog 75 #[] W fun e w' => e = .returned (bv cone) ∧ Below W.heap.size W w' := cone_any
  have c3 : ∀ W : World, Calls Try.prog 76 #[] W fun e w' => e = .returned (bv factor) ∧ Below W.heap.size W w' := factor_any
  have c4 : ∀ W : World, Calls Try.prog 20 #[bv factor, bv k1] W fun e w' => e = .returned (bv (mulp factor k1)) ∧ Below W.heap.size W w' := fun W => mul_any factor k1 W (by decide) l1
  have l4 := mulp_lt factor k1
  obtain ⟨k4, hk4⟩ : ∃ k, mulp factor k1 = k := ⟨_, rfl⟩
  rw [hk4] at c4 l4 hr
  have c5 : ∀ W : World, Calls Try.prog 15 #[bv cone, bv k4] W fun e w' => e = .returned (bv (addp cone k4)) ∧ Below W.heap.size W w' := fun W => add_any cone k4 W (by decide) l4
  have l5 := addp_lt cone k4
  obtain ⟨k5, hk5⟩ : ∃ k, addp cone k4 = k := ⟨_, rfl⟩
  rw [hk5] at c5 l5 hr
  obtain ⟨ev, c6⟩ := inv_tell k5 l5
  have l6 := invp_lt k5
  obtain ⟨k6, hk6⟩ : ∃ k, invp k5 = k := ⟨_, rfl⟩
  rw [hk6] at c6 l6 hr
  have c7 : ∀ W : World, Calls Try.prog 18 #[bv k1, bv cone] W fun e w' => e = .returned (bv (subp k1 cone)) ∧ Below W.heap.size W w' := fun W => sub_any k1 cone W l1 (by decide)
  have l7 := subp_lt k1 cone
  obtain ⟨k7, hk7⟩ : ∃ k, subp k1 cone = k := ⟨_, rfl⟩
  rw [hk7] at c7 l7 hr
  have c8 : ∀ W : World, Calls Try.prog 20 #[bv k7, bv k6] W fun e w' => e = .returned (bv (mulp k7 k6)) ∧ Below W.heap.size W w' := fun W => mul_any k7 k6 W l7 l6
  have l8 := mulp_lt k7 k6
  have e8 : mulp k7 k6 % p = mulp k7 k6 := by unfold mulp; rw [Nat.mod_mod]
  obtain ⟨k8, hk8⟩ : ∃ k, mulp k7 k6 = k := ⟨_, rfl⟩
  rw [hk8] at c8 l8 hr e8
  have c9 : ∀ W : World, Calls Try.prog 26 #[bv k8] W fun e w' => e = .returned (.tuple #[bv 0, .iface 35 (.int .i64 9)]) ∧ Below W.heap.size W w' := fun W => proot_none k8 W l8 (by rw [e8]; exact hr)
  obtain ⟨k9, hk9⟩ : ∃ k : Nat, 0 = k := ⟨_, rfl⟩
  have c9' : ∀ W : World, Calls Try.prog 26 #[bv k8] W fun e w' => e = .returned (.tuple #[bv k9, .iface 35 (.int .i64 9)]) ∧ Below W.heap.size W w' := fun W => by rw [← hk9]; exact c9 W
  have en := eq_nil
  have ex := eq_err_nil
  have LY : Hid (L32 (bvc y)) := l32 _
  have LK1 : Hid (L32 (bvc k1)) := l32 _
  have LK6 : Hid (L32 (bvc k6)) := l32 _
  have LK9 : Hid (L32 (bvc k9)) := l32 _
  have HBP : Hid (Try.prog.built 43 [] = some (bvc 0 ++ bvc 0).toArray) := build_none
  have LE : Hid (L64 (bvc 0 ++ bvc 0)) := l64 _ _
  unfold bv at c1 c2 c3 c4 c5 c6 c7 c8 c9' ⊢
  unfold pv
  have HS := (show Hid _ from start22p w (bvc y))
  obtain ⟨E, hE⟩ : ∃ X, bvc 0 ++ bvc 0 = X := ⟨_, rfl⟩
  rw [hE] at HBP LE ⊢
  obtain ⟨Y, hY⟩ : ∃ X, bvc y = X := ⟨_, rfl⟩
  rw [hY] at c1 LY HS ⊢
  obtain ⟨K1, hK1⟩ : ∃ X, bvc k1 = X := ⟨_, rfl⟩
  rw [hK1] at c1 c4 c7 LK1
  obtain ⟨O, hO⟩ : ∃ X, bvc cone = X := ⟨_, rfl⟩
  rw [hO] at c2 c5 c7
  obtain ⟨F, hF⟩ : ∃ X, bvc factor = X := ⟨_, rfl⟩
  rw [hF] at c3 c4
  obtain ⟨K4, hK4⟩ : ∃ X, bvc k4 = X := ⟨_, rfl⟩
  rw [hK4] at c4 c5
  obtain ⟨K5, hK5⟩ : ∃ X, bvc k5 = X := ⟨_, rfl⟩
  rw [hK5] at c5 c6
  obtain ⟨K6, hK6⟩ : ∃ X, bvc k6 = X := ⟨_, rfl⟩
  rw [hK6] at c6 c8 LK6
  obtain ⟨K7, hK7⟩ : ∃ X, bvc k7 = X := ⟨_, rfl⟩
  rw [hK7] at c7 c8
  obtain ⟨K8, hK8⟩ : ∃ X, bvc k8 = X := ⟨_, rfl⟩
  rw [hK8] at c8 c9'
  obtain ⟨K9, hK9⟩ : ∃ X, bvc k9 = X := ⟨_, rfl⟩
  rw [hK9] at c9' LK9
  clear hE hY hK1 hO hF hK4 hK5 hK6 hK7 hK8 hK9 hk1 hk4 hk5 hk6 hk7 hk8 hk9 l1 l4 l5 l6 l7 l8 e8 hr hy c9
  have hz22 := zero22
  have hz43 := zero43
  have HBN22 : Hid _ := box22
  have HTH22 : Hid _ := th22
  have HTT : Hid _ := there22
  obtain ⟨Z22, hZ22⟩ : ∃ Z, z22 = Z := ⟨_, rfl⟩
  obtain ⟨Z43, hZ43⟩ : ∃ Z, z43 = Z := ⟨_, rfl⟩
  rw [hZ22] at hz22 HBN22 HTH22 HTT
  rw [hZ43] at hz43 HS
  clear hZ22 hZ43
  obtain ⟨n, hn⟩ : ∃ n, w.heap.size = n := ⟨_, rfl⟩
  have HN : Hid (w.heap.size = n) := hn
  obtain ⟨we, hwe⟩ : ∃ v, (w.alloc (.cells Y.toArray 22)).alloc (.cells Z43 43) = v := ⟨_, rfl⟩
  have BY : Hid (Rp we n 0 Y) := by have h := HS.out.1; rw [hwe, HN.out] at h; exact h
  have AO : Hid (Ao w.heap.size we (n + 1) 64) := by have h := HS.out.2.1; rw [hwe, HN.out] at h; show Ao _ _ _ _; rw [HN.out]; exact h
  have HBE : Hid (Below w.heap.size w we) := by have h := HS.out.2.2; rw [hwe] at h; exact h
  clear HS
  have BY_0 := BY
  have AO_0 := AO
  have HB_0 := (show Hid (Below we.heap.size we we) from Below.refl _ _)
  have TK_0 := (show Hid True from trivial)
  clear BY AO
  go_enter Try.func86, Try.ntmps86
  go_upto_region 2 with (first
    | (refine wpList_load_mid rfl 22 (.tmp 1) rfl n 0 rfl Y _ BY_0.out.1 Try.underlying22 rfl LY.out.i ?_)
    | (refine wpList_load_mid rfl 22 (.tmp 1) rfl n 0 rfl Y _ BY_1.out.1 Try.underlying22 rfl LY.out.i ?_)
    | (refine wpList_load_mid rfl 22 (.tmp 1) rfl n 0 rfl Y _ BY_2.out.1 Try.underlying22 rfl LY.out.i ?_)
    | (refine wpList_load_mid rfl 22 (.tmp 4) rfl bBK 0 rfl K1 _ BK_2.out.1 Try.underlying22 rfl LK1.out.i ?_)
    | (have hq := TK_0; go_at_call 20; refine (c1 _).mono ?_; rintro e w1 ⟨rfl, hb⟩; have HB_1 := (show Hid (Below we.heap.size we w1) from HB_0.out.trans (hb.mono HB_0.out.size)); have BY_1 := (show Hid (Rp w1 n 0 Y) from BY_0.out.below hb); have AO_1 := (show Hid (Ao w.heap.size w1 (n + 1) 64) from AO_0.out.below hb); have TK_1 := (show Hid True from trivial); clear hq TK_0 hb HB_0 BY_0 AO_0)
    | (have hq := TK_1; refine wpList_store_mid rfl 22 (.tmp 4) (.tmp 11) rfl w1.heap.size 0 K1.toArray rfl rfl (HTH22.out K1 LK1.out w1) LK1.out.j LK1.out.o ?_; simp only [Act.put]; have hbx := HBN22.out K1 LK1.out w1; obtain ⟨w2, hw2⟩ : ∃ v, (w1.alloc (.cells Z22 22)).setCells w1.heap.size 0 K1 = v := ⟨_, rfl⟩; rw [hw2] at hbx ⊢; clear hw2; have hb := hbx.2; replace hbx := hbx.1; obtain ⟨bBK, hbBK⟩ : ∃ b, w1.heap.size = b := ⟨_, rfl⟩; rw [hbBK] at hbx ⊢; clear hbBK; have HB_2 := (show Hid (Below we.heap.size we w2) from HB_1.out.trans (hb.mono HB_1.out.size)); have BY_2 := (show Hid (Rp w2 n 0 Y) from BY_1.out.below hb); have AO_2 := (show Hid (Ao w.heap.size w2 (n + 1) 64) from AO_1.out.below hb); have BK_2 := (show Hid (Rp w2 bBK 0 K1) from hbx); have TK_2 := (show Hid True from trivial); clear hq TK_1 hb hbx HB_1 BY_1 AO_1))
  have HB2 := (show Hid (Below w.heap.size w w2) from HBE.out.trans (HB_2.out.mono HBE.out.size))
  clear HBE HB_2 c1 HBN22 HTH22 TK_2
  go_cut [5, 6] from 12 to 20 (fun s e wx => ∃ g, s = .pointer (some ⟨g, 0, none⟩) ∧ e = ev ∧ Hid (Below w2.heap.size w2 wx ∧ Rp wx g 0 K6))
  case first =>
    refine wp_region_held_drew (S := fun w' => Below w2.heap.size w2 w') (by kernel_rfl) (drewB w2) (fun hS => ?_)
    obtain ⟨wd, hwd⟩ : ∃ v, World.drew w2 = v := ⟨_, rfl⟩
    rw [hwd] at hS ⊢
    clear hwd
    refine wpAnyH_take (i := 2) (v := .agg K1.toArray) rfl (by kernel_rfl) (by kernel_rfl) (by kernel_rfl) (fun _ _ _ h => h) (yieldsIf_load_mid (by kernel_rfl) 22 (.tmp 4) rfl bBK 0 rfl K1 _ (fun wq hq => Rg.Below.range hq BK_2.out.1 BK_2.out.2) Try.underlying22 rfl LK1.out.i) hS ?_
    try simp only [Act.put, List.setIfInBounds_toArray, List.set_cons_zero, List.set_cons_succ, List.getElem_toArray, List.getElem_cons_succ, List.getElem_cons_zero]
    refine wpAnyH_ready (rs := [0, 9]) (by kernel_rfl) (by simp) ?_
    refine AllReadyH.cons rfl (fun K hK => ?_) (AllReadyH.cons rfl (fun K hK => ?_) AllReadyH.nil)
    · go_simp
      refine (c2 _).mono ?_
      rintro e wf1 ⟨rfl, hb⟩
      have hS2 : Below w2.heap.size w2 wf1 := hS.trans (hb.mono hS.size)
      refine hK.out _ _ hS2 (fun hS => ?_)
      clear hK K hb hS2
      try simp only [Act.put, List.setIfInBounds_toArray, List.set_cons_zero, List.set_cons_succ, List.getElem_toArray, List.getElem_cons_succ, List.getElem_cons_zero]
      refine wpAnyH_ready (rs := [1, 9]) (by kernel_rfl) (by simp) ?_
      refine AllReadyH.cons rfl (fun K hK => ?_) (AllReadyH.cons rfl (fun K hK => ?_) AllReadyH.nil)
      · go_simp
        refine (c3 _).mono ?_
        rintro e wf2 ⟨rfl, hb⟩
        have hS2 : Below w2.heap.size w2 wf2 := hS.trans (hb.mono hS.size)
        refine hK.out _ _ hS2 (fun hS => ?_)
        clear hK K hb hS2
        try simp only [Act.put, List.setIfInBounds_toArray, List.set_cons_zero, List.set_cons_succ, List.getElem_toArray, List.getElem_cons_succ, List.getElem_cons_zero]
        refine wpAnyH_ready (rs := [3, 9]) (by kernel_rfl) (by simp) ?_
        refine AllReadyH.cons rfl (fun K hK => ?_) (AllReadyH.cons rfl (fun K hK => ?_) AllReadyH.nil)
        · go_simp
          refine (c4 _).mono ?_
          rintro e wf3 ⟨rfl, hb⟩
          have hS2 : Below w2.heap.size w2 wf3 := hS.trans (hb.mono hS.size)
          refine hK.out _ _ hS2 (fun hS => ?_)
          clear hK K hb hS2
          try simp only [Act.put, List.setIfInBounds_toArray, List.set_cons_zero, List.set_cons_succ, List.getElem_toArray, List.getElem_cons_succ, List.getElem_cons_zero]
          refine wpAnyH_ready (rs := [4, 9]) (by kernel_rfl) (by simp) ?_
          refine AllReadyH.cons rfl (fun K hK => ?_) (AllReadyH.cons rfl (fun K hK => ?_) AllReadyH.nil)
          · go_simp
            refine (c5 _).mono ?_
            rintro e wf4 ⟨rfl, hb⟩
            have hS2 : Below w2.heap.size w2 wf4 := hS.trans (hb.mono hS.size)
            refine hK.out _ _ hS2 (fun hS => ?_)
            clear hK K hb hS2
            try simp only [Act.put, List.setIfInBounds_toArray, List.set_cons_zero, List.set_cons_succ, List.getElem_toArray, List.getElem_cons_succ, List.getElem_cons_zero]
            refine wpAnyH_ready (rs := [5, 9]) (by kernel_rfl) (by simp) ?_
            refine AllReadyH.cons rfl (fun K hK => ?_) (AllReadyH.cons rfl (fun K hK => ?_) AllReadyH.nil)
            · go_simp
              refine (c6 _).mono ?_
              rintro e wf5 ⟨rfl, hb⟩
              have hS2 : Below w2.heap.size w2 wf5 := hS.trans (hb.mono hS.size)
              refine hK.out _ _ hS2 (fun hS => ?_)
              clear hK K hb hS2
              try simp only [Act.put, List.setIfInBounds_toArray, List.set_cons_zero, List.set_cons_succ, List.getElem_toArray, List.getElem_cons_succ, List.getElem_cons_zero]
              refine wpAnyH_take (i := 6) (v := .tuple #[.agg K6.toArray, ev]) rfl (by kernel_rfl) (by kernel_rfl) (by kernel_rfl) (fun _ _ _ h => h) (Or.inl ⟨by kernel_rfl, fun wq hS => by go_simp⟩) hS ?_
              try simp only [Act.put, List.setIfInBounds_toArray, List.set_cons_zero, List.set_cons_succ, List.getElem_toArray, List.getElem_cons_succ, List.getElem_cons_zero]
              refine wpAnyH_take (i := 7) (v := .agg K6.toArray) rfl (by kernel_rfl) (by kernel_rfl) (by kernel_rfl) (fun _ _ _ h => h) (Or.inl ⟨by kernel_rfl, fun wq hS => by go_simp⟩) hS ?_
              try simp only [Act.put, List.setIfInBounds_toArray, List.set_cons_zero, List.set_cons_succ, List.getElem_toArray, List.getElem_cons_succ, List.getElem_cons_zero]
              refine wpAnyH_take (i := 8) (v := ev) rfl (by kernel_rfl) (by kernel_rfl) (by kernel_rfl) (fun _ _ _ h => h) (Or.inl ⟨by kernel_rfl, fun wq hS => by go_simp⟩) hS ?_
              try simp only [Act.put, List.setIfInBounds_toArray, List.set_cons_zero, List.set_cons_succ, List.getElem_toArray, List.getElem_cons_succ, List.getElem_cons_zero]
              refine wpAnyH_ready (rs := [9]) (by kernel_rfl) (by simp) ?_
              refine AllReadyH.cons rfl (fun K hK => ?_) AllReadyH.nil
              go_simp
              have HT := (show Hid _ from HTT.out wf5)
              have HL : Hid (w2.heap.size ≤ wf5.heap.size ∧ wf5.heap.size < (wf5.alloc (.cells Z22 22)).heap.size) := ⟨hS.size, by rw [size_alloc]; omega⟩
              obtain ⟨g, hg⟩ : ∃ g, wf5.heap.size = g := ⟨_, rfl⟩
              refine hK.out _ _ (hS.alloc hS.size _) (fun hS => ?_)
              clear hK K
              try simp only [Act.put, List.setIfInBounds_toArray, List.set_cons_zero, List.set_cons_succ, List.getElem_toArray, List.getElem_cons_succ, List.getElem_cons_zero]
              obtain ⟨wf6, hwf6⟩ : ∃ v, wf5.alloc (.cells Z22 22) = v := ⟨_, rfl⟩
              rw [hwf6] at HT HL hS ⊢
              rw [hg] at HT HL ⊢
              clear hg hwf6
              refine wpAnyH_ready (rs := [10]) (by kernel_rfl) (by simp) ?_
              refine AllReadyH.cons rfl (fun K hK => ?_) AllReadyH.nil
              refine want_it (by kernel_rfl) ?_
              refine wp_store_mid 22 (.tmp 5) (.tmp 19) rfl g 0 K6.toArray rfl rfl (LK6.out.s (N := w2.heap.size) ⟨HL.out.1, HL.out.2, HT.out⟩) LK6.out.j LK6.out.o ?_
              simp only
              have hS2 : Below w2.heap.size w2 (wf6.setCells g 0 K6) := below_setCells hS HL.out.1
              refine hK.out _ _ hS2 (fun hS => ?_)
              clear hK K hS2
              try simp only [Act.put, List.getElem_toArray, List.getElem_cons_succ, List.getElem_cons_zero]
              refine wpAnyH_ready (rs := [11]) (by kernel_rfl) (by simp) ?_
              refine AllReadyH.cons rfl (fun K hK => ?_) AllReadyH.nil
              go_simp
              refine hK.out _ _ hS (fun hS => ?_)
              clear hK K
              try simp only [Act.put, List.setIfInBounds_toArray, List.set_cons_zero, List.set_cons_succ, List.getElem_toArray, List.getElem_cons_succ, List.getElem_cons_zero]
              refine wpAnyH_done (by kernel_rfl) ?_ _
              go_wp2
              go_meet
              case rel => exact ⟨g, rfl, rfl, ⟨hS, float_box LK6.out HT.out HL.out.2⟩⟩
            · go_simp
              have HT := (show Hid _ from HTT.out wf4)
              have HL : Hid (w2.heap.size ≤ wf4.heap.size ∧ wf4.heap.size < (wf4.alloc (.cells Z22 22)).heap.size) := ⟨hS.size, by rw [size_alloc]; omega⟩
              obtain ⟨g, hg⟩ : ∃ g, wf4.heap.size = g := ⟨_, rfl⟩
              refine hK.out _ _ (hS.alloc hS.size _) (fun hS => ?_)
              clear hK K
              try simp only [Act.put, List.setIfInBounds_toArray, List.set_cons_zero, List.set_cons_succ, List.getElem_toArray, List.getElem_cons_succ, List.getElem_cons_zero]
              obtain ⟨wf7, hwf7⟩ : ∃ v, wf4.alloc (.cells Z22 22) = v := ⟨_, rfl⟩
              rw [hwf7] at HT HL hS ⊢
              rw [hg] at HT HL ⊢
              clear hg hwf7
              refine wpAnyH_ready (rs := [5]) (by kernel_rfl) (by simp) ?_
              refine AllReadyH.cons rfl (fun K hK => ?_) AllReadyH.nil
              go_simp
              refine (c6 _).mono ?_
              rintro e wf8 ⟨rfl, hb⟩
              replace HT := (show Hid (wf8.there g 0 32) from there_below hb HT.out HL.out.2)
              replace HL := (show Hid (w2.heap.size ≤ g ∧ g < wf8.heap.size) from ⟨HL.out.1, Nat.lt_of_lt_of_le HL.out.2 hb.size⟩)
              have hS2 : Below w2.heap.size w2 wf8 := hS.trans (hb.mono hS.size)
              refine hK.out _ _ hS2 (fun hS => ?_)
              clear hK K hb hS2
              try simp only [Act.put, List.setIfInBounds_toArray, List.set_cons_zero, List.set_cons_succ, List.getElem_toArray, List.getElem_cons_succ, List.getElem_cons_zero]
              refine wpAnyH_take (i := 6) (v := .tuple #[.agg K6.toArray, ev]) rfl (by kernel_rfl) (by kernel_rfl) (by kernel_rfl) (fun _ _ _ h => h) (Or.inl ⟨by kernel_rfl, fun wq hS => by go_simp⟩) hS ?_
              try simp only [Act.put, List.setIfInBounds_toArray, List.set_cons_zero, List.set_cons_succ, List.getElem_toArray, List.getElem_cons_succ, List.getElem_cons_zero]
              refine wpAnyH_take (i := 7) (v := .agg K6.toArray) rfl (by kernel_rfl) (by kernel_rfl) (by kernel_rfl) (fun _ _ _ h => h) (Or.inl ⟨by kernel_rfl, fun wq hS => by go_simp⟩) hS ?_
              try simp only [Act.put, List.setIfInBounds_toArray, List.set_cons_zero, List.set_cons_succ, List.getElem_toArray, List.getElem_cons_succ, List.getElem_cons_zero]
              refine wpAnyH_take (i := 8) (v := ev) rfl (by kernel_rfl) (by kernel_rfl) (by kernel_rfl) (fun _ _ _ h => h) (Or.inl ⟨by kernel_rfl, fun wq hS => by go_simp⟩) hS ?_
              try simp only [Act.put, List.setIfInBounds_toArray, List.set_cons_zero, List.set_cons_succ, List.getElem_toArray, List.getElem_cons_succ, List.getElem_cons_zero]
              refine wpAnyH_ready (rs := [10]) (by kernel_rfl) (by simp) ?_
              refine AllReadyH.cons rfl (fun K hK => ?_) AllReadyH.nil
              refine want_it (by kernel_rfl) ?_
              refine wp_store_mid 22 (.tmp 5) (.tmp 19) rfl g 0 K6.toArray rfl rfl (LK6.out.s (N := w2.heap.size) ⟨HL.out.1, HL.out.2, HT.out⟩) LK6.out.j LK6.out.o ?_
              simp only
              have hS2 : Below w2.heap.size w2 (wf8.setCells g 0 K6) := below_setCells hS HL.out.1
              refine hK.out _ _ hS2 (fun hS => ?_)
              clear hK K hS2
              try simp only [Act.put, List.getElem_toArray, List.getElem_cons_succ, List.getElem_cons_zero]
              refine wpAnyH_ready (rs := [11]) (by kernel_rfl) (by simp) ?_
              refine AllReadyH.cons rfl (fun K hK => ?_) AllReadyH.nil
              go_simp
              refine hK.out _ _ hS (fun hS => ?_)
              clear hK K
              try simp only [Act.put, List.setIfInBounds_toArray, List.set_cons_zero, List.set_cons_succ, List.getElem_toArray, List.getElem_cons_succ, List.getElem_cons_zero]
              refine wpAnyH_done (by kernel_rfl) ?_ _
              go_wp2
              go_meet
              case rel => exact ⟨g, rfl, rfl, ⟨hS, float_box LK6.out HT.out HL.out.2⟩⟩
          · go_simp
            have HT := (show Hid _ from HTT.out wf3)
            have HL : Hid (w2.heap.size ≤ wf3.heap.size ∧ wf3.heap.size < (wf3.alloc (.cells Z22 22)).heap.size) := ⟨hS.size, by rw [size_alloc]; omega⟩
            obtain ⟨g, hg⟩ : ∃ g, wf3.heap.size = g := ⟨_, rfl⟩
            refine hK.out _ _ (hS.alloc hS.size _) (fun hS => ?_)
            clear hK K
            try simp only [Act.put, List.setIfInBounds_toArray, List.set_cons_zero, List.set_cons_succ, List.getElem_toArray, List.getElem_cons_succ, List.getElem_cons_zero]
            obtain ⟨wf9, hwf9⟩ : ∃ v, wf3.alloc (.cells Z22 22) = v := ⟨_, rfl⟩
            rw [hwf9] at HT HL hS ⊢
            rw [hg] at HT HL ⊢
            clear hg hwf9
            refine wpAnyH_ready (rs := [4]) (by kernel_rfl) (by simp) ?_
            refine AllReadyH.cons rfl (fun K hK => ?_) AllReadyH.nil
            go_simp
            refine (c5 _).mono ?_
            rintro e wf10 ⟨rfl, hb⟩
            replace HT := (show Hid (wf10.there g 0 32) from there_below hb HT.out HL.out.2)
            replace HL := (show Hid (w2.heap.size ≤ g ∧ g < wf10.heap.size) from ⟨HL.out.1, Nat.lt_of_lt_of_le HL.out.2 hb.size⟩)
            have hS2 : Below w2.heap.size w2 wf10 := hS.trans (hb.mono hS.size)
            refine hK.out _ _ hS2 (fun hS => ?_)
            clear hK K hb hS2
            try simp only [Act.put, List.setIfInBounds_toArray, List.set_cons_zero, List.set_cons_succ, List.getElem_toArray, List.getElem_cons_succ, List.getElem_cons_zero]
            refine wpAnyH_ready (rs := [5]) (by kernel_rfl) (by simp) ?_
            refine AllReadyH.cons rfl (fun K hK => ?_) AllReadyH.nil
            go_simp
            refine (c6 _).mono ?_
            rintro e wf11 ⟨rfl, hb⟩
            replace HT := (show Hid (wf11.there g 0 32) from there_below hb HT.out HL.out.2)
            replace HL := (show Hid (w2.heap.size ≤ g ∧ g < wf11.heap.size) from ⟨HL.out.1, Nat.lt_of_lt_of_le HL.out.2 hb.size⟩)
            have hS2 : Below w2.heap.size w2 wf11 := hS.trans (hb.mono hS.size)
            refine hK.out _ _ hS2 (fun hS => ?_)
            clear hK K hb hS2
            try simp only [Act.put, List.setIfInBounds_toArray, List.set_cons_zero, List.set_cons_succ, List.getElem_toArray, List.getElem_cons_succ, List.getElem_cons_zero]
            refine wpAnyH_take (i := 6) (v := .tuple #[.agg K6.toArray, ev]) rfl (by kernel_rfl) (by kernel_rfl) (by kernel_rfl) (fun _ _ _ h => h) (Or.inl ⟨by kernel_rfl, fun wq hS => by go_simp⟩) hS ?_
            try simp only [Act.put, List.setIfInBounds_toArray, List.set_cons_zero, List.set_cons_succ, List.getElem_toArray, List.getElem_cons_succ, List.getElem_cons_zero]
            refine wpAnyH_take (i := 7) (v := .agg K6.toArray) rfl (by kernel_rfl) (by kernel_rfl) (by kernel_rfl) (fun _ _ _ h => h) (Or.inl ⟨by kernel_rfl, fun wq hS => by go_simp⟩) hS ?_
            try simp only [Act.put, List.setIfInBounds_toArray, List.set_cons_zero, List.set_cons_succ, List.getElem_toArray, List.getElem_cons_succ, List.getElem_cons_zero]
            refine wpAnyH_take (i := 8) (v := ev) rfl (by kernel_rfl) (by kernel_rfl) (by kernel_rfl) (fun _ _ _ h => h) (Or.inl ⟨by kernel_rfl, fun wq hS => by go_simp⟩) hS ?_
            try simp only [Act.put, List.setIfInBounds_toArray, List.set_cons_zero, List.set_cons_succ, List.getElem_toArray, List.getElem_cons_succ, List.getElem_cons_zero]
            refine wpAnyH_ready (rs := [10]) (by kernel_rfl) (by simp) ?_
            refine AllReadyH.cons rfl (fun K hK => ?_) AllReadyH.nil
            refine want_it (by kernel_rfl) ?_
            refine wp_store_mid 22 (.tmp 5) (.tmp 19) rfl g 0 K6.toArray rfl rfl (LK6.out.s (N := w2.heap.size) ⟨HL.out.1, HL.out.2, HT.out⟩) LK6.out.j LK6.out.o ?_
            simp only
            have hS2 : Below w2.heap.size w2 (wf11.setCells g 0 K6) := below_setCells hS HL.out.1
            refine hK.out _ _ hS2 (fun hS => ?_)
            clear hK K hS2
            try simp only [Act.put, List.getElem_toArray, List.getElem_cons_succ, List.getElem_cons_zero]
            refine wpAnyH_ready (rs := [11]) (by kernel_rfl) (by simp) ?_
            refine AllReadyH.cons rfl (fun K hK => ?_) AllReadyH.nil
            go_simp
            refine hK.out _ _ hS (fun hS => ?_)
            clear hK K
            try simp only [Act.put, List.setIfInBounds_toArray, List.set_cons_zero, List.set_cons_succ, List.getElem_toArray, List.getElem_cons_succ, List.getElem_cons_zero]
            refine wpAnyH_done (by kernel_rfl) ?_ _
            go_wp2
            go_meet
            case rel => exact ⟨g, rfl, rfl, ⟨hS, float_box LK6.out HT.out HL.out.2⟩⟩
        · go_simp
          have HT := (show Hid _ from HTT.out wf2)
          have HL : Hid (w2.heap.size ≤ wf2.heap.size ∧ wf2.heap.size < (wf2.alloc (.cells Z22 22)).heap.size) := ⟨hS.size, by rw [size_alloc]; omega⟩
          obtain ⟨g, hg⟩ : ∃ g, wf2.heap.size = g := ⟨_, rfl⟩
          refine hK.out _ _ (hS.alloc hS.size _) (fun hS => ?_)
          clear hK K
          try simp only [Act.put, List.setIfInBounds_toArray, List.set_cons_zero, List.set_cons_succ, List.getElem_toArray, List.getElem_cons_succ, List.getElem_cons_zero]
          obtain ⟨wf12, hwf12⟩ : ∃ v, wf2.alloc (.cells Z22 22) = v := ⟨_, rfl⟩
          rw [hwf12] at HT HL hS ⊢
          rw [hg] at HT HL ⊢
          clear hg hwf12
          refine wpAnyH_ready (rs := [3]) (by kernel_rfl) (by simp) ?_
          refine AllReadyH.cons rfl (fun K hK => ?_) AllReadyH.nil
          go_simp
          refine (c4 _).mono ?_
          rintro e wf13 ⟨rfl, hb⟩
          replace HT := (show Hid (wf13.there g 0 32) from there_below hb HT.out HL.out.2)
          replace HL := (show Hid (w2.heap.size ≤ g ∧ g < wf13.heap.size) from ⟨HL.out.1, Nat.lt_of_lt_of_le HL.out.2 hb.size⟩)
          have hS2 : Below w2.heap.size w2 wf13 := hS.trans (hb.mono hS.size)
          refine hK.out _ _ hS2 (fun hS => ?_)
          clear hK K hb hS2
          try simp only [Act.put, List.setIfInBounds_toArray, List.set_cons_zero, List.set_cons_succ, List.getElem_toArray, List.getElem_cons_succ, List.getElem_cons_zero]
          refine wpAnyH_ready (rs := [4]) (by kernel_rfl) (by simp) ?_
          refine AllReadyH.cons rfl (fun K hK => ?_) AllReadyH.nil
          go_simp
          refine (c5 _).mono ?_
          rintro e wf14 ⟨rfl, hb⟩
          replace HT := (show Hid (wf14.there g 0 32) from there_below hb HT.out HL.out.2)
          replace HL := (show Hid (w2.heap.size ≤ g ∧ g < wf14.heap.size) from ⟨HL.out.1, Nat.lt_of_lt_of_le HL.out.2 hb.size⟩)
          have hS2 : Below w2.heap.size w2 wf14 := hS.trans (hb.mono hS.size)
          refine hK.out _ _ hS2 (fun hS => ?_)
          clear hK K hb hS2
          try simp only [Act.put, List.setIfInBounds_toArray, List.set_cons_zero, List.set_cons_succ, List.getElem_toArray, List.getElem_cons_succ, List.getElem_cons_zero]
          refine wpAnyH_ready (rs := [5]) (by kernel_rfl) (by simp) ?_
          refine AllReadyH.cons rfl (fun K hK => ?_) AllReadyH.nil
          go_simp
          refine (c6 _).mono ?_
          rintro e wf15 ⟨rfl, hb⟩
          replace HT := (show Hid (wf15.there g 0 32) from there_below hb HT.out HL.out.2)
          replace HL := (show Hid (w2.heap.size ≤ g ∧ g < wf15.heap.size) from ⟨HL.out.1, Nat.lt_of_lt_of_le HL.out.2 hb.size⟩)
          have hS2 : Below w2.heap.size w2 wf15 := hS.trans (hb.mono hS.size)
          refine hK.out _ _ hS2 (fun hS => ?_)
          clear hK K hb hS2
          try simp only [Act.put, List.setIfInBounds_toArray, List.set_cons_zero, List.set_cons_succ, List.getElem_toArray, List.getElem_cons_succ, List.getElem_cons_zero]
          refine wpAnyH_take (i := 6) (v := .tuple #[.agg K6.toArray, ev]) rfl (by kernel_rfl) (by kernel_rfl) (by kernel_rfl) (fun _ _ _ h => h) (Or.inl ⟨by kernel_rfl, fun wq hS => by go_simp⟩) hS ?_
          try simp only [Act.put, List.setIfInBounds_toArray, List.set_cons_zero, List.set_cons_succ, List.getElem_toArray, List.getElem_cons_succ, List.getElem_cons_zero]
          refine wpAnyH_take (i := 7) (v := .agg K6.toArray) rfl (by kernel_rfl) (by kernel_rfl) (by kernel_rfl) (fun _ _ _ h => h) (Or.inl ⟨by kernel_rfl, fun wq hS => by go_simp⟩) hS ?_
          try simp only [Act.put, List.setIfInBounds_toArray, List.set_cons_zero, List.set_cons_succ, List.getElem_toArray, List.getElem_cons_succ, List.getElem_cons_zero]
          refine wpAnyH_take (i := 8) (v := ev) rfl (by kernel_rfl) (by kernel_rfl) (by kernel_rfl) (fun _ _ _ h => h) (Or.inl ⟨by kernel_rfl, fun wq hS => by go_simp⟩) hS ?_
          try simp only [Act.put, List.setIfInBounds_toArray, List.set_cons_zero, List.set_cons_succ, List.getElem_toArray, List.getElem_cons_succ, List.getElem_cons_zero]
          refine wpAnyH_ready (rs := [10]) (by kernel_rfl) (by simp) ?_
          refine AllReadyH.cons rfl (fun K hK => ?_) AllReadyH.nil
          refine want_it (by kernel_rfl) ?_
          refine wp_store_mid 22 (.tmp 5) (.tmp 19) rfl g 0 K6.toArray rfl rfl (LK6.out.s (N := w2.heap.size) ⟨HL.out.1, HL.out.2, HT.out⟩) LK6.out.j LK6.out.o ?_
          simp only
          have hS2 : Below w2.heap.size w2 (wf15.setCells g 0 K6) := below_setCells hS HL.out.1
          refine hK.out _ _ hS2 (fun hS => ?_)
          clear hK K hS2
          try simp only [Act.put, List.getElem_toArray, List.getElem_cons_succ, List.getElem_cons_zero]
          refine wpAnyH_ready (rs := [11]) (by kernel_rfl) (by simp) ?_
          refine AllReadyH.cons rfl (fun K hK => ?_) AllReadyH.nil
          go_simp
          refine hK.out _ _ hS (fun hS => ?_)
          clear hK K
          try simp only [Act.put, List.setIfInBounds_toArray, List.set_cons_zero, List.set_cons_succ, List.getElem_toArray, List.getElem_cons_succ, List.getElem_cons_zero]
          refine wpAnyH_done (by kernel_rfl) ?_ _
          go_wp2
          go_meet
          case rel => exact ⟨g, rfl, rfl, ⟨hS, float_box LK6.out HT.out HL.out.2⟩⟩
      · go_simp
        have HT := (show Hid _ from HTT.out wf1)
        have HL : Hid (w2.heap.size ≤ wf1.heap.size ∧ wf1.heap.size < (wf1.alloc (.cells Z22 22)).heap.size) := ⟨hS.size, by rw [size_alloc]; omega⟩
        obtain ⟨g, hg⟩ : ∃ g, wf1.heap.size = g := ⟨_, rfl⟩
        refine hK.out _ _ (hS.alloc hS.size _) (fun hS => ?_)
        clear hK K
        try simp only [Act.put, List.setIfInBounds_toArray, List.set_cons_zero, List.set_cons_succ, List.getElem_toArray, List.getElem_cons_succ, List.getElem_cons_zero]
        obtain ⟨wf16, hwf16⟩ : ∃ v, wf1.alloc (.cells Z22 22) = v := ⟨_, rfl⟩
        rw [hwf16] at HT HL hS ⊢
        rw [hg] at HT HL ⊢
        clear hg hwf16
        refine wpAnyH_ready (rs := [1]) (by kernel_rfl) (by simp) ?_
        refine AllReadyH.cons rfl (fun K hK => ?_) AllReadyH.nil
        go_simp
        refine (c3 _).mono ?_
        rintro e wf17 ⟨rfl, hb⟩
        replace HT := (show Hid (wf17.there g 0 32) from there_below hb HT.out HL.out.2)
        replace HL := (show Hid (w2.heap.size ≤ g ∧ g < wf17.heap.size) from ⟨HL.out.1, Nat.lt_of_lt_of_le HL.out.2 hb.size⟩)
        have hS2 : Below w2.heap.size w2 wf17 := hS.trans (hb.mono hS.size)
        refine hK.out _ _ hS2 (fun hS => ?_)
        clear hK K hb hS2
        try simp only [Act.put, List.setIfInBounds_toArray, List.set_cons_zero, List.set_cons_succ, List.getElem_toArray, List.getElem_cons_succ, List.getElem_cons_zero]
        refine wpAnyH_ready (rs := [3]) (by kernel_rfl) (by simp) ?_
        refine AllReadyH.cons rfl (fun K hK => ?_) AllReadyH.nil
        go_simp
        refine (c4 _).mono ?_
        rintro e wf18 ⟨rfl, hb⟩
        replace HT := (show Hid (wf18.there g 0 32) from there_below hb HT.out HL.out.2)
        replace HL := (show Hid (w2.heap.size ≤ g ∧ g < wf18.heap.size) from ⟨HL.out.1, Nat.lt_of_lt_of_le HL.out.2 hb.size⟩)
        have hS2 : Below w2.heap.size w2 wf18 := hS.trans (hb.mono hS.size)
        refine hK.out _ _ hS2 (fun hS => ?_)
        clear hK K hb hS2
        try simp only [Act.put, List.setIfInBounds_toArray, List.set_cons_zero, List.set_cons_succ, List.getElem_toArray, List.getElem_cons_succ, List.getElem_cons_zero]
        refine wpAnyH_ready (rs := [4]) (by kernel_rfl) (by simp) ?_
        refine AllReadyH.cons rfl (fun K hK => ?_) AllReadyH.nil
        go_simp
        refine (c5 _).mono ?_
        rintro e wf19 ⟨rfl, hb⟩
        replace HT := (show Hid (wf19.there g 0 32) from there_below hb HT.out HL.out.2)
        replace HL := (show Hid (w2.heap.size ≤ g ∧ g < wf19.heap.size) from ⟨HL.out.1, Nat.lt_of_lt_of_le HL.out.2 hb.size⟩)
        have hS2 : Below w2.heap.size w2 wf19 := hS.trans (hb.mono hS.size)
        refine hK.out _ _ hS2 (fun hS => ?_)
        clear hK K hb hS2
        try simp only [Act.put, List.setIfInBounds_toArray, List.set_cons_zero, List.set_cons_succ, List.getElem_toArray, List.getElem_cons_succ, List.getElem_cons_zero]
        refine wpAnyH_ready (rs := [5]) (by kernel_rfl) (by simp) ?_
        refine AllReadyH.cons rfl (fun K hK => ?_) AllReadyH.nil
        go_simp
        refine (c6 _).mono ?_
        rintro e wf20 ⟨rfl, hb⟩
        replace HT := (show Hid (wf20.there g 0 32) from there_below hb HT.out HL.out.2)
        replace HL := (show Hid (w2.heap.size ≤ g ∧ g < wf20.heap.size) from ⟨HL.out.1, Nat.lt_of_lt_of_le HL.out.2 hb.size⟩)
        have hS2 : Below w2.heap.size w2 wf20 := hS.trans (hb.mono hS.size)
        refine hK.out _ _ hS2 (fun hS => ?_)
        clear hK K hb hS2
        try simp only [Act.put, List.setIfInBounds_toArray, List.set_cons_zero, List.set_cons_succ, List.getElem_toArray, List.getElem_cons_succ, List.getElem_cons_zero]
        refine wpAnyH_take (i := 6) (v := .tuple #[.agg K6.toArray, ev]) rfl (by kernel_rfl) (by kernel_rfl) (by kernel_rfl) (fun _ _ _ h => h) (Or.inl ⟨by kernel_rfl, fun wq hS => by go_simp⟩) hS ?_
        try simp only [Act.put, List.setIfInBounds_toArray, List.set_cons_zero, List.set_cons_succ, List.getElem_toArray, List.getElem_cons_succ, List.getElem_cons_zero]
        refine wpAnyH_take (i := 7) (v := .agg K6.toArray) rfl (by kernel_rfl) (by kernel_rfl) (by kernel_rfl) (fun _ _ _ h => h) (Or.inl ⟨by kernel_rfl, fun wq hS => by go_simp⟩) hS ?_
        try simp only [Act.put, List.setIfInBounds_toArray, List.set_cons_zero, List.set_cons_succ, List.getElem_toArray, List.getElem_cons_succ, List.getElem_cons_zero]
        refine wpAnyH_take (i := 8) (v := ev) rfl (by kernel_rfl) (by kernel_rfl) (by kernel_rfl) (fun _ _ _ h => h) (Or.inl ⟨by kernel_rfl, fun wq hS => by go_simp⟩) hS ?_
        try simp only [Act.put, List.setIfInBounds_toArray, List.set_cons_zero, List.set_cons_succ, List.getElem_toArray, List.getElem_cons_succ, List.getElem_cons_zero]
        refine wpAnyH_ready (rs := [10]) (by kernel_rfl) (by simp) ?_
        refine AllReadyH.cons rfl (fun K hK => ?_) AllReadyH.nil
        refine want_it (by kernel_rfl) ?_
        refine wp_store_mid 22 (.tmp 5) (.tmp 19) rfl g 0 K6.toArray rfl rfl (LK6.out.s (N := w2.heap.size) ⟨HL.out.1, HL.out.2, HT.out⟩) LK6.out.j LK6.out.o ?_
        simp only
        have hS2 : Below w2.heap.size w2 (wf20.setCells g 0 K6) := below_setCells hS HL.out.1
        refine hK.out _ _ hS2 (fun hS => ?_)
        clear hK K hS2
        try simp only [Act.put, List.getElem_toArray, List.getElem_cons_succ, List.getElem_cons_zero]
        refine wpAnyH_ready (rs := [11]) (by kernel_rfl) (by simp) ?_
        refine AllReadyH.cons rfl (fun K hK => ?_) AllReadyH.nil
        go_simp
        refine hK.out _ _ hS (fun hS => ?_)
        clear hK K
        try simp only [Act.put, List.setIfInBounds_toArray, List.set_cons_zero, List.set_cons_succ, List.getElem_toArray, List.getElem_cons_succ, List.getElem_cons_zero]
        refine wpAnyH_done (by kernel_rfl) ?_ _
        go_wp2
        go_meet
        case rel => exact ⟨g, rfl, rfl, ⟨hS, float_box LK6.out HT.out HL.out.2⟩⟩
    · go_simp
      have HT := (show Hid _ from HTT.out wd)
      have HL : Hid (w2.heap.size ≤ wd.heap.size ∧ wd.heap.size < (wd.alloc (.cells Z22 22)).heap.size) := ⟨hS.size, by rw [size_alloc]; omega⟩
      obtain ⟨g, hg⟩ : ∃ g, wd.heap.size = g := ⟨_, rfl⟩
      refine hK.out _ _ (hS.alloc hS.size _) (fun hS => ?_)
      clear hK K
      try simp only [Act.put, List.setIfInBounds_toArray, List.set_cons_zero, List.set_cons_succ, List.getElem_toArray, List.getElem_cons_succ, List.getElem_cons_zero]
      obtain ⟨wf21, hwf21⟩ : ∃ v, wd.alloc (.cells Z22 22) = v := ⟨_, rfl⟩
      rw [hwf21] at HT HL hS ⊢
      rw [hg] at HT HL ⊢
      clear hg hwf21
      refine wpAnyH_ready (rs := [0]) (by kernel_rfl) (by simp) ?_
      refine AllReadyH.cons rfl (fun K hK => ?_) AllReadyH.nil
      go_simp
      refine (c2 _).mono ?_
      rintro e wf22 ⟨rfl, hb⟩
      replace HT := (show Hid (wf22.there g 0 32) from there_below hb HT.out HL.out.2)
      replace HL := (show Hid (w2.heap.size ≤ g ∧ g < wf22.heap.size) from ⟨HL.out.1, Nat.lt_of_lt_of_le HL.out.2 hb.size⟩)
      have hS2 : Below w2.heap.size w2 wf22 := hS.trans (hb.mono hS.size)
      refine hK.out _ _ hS2 (fun hS => ?_)
      clear hK K hb hS2
      try simp only [Act.put, List.setIfInBounds_toArray, List.set_cons_zero, List.set_cons_succ, List.getElem_toArray, List.getElem_cons_succ, List.getElem_cons_zero]
      refine wpAnyH_ready (rs := [1]) (by kernel_rfl) (by simp) ?_
      refine AllReadyH.cons rfl (fun K hK => ?_) AllReadyH.nil
      go_simp
      refine (c3 _).mono ?_
      rintro e wf23 ⟨rfl, hb⟩
      replace HT := (show Hid (wf23.there g 0 32) from there_below hb HT.out HL.out.2)
      replace HL := (show Hid (w2.heap.size ≤ g ∧ g < wf23.heap.size) from ⟨HL.out.1, Nat.lt_of_lt_of_le HL.out.2 hb.size⟩)
      have hS2 : Below w2.heap.size w2 wf23 := hS.trans (hb.mono hS.size)
      refine hK.out _ _ hS2 (fun hS => ?_)
      clear hK K hb hS2
      try simp only [Act.put, List.setIfInBounds_toArray, List.set_cons_zero, List.set_cons_succ, List.getElem_toArray, List.getElem_cons_succ, List.getElem_cons_zero]
      refine wpAnyH_ready (rs := [3]) (by kernel_rfl) (by simp) ?_
      refine AllReadyH.cons rfl (fun K hK => ?_) AllReadyH.nil
      go_simp
      refine (c4 _).mono ?_
      rintro e wf24 ⟨rfl, hb⟩
      replace HT := (show Hid (wf24.there g 0 32) from there_below hb HT.out HL.out.2)
      replace HL := (show Hid (w2.heap.size ≤ g ∧ g < wf24.heap.size) from ⟨HL.out.1, Nat.lt_of_lt_of_le HL.out.2 hb.size⟩)
      have hS2 : Below w2.heap.size w2 wf24 := hS.trans (hb.mono hS.size)
      refine hK.out _ _ hS2 (fun hS => ?_)
      clear hK K hb hS2
      try simp only [Act.put, List.setIfInBounds_toArray, List.set_cons_zero, List.set_cons_succ, List.getElem_toArray, List.getElem_cons_succ, List.getElem_cons_zero]
      refine wpAnyH_ready (rs := [4]) (by kernel_rfl) (by simp) ?_
      refine AllReadyH.cons rfl (fun K hK => ?_) AllReadyH.nil
      go_simp
      refine (c5 _).mono ?_
      rintro e wf25 ⟨rfl, hb⟩
      replace HT := (show Hid (wf25.there g 0 32) from there_below hb HT.out HL.out.2)
      replace HL := (show Hid (w2.heap.size ≤ g ∧ g < wf25.heap.size) from ⟨HL.out.1, Nat.lt_of_lt_of_le HL.out.2 hb.size⟩)
      have hS2 : Below w2.heap.size w2 wf25 := hS.trans (hb.mono hS.size)
      refine hK.out _ _ hS2 (fun hS => ?_)
      clear hK K hb hS2
      try simp only [Act.put, List.setIfInBounds_toArray, List.set_cons_zero, List.set_cons_succ, List.getElem_toArray, List.getElem_cons_succ, List.getElem_cons_zero]
      refine wpAnyH_ready (rs := [5]) (by kernel_rfl) (by simp) ?_
      refine AllReadyH.cons rfl (fun K hK => ?_) AllReadyH.nil
      go_simp
      refine (c6 _).mono ?_
      rintro e wf26 ⟨rfl, hb⟩
      replace HT := (show Hid (wf26.there g 0 32) from there_below hb HT.out HL.out.2)
      replace HL := (show Hid (w2.heap.size ≤ g ∧ g < wf26.heap.size) from ⟨HL.out.1, Nat.lt_of_lt_of_le HL.out.2 hb.size⟩)
      have hS2 : Below w2.heap.size w2 wf26 := hS.trans (hb.mono hS.size)
      refine hK.out _ _ hS2 (fun hS => ?_)
      clear hK K hb hS2
      try simp only [Act.put, List.setIfInBounds_toArray, List.set_cons_zero, List.set_cons_succ, List.getElem_toArray, List.getElem_cons_succ, List.getElem_cons_zero]
      refine wpAnyH_take (i := 6) (v := .tuple #[.agg K6.toArray, ev]) rfl (by kernel_rfl) (by kernel_rfl) (by kernel_rfl) (fun _ _ _ h => h) (Or.inl ⟨by kernel_rfl, fun wq hS => by go_simp⟩) hS ?_
      try simp only [Act.put, List.setIfInBounds_toArray, List.set_cons_zero, List.set_cons_succ, List.getElem_toArray, List.getElem_cons_succ, List.getElem_cons_zero]
      refine wpAnyH_take (i := 7) (v := .agg K6.toArray) rfl (by kernel_rfl) (by kernel_rfl) (by kernel_rfl) (fun _ _ _ h => h) (Or.inl ⟨by kernel_rfl, fun wq hS => by go_simp⟩) hS ?_
      try simp only [Act.put, List.setIfInBounds_toArray, List.set_cons_zero, List.set_cons_succ, List.getElem_toArray, List.getElem_cons_succ, List.getElem_cons_zero]
      refine wpAnyH_take (i := 8) (v := ev) rfl (by kernel_rfl) (by kernel_rfl) (by kernel_rfl) (fun _ _ _ h => h) (Or.inl ⟨by kernel_rfl, fun wq hS => by go_simp⟩) hS ?_
      try simp only [Act.put, List.setIfInBounds_toArray, List.set_cons_zero, List.set_cons_succ, List.getElem_toArray, List.getElem_cons_succ, List.getElem_cons_zero]
      refine wpAnyH_ready (rs := [10]) (by kernel_rfl) (by simp) ?_
      refine AllReadyH.cons rfl (fun K hK => ?_) AllReadyH.nil
      refine want_it (by kernel_rfl) ?_
      refine wp_store_mid 22 (.tmp 5) (.tmp 19) rfl g 0 K6.toArray rfl rfl (LK6.out.s (N := w2.heap.size) ⟨HL.out.1, HL.out.2, HT.out⟩) LK6.out.j LK6.out.o ?_
      simp only
      have hS2 : Below w2.heap.size w2 (wf26.setCells g 0 K6) := below_setCells hS HL.out.1
      refine hK.out _ _ hS2 (fun hS => ?_)
      clear hK K hS2
      try simp only [Act.put, List.getElem_toArray, List.getElem_cons_succ, List.getElem_cons_zero]
      refine wpAnyH_ready (rs := [11]) (by kernel_rfl) (by simp) ?_
      refine AllReadyH.cons rfl (fun K hK => ?_) AllReadyH.nil
      go_simp
      refine hK.out _ _ hS (fun hS => ?_)
      clear hK K
      try simp only [Act.put, List.setIfInBounds_toArray, List.set_cons_zero, List.set_cons_succ, List.getElem_toArray, List.getElem_cons_succ, List.getElem_cons_zero]
      refine wpAnyH_done (by kernel_rfl) ?_ _
      go_wp2
      go_meet
      case rel => exact ⟨g, rfl, rfl, ⟨hS, float_box LK6.out HT.out HL.out.2⟩⟩
  case rest =>
    obtain ⟨g, rfl, rfl, HR⟩ := hcut
    have BY2 := (show Hid (Rp wc n 0 Y) from BY_2.out.below HR.out.1)
    have AO2 := (show Hid (Ao w.heap.size wc (n + 1) 64) from AO_2.out.below HR.out.1)
    have BK2 := (show Hid (Rp wc bBK 0 K1) from BK_2.out.below HR.out.1)
    have BI2 := (show Hid (Rp wc g 0 K6) from HR.out.2)
    have HB3 := (show Hid (Below w.heap.size w wc) from HB2.out.trans (HR.out.1.mono HB2.out.size))
    clear HR BY_2 AO_2 BK_2 HB2 c3 c4 c5 c6
    go_upto_region 3 with (fail)
    go_cut [7, 8] from 21 to 29 (fun s e wx => ∃ g2, s = .pointer (some ⟨g2, 0, none⟩) ∧ e = (.iface 35 (.int .i64 9)) ∧ Hid (Below wc.heap.size wc wx ∧ Rp wx g2 0 K9))
    case first =>
      refine wp_region_held_drew (S := fun w' => Below wc.heap.size wc w') (by kernel_rfl) (drewB wc) (fun hS => ?_)
      obtain ⟨wd, hwd⟩ : ∃ v, World.drew wc = v := ⟨_, rfl⟩
      rw [hwd] at hS ⊢
      clear hwd
      refine wpAnyH_take (i := 0) (v := .agg K1.toArray) rfl (by kernel_rfl) (by kernel_rfl) (by kernel_rfl) (fun _ _ _ h => h) (yieldsIf_load_mid (by kernel_rfl) 22 (.tmp 4) rfl bBK 0 rfl K1 _ (fun wq hq => Rg.Below.range hq BK2.out.1 BK2.out.2) Try.underlying22 rfl LK1.out.i) hS ?_
      try simp only [Act.put, List.setIfInBounds_toArray, List.set_cons_zero, List.set_cons_succ, List.getElem_toArray, List.getElem_cons_zero]
      refine wpAnyH_take (i := 3) (v := .agg K6.toArray) rfl (by kernel_rfl) (by kernel_rfl) (by kernel_rfl) (fun _ _ _ h => h) (yieldsIf_load_mid (by kernel_rfl) 22 (.tmp 5) rfl g 0 rfl K6 _ (fun wq hq => Rg.Below.range hq BI2.out.1 BI2.out.2) Try.underlying22 rfl LK6.out.i) hS ?_
      try simp only [Act.put, List.setIfInBounds_toArray, List.set_cons_zero, List.set_cons_succ, List.getElem_toArray, List.getElem_cons_succ, List.getElem_cons_zero]
      refine wpAnyH_ready (rs := [1, 9]) (by kernel_rfl) (by simp) ?_
      refine AllReadyH.cons rfl (fun K hK => ?_) (AllReadyH.cons rfl (fun K hK => ?_) AllReadyH.nil)
      · go_simp
        refine (c2 _).mono ?_
        rintro e wf1 ⟨rfl, hb⟩
        have hS2 : Below wc.heap.size wc wf1 := hS.trans (hb.mono hS.size)
        refine hK.out _ _ hS2 (fun hS => ?_)
        clear hK K hb hS2
        try simp only [Act.put, List.setIfInBounds_toArray, List.set_cons_zero, List.set_cons_succ, List.getElem_toArray, List.getElem_cons_succ, List.getElem_cons_zero]
        refine wpAnyH_ready (rs := [2, 9]) (by kernel_rfl) (by simp) ?_
        refine AllReadyH.cons rfl (fun K hK => ?_) (AllReadyH.cons rfl (fun K hK => ?_) AllReadyH.nil)
        · go_simp
          refine (c7 _).mono ?_
          rintro e wf2 ⟨rfl, hb⟩
          have hS2 : Below wc.heap.size wc wf2 := hS.trans (hb.mono hS.size)
          refine hK.out _ _ hS2 (fun hS => ?_)
          clear hK K hb hS2
          try simp only [Act.put, List.setIfInBounds_toArray, List.set_cons_zero, List.set_cons_succ, List.getElem_toArray, List.getElem_cons_succ, List.getElem_cons_zero]
          refine wpAnyH_ready (rs := [4, 9]) (by kernel_rfl) (by simp) ?_
          refine AllReadyH.cons rfl (fun K hK => ?_) (AllReadyH.cons rfl (fun K hK => ?_) AllReadyH.nil)
          · go_simp
            refine (c8 _).mono ?_
            rintro e wf3 ⟨rfl, hb⟩
            have hS2 : Below wc.heap.size wc wf3 := hS.trans (hb.mono hS.size)
            refine hK.out _ _ hS2 (fun hS => ?_)
            clear hK K hb hS2
            try simp only [Act.put, List.setIfInBounds_toArray, List.set_cons_zero, List.set_cons_succ, List.getElem_toArray, List.getElem_cons_succ, List.getElem_cons_zero]
            refine wpAnyH_ready (rs := [5, 9]) (by kernel_rfl) (by simp) ?_
            refine AllReadyH.cons rfl (fun K hK => ?_) (AllReadyH.cons rfl (fun K hK => ?_) AllReadyH.nil)
            · go_simp
              refine (c9' _).mono ?_
              rintro e wf4 ⟨rfl, hb⟩
              have hS2 : Below wc.heap.size wc wf4 := hS.trans (hb.mono hS.size)
              refine hK.out _ _ hS2 (fun hS => ?_)
              clear hK K hb hS2
              try simp only [Act.put, List.setIfInBounds_toArray, List.set_cons_zero, List.set_cons_succ, List.getElem_toArray, List.getElem_cons_succ, List.getElem_cons_zero]
              refine wpAnyH_take (i := 6) (v := .tuple #[.agg K9.toArray, (.iface 35 (.int .i64 9))]) rfl (by kernel_rfl) (by kernel_rfl) (by kernel_rfl) (fun _ _ _ h => h) (Or.inl ⟨by kernel_rfl, fun wq hS => by go_simp⟩) hS ?_
              try simp only [Act.put, List.setIfInBounds_toArray, List.set_cons_zero, List.set_cons_succ, List.getElem_toArray, List.getElem_cons_succ, List.getElem_cons_zero]
              refine wpAnyH_take (i := 7) (v := .agg K9.toArray) rfl (by kernel_rfl) (by kernel_rfl) (by kernel_rfl) (fun _ _ _ h => h) (Or.inl ⟨by kernel_rfl, fun wq hS => by go_simp⟩) hS ?_
              try simp only [Act.put, List.setIfInBounds_toArray, List.set_cons_zero, List.set_cons_succ, List.getElem_toArray, List.getElem_cons_succ, List.getElem_cons_zero]
              refine wpAnyH_take (i := 8) (v := (.iface 35 (.int .i64 9))) rfl (by kernel_rfl) (by kernel_rfl) (by kernel_rfl) (fun _ _ _ h => h) (Or.inl ⟨by kernel_rfl, fun wq hS => by go_simp⟩) hS ?_
              try simp only [Act.put, List.setIfInBounds_toArray, List.set_cons_zero, List.set_cons_succ, List.getElem_toArray, List.getElem_cons_succ, List.getElem_cons_zero]
              refine wpAnyH_ready (rs := [9]) (by kernel_rfl) (by simp) ?_
              refine AllReadyH.cons rfl (fun K hK => ?_) AllReadyH.nil
              go_simp
              have HT := (show Hid _ from HTT.out wf4)
              have HL : Hid (wc.heap.size ≤ wf4.heap.size ∧ wf4.heap.size < (wf4.alloc (.cells Z22 22)).heap.size) := ⟨hS.size, by rw [size_alloc]; omega⟩
              obtain ⟨g3, hg⟩ : ∃ g3, wf4.heap.size = g3 := ⟨_, rfl⟩
              refine hK.out _ _ (hS.alloc hS.size _) (fun hS => ?_)
              clear hK K
              try simp only [Act.put, List.setIfInBounds_toArray, List.set_cons_zero, List.set_cons_succ, List.getElem_toArray, List.getElem_cons_succ, List.getElem_cons_zero]
              obtain ⟨wf5, hwf5⟩ : ∃ v, wf4.alloc (.cells Z22 22) = v := ⟨_, rfl⟩
              rw [hwf5] at HT HL hS ⊢
              rw [hg] at HT HL ⊢
              clear hg hwf5
              refine wpAnyH_ready (rs := [10]) (by kernel_rfl) (by simp) ?_
              refine AllReadyH.cons rfl (fun K hK => ?_) AllReadyH.nil
              refine want_it (by kernel_rfl) ?_
              refine wp_store_mid 22 (.tmp 7) (.tmp 28) rfl g3 0 K9.toArray rfl rfl (LK9.out.s (N := wc.heap.size) ⟨HL.out.1, HL.out.2, HT.out⟩) LK9.out.j LK9.out.o ?_
              simp only
              have hS2 : Below wc.heap.size wc (wf5.setCells g3 0 K9) := below_setCells hS HL.out.1
              refine hK.out _ _ hS2 (fun hS => ?_)
              clear hK K hS2
              try simp only [Act.put, List.getElem_toArray, List.getElem_cons_succ, List.getElem_cons_zero]
              refine wpAnyH_ready (rs := [11]) (by kernel_rfl) (by simp) ?_
              refine AllReadyH.cons rfl (fun K hK => ?_) AllReadyH.nil
              go_simp
              refine hK.out _ _ hS (fun hS => ?_)
              clear hK K
              try simp only [Act.put, List.setIfInBounds_toArray, List.set_cons_zero, List.set_cons_succ, List.getElem_toArray, List.getElem_cons_succ, List.getElem_cons_zero]
              refine wpAnyH_done (by kernel_rfl) ?_ _
              go_wp2
              go_meet
              case rel => exact ⟨g3, rfl, rfl, ⟨hS, float_box LK9.out HT.out HL.out.2⟩⟩
            · go_simp
              have HT := (show Hid _ from HTT.out wf3)
              have HL : Hid (wc.heap.size ≤ wf3.heap.size ∧ wf3.heap.size < (wf3.alloc (.cells Z22 22)).heap.size) := ⟨hS.size, by rw [size_alloc]; omega⟩
              obtain ⟨g3, hg⟩ : ∃ g3, wf3.heap.size = g3 := ⟨_, rfl⟩
              refine hK.out _ _ (hS.alloc hS.size _) (fun hS => ?_)
              clear hK K
              try simp only [Act.put, List.setIfInBounds_toArray, List.set_cons_zero, List.set_cons_succ, List.getElem_toArray, List.getElem_cons_succ, List.getElem_cons_zero]
              obtain ⟨wf6, hwf6⟩ : ∃ v, wf3.alloc (.cells Z22 22) = v := ⟨_, rfl⟩
              rw [hwf6] at HT HL hS ⊢
              rw [hg] at HT HL ⊢
              clear hg hwf6
              refine wpAnyH_ready (rs := [5]) (by kernel_rfl) (by simp) ?_
              refine AllReadyH.cons rfl (fun K hK => ?_) AllReadyH.nil
              go_simp
              refine (c9' _).mono ?_
              rintro e wf7 ⟨rfl, hb⟩
              replace HT := (show Hid (wf7.there g3 0 32) from there_below hb HT.out HL.out.2)
              replace HL := (show Hid (wc.heap.size ≤ g3 ∧ g3 < wf7.heap.size) from ⟨HL.out.1, Nat.lt_of_lt_of_le HL.out.2 hb.size⟩)
              have hS2 : Below wc.heap.size wc wf7 := hS.trans (hb.mono hS.size)
              refine hK.out _ _ hS2 (fun hS => ?_)
              clear hK K hb hS2
              try simp only [Act.put, List.setIfInBounds_toArray, List.set_cons_zero, List.set_cons_succ, List.getElem_toArray, List.getElem_cons_succ, List.getElem_cons_zero]
              refine wpAnyH_take (i := 6) (v := .tuple #[.agg K9.toArray, (.iface 35 (.int .i64 9))]) rfl (by kernel_rfl) (by kernel_rfl) (by kernel_rfl) (fun _ _ _ h => h) (Or.inl ⟨by kernel_rfl, fun wq hS => by go_simp⟩) hS ?_
              try simp only [Act.put, List.setIfInBounds_toArray, List.set_cons_zero, List.set_cons_succ, List.getElem_toArray, List.getElem_cons_succ, List.getElem_cons_zero]
              refine wpAnyH_take (i := 7) (v := .agg K9.toArray) rfl (by kernel_rfl) (by kernel_rfl) (by kernel_rfl) (fun _ _ _ h => h) (Or.inl ⟨by kernel_rfl, fun wq hS => by go_simp⟩) hS ?_
              try simp only [Act.put, List.setIfInBounds_toArray, List.set_cons_zero, List.set_cons_succ, List.getElem_toArray, List.getElem_cons_succ, List.getElem_cons_zero]
              refine wpAnyH_take (i := 8) (v := (.iface 35 (.int .i64 9))) rfl (by kernel_rfl) (by kernel_rfl) (by kernel_rfl) (fun _ _ _ h => h) (Or.inl ⟨by kernel_rfl, fun wq hS => by go_simp⟩) hS ?_
              try simp only [Act.put, List.setIfInBounds_toArray, List.set_cons_zero, List.set_cons_succ, List.getElem_toArray, List.getElem_cons_succ, List.getElem_cons_zero]
              refine wpAnyH_ready (rs := [10]) (by kernel_rfl) (by simp) ?_
              refine AllReadyH.cons rfl (fun K hK => ?_) AllReadyH.nil
              refine want_it (by kernel_rfl) ?_
              refine wp_store_mid 22 (.tmp 7) (.tmp 28) rfl g3 0 K9.toArray rfl rfl (LK9.out.s (N := wc.heap.size) ⟨HL.out.1, HL.out.2, HT.out⟩) LK9.out.j LK9.out.o ?_
              simp only
              have hS2 : Below wc.heap.size wc (wf7.setCells g3 0 K9) := below_setCells hS HL.out.1
              refine hK.out _ _ hS2 (fun hS => ?_)
              clear hK K hS2
              try simp only [Act.put, List.getElem_toArray, List.getElem_cons_succ, List.getElem_cons_zero]
              refine wpAnyH_ready (rs := [11]) (by kernel_rfl) (by simp) ?_
              refine AllReadyH.cons rfl (fun K hK => ?_) AllReadyH.nil
              go_simp
              refine hK.out _ _ hS (fun hS => ?_)
              clear hK K
              try simp only [Act.put, List.setIfInBounds_toArray, List.set_cons_zero, List.set_cons_succ, List.getElem_toArray, List.getElem_cons_succ, List.getElem_cons_zero]
              refine wpAnyH_done (by kernel_rfl) ?_ _
              go_wp2
              go_meet
              case rel => exact ⟨g3, rfl, rfl, ⟨hS, float_box LK9.out HT.out HL.out.2⟩⟩
          · go_simp
            have HT := (show Hid _ from HTT.out wf2)
            have HL : Hid (wc.heap.size ≤ wf2.heap.size ∧ wf2.heap.size < (wf2.alloc (.cells Z22 22)).heap.size) := ⟨hS.size, by rw [size_alloc]; omega⟩
            obtain ⟨g3, hg⟩ : ∃ g3, wf2.heap.size = g3 := ⟨_, rfl⟩
            refine hK.out _ _ (hS.alloc hS.size _) (fun hS => ?_)
            clear hK K
            try simp only [Act.put, List.setIfInBounds_toArray, List.set_cons_zero, List.set_cons_succ, List.getElem_toArray, List.getElem_cons_succ, List.getElem_cons_zero]
            obtain ⟨wf8, hwf8⟩ : ∃ v, wf2.alloc (.cells Z22 22) = v := ⟨_, rfl⟩
            rw [hwf8] at HT HL hS ⊢
            rw [hg] at HT HL ⊢
            clear hg hwf8
            refine wpAnyH_ready (rs := [4]) (by kernel_rfl) (by simp) ?_
            refine AllReadyH.cons rfl (fun K hK => ?_) AllReadyH.nil
            go_simp
            refine (c8 _).mono ?_
            rintro e wf9 ⟨rfl, hb⟩
            replace HT := (show Hid (wf9.there g3 0 32) from there_below hb HT.out HL.out.2)
            replace HL := (show Hid (wc.heap.size ≤ g3 ∧ g3 < wf9.heap.size) from ⟨HL.out.1, Nat.lt_of_lt_of_le HL.out.2 hb.size⟩)
            have hS2 : Below wc.heap.size wc wf9 := hS.trans (hb.mono hS.size)
            refine hK.out _ _ hS2 (fun hS => ?_)
            clear hK K hb hS2
            try simp only [Act.put, List.setIfInBounds_toArray, List.set_cons_zero, List.set_cons_succ, List.getElem_toArray, List.getElem_cons_succ, List.getElem_cons_zero]
            refine wpAnyH_ready (rs := [5]) (by kernel_rfl) (by simp) ?_
            refine AllReadyH.cons rfl (fun K hK => ?_) AllReadyH.nil
            go_simp
            refine (c9' _).mono ?_
            rintro e wf10 ⟨rfl, hb⟩
            replace HT := (show Hid (wf10.there g3 0 32) from there_below hb HT.out HL.out.2)
            replace HL := (show Hid (wc.heap.size ≤ g3 ∧ g3 < wf10.heap.size) from ⟨HL.out.1, Nat.lt_of_lt_of_le HL.out.2 hb.size⟩)
            have hS2 : Below wc.heap.size wc wf10 := hS.trans (hb.mono hS.size)
            refine hK.out _ _ hS2 (fun hS => ?_)
            clear hK K hb hS2
            try simp only [Act.put, List.setIfInBounds_toArray, List.set_cons_zero, List.set_cons_succ, List.getElem_toArray, List.getElem_cons_succ, List.getElem_cons_zero]
            refine wpAnyH_take (i := 6) (v := .tuple #[.agg K9.toArray, (.iface 35 (.int .i64 9))]) rfl (by kernel_rfl) (by kernel_rfl) (by kernel_rfl) (fun _ _ _ h => h) (Or.inl ⟨by kernel_rfl, fun wq hS => by go_simp⟩) hS ?_
            try simp only [Act.put, List.setIfInBounds_toArray, List.set_cons_zero, List.set_cons_succ, List.getElem_toArray, List.getElem_cons_succ, List.getElem_cons_zero]
            refine wpAnyH_take (i := 7) (v := .agg K9.toArray) rfl (by kernel_rfl) (by kernel_rfl) (by kernel_rfl) (fun _ _ _ h => h) (Or.inl ⟨by kernel_rfl, fun wq hS => by go_simp⟩) hS ?_
            try simp only [Act.put, List.setIfInBounds_toArray, List.set_cons_zero, List.set_cons_succ, List.getElem_toArray, List.getElem_cons_succ, List.getElem_cons_zero]
            refine wpAnyH_take (i := 8) (v := (.iface 35 (.int .i64 9))) rfl (by kernel_rfl) (by kernel_rfl) (by kernel_rfl) (fun _ _ _ h => h) (Or.inl ⟨by kernel_rfl, fun wq hS => by go_simp⟩) hS ?_
            try simp only [Act.put, List.setIfInBounds_toArray, List.set_cons_zero, List.set_cons_succ, List.getElem_toArray, List.getElem_cons_succ, List.getElem_cons_zero]
            refine wpAnyH_ready (rs := [10]) (by kernel_rfl) (by simp) ?_
            refine AllReadyH.cons rfl (fun K hK => ?_) AllReadyH.nil
            refine want_it (by kernel_rfl) ?_
            refine wp_store_mid 22 (.tmp 7) (.tmp 28) rfl g3 0 K9.toArray rfl rfl (LK9.out.s (N := wc.heap.size) ⟨HL.out.1, HL.out.2, HT.out⟩) LK9.out.j LK9.out.o ?_
            simp only
            have hS2 : Below wc.heap.size wc (wf10.setCells g3 0 K9) := below_setCells hS HL.out.1
            refine hK.out _ _ hS2 (fun hS => ?_)
            clear hK K hS2
            try simp only [Act.put, List.getElem_toArray, List.getElem_cons_succ, List.getElem_cons_zero]
            refine wpAnyH_ready (rs := [11]) (by kernel_rfl) (by simp) ?_
            refine AllReadyH.cons rfl (fun K hK => ?_) AllReadyH.nil
            go_simp
            refine hK.out _ _ hS (fun hS => ?_)
            clear hK K
            try simp only [Act.put, List.setIfInBounds_toArray, List.set_cons_zero, List.set_cons_succ, List.getElem_toArray, List.getElem_cons_succ, List.getElem_cons_zero]
            refine wpAnyH_done (by kernel_rfl) ?_ _
            go_wp2
            go_meet
            case rel => exact ⟨g3, rfl, rfl, ⟨hS, float_box LK9.out HT.out HL.out.2⟩⟩
        · go_simp
          have HT := (show Hid _ from HTT.out wf1)
          have HL : Hid (wc.heap.size ≤ wf1.heap.size ∧ wf1.heap.size < (wf1.alloc (.cells Z22 22)).heap.size) := ⟨hS.size, by rw [size_alloc]; omega⟩
          obtain ⟨g3, hg⟩ : ∃ g3, wf1.heap.size = g3 := ⟨_, rfl⟩
          refine hK.out _ _ (hS.alloc hS.size _) (fun hS => ?_)
          clear hK K
          try simp only [Act.put, List.setIfInBounds_toArray, List.set_cons_zero, List.set_cons_succ, List.getElem_toArray, List.getElem_cons_succ, List.getElem_cons_zero]
          obtain ⟨wf11, hwf11⟩ : ∃ v, wf1.alloc (.cells Z22 22) = v := ⟨_, rfl⟩
          rw [hwf11] at HT HL hS ⊢
          rw [hg] at HT HL ⊢
          clear hg hwf11
          refine wpAnyH_ready (rs := [2]) (by kernel_rfl) (by simp) ?_
          refine AllReadyH.cons rfl (fun K hK => ?_) AllReadyH.nil
          go_simp
          refine (c7 _).mono ?_
          rintro e wf12 ⟨rfl, hb⟩
          replace HT := (show Hid (wf12.there g3 0 32) from there_below hb HT.out HL.out.2)
          replace HL := (show Hid (wc.heap.size ≤ g3 ∧ g3 < wf12.heap.size) from ⟨HL.out.1, Nat.lt_of_lt_of_le HL.out.2 hb.size⟩)
          have hS2 : Below wc.heap.size wc wf12 := hS.trans (hb.mono hS.size)
          refine hK.out _ _ hS2 (fun hS => ?_)
          clear hK K hb hS2
          try simp only [Act.put, List.setIfInBounds_toArray, List.set_cons_zero, List.set_cons_succ, List.getElem_toArray, List.getElem_cons_succ, List.getElem_cons_zero]
          refine wpAnyH_ready (rs := [4]) (by kernel_rfl) (by simp) ?_
          refine AllReadyH.cons rfl (fun K hK => ?_) AllReadyH.nil
          go_simp
          refine (c8 _).mono ?_
          rintro e wf13 ⟨rfl, hb⟩
          replace HT := (show Hid (wf13.there g3 0 32) from there_below hb HT.out HL.out.2)
          replace HL := (show Hid (wc.heap.size ≤ g3 ∧ g3 < wf13.heap.size) from ⟨HL.out.1, Nat.lt_of_lt_of_le HL.out.2 hb.size⟩)
          have hS2 : Below wc.heap.size wc wf13 := hS.trans (hb.mono hS.size)
          refine hK.out _ _ hS2 (fun hS => ?_)
          clear hK K hb hS2
          try simp only [Act.put, List.setIfInBounds_toArray, List.set_cons_zero, List.set_cons_succ, List.getElem_toArray, List.getElem_cons_succ, List.getElem_cons_zero]
          refine wpAnyH_ready (rs := [5]) (by kernel_rfl) (by simp) ?_
          refine AllReadyH.cons rfl (fun K hK => ?_) AllReadyH.nil
          go_simp
          refine (c9' _).mono ?_
          rintro e wf14 ⟨rfl, hb⟩
          replace HT := (show Hid (wf14.there g3 0 32) from there_below hb HT.out HL.out.2)
          replace HL := (show Hid (wc.heap.size ≤ g3 ∧ g3 < wf14.heap.size) from ⟨HL.out.1, Nat.lt_of_lt_of_le HL.out.2 hb.size⟩)
          have hS2 : Below wc.heap.size wc wf14 := hS.trans (hb.mono hS.size)
          refine hK.out _ _ hS2 (fun hS => ?_)
          clear hK K hb hS2
          try simp only [Act.put, List.setIfInBounds_toArray, List.set_cons_zero, List.set_cons_succ, List.getElem_toArray, List.getElem_cons_succ, List.getElem_cons_zero]
          refine wpAnyH_take (i := 6) (v := .tuple #[.agg K9.toArray, (.iface 35 (.int .i64 9))]) rfl (by kernel_rfl) (by kernel_rfl) (by kernel_rfl) (fun _ _ _ h => h) (Or.inl ⟨by kernel_rfl, fun wq hS => by go_simp⟩) hS ?_
          try simp only [Act.put, List.setIfInBounds_toArray, List.set_cons_zero, List.set_cons_succ, List.getElem_toArray, List.getElem_cons_succ, List.getElem_cons_zero]
          refine wpAnyH_take (i := 7) (v := .agg K9.toArray) rfl (by kernel_rfl) (by kernel_rfl) (by kernel_rfl) (fun _ _ _ h => h) (Or.inl ⟨by kernel_rfl, fun wq hS => by go_simp⟩) hS ?_
          try simp only [Act.put, List.setIfInBounds_toArray, List.set_cons_zero, List.set_cons_succ, List.getElem_toArray, List.getElem_cons_succ, List.getElem_cons_zero]
          refine wpAnyH_take (i := 8) (v := (.iface 35 (.int .i64 9))) rfl (by kernel_rfl) (by kernel_rfl) (by kernel_rfl) (fun _ _ _ h => h) (Or.inl ⟨by kernel_rfl, fun wq hS => by go_simp⟩) hS ?_
          try simp only [Act.put, List.setIfInBounds_toArray, List.set_cons_zero, List.set_cons_succ, List.getElem_toArray, List.getElem_cons_succ, List.getElem_cons_zero]
          refine wpAnyH_ready (rs := [10]) (by kernel_rfl) (by simp) ?_
          refine AllReadyH.cons rfl (fun K hK => ?_) AllReadyH.nil
          refine want_it (by kernel_rfl) ?_
          refine wp_store_mid 22 (.tmp 7) (.tmp 28) rfl g3 0 K9.toArray rfl rfl (LK9.out.s (N := wc.heap.size) ⟨HL.out.1, HL.out.2, HT.out⟩) LK9.out.j LK9.out.o ?_
          simp only
          have hS2 : Below wc.heap.size wc (wf14.setCells g3 0 K9) := below_setCells hS HL.out.1
          refine hK.out _ _ hS2 (fun hS => ?_)
          clear hK K hS2
          try simp only [Act.put, List.getElem_toArray, List.getElem_cons_succ, List.getElem_cons_zero]
          refine wpAnyH_ready (rs := [11]) (by kernel_rfl) (by simp) ?_
          refine AllReadyH.cons rfl (fun K hK => ?_) AllReadyH.nil
          go_simp
          refine hK.out _ _ hS (fun hS => ?_)
          clear hK K
          try simp only [Act.put, List.setIfInBounds_toArray, List.set_cons_zero, List.set_cons_succ, List.getElem_toArray, List.getElem_cons_succ, List.getElem_cons_zero]
          refine wpAnyH_done (by kernel_rfl) ?_ _
          go_wp2
          go_meet
          case rel => exact ⟨g3, rfl, rfl, ⟨hS, float_box LK9.out HT.out HL.out.2⟩⟩
      · go_simp
        have HT := (show Hid _ from HTT.out wd)
        have HL : Hid (wc.heap.size ≤ wd.heap.size ∧ wd.heap.size < (wd.alloc (.cells Z22 22)).heap.size) := ⟨hS.size, by rw [size_alloc]; omega⟩
        obtain ⟨g3, hg⟩ : ∃ g3, wd.heap.size = g3 := ⟨_, rfl⟩
        refine hK.out _ _ (hS.alloc hS.size _) (fun hS => ?_)
        clear hK K
        try simp only [Act.put, List.setIfInBounds_toArray, List.set_cons_zero, List.set_cons_succ, List.getElem_toArray, List.getElem_cons_succ, List.getElem_cons_zero]
        obtain ⟨wf15, hwf15⟩ : ∃ v, wd.alloc (.cells Z22 22) = v := ⟨_, rfl⟩
        rw [hwf15] at HT HL hS ⊢
        rw [hg] at HT HL ⊢
        clear hg hwf15
        refine wpAnyH_ready (rs := [1]) (by kernel_rfl) (by simp) ?_
        refine AllReadyH.cons rfl (fun K hK => ?_) AllReadyH.nil
        go_simp
        refine (c2 _).mono ?_
        rintro e wf16 ⟨rfl, hb⟩
        replace HT := (show Hid (wf16.there g3 0 32) from there_below hb HT.out HL.out.2)
        replace HL := (show Hid (wc.heap.size ≤ g3 ∧ g3 < wf16.heap.size) from ⟨HL.out.1, Nat.lt_of_lt_of_le HL.out.2 hb.size⟩)
        have hS2 : Below wc.heap.size wc wf16 := hS.trans (hb.mono hS.size)
        refine hK.out _ _ hS2 (fun hS => ?_)
        clear hK K hb hS2
        try simp only [Act.put, List.setIfInBounds_toArray, List.set_cons_zero, List.set_cons_succ, List.getElem_toArray, List.getElem_cons_succ, List.getElem_cons_zero]
        refine wpAnyH_ready (rs := [2]) (by kernel_rfl) (by simp) ?_
        refine AllReadyH.cons rfl (fun K hK => ?_) AllReadyH.nil
        go_simp
        refine (c7 _).mono ?_
        rintro e wf17 ⟨rfl, hb⟩
        replace HT := (show Hid (wf17.there g3 0 32) from there_below hb HT.out HL.out.2)
        replace HL := (show Hid (wc.heap.size ≤ g3 ∧ g3 < wf17.heap.size) from ⟨HL.out.1, Nat.lt_of_lt_of_le HL.out.2 hb.size⟩)
        have hS2 : Below wc.heap.size wc wf17 := hS.trans (hb.mono hS.size)
        refine hK.out _ _ hS2 (fun hS => ?_)
        clear hK K hb hS2
        try simp only [Act.put, List.setIfInBounds_toArray, List.set_cons_zero, List.set_cons_succ, List.getElem_toArray, List.getElem_cons_succ, List.getElem_cons_zero]
        refine wpAnyH_ready (rs := [4]) (by kernel_rfl) (by simp) ?_
        refine AllReadyH.cons rfl (fun K hK => ?_) AllReadyH.nil
        go_simp
        refine (c8 _).mono ?_
        rintro e wf18 ⟨rfl, hb⟩
        replace HT := (show Hid (wf18.there g3 0 32) from there_below hb HT.out HL.out.2)
        replace HL := (show Hid (wc.heap.size ≤ g3 ∧ g3 < wf18.heap.size) from ⟨HL.out.1, Nat.lt_of_lt_of_le HL.out.2 hb.size⟩)
        have hS2 : Below wc.heap.size wc wf18 := hS.trans (hb.mono hS.size)
        refine hK.out _ _ hS2 (fun hS => ?_)
        clear hK K hb hS2
        try simp only [Act.put, List.setIfInBounds_toArray, List.set_cons_zero, List.set_cons_succ, List.getElem_toArray, List.getElem_cons_succ, List.getElem_cons_zero]
        refine wpAnyH_ready (rs := [5]) (by kernel_rfl) (by simp) ?_
        refine AllReadyH.cons rfl (fun K hK => ?_) AllReadyH.nil
        go_simp
        refine (c9' _).mono ?_
        rintro e wf19 ⟨rfl, hb⟩
        replace HT := (show Hid (wf19.there g3 0 32) from there_below hb HT.out HL.out.2)
        replace HL := (show Hid (wc.heap.size ≤ g3 ∧ g3 < wf19.heap.size) from ⟨HL.out.1, Nat.lt_of_lt_of_le HL.out.2 hb.size⟩)
        have hS2 : Below wc.heap.size wc wf19 := hS.trans (hb.mono hS.size)
        refine hK.out _ _ hS2 (fun hS => ?_)
        clear hK K hb hS2
        try simp only [Act.put, List.setIfInBounds_toArray, List.set_cons_zero, List.set_cons_succ, List.getElem_toArray, List.getElem_cons_succ, List.getElem_cons_zero]
        refine wpAnyH_take (i := 6) (v := .tuple #[.agg K9.toArray, (.iface 35 (.int .i64 9))]) rfl (by kernel_rfl) (by kernel_rfl) (by kernel_rfl) (fun _ _ _ h => h) (Or.inl ⟨by kernel_rfl, fun wq hS => by go_simp⟩) hS ?_
        try simp only [Act.put, List.setIfInBounds_toArray, List.set_cons_zero, List.set_cons_succ, List.getElem_toArray, List.getElem_cons_succ, List.getElem_cons_zero]
        refine wpAnyH_take (i := 7) (v := .agg K9.toArray) rfl (by kernel_rfl) (by kernel_rfl) (by kernel_rfl) (fun _ _ _ h => h) (Or.inl ⟨by kernel_rfl, fun wq hS => by go_simp⟩) hS ?_
        try simp only [Act.put, List.setIfInBounds_toArray, List.set_cons_zero, List.set_cons_succ, List.getElem_toArray, List.getElem_cons_succ, List.getElem_cons_zero]
        refine wpAnyH_take (i := 8) (v := (.iface 35 (.int .i64 9))) rfl (by kernel_rfl) (by kernel_rfl) (by kernel_rfl) (fun _ _ _ h => h) (Or.inl ⟨by kernel_rfl, fun wq hS => by go_simp⟩) hS ?_
        try simp only [Act.put, List.setIfInBounds_toArray, List.set_cons_zero, List.set_cons_succ, List.getElem_toArray, List.getElem_cons_succ, List.getElem_cons_zero]
        refine wpAnyH_ready (rs := [10]) (by kernel_rfl) (by simp) ?_
        refine AllReadyH.cons rfl (fun K hK => ?_) AllReadyH.nil
        refine want_it (by kernel_rfl) ?_
        refine wp_store_mid 22 (.tmp 7) (.tmp 28) rfl g3 0 K9.toArray rfl rfl (LK9.out.s (N := wc.heap.size) ⟨HL.out.1, HL.out.2, HT.out⟩) LK9.out.j LK9.out.o ?_
        simp only
        have hS2 : Below wc.heap.size wc (wf19.setCells g3 0 K9) := below_setCells hS HL.out.1
        refine hK.out _ _ hS2 (fun hS => ?_)
        clear hK K hS2
        try simp only [Act.put, List.getElem_toArray, List.getElem_cons_succ, List.getElem_cons_zero]
        refine wpAnyH_ready (rs := [11]) (by kernel_rfl) (by simp) ?_
        refine AllReadyH.cons rfl (fun K hK => ?_) AllReadyH.nil
        go_simp
        refine hK.out _ _ hS (fun hS => ?_)
        clear hK K
        try simp only [Act.put, List.setIfInBounds_toArray, List.set_cons_zero, List.set_cons_succ, List.getElem_toArray, List.getElem_cons_succ, List.getElem_cons_zero]
        refine wpAnyH_done (by kernel_rfl) ?_ _
        go_wp2
        go_meet
        case rel => exact ⟨g3, rfl, rfl, ⟨hS, float_box LK9.out HT.out HL.out.2⟩⟩
    case rest =>
      obtain ⟨g2, rfl, rfl, HR⟩ := hcut
      have BY3 := (show Hid (Rp wc n 0 Y) from BY2.out.below HR.out.1)
      have AO3 := (show Hid (Ao w.heap.size wc (n + 1) 64) from AO2.out.below HR.out.1)
      have BX3 := (show Hid (Rp wc g2 0 K9) from HR.out.2)
      have HB4 := (show Hid (Below w.heap.size w wc) from HB3.out.trans (HR.out.1.mono HB3.out.size))
      have HT := (show Hid _ from LE.out.t AO3.out)
      clear HR BY2 AO2 BK2 BI2 HB3
      go_wp2_with (first
        | (refine build_to rfl 43 _ rfl (some 32) rfl [] (by kernel_rfl) E HBP.out ?_; simp only [Act.put, List.setIfInBounds_toArray, List.set_cons_zero, List.set_cons_succ])
        | (refine wpList_store_mid rfl 43 (.tmp 2) (.tmp 32) rfl (n + 1) 0 E.toArray rfl rfl HT.out LE.out.j LE.out.o ?_; simp only))
      exact bodyPost_ret (res_ct Try.results86 rfl (end43 LE.out AO3.out) rfl) rfl ⟨rfl, below_setCells HB4.out AO3.out.1⟩
end Fd
end Go.Proofs.Ytgdekigdbbldoaa
