/- Small laws that the walks of layer 7's later statements share: a value built under a guard, '==' of a point with itself, boxes. What the statements' some answers: a point of the curve. -/
import Derived.Test.YtgdekigdbbldoaaG40
import Derived.Test.YtgdekigdbbldoaaG37
namespace Go.Proofs.Ytgdekigdbbldoaa
open Go.RowKit
namespace Fd
namespace Bx
open Rg

/-- A value is built under a guard that lets it by. -/
theorem build_tow {P : Program} {ops : Array Oper} {rest : List Oper} {o : Oper} {a : Act} {w : World} {Q : Exit → Act → World → Prop} (hw : Region.wanted o (yielded ops a.tmps) = true) (t : TypeId) (parts : Array (Nat × Operand)) (ho : o.op = .build t parts)
    (L : List (Nat × Value)) (hL : (parts.map fun ((i, x) : Nat × Operand) => (i, a.eval x)).toList = L) (cells : List Value) (hb : P.built t L = some cells.toArray) (h : wpList P ops Q rest (a.put o.dst (.agg cells.toArray)) w) : wpList P ops Q (o :: rest) a w :=
  wpList_step fun K hK => by
    rw [← hL] at hb
    simp only [hw, if_true]
    unfold Oper.wp execOp
    simp only [ho, Sem.run_bind, run_build w t _ _ hb, Result.andThen_ok]
    exact hK _ _ h
theorem eq43_same (x y : Nat) (hx : x < 115792089237316195423570985008687907853269984665640564039457584007913129639936) (hy : y < 115792089237316195423570985008687907853269984665640564039457584007913129639936) (W : World) : (Op.equalIn 10000 43 (.agg (bvc x ++ bvc y).toArray) (.agg (bvc x ++ bvc y).toArray)).run Try.prog W = .ok true W := by
  have h := eq43 x y x y W hx hy hx hy
  rwa [decide_eq_true ⟨rfl, rfl⟩] at h
/-- A box of 32 bytes, whole, and the answer's, a point. -/
theorem start22p (w : World) (V : List Value) :
    let e := (w.alloc (.cells V.toArray 22)).alloc (.cells z43 43)
    Rp e w.heap.size 0 V ∧ Ao w.heap.size e (w.heap.size + 1) 64 ∧ Below w.heap.size w e := by
  intro e
  have ht := there43 (w.alloc (.cells V.toArray 22))
  rw [size_alloc] at ht
  refine ⟨Rp.below ⟨Rg.range_new w V 22, by rw [size_alloc]; omega⟩ ((Below.refl _ _).alloc (Nat.le_refl _) _), ⟨by omega, ?_, ht⟩, ((Below.refl _ _).alloc (Nat.le_refl _) _).alloc (by simp) _⟩
  show _ < (World.alloc _ _).heap.size
  rw [size_alloc, size_alloc]
  omega
end Bx
end Fd
end Go.Proofs.Ytgdekigdbbldoaa

namespace Go.Proofs.Ytgdekigdbbldoaa
open Go.RowKit
namespace Fd
open Rg Cv Bx

theorem float_box43 {w : World} {g : Nat} {R : List Value} (hR : L64 R) (h1 : w.there g 0 64) (h2 : g < w.heap.size) : Rp (w.setCells g 0 R) g 0 R :=
  ⟨World.rangeAt_setCells_same _ _ _ _ (by rw [hR.l]; exact h1), by rw [size_setCells]; exact h2⟩
theorem yieldsIf_build {P : Program} {ops : Array Oper} {S : World → Prop} {op : Oper} {a : Act} (hw : Region.wanted op (yielded ops a.tmps) = true) (t : TypeId) (parts : Array (Nat × Operand)) (ho : op.op = .build t parts)
    (L : List (Nat × Value)) (hL : (parts.map fun ((i, x) : Nat × Operand) => (i, a.eval x)).toList = L) (cells : List Value) (hb : P.built t L = some cells.toArray) : YieldsIf P ops S op (.agg cells.toArray) a :=
  .inl ⟨hw, fun w _ => by
    rw [← hL] at hb
    unfold execOp
    simp only [ho, Sem.run_bind, run_build w t _ _ hb, Result.andThen_ok]
    rfl⟩
namespace Cv
def B : Pt := ⟨tf baseX, tf baseY⟩
theorem B_on : B.on := (onC_on baseX baseY).1 base_on
/-- The point of order 2. -/
def T2 : Pt := ⟨tf 0, tf (p - 1)⟩
theorem t2C : OnC 0 (p - 1) := by decide +kernel
theorem T2_on : T2.on := (onC_on 0 (p - 1)).1 t2C
def someP (k : Nat) : Pt := if by_ k 0 % 3 = 0 then add (ptm k B 256) T2 else ptm k B 256
theorem someP_on (k : Nat) : (someP k).on := by
  unfold someP
  split
  · exact add_on (ptm_on k B_on 256) T2_on
  · exact ptm_on k B_on 256
theorem pt_C {P : Pt} (h : P.on) : OnC P.x.val P.y.val := (onC_on _ _).2 (by rw [tf_of, tf_of]; exact h)
end Cv
set_option maxHeartbeats 8000000 in
set_option maxRecDepth 8000 in
theorem some_plain (k : Nat) (w : World) (h3 : ¬ by_ k 0 % 3 = 0) :
    Calls Try.prog 33 #[bv k] w fun e w' => e = .returned (.tuple #[pv (someP k).x.val (someP k).y.val, .bool true]) ∧ Below w.heap.size w w' := by
  have c1 : ∀ W : World, Calls Try.prog 30 #[] W fun e w' => e = .returned (pv baseX baseY) ∧ Below W.heap.size W w' := base_any
  have c2 : ∀ W : World, Calls Try.prog 41 #[bv k, pv baseX baseY] W fun e w' => e = .returned (.tuple #[pv (ptm k B 256).x.val (ptm k B 256).y.val, .nilIface]) ∧ Below W.heap.size W w' := fun W => times_pt k baseX baseY W bx_lt by_lt' base_on
  have hon := pt_C (ptm_on k B_on 256)
  have lx := big (ptm k B 256).x
  have ly := big (ptm k B 256).y
  have e : someP k = ptm k B 256 := by unfold someP; rw [if_neg h3]
  rw [e]
  obtain ⟨r3, hr3⟩ : ∃ r, by_ k 0 % 3 = r := ⟨_, rfl⟩
  have hm3 : Int.tmod ((by_ k 0 : Nat) : Int) 3 = (r3 : Int) := by rw [Int.tmod_eq_emod_of_nonneg (by omega)]; omega
  have hm4 : ¬ (r3 : Int) = 0 := by omega
  have hm5 : IntKind.u8.wrap (r3 : Int) = (r3 : Int) := by rw [IntKind.wrap_u8]; omega
  obtain ⟨tx, htx⟩ : ∃ v, (ptm k B 256).x.val = v := ⟨_, rfl⟩
  obtain ⟨ty, hty⟩ : ∃ v, (ptm k B 256).y.val = v := ⟨_, rfl⟩
  rw [htx, hty] at c2 ⊢
  have en := eq_nil
  have HCK : Hid (∀ {W : World} {b : Nat}, Rp W b 0 (bvc k) → W.cell? ⟨b, 0, none⟩ = some (.int .u8 ((by_ k 0 : Nat) : Int))) := fun {W b} h => by have h2 := h.1 0 _ (bvc_at k 0 (by decide)); rwa [Nat.zero_add] at h2
  unfold pv at c1 c2 ⊢
  unfold bv at c2 ⊢
  have LK : Hid (L32 (bvc k)) := l32 k
  have LT : Hid (L64 (bvc tx ++ bvc ty)) := l64 _ _
  have HS := (show Hid _ from start22p w (bvc k))
  obtain ⟨V, hV⟩ : ∃ X, bvc baseX ++ bvc baseY = X := ⟨_, rfl⟩
  rw [hV] at c1 c2
  obtain ⟨T, hT⟩ : ∃ X, bvc tx ++ bvc ty = X := ⟨_, rfl⟩
  rw [hT] at c2 LT ⊢
  obtain ⟨K, hK⟩ : ∃ X, bvc k = X := ⟨_, rfl⟩
  rw [hK] at c2 LK HS HCK ⊢
  obtain ⟨b0, hb0⟩ : ∃ b, by_ k 0 = b := ⟨_, rfl⟩
  rw [hb0] at hm3 HCK
  clear hV hT hK hb0 htx hty hon lx ly e hr3
  have hz22 := zero22
  have hz43 := zero43
  have HTT43 : Hid _ := there43
  obtain ⟨Z43, hZ43⟩ : ∃ Z, z43 = Z := ⟨_, rfl⟩
  rw [hZ43] at hz43 HTT43 HS
  clear hZ43 hz22
  obtain ⟨n, hn⟩ : ∃ n, w.heap.size = n := ⟨_, rfl⟩
  have HN : Hid (w.heap.size = n) := hn
  obtain ⟨we, hwe⟩ : ∃ v, (w.alloc (.cells K.toArray 22)).alloc (.cells Z43 43) = v := ⟨_, rfl⟩
  have BK : Hid (Rp we n 0 K) := by have h := HS.out.1; rw [hwe, HN.out] at h; exact h
  have AO : Hid (Ao w.heap.size we (n + 1) 64) := by have h := HS.out.2.1; rw [hwe, HN.out] at h; show Ao _ _ _ _; rw [HN.out]; exact h
  have HBE : Hid (Below w.heap.size w we) := by have h := HS.out.2.2; rw [hwe] at h; exact h
  clear HS
  go_enter Try.func33, Try.ntmps33
  go_upto_region 1 with (fail)
  clear hwe
  go_cut [4, 5] from 8 to 13 (fun s e wx => ∃ g, s = .pointer (some ⟨g, 0, none⟩) ∧ e = .nilIface ∧ Hid (Below we.heap.size we wx ∧ Rp wx g 0 T))
  case first =>
    refine wp_region_held_drew (S := fun w' => Below we.heap.size we w') (by kernel_rfl) (drewB we) (fun hS => ?_)
    obtain ⟨wd, hwd⟩ : ∃ v, World.drew we = v := ⟨_, rfl⟩
    rw [hwd] at hS ⊢
    clear hwd
    refine wpAnyH_take (i := 0) (v := .agg K.toArray) rfl (by kernel_rfl) (by kernel_rfl) (by kernel_rfl) (fun _ _ _ h => h) (yieldsIf_load_mid (by kernel_rfl) 22 (.tmp 1) rfl n 0 rfl K _ (fun wq hq => Rg.Below.range hq BK.out.1 BK.out.2) Try.underlying22 rfl LK.out.i) hS ?_
    try simp only [Act.put, List.setIfInBounds_toArray, List.set_cons_zero, List.set_cons_succ, List.getElem_toArray, List.getElem_cons_zero]
    refine wpAnyH_ready (rs := [1, 6]) (by kernel_rfl) (by simp) ?_
    refine AllReadyH.cons rfl (fun K hK => ?_) (AllReadyH.cons rfl (fun K hK => ?_) AllReadyH.nil)
    · go_simp
      refine (c1 _).mono ?_
      rintro e wf1 ⟨rfl, hb⟩
      have hS2 : Below we.heap.size we wf1 := hS.trans (hb.mono hS.size)
      refine hK.out _ _ hS2 (fun hS => ?_)
      clear hK K hb hS2 
      try simp only [Act.put, List.setIfInBounds_toArray, List.set_cons_zero, List.set_cons_succ, List.getElem_toArray, List.getElem_cons_succ, List.getElem_cons_zero]
      refine wpAnyH_ready (rs := [2, 6]) (by kernel_rfl) (by simp) ?_
      refine AllReadyH.cons rfl (fun K hK => ?_) (AllReadyH.cons rfl (fun K hK => ?_) AllReadyH.nil)
      · go_simp
        refine (c2 _).mono ?_
        rintro e wf2 ⟨rfl, hb⟩
        have hS2 : Below we.heap.size we wf2 := hS.trans (hb.mono hS.size)
        refine hK.out _ _ hS2 (fun hS => ?_)
        clear hK K hb hS2 
        try simp only [Act.put, List.setIfInBounds_toArray, List.set_cons_zero, List.set_cons_succ, List.getElem_toArray, List.getElem_cons_succ, List.getElem_cons_zero]
        refine wpAnyH_take (i := 3) (v := .tuple #[.agg T.toArray, .nilIface]) rfl (by kernel_rfl) (by kernel_rfl) (by kernel_rfl) (fun _ _ _ h => h) (Or.inl ⟨by kernel_rfl, fun wq hS => by go_simp⟩) hS ?_
        try simp only [Act.put, List.setIfInBounds_toArray, List.set_cons_zero, List.set_cons_succ, List.getElem_toArray, List.getElem_cons_succ, List.getElem_cons_zero]
        refine wpAnyH_take (i := 4) (v := .agg T.toArray) rfl (by kernel_rfl) (by kernel_rfl) (by kernel_rfl) (fun _ _ _ h => h) (Or.inl ⟨by kernel_rfl, fun wq hS => by go_simp⟩) hS ?_
        try simp only [Act.put, List.setIfInBounds_toArray, List.set_cons_zero, List.set_cons_succ, List.getElem_toArray, List.getElem_cons_succ, List.getElem_cons_zero]
        refine wpAnyH_take (i := 5) (v := .nilIface) rfl (by kernel_rfl) (by kernel_rfl) (by kernel_rfl) (fun _ _ _ h => h) (Or.inl ⟨by kernel_rfl, fun wq hS => by go_simp⟩) hS ?_
        try simp only [Act.put, List.setIfInBounds_toArray, List.set_cons_zero, List.set_cons_succ, List.getElem_toArray, List.getElem_cons_succ, List.getElem_cons_zero]
        refine wpAnyH_ready (rs := [6]) (by kernel_rfl) (by simp) ?_
        refine AllReadyH.cons rfl (fun K hK => ?_) AllReadyH.nil
        go_simp
        have HT := (show Hid _ from HTT43.out wf2)
        have HL : Hid (we.heap.size ≤ wf2.heap.size ∧ wf2.heap.size < (wf2.alloc (.cells Z43 43)).heap.size) := ⟨hS.size, by rw [size_alloc]; omega⟩
        have hb : Below wf2.heap.size wf2 (wf2.alloc (.cells Z43 43)) := (Below.refl _ _).alloc (Nat.le_refl _) _
        refine hK.out _ _ (hS.alloc hS.size _) (fun hS => ?_)
        clear hK K
        try simp only [Act.put, List.setIfInBounds_toArray, List.set_cons_zero, List.set_cons_succ, List.getElem_toArray, List.getElem_cons_succ, List.getElem_cons_zero]
        obtain ⟨wf3, hwf3⟩ : ∃ v, wf2.alloc (.cells Z43 43) = v := ⟨_, rfl⟩
        rw [hwf3] at HT HL hb hS ⊢
        obtain ⟨g, hg⟩ : ∃ g, wf2.heap.size = g := ⟨_, rfl⟩
        rw [hg] at HT HL ⊢
        clear hg hwf3 hb
        refine wpAnyH_ready (rs := [7]) (by kernel_rfl) (by simp) ?_
        refine AllReadyH.cons rfl (fun K hK => ?_) AllReadyH.nil
        refine want_it (by kernel_rfl) ?_
        refine wp_store_mid 43 (.tmp 4) (.tmp 12) rfl g 0 T.toArray rfl rfl (LT.out.t (N := we.heap.size) ⟨HL.out.1, HL.out.2, HT.out⟩) LT.out.j LT.out.o ?_
        simp only
        have hS2 : Below we.heap.size we (wf3.setCells g 0 T) := below_setCells hS HL.out.1
        refine hK.out _ _ hS2 (fun hS => ?_)
        clear hK K hS2
        try simp only [Act.put, List.getElem_toArray, List.getElem_cons_succ, List.getElem_cons_zero]
        refine wpAnyH_ready (rs := [8]) (by kernel_rfl) (by simp) ?_
        refine AllReadyH.cons rfl (fun K hK => ?_) AllReadyH.nil
        go_simp
        refine hK.out _ _ hS (fun hS => ?_)
        clear hK K
        try simp only [Act.put, List.setIfInBounds_toArray, List.set_cons_zero, List.set_cons_succ, List.getElem_toArray, List.getElem_cons_succ, List.getElem_cons_zero]
        refine wpAnyH_done (by kernel_rfl) ?_ _
        go_wp2
        go_meet
        case rel => exact ⟨g, rfl, rfl, ⟨hS, float_box43 LT.out HT.out HL.out.2⟩⟩
      · go_simp
        have HT := (show Hid _ from HTT43.out wf1)
        have HL : Hid (we.heap.size ≤ wf1.heap.size ∧ wf1.heap.size < (wf1.alloc (.cells Z43 43)).heap.size) := ⟨hS.size, by rw [size_alloc]; omega⟩
        have hb : Below wf1.heap.size wf1 (wf1.alloc (.cells Z43 43)) := (Below.refl _ _).alloc (Nat.le_refl _) _
        refine hK.out _ _ (hS.alloc hS.size _) (fun hS => ?_)
        clear hK K
        try simp only [Act.put, List.setIfInBounds_toArray, List.set_cons_zero, List.set_cons_succ, List.getElem_toArray, List.getElem_cons_succ, List.getElem_cons_zero]
        obtain ⟨wf4, hwf4⟩ : ∃ v, wf1.alloc (.cells Z43 43) = v := ⟨_, rfl⟩
        rw [hwf4] at HT HL hb hS ⊢
        obtain ⟨g, hg⟩ : ∃ g, wf1.heap.size = g := ⟨_, rfl⟩
        rw [hg] at HT HL ⊢
        clear hg hwf4 hb
        refine wpAnyH_ready (rs := [2]) (by kernel_rfl) (by simp) ?_
        refine AllReadyH.cons rfl (fun K hK => ?_) AllReadyH.nil
        go_simp
        refine (c2 _).mono ?_
        rintro e wf5 ⟨rfl, hb⟩
        replace HT := (show Hid (wf5.there g 0 64) from there_below hb HT.out HL.out.2)
        replace HL := (show Hid (we.heap.size ≤ g ∧ g < wf5.heap.size) from ⟨HL.out.1, Nat.lt_of_lt_of_le HL.out.2 hb.size⟩)
        have hS2 : Below we.heap.size we wf5 := hS.trans (hb.mono hS.size)
        refine hK.out _ _ hS2 (fun hS => ?_)
        clear hK K hb hS2 
        try simp only [Act.put, List.setIfInBounds_toArray, List.set_cons_zero, List.set_cons_succ, List.getElem_toArray, List.getElem_cons_succ, List.getElem_cons_zero]
        refine wpAnyH_take (i := 3) (v := .tuple #[.agg T.toArray, .nilIface]) rfl (by kernel_rfl) (by kernel_rfl) (by kernel_rfl) (fun _ _ _ h => h) (Or.inl ⟨by kernel_rfl, fun wq hS => by go_simp⟩) hS ?_
        try simp only [Act.put, List.setIfInBounds_toArray, List.set_cons_zero, List.set_cons_succ, List.getElem_toArray, List.getElem_cons_succ, List.getElem_cons_zero]
        refine wpAnyH_take (i := 4) (v := .agg T.toArray) rfl (by kernel_rfl) (by kernel_rfl) (by kernel_rfl) (fun _ _ _ h => h) (Or.inl ⟨by kernel_rfl, fun wq hS => by go_simp⟩) hS ?_
        try simp only [Act.put, List.setIfInBounds_toArray, List.set_cons_zero, List.set_cons_succ, List.getElem_toArray, List.getElem_cons_succ, List.getElem_cons_zero]
        refine wpAnyH_take (i := 5) (v := .nilIface) rfl (by kernel_rfl) (by kernel_rfl) (by kernel_rfl) (fun _ _ _ h => h) (Or.inl ⟨by kernel_rfl, fun wq hS => by go_simp⟩) hS ?_
        try simp only [Act.put, List.setIfInBounds_toArray, List.set_cons_zero, List.set_cons_succ, List.getElem_toArray, List.getElem_cons_succ, List.getElem_cons_zero]
        refine wpAnyH_ready (rs := [7]) (by kernel_rfl) (by simp) ?_
        refine AllReadyH.cons rfl (fun K hK => ?_) AllReadyH.nil
        refine want_it (by kernel_rfl) ?_
        refine wp_store_mid 43 (.tmp 4) (.tmp 12) rfl g 0 T.toArray rfl rfl (LT.out.t (N := we.heap.size) ⟨HL.out.1, HL.out.2, HT.out⟩) LT.out.j LT.out.o ?_
        simp only
        have hS2 : Below we.heap.size we (wf5.setCells g 0 T) := below_setCells hS HL.out.1
        refine hK.out _ _ hS2 (fun hS => ?_)
        clear hK K hS2
        try simp only [Act.put, List.getElem_toArray, List.getElem_cons_succ, List.getElem_cons_zero]
        refine wpAnyH_ready (rs := [8]) (by kernel_rfl) (by simp) ?_
        refine AllReadyH.cons rfl (fun K hK => ?_) AllReadyH.nil
        go_simp
        refine hK.out _ _ hS (fun hS => ?_)
        clear hK K
        try simp only [Act.put, List.setIfInBounds_toArray, List.set_cons_zero, List.set_cons_succ, List.getElem_toArray, List.getElem_cons_succ, List.getElem_cons_zero]
        refine wpAnyH_done (by kernel_rfl) ?_ _
        go_wp2
        go_meet
        case rel => exact ⟨g, rfl, rfl, ⟨hS, float_box43 LT.out HT.out HL.out.2⟩⟩
    · go_simp
      have HT := (show Hid _ from HTT43.out wd)
      have HL : Hid (we.heap.size ≤ wd.heap.size ∧ wd.heap.size < (wd.alloc (.cells Z43 43)).heap.size) := ⟨hS.size, by rw [size_alloc]; omega⟩
      have hb : Below wd.heap.size wd (wd.alloc (.cells Z43 43)) := (Below.refl _ _).alloc (Nat.le_refl _) _
      refine hK.out _ _ (hS.alloc hS.size _) (fun hS => ?_)
      clear hK K
      try simp only [Act.put, List.setIfInBounds_toArray, List.set_cons_zero, List.set_cons_succ, List.getElem_toArray, List.getElem_cons_succ, List.getElem_cons_zero]
      obtain ⟨wf6, hwf6⟩ : ∃ v, wd.alloc (.cells Z43 43) = v := ⟨_, rfl⟩
      rw [hwf6] at HT HL hb hS ⊢
      obtain ⟨g, hg⟩ : ∃ g, wd.heap.size = g := ⟨_, rfl⟩
      rw [hg] at HT HL ⊢
      clear hg hwf6 hb
      refine wpAnyH_ready (rs := [1]) (by kernel_rfl) (by simp) ?_
      refine AllReadyH.cons rfl (fun K hK => ?_) AllReadyH.nil
      go_simp
      refine (c1 _).mono ?_
      rintro e wf7 ⟨rfl, hb⟩
      replace HT := (show Hid (wf7.there g 0 64) from there_below hb HT.out HL.out.2)
      replace HL := (show Hid (we.heap.size ≤ g ∧ g < wf7.heap.size) from ⟨HL.out.1, Nat.lt_of_lt_of_le HL.out.2 hb.size⟩)
      have hS2 : Below we.heap.size we wf7 := hS.trans (hb.mono hS.size)
      refine hK.out _ _ hS2 (fun hS => ?_)
      clear hK K hb hS2 
      try simp only [Act.put, List.setIfInBounds_toArray, List.set_cons_zero, List.set_cons_succ, List.getElem_toArray, List.getElem_cons_succ, List.getElem_cons_zero]
      refine wpAnyH_ready (rs := [2]) (by kernel_rfl) (by simp) ?_
      refine AllReadyH.cons rfl (fun K hK => ?_) AllReadyH.nil
      go_simp
      refine (c2 _).mono ?_
      rintro e wf8 ⟨rfl, hb⟩
      replace HT := (show Hid (wf8.there g 0 64) from there_below hb HT.out HL.out.2)
      replace HL := (show Hid (we.heap.size ≤ g ∧ g < wf8.heap.size) from ⟨HL.out.1, Nat.lt_of_lt_of_le HL.out.2 hb.size⟩)
      have hS2 : Below we.heap.size we wf8 := hS.trans (hb.mono hS.size)
      refine hK.out _ _ hS2 (fun hS => ?_)
      clear hK K hb hS2 
      try simp only [Act.put, List.setIfInBounds_toArray, List.set_cons_zero, List.set_cons_succ, List.getElem_toArray, List.getElem_cons_succ, List.getElem_cons_zero]
      refine wpAnyH_take (i := 3) (v := .tuple #[.agg T.toArray, .nilIface]) rfl (by kernel_rfl) (by kernel_rfl) (by kernel_rfl) (fun _ _ _ h => h) (Or.inl ⟨by kernel_rfl, fun wq hS => by go_simp⟩) hS ?_
      try simp only [Act.put, List.setIfInBounds_toArray, List.set_cons_zero, List.set_cons_succ, List.getElem_toArray, List.getElem_cons_succ, List.getElem_cons_zero]
      refine wpAnyH_take (i := 4) (v := .agg T.toArray) rfl (by kernel_rfl) (by kernel_rfl) (by kernel_rfl) (fun _ _ _ h => h) (Or.inl ⟨by kernel_rfl, fun wq hS => by go_simp⟩) hS ?_
      try simp only [Act.put, List.setIfInBounds_toArray, List.set_cons_zero, List.set_cons_succ, List.getElem_toArray, List.getElem_cons_succ, List.getElem_cons_zero]
      refine wpAnyH_take (i := 5) (v := .nilIface) rfl (by kernel_rfl) (by kernel_rfl) (by kernel_rfl) (fun _ _ _ h => h) (Or.inl ⟨by kernel_rfl, fun wq hS => by go_simp⟩) hS ?_
      try simp only [Act.put, List.setIfInBounds_toArray, List.set_cons_zero, List.set_cons_succ, List.getElem_toArray, List.getElem_cons_succ, List.getElem_cons_zero]
      refine wpAnyH_ready (rs := [7]) (by kernel_rfl) (by simp) ?_
      refine AllReadyH.cons rfl (fun K hK => ?_) AllReadyH.nil
      refine want_it (by kernel_rfl) ?_
      refine wp_store_mid 43 (.tmp 4) (.tmp 12) rfl g 0 T.toArray rfl rfl (LT.out.t (N := we.heap.size) ⟨HL.out.1, HL.out.2, HT.out⟩) LT.out.j LT.out.o ?_
      simp only
      have hS2 : Below we.heap.size we (wf8.setCells g 0 T) := below_setCells hS HL.out.1
      refine hK.out _ _ hS2 (fun hS => ?_)
      clear hK K hS2
      try simp only [Act.put, List.getElem_toArray, List.getElem_cons_succ, List.getElem_cons_zero]
      refine wpAnyH_ready (rs := [8]) (by kernel_rfl) (by simp) ?_
      refine AllReadyH.cons rfl (fun K hK => ?_) AllReadyH.nil
      go_simp
      refine hK.out _ _ hS (fun hS => ?_)
      clear hK K
      try simp only [Act.put, List.setIfInBounds_toArray, List.set_cons_zero, List.set_cons_succ, List.getElem_toArray, List.getElem_cons_succ, List.getElem_cons_zero]
      refine wpAnyH_done (by kernel_rfl) ?_ _
      go_wp2
      go_meet
      case rel => exact ⟨g, rfl, rfl, ⟨hS, float_box43 LT.out HT.out HL.out.2⟩⟩
  case rest =>
    obtain ⟨g, rfl, rfl, HR⟩ := hcut
    have BK2 := (show Hid (Rp wc n 0 K) from BK.out.below HR.out.1)
    have AO2 := (show Hid (Ao w.heap.size wc (n + 1) 64) from AO.out.below HR.out.1)
    have BT2 := (show Hid (Rp wc g 0 T) from HR.out.2)
    have HB3 := (show Hid (Below w.heap.size w wc) from HBE.out.trans (HR.out.1.mono HBE.out.size))
    have r0 := HCK.out BK2.out
    clear HR BK AO HBE c1 c2 HCK
    have HT := (show Hid _ from LT.out.t AO2.out)
    go_wp2_with (first
      | (refine wpList_load_mid rfl 43 (.tmp 4) rfl g 0 rfl T _ BT2.out.1 Try.underlying43 rfl LT.out.i ?_)
      | (refine wpList_store_mid rfl 43 (.tmp 2) (.tmp 33) rfl (n + 1) 0 T.toArray rfl rfl HT.out LT.out.j LT.out.o ?_; simp only))
    exact bodyPost_ret (res_ct Try.results33 rfl (end43 LT.out AO2.out) rfl) rfl ⟨rfl, below_setCells HB3.out AO2.out.1⟩
end Fd
end Go.Proofs.Ytgdekigdbbldoaa
