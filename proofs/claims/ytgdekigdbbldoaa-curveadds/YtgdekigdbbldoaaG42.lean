/- What the statements' some answers: a point of the curve. The reference's Neg and Out: contracts, by walking their texts. -/
import Derived.Test.YtgdekigdbbldoaaG39
import Derived.Test.YtgdekigdbbldoaaG41
import Derived.Test.YtgdekigdbbldoaaG31
namespace Go.Proofs.Ytgdekigdbbldoaa
open Go.RowKit
namespace Fd
open Rg Cv Bx

theorem float_box43 {w : World} {g : Nat} {R : List Value} (hR : L64 R) (h1 : w.there g 0 64) (h2 : g < w.heap.size) : Rp (w.setCells g 0 R) g 0 R :=
  ⟨World.rangeAt_setCells_same _ _ _ _ (by rw [hR.l]; exact h1), by rw [size_setCells]; exact h2⟩
theorem yieldsIf_build {P : Program} {ops : Array Oper} {S : World → Prop} {op : Oper} {a : Act} (hw : Region.wanted op (yielded ops a.tmps) = true) (t : TypeId) (parts : Array (Nat × Operand)) (ho : op.op = .build t parts)
    (L : List (Nat × Value)) (hL : (parts.map fun ((i, x) : Nat × Operand) => (i, a.eval x)).toList = L) (cells : List Value) (hb : P.built t L = some cells.toArray) : YieldsIf P ops S op (.agg cells.toArray) a :=
  .inl ⟨hw, fun w _ => by
    rw [← hL] at hb
    unfold execOp
    simp only [ho, Sem.run_bind, run_build w t _ _ hb, Result.andThen_ok]
    rfl⟩
namespace Cv
def B : Pt := ⟨tf baseX, tf baseY⟩
theorem B_on : B.on := (onC_on baseX baseY).1 base_on
/-- The point of order 2. -/
def T2 : Pt := ⟨tf 0, tf (p - 1)⟩
theorem t2C : OnC 0 (p - 1) := by decide +kernel
theorem T2_on : T2.on := (onC_on 0 (p - 1)).1 t2C
def someP (k : Nat) : Pt := if by_ k 0 % 3 = 0 then add (ptm k B 256) T2 else ptm k B 256
theorem someP_on (k : Nat) : (someP k).on := by
  unfold someP
  split
  · exact add_on (ptm_on k B_on 256) T2_on
  · exact ptm_on k B_on 256
theorem pt_C {P : Pt} (h : P.on) : OnC P.x.val P.y.val := (onC_on _ _).2 (by rw [tf_of, tf_of]; exact h)
end Cv
set_option maxHeartbeats 8000000 in
set_option maxRecDepth 8000 in
theorem some_plain (k : Nat) (w : World) (h3 : ¬ by_ k 0 % 3 = 0) :
    Calls Try.prog 33 #[bv k] w fun e w' => e = .returned (.tuple #[pv (someP k).x.val (someP k).y.val, .bool true]) ∧ Below w.heap.size w w' := by
  have c1 : ∀ W : World, Calls Try.prog 30 #[] W fun e w' => e = .returned (pv baseX baseY) ∧ Below W.heap.size W w' := base_any
  have c2 : ∀ W : World, Calls Try.prog 41 #[bv k, pv baseX baseY] W fun e w' => e = .returned (.tuple #[pv (ptm k B 256).x.val (ptm k B 256).y.val, .nilIface]) ∧ Below W.heap.size W w' := fun W => times_pt k baseX baseY W bx_lt by_lt' base_on
  have hon := pt_C (ptm_on k B_on 256)
  have lx := big (ptm k B 256).x
  have ly := big (ptm k B 256).y
  have e : someP k = ptm k B 256 := by unfold someP; rw [if_neg h3]
  rw [e]
  obtain ⟨r3, hr3⟩ : ∃ r, by_ k 0 % 3 = r := ⟨_, rfl⟩
  have hm3 : Int.tmod ((by_ k 0 : Nat) : Int) 3 = (r3 : Int) := by rw [Int.tmod_eq_emod_of_nonneg (by omega)]; omega
  have hm4 : ¬ (r3 : Int) = 0 := by omega
  have hm5 : IntKind.u8.wrap (r3 : Int) = (r3 : Int) := by rw [IntKind.wrap_u8]; omega
  obtain ⟨tx, htx⟩ : ∃ v, (ptm k B 256).x.val = v := ⟨_, rfl⟩
  obtain ⟨ty, hty⟩ : ∃ v, (ptm k B 256).y.val = v := ⟨_, rfl⟩
  rw [htx, hty] at c2 ⊢
  have en := eq_nil
  have HCK : Hid (∀ {W : World} {b : Nat}, Rp W b 0 (bvc k) → W.cell? ⟨b, 0, none⟩ = some (.int .u8 ((by_ k 0 : Nat) : Int))) := fun {W b} h => by have h2 := h.1 0 _ (bvc_at k 0 (by decide)); rwa [Nat.zero_add] at h2
  unfold pv at c1 c2 ⊢
  unfold bv at c2 ⊢
  have LK : Hid (L32 (bvc k)) := l32 k
  have LT : Hid (L64 (bvc tx ++ bvc ty)) := l64 _ _
  have HS := (show Hid _ from start22p w (bvc k))
  obtain ⟨V, hV⟩ : ∃ X, bvc baseX ++ bvc baseY = X := ⟨_, rfl⟩
  rw [hV] at c1 c2
  obtain ⟨T, hT⟩ : ∃ X, bvc tx ++ bvc ty = X := ⟨_, rfl⟩
  rw [hT] at c2 LT ⊢
  obtain ⟨K, hK⟩ : ∃ X, bvc k = X := ⟨_, rfl⟩
  rw [hK] at c2 LK HS HCK ⊢
  obtain ⟨b0, hb0⟩ : ∃ b, by_ k 0 = b := ⟨_, rfl⟩
  rw [hb0] at hm3 HCK
  clear hV hT hK hb0 htx hty hon lx ly e hr3
  have hz22 := zero22
  have hz43 := zero43
  have HTT43 : Hid _ := there43
  obtain ⟨Z43, hZ43⟩ : ∃ Z, z43 = Z := ⟨_, rfl⟩
  rw [hZ43] at hz43 HTT43 HS
  clear hZ43 hz22
  obtain ⟨n, hn⟩ : ∃ n, w.heap.size = n := ⟨_, rfl⟩
  have HN : Hid (w.heap.size = n) := hn
  obtain ⟨we, hwe⟩ : ∃ v, (w.alloc (.cells K.toArray 22)).alloc (.cells Z43 43) = v := ⟨_, rfl⟩
  have BK : Hid (Rp we n 0 K) := by have h := HS.out.1; rw [hwe, HN.out] at h; exact h
  have AO : Hid (Ao w.heap.size we (n + 1) 64) := by have h := HS.out.2.1; rw [hwe, HN.out] at h; show Ao _ _ _ _; rw [HN.out]; exact h
  have HBE : Hid (Below w.heap.size w we) := by have h := HS.out.2.2; rw [hwe] at h; exact h
  clear HS
  go_enter Try.func33, Try.ntmps33
  go_upto_region 1 with (fail)
  clear hwe
  go_cut [4, 5] from 8 to 13 (fun s e wx => ∃ g, s = .pointer (some ⟨g, 0, none⟩) ∧ e = .nilIface ∧ Hid (Below we.heap.size we wx ∧ Rp wx g 0 T))
  case first =>
    refine wp_region_held_drew (S := fun w' => Below we.heap.size we w') (by kernel_rfl) (drewB we) (fun hS => ?_)
    obtain ⟨wd, hwd⟩ : ∃ v, World.drew we = v := ⟨_, rfl⟩
    rw [hwd] at hS ⊢
    clear hwd
    refine wpAnyH_take (i := 0) (v := .agg K.toArray) rfl (by kernel_rfl) (by kernel_rfl) (by kernel_rfl) (fun _ _ _ h => h) (yieldsIf_load_mid (by kernel_rfl) 22 (.tmp 1) rfl n 0 rfl K _ (fun wq hq => Rg.Below.range hq BK.out.1 BK.out.2) Try.underlying22 rfl LK.out.i) hS ?_
    try simp only [Act.put, List.setIfInBounds_toArray, List.set_cons_zero, List.set_cons_succ, List.getElem_toArray, List.getElem_cons_zero]
    refine wpAnyH_ready (rs := [1, 6]) (by kernel_rfl) (by simp) ?_
    refine AllReadyH.cons rfl (fun K hK => ?_) (AllReadyH.cons rfl (fun K hK => ?_) AllReadyH.nil)
    · go_simp
      refine (c1 _).mono ?_
      rintro e wf1 ⟨rfl, hb⟩
      have hS2 : Below we.heap.size we wf1 := hS.trans (hb.mono hS.size)
      refine hK.out _ _ hS2 (fun hS => ?_)
      clear hK K hb hS2 
      try simp only [Act.put, List.setIfInBounds_toArray, List.set_cons_zero, List.set_cons_succ, List.getElem_toArray, List.getElem_cons_succ, List.getElem_cons_zero]
      refine wpAnyH_ready (rs := [2, 6]) (by kernel_rfl) (by simp) ?_
      refine AllReadyH.cons rfl (fun K hK => ?_) (AllReadyH.cons rfl (fun K hK => ?_) AllReadyH.nil)
      · go_simp
        refine (c2 _).mono ?_
        rintro e wf2 ⟨rfl, hb⟩
        have hS2 : Below we.heap.size we wf2 := hS.trans (hb.mono hS.size)
        refine hK.out _ _ hS2 (fun hS => ?_)
        clear hK K hb hS2 
        try simp only [Act.put, List.setIfInBounds_toArray, List.set_cons_zero, List.set_cons_succ, List.getElem_toArray, List.getElem_cons_succ, List.getElem_cons_zero]
        refine wpAnyH_take (i := 3) (v := .tuple #[.agg T.toArray, .nilIface]) rfl (by kernel_rfl) (by kernel_rfl) (by kernel_rfl) (fun _ _ _ h => h) (Or.inl ⟨by kernel_rfl, fun wq hS => by go_simp⟩) hS ?_
        try simp only [Act.put, List.setIfInBounds_toArray, List.set_cons_zero, List.set_cons_succ, List.getElem_toArray, List.getElem_cons_succ, List.getElem_cons_zero]
        refine wpAnyH_take (i := 4) (v := .agg T.toArray) rfl (by kernel_rfl) (by kernel_rfl) (by kernel_rfl) (fun _ _ _ h => h) (Or.inl ⟨by kernel_rfl, fun wq hS => by go_simp⟩) hS ?_
        try simp only [Act.put, List.setIfInBounds_toArray, List.set_cons_zero, List.set_cons_succ, List.getElem_toArray, List.getElem_cons_succ, List.getElem_cons_zero]
        refine wpAnyH_take (i := 5) (v := .nilIface) rfl (by kernel_rfl) (by kernel_rfl) (by kernel_rfl) (fun _ _ _ h => h) (Or.inl ⟨by kernel_rfl, fun wq hS => by go_simp⟩) hS ?_
        try simp only [Act.put, List.setIfInBounds_toArray, List.set_cons_zero, List.set_cons_succ, List.getElem_toArray, List.getElem_cons_succ, List.getElem_cons_zero]
        refine wpAnyH_ready (rs := [6]) (by kernel_rfl) (by simp) ?_
        refine AllReadyH.cons rfl (fun K hK => ?_) AllReadyH.nil
        go_simp
        have HT := (show Hid _ from HTT43.out wf2)
        have HL : Hid (we.heap.size ≤ wf2.heap.size ∧ wf2.heap.size < (wf2.alloc (.cells Z43 43)).heap.size) := ⟨hS.size, by rw [size_alloc]; omega⟩
        have hb : Below wf2.heap.size wf2 (wf2.alloc (.cells Z43 43)) := (Below.refl _ _).alloc (Nat.le_refl _) _
        refine hK.out _ _ (hS.alloc hS.size _) (fun hS => ?_)
        clear hK K
        try simp only [Act.put, List.setIfInBounds_toArray, List.set_cons_zero, List.set_cons_succ, List.getElem_toArray, List.getElem_cons_succ, List.getElem_cons_zero]
        obtain ⟨wf3, hwf3⟩ : ∃ v, wf2.alloc (.cells Z43 43) = v := ⟨_, rfl⟩
        rw [hwf3] at HT HL hb hS ⊢
        obtain ⟨g, hg⟩ : ∃ g, wf2.heap.size = g := ⟨_, rfl⟩
        rw [hg] at HT HL ⊢
        clear hg hwf3 hb
        refine wpAnyH_ready (rs := [7]) (by kernel_rfl) (by simp) ?_
        refine AllReadyH.cons rfl (fun K hK => ?_) AllReadyH.nil
        refine want_it (by kernel_rfl) ?_
        refine wp_store_mid 43 (.tmp 4) (.tmp 12) rfl g 0 T.toArray rfl rfl (LT.out.t (N := we.heap.size) ⟨HL.out.1, HL.out.2, HT.out⟩) LT.out.j LT.out.o ?_
        simp only
        have hS2 : Below we.heap.size we (wf3.setCells g 0 T) := below_setCells hS HL.out.1
        refine hK.out _ _ hS2 (fun hS => ?_)
        clear hK K hS2
        try simp only [Act.put, List.getElem_toArray, List.getElem_cons_succ, List.getElem_cons_zero]
        refine wpAnyH_ready (rs := [8]) (by kernel_rfl) (by simp) ?_
        refine AllReadyH.cons rfl (fun K hK => ?_) AllReadyH.nil
        go_simp
        refine hK.out _ _ hS (fun hS => ?_)
        clear hK K
        try simp only [Act.put, List.setIfInBounds_toArray, List.set_cons_zero, List.set_cons_succ, List.getElem_toArray, List.getElem_cons_succ, List.getElem_cons_zero]
        refine wpAnyH_done (by kernel_rfl) ?_ _
        go_wp2
        go_meet
        case rel => exact ⟨g, rfl, rfl, ⟨hS, float_box43 LT.out HT.out HL.out.2⟩⟩
      · go_simp
        have HT := (show Hid _ from HTT43.out wf1)
        have HL : Hid (we.heap.size ≤ wf1.heap.size ∧ wf1.heap.size < (wf1.alloc (.cells Z43 43)).heap.size) := ⟨hS.size, by rw [size_alloc]; omega⟩
        have hb : Below wf1.heap.size wf1 (wf1.alloc (.cells Z43 43)) := (Below.refl _ _).alloc (Nat.le_refl _) _
        refine hK.out _ _ (hS.alloc hS.size _) (fun hS => ?_)
        clear hK K
        try simp only [Act.put, List.setIfInBounds_toArray, List.set_cons_zero, List.set_cons_succ, List.getElem_toArray, List.getElem_cons_succ, List.getElem_cons_zero]
        obtain ⟨wf4, hwf4⟩ : ∃ v, wf1.alloc (.cells Z43 43) = v := ⟨_, rfl⟩
        rw [hwf4] at HT HL hb hS ⊢
        obtain ⟨g, hg⟩ : ∃ g, wf1.heap.size = g := ⟨_, rfl⟩
        rw [hg] at HT HL ⊢
        clear hg hwf4 hb
        refine wpAnyH_ready (rs := [2]) (by kernel_rfl) (by simp) ?_
        refine AllReadyH.cons rfl (fun K hK => ?_) AllReadyH.nil
        go_simp
        refine (c2 _).mono ?_
        rintro e wf5 ⟨rfl, hb⟩
        replace HT := (show Hid (wf5.there g 0 64) from there_below hb HT.out HL.out.2)
        replace HL := (show Hid (we.heap.size ≤ g ∧ g < wf5.heap.size) from ⟨HL.out.1, Nat.lt_of_lt_of_le HL.out.2 hb.size⟩)
        have hS2 : Below we.heap.size we wf5 := hS.trans (hb.mono hS.size)
        refine hK.out _ _ hS2 (fun hS => ?_)
        clear hK K hb hS2 
        try simp only [Act.put, List.setIfInBounds_toArray, List.set_cons_zero, List.set_cons_succ, List.getElem_toArray, List.getElem_cons_succ, List.getElem_cons_zero]
        refine wpAnyH_take (i := 3) (v := .tuple #[.agg T.toArray, .nilIface]) rfl (by kernel_rfl) (by kernel_rfl) (by kernel_rfl) (fun _ _ _ h => h) (Or.inl ⟨by kernel_rfl, fun wq hS => by go_simp⟩) hS ?_
        try simp only [Act.put, List.setIfInBounds_toArray, List.set_cons_zero, List.set_cons_succ, List.getElem_toArray, List.getElem_cons_succ, List.getElem_cons_zero]
        refine wpAnyH_take (i := 4) (v := .agg T.toArray) rfl (by kernel_rfl) (by kernel_rfl) (by kernel_rfl) (fun _ _ _ h => h) (Or.inl ⟨by kernel_rfl, fun wq hS => by go_simp⟩) hS ?_
        try simp only [Act.put, List.setIfInBounds_toArray, List.set_cons_zero, List.set_cons_succ, List.getElem_toArray, List.getElem_cons_succ, List.getElem_cons_zero]
        refine wpAnyH_take (i := 5) (v := .nilIface) rfl (by kernel_rfl) (by kernel_rfl) (by kernel_rfl) (fun _ _ _ h => h) (Or.inl ⟨by kernel_rfl, fun wq hS => by go_simp⟩) hS ?_
        try simp only [Act.put, List.setIfInBounds_toArray, List.set_cons_zero, List.set_cons_succ, List.getElem_toArray, List.getElem_cons_succ, List.getElem_cons_zero]
        refine wpAnyH_ready (rs := [7]) (by kernel_rfl) (by simp) ?_
        refine AllReadyH.cons rfl (fun K hK => ?_) AllReadyH.nil
        refine want_it (by kernel_rfl) ?_
        refine wp_store_mid 43 (.tmp 4) (.tmp 12) rfl g 0 T.toArray rfl rfl (LT.out.t (N := we.heap.size) ⟨HL.out.1, HL.out.2, HT.out⟩) LT.out.j LT.out.o ?_
        simp only
        have hS2 : Below we.heap.size we (wf5.setCells g 0 T) := below_setCells hS HL.out.1
        refine hK.out _ _ hS2 (fun hS => ?_)
        clear hK K hS2
        try simp only [Act.put, List.getElem_toArray, List.getElem_cons_succ, List.getElem_cons_zero]
        refine wpAnyH_ready (rs := [8]) (by kernel_rfl) (by simp) ?_
        refine AllReadyH.cons rfl (fun K hK => ?_) AllReadyH.nil
        go_simp
        refine hK.out _ _ hS (fun hS => ?_)
        clear hK K
        try simp only [Act.put, List.setIfInBounds_toArray, List.set_cons_zero, List.set_cons_succ, List.getElem_toArray, List.getElem_cons_succ, List.getElem_cons_zero]
        refine wpAnyH_done (by kernel_rfl) ?_ _
        go_wp2
        go_meet
        case rel => exact ⟨g, rfl, rfl, ⟨hS, float_box43 LT.out HT.out HL.out.2⟩⟩
    · go_simp
      have HT := (show Hid _ from HTT43.out wd)
      have HL : Hid (we.heap.size ≤ wd.heap.size ∧ wd.heap.size < (wd.alloc (.cells Z43 43)).heap.size) := ⟨hS.size, by rw [size_alloc]; omega⟩
      have hb : Below wd.heap.size wd (wd.alloc (.cells Z43 43)) := (Below.refl _ _).alloc (Nat.le_refl _) _
      refine hK.out _ _ (hS.alloc hS.size _) (fun hS => ?_)
      clear hK K
      try simp only [Act.put, List.setIfInBounds_toArray, List.set_cons_zero, List.set_cons_succ, List.getElem_toArray, List.getElem_cons_succ, List.getElem_cons_zero]
      obtain ⟨wf6, hwf6⟩ : ∃ v, wd.alloc (.cells Z43 43) = v := ⟨_, rfl⟩
      rw [hwf6] at HT HL hb hS ⊢
      obtain ⟨g, hg⟩ : ∃ g, wd.heap.size = g := ⟨_, rfl⟩
      rw [hg] at HT HL ⊢
      clear hg hwf6 hb
      refine wpAnyH_ready (rs := [1]) (by kernel_rfl) (by simp) ?_
      refine AllReadyH.cons rfl (fun K hK => ?_) AllReadyH.nil
      go_simp
      refine (c1 _).mono ?_
      rintro e wf7 ⟨rfl, hb⟩
      replace HT := (show Hid (wf7.there g 0 64) from there_below hb HT.out HL.out.2)
      replace HL := (show Hid (we.heap.size ≤ g ∧ g < wf7.heap.size) from ⟨HL.out.1, Nat.lt_of_lt_of_le HL.out.2 hb.size⟩)
      have hS2 : Below we.heap.size we wf7 := hS.trans (hb.mono hS.size)
      refine hK.out _ _ hS2 (fun hS => ?_)
      clear hK K hb hS2 
      try simp only [Act.put, List.setIfInBounds_toArray, List.set_cons_zero, List.set_cons_succ, List.getElem_toArray, List.getElem_cons_succ, List.getElem_cons_zero]
      refine wpAnyH_ready (rs := [2]) (by kernel_rfl) (by simp) ?_
      refine AllReadyH.cons rfl (fun K hK => ?_) AllReadyH.nil
      go_simp
      refine (c2 _).mono ?_
      rintro e wf8 ⟨rfl, hb⟩
      replace HT := (show Hid (wf8.there g 0 64) from there_below hb HT.out HL.out.2)
      replace HL := (show Hid (we.heap.size ≤ g ∧ g < wf8.heap.size) from ⟨HL.out.1, Nat.lt_of_lt_of_le HL.out.2 hb.size⟩)
      have hS2 : Below we.heap.size we wf8 := hS.trans (hb.mono hS.size)
      refine hK.out _ _ hS2 (fun hS => ?_)
      clear hK K hb hS2 
      try simp only [Act.put, List.setIfInBounds_toArray, List.set_cons_zero, List.set_cons_succ, List.getElem_toArray, List.getElem_cons_succ, List.getElem_cons_zero]
      refine wpAnyH_take (i := 3) (v := .tuple #[.agg T.toArray, .nilIface]) rfl (by kernel_rfl) (by kernel_rfl) (by kernel_rfl) (fun _ _ _ h => h) (Or.inl ⟨by kernel_rfl, fun wq hS => by go_simp⟩) hS ?_
      try simp only [Act.put, List.setIfInBounds_toArray, List.set_cons_zero, List.set_cons_succ, List.getElem_toArray, List.getElem_cons_succ, List.getElem_cons_zero]
      refine wpAnyH_take (i := 4) (v := .agg T.toArray) rfl (by kernel_rfl) (by kernel_rfl) (by kernel_rfl) (fun _ _ _ h => h) (Or.inl ⟨by kernel_rfl, fun wq hS => by go_simp⟩) hS ?_
      try simp only [Act.put, List.setIfInBounds_toArray, List.set_cons_zero, List.set_cons_succ, List.getElem_toArray, List.getElem_cons_succ, List.getElem_cons_zero]
      refine wpAnyH_take (i := 5) (v := .nilIface) rfl (by kernel_rfl) (by kernel_rfl) (by kernel_rfl) (fun _ _ _ h => h) (Or.inl ⟨by kernel_rfl, fun wq hS => by go_simp⟩) hS ?_
      try simp only [Act.put, List.setIfInBounds_toArray, List.set_cons_zero, List.set_cons_succ, List.getElem_toArray, List.getElem_cons_succ, List.getElem_cons_zero]
      refine wpAnyH_ready (rs := [7]) (by kernel_rfl) (by simp) ?_
      refine AllReadyH.cons rfl (fun K hK => ?_) AllReadyH.nil
      refine want_it (by kernel_rfl) ?_
      refine wp_store_mid 43 (.tmp 4) (.tmp 12) rfl g 0 T.toArray rfl rfl (LT.out.t (N := we.heap.size) ⟨HL.out.1, HL.out.2, HT.out⟩) LT.out.j LT.out.o ?_
      simp only
      have hS2 : Below we.heap.size we (wf8.setCells g 0 T) := below_setCells hS HL.out.1
      refine hK.out _ _ hS2 (fun hS => ?_)
      clear hK K hS2
      try simp only [Act.put, List.getElem_toArray, List.getElem_cons_succ, List.getElem_cons_zero]
      refine wpAnyH_ready (rs := [8]) (by kernel_rfl) (by simp) ?_
      refine AllReadyH.cons rfl (fun K hK => ?_) AllReadyH.nil
      go_simp
      refine hK.out _ _ hS (fun hS => ?_)
      clear hK K
      try simp only [Act.put, List.setIfInBounds_toArray, List.set_cons_zero, List.set_cons_succ, List.getElem_toArray, List.getElem_cons_succ, List.getElem_cons_zero]
      refine wpAnyH_done (by kernel_rfl) ?_ _
      go_wp2
      go_meet
      case rel => exact ⟨g, rfl, rfl, ⟨hS, float_box43 LT.out HT.out HL.out.2⟩⟩
  case rest =>
    obtain ⟨g, rfl, rfl, HR⟩ := hcut
    have BK2 := (show Hid (Rp wc n 0 K) from BK.out.below HR.out.1)
    have AO2 := (show Hid (Ao w.heap.size wc (n + 1) 64) from AO.out.below HR.out.1)
    have BT2 := (show Hid (Rp wc g 0 T) from HR.out.2)
    have HB3 := (show Hid (Below w.heap.size w wc) from HBE.out.trans (HR.out.1.mono HBE.out.size))
    have r0 := HCK.out BK2.out
    clear HR BK AO HBE c1 c2 HCK
    have HT := (show Hid _ from LT.out.t AO2.out)
    go_wp2_with (first
      | (refine wpList_load_mid rfl 43 (.tmp 4) rfl g 0 rfl T _ BT2.out.1 Try.underlying43 rfl LT.out.i ?_)
      | (refine wpList_store_mid rfl 43 (.tmp 2) (.tmp 33) rfl (n + 1) 0 T.toArray rfl rfl HT.out LT.out.j LT.out.o ?_; simp only))
    exact bodyPost_ret (res_ct Try.results33 rfl (end43 LT.out AO2.out) rfl) rfl ⟨rfl, below_setCells HB3.out AO2.out.1⟩
end Fd
end Go.Proofs.Ytgdekigdbbldoaa

namespace Go.Proofs.Ytgdekigdbbldoaa
open Go.RowKit
namespace Fd
open Rg
theorem Rp.sets {w : World} {b o : Nat} {R : List Value} (h : Rp w b o R) {c : Nat} (hne : b ≠ c) (k : Nat) (vs : List Value) : Rp (w.setCells c k vs) b o R := ⟨World.rangeAt_setCells_apart h.1 _ _ _ (.inl hne), by rw [size_setCells]; exact h.2⟩
theorem Ao.sets {N : Nat} {w : World} {b n : Nat} (h : Ao N w b n) (c k : Nat) (vs : List Value) : Ao N (w.setCells c k vs) b n := ⟨h.1, by rw [size_setCells]; exact h.2.1, World.there_setCells h.2.2 _ _ _⟩
theorem Rp.c0 {w : World} {b : Nat} {u v z : Value} (h : Rp w b 0 [u, v, z]) : w.cell? ⟨b, 0, none⟩ = some u := by have h2 := h.1 0 u rfl; rwa [Nat.zero_add] at h2
theorem Rp.c1 {w : World} {b : Nat} {u v z : Value} (h : Rp w b 0 [u, v, z]) : w.cell? ⟨b, 1, none⟩ = some v := by have h2 := h.1 1 v rfl; rwa [Nat.zero_add] at h2
theorem Rp.c2 {w : World} {b : Nat} {u v z : Value} (h : Rp w b 0 [u, v, z]) : w.cell? ⟨b, 2, none⟩ = some z := by have h2 := h.1 2 z rfl; rwa [Nat.zero_add] at h2
/-- A box of a number of three parts, and the answer's, a point. -/
theorem start54p (w : World) (V : List Value) :
    let e := (w.alloc (.cells V.toArray 54)).alloc (.cells z43 43)
    Rp e w.heap.size 0 V ∧ Ao w.heap.size e (w.heap.size + 1) 64 ∧ Below w.heap.size w e := by
  intro e
  have ht := there43 (w.alloc (.cells V.toArray 54))
  rw [size_alloc] at ht
  refine ⟨Rp.below ⟨Rg.range_new w V 54, by rw [size_alloc]; omega⟩ ((Below.refl _ _).alloc (Nat.le_refl _) _), ⟨by omega, ?_, ht⟩, ((Below.refl _ _).alloc (Nat.le_refl _) _).alloc (by simp) _⟩
  show _ < (World.alloc _ _).heap.size
  rw [size_alloc, size_alloc]
  omega
end Fd
namespace Dt
open Rg Go.Proofs.Ytgdekigdbbldoaa.Fd

set_option maxHeartbeats 1000000 in
set_option maxRecDepth 4000 in
theorem rneg_any (x y : Nat) (w : World) (hx : x < 115792089237316195423570985008687907853269984665640564039457584007913129639936) (hy : y < 115792089237316195423570985008687907853269984665640564039457584007913129639936) :
    Calls Try.prog 40 #[pv x y] w fun e w' => e = .returned (pv (subp 0 x) (redp y)) ∧ Below w.heap.size w w' := by
  have CX : Hid (∀ W : World, Calls Try.prog 14 #[.agg (bvc x).toArray] W fun e w' => ∃ r, e = .returned r ∧ Num w' r (x % p) ∧ Below W.heap.size W w') := fun W => in_any x W (two256' hx)
  have CY : Hid (∀ W : World, Calls Try.prog 14 #[.agg (bvc y).toArray] W fun e w' => ∃ r, e = .returned r ∧ Num w' r (y % p) ∧ Below W.heap.size W w') := fun W => in_any y W (two256' hy)
  have CS : Hid (∀ (W : World) (u v : Value), Num W u 0 → Num W v (x % p) → Calls Try.prog 19 #[u, v] W fun e w' => ∃ r, e = .returned r ∧ Num w' r (subp 0 x) ∧ Below W.heap.size W w') := fun W u v h1 h2 => sub_num h1 h2 (by decide) (modp _)
  have C3 : Hid (∀ (W : World) (u : Value), Num W u (subp 0 x) → Calls Try.prog 16 #[u] W fun e w' => e = .returned (.agg (bvc (subp 0 x)).toArray) ∧ Below W.heap.size W w') := fun W u h => bytes_num h
  have C4 : Hid (∀ (W : World) (u : Value), Num W u (y % p) → Calls Try.prog 16 #[u] W fun e w' => e = .returned (.agg (bvc (y % p)).toArray) ∧ Below W.heap.size W w') := fun W u h => bytes_num h
  have er : redp y = y % p := rfl
  rw [er]
  have HBP : Hid (Try.prog.built 43 [(0, .agg (bvc (subp 0 x)).toArray), (1, .agg (bvc (y % p)).toArray)] = some (bvc (subp 0 x) ++ bvc (y % p)).toArray) := build_point _ _ (bvc_len _) (bvc_len _)
  have LE : Hid (L64 (bvc (subp 0 x) ++ bvc (y % p))) := l64 _ _
  unfold pv
  have LX : Hid (L32 (bvc x)) := l32 x
  have LY : Hid (L32 (bvc y)) := l32 y
  have HS := (show Hid _ from startp w (bvc x) (bvc y) (bvc_len x))
  obtain ⟨V, hV⟩ : ∃ Z, bvc x ++ bvc y = Z := ⟨_, rfl⟩
  rw [hV] at HS ⊢
  obtain ⟨E, hE⟩ : ∃ Z, bvc (subp 0 x) ++ bvc (y % p) = Z := ⟨_, rfl⟩
  rw [hE] at HBP LE ⊢
  obtain ⟨X, hX⟩ : ∃ Z, bvc x = Z := ⟨_, rfl⟩
  rw [hX] at CX LX HS
  obtain ⟨Y, hY⟩ : ∃ Z, bvc y = Z := ⟨_, rfl⟩
  rw [hY] at CY LY HS
  obtain ⟨SX, hSX⟩ : ∃ Z, bvc (subp 0 x) = Z := ⟨_, rfl⟩
  rw [hSX] at C3 HBP
  obtain ⟨RY, hRY⟩ : ∃ Z, bvc (y % p) = Z := ⟨_, rfl⟩
  rw [hRY] at C4 HBP
  obtain ⟨a, ha⟩ : ∃ a, x % p = a := ⟨_, rfl⟩
  obtain ⟨c, hc⟩ : ∃ a, y % p = a := ⟨_, rfl⟩
  obtain ⟨d, hd⟩ : ∃ a, subp 0 x = a := ⟨_, rfl⟩
  rw [ha] at CX CS
  rw [hc] at CY C4
  rw [hd] at CS C3
  clear hV hE hX hY hSX hRY ha hc hd er hx hy x y
  have hz2 := zero43
  obtain ⟨Z43, hZ2⟩ : ∃ Z, z43 = Z := ⟨_, rfl⟩
  rw [hZ2] at hz2 HS
  clear hZ2
  obtain ⟨n, hn⟩ : ∃ n, w.heap.size = n := ⟨_, rfl⟩
  have HN : Hid (w.heap.size = n) := hn
  obtain ⟨we, hwe⟩ : ∃ v, (w.alloc (.cells V.toArray 43)).alloc (.cells Z43 43) = v := ⟨_, rfl⟩
  have BX : Hid (Rp we n 0 X) := by have h := HS.out.1; rw [hwe, HN.out] at h; exact h
  have BY : Hid (Rp we n 32 Y) := by have h := HS.out.2.1; rw [hwe, HN.out] at h; exact h
  have AO : Hid (Ao w.heap.size we (n + 1) 64) := by have h := HS.out.2.2.1; rw [hwe] at h; show Ao _ _ _ _; rw [HN.out] at h ⊢; exact h
  have HBE : Hid (Below w.heap.size w we) := by have h := HS.out.2.2.2; rw [hwe] at h; exact h
  clear HS
  have BX_0 := BX
  have BY_0 := BY
  have AO_0 := AO
  have HB_0 := (show Hid (Below we.heap.size we we) from Below.refl _ _)
  have TK_0 := (show Hid True from trivial)
  clear BX BY AO
  go_enter Try.func40, Try.ntmps40
  go_wp2_with (first
    | (refine wpList_load_mid rfl 22 (.tmp 4) rfl n 0 rfl X _ BX_0.out.1 Try.underlying22 rfl LX.out.i ?_)
    | (refine wpList_load_mid rfl 22 (.tmp 4) rfl n 0 rfl X _ BX_1.out.1 Try.underlying22 rfl LX.out.i ?_)
    | (refine wpList_load_mid rfl 22 (.tmp 4) rfl n 0 rfl X _ BX_2.out.1 Try.underlying22 rfl LX.out.i ?_)
    | (have hq := TK_0; go_at_call 14; refine (CX.out _).mono ?_; rintro e w1 ⟨vx, rfl, hn1, hb⟩; have HB_1 := (show Hid (Below we.heap.size we w1) from HB_0.out.trans (hb.mono HB_0.out.size)); have BX_1 := (show Hid (Rp w1 n 0 X) from BX_0.out.below hb); have BY_1 := (show Hid (Rp w1 n 32 Y) from BY_0.out.below hb); have AO_1 := (show Hid (Ao w.heap.size w1 (n + 1) 64) from AO_0.out.below hb); have NX_1 := (show Hid (Num w1 vx a) from hn1); have TK_1 := (show Hid True from trivial); clear hq TK_0 hb HB_0 BX_0 BY_0 AO_0 hn1)
    | (have hq := TK_1; go_at_call 19; refine (CS.out _ _ _ (Num.zero _) (NX_1.out)).mono ?_; rintro e w2 ⟨vd, rfl, hn1, hb⟩; have HB_2 := (show Hid (Below we.heap.size we w2) from HB_1.out.trans (hb.mono HB_1.out.size)); have BX_2 := (show Hid (Rp w2 n 0 X) from BX_1.out.below hb); have BY_2 := (show Hid (Rp w2 n 32 Y) from BY_1.out.below hb); have AO_2 := (show Hid (Ao w.heap.size w2 (n + 1) 64) from AO_1.out.below hb); have ND_2 := (show Hid (Num w2 vd d) from hn1); have TK_2 := (show Hid True from trivial); clear hq TK_1 hb HB_1 BX_1 BY_1 AO_1 NX_1 hn1))
  have HB2 := (show Hid (Below w.heap.size w w2) from HBE.out.trans (HB_2.out.mono HBE.out.size))
  clear HBE HB_2 hwe
  refine wp_region_held_drew (S := fun w' => Below w.heap.size w w' ∧ Rp w' n 32 Y ∧ Ao w.heap.size w' (n + 1) 64) (by kernel_rfl) ⟨HB2.out.trans ((drewB w2).mono HB2.out.size), BY_2.out.below (drewB w2), AO_2.out.below (drewB w2)⟩ (fun hS => ?_)
  have ND_0 := (show Hid (Num (World.drew w2) vd d) from ND_2.out.below (drewB w2))
  obtain ⟨wd, hwd⟩ : ∃ v, World.drew w2 = v := ⟨_, rfl⟩
  rw [hwd] at hS ND_0 ⊢
  clear hwd
  refine wpAnyH_take (i := 0) (v := vd) rfl (by kernel_rfl) (by kernel_rfl) (by kernel_rfl) (fun _ _ _ h => h) (Or.inl ⟨by kernel_rfl, fun wq hS => by go_simp⟩) hS ?_
  try simp only [Act.put, List.setIfInBounds_toArray, List.set_cons_zero, List.set_cons_succ, List.getElem_toArray, List.getElem_cons_zero]
  refine wpAnyH_take (i := 2) (v := .pointer (some ⟨n, 32, none⟩)) rfl (by kernel_rfl) (by kernel_rfl) (by kernel_rfl) (fun _ _ _ h => h) (Or.inl ⟨by kernel_rfl, fun wq hS => by go_simp⟩) hS ?_
  try simp only [Act.put, List.setIfInBounds_toArray, List.set_cons_zero, List.set_cons_succ, List.getElem_toArray, List.getElem_cons_succ, List.getElem_cons_zero]
  refine wpAnyH_take (i := 3) (v := .agg Y.toArray) rfl (by kernel_rfl) (by kernel_rfl) (by kernel_rfl) (fun _ _ _ h => h) (yieldsIf_load_mid (by kernel_rfl) 22 (.tmp 10) rfl n 32 rfl Y _ (fun wq hq => hq.2.1.1) Try.underlying22 rfl LY.out.i) hS ?_
  try simp only [Act.put, List.setIfInBounds_toArray, List.set_cons_zero, List.set_cons_succ, List.getElem_toArray, List.getElem_cons_succ, List.getElem_cons_zero]
  refine wpAnyH_ready (rs := [1]) (by kernel_rfl) (by simp) ?_
  refine AllReadyH.cons rfl (fun K hK => ?_) AllReadyH.nil
  go_simp
  refine (C3.out _ _ (ND_0.out)).mono ?_
  rintro e wh1 ⟨rfl, hb⟩
  have ND_1 := (show Hid (Num wh1 vd d) from ND_0.out.below hb)
  refine hK.out _ _ ⟨hS.1.trans (hb.mono hS.1.size), hS.2.1.below hb, hS.2.2.below hb⟩ (fun hS => ?_)
  clear hK K hb ND_0 
  try simp only [Act.put, List.setIfInBounds_toArray, List.set_cons_zero, List.set_cons_succ, List.getElem_toArray, List.getElem_cons_succ, List.getElem_cons_zero]
  refine wpAnyH_ready (rs := [4]) (by kernel_rfl) (by simp) ?_
  refine AllReadyH.cons rfl (fun K hK => ?_) AllReadyH.nil
  go_simp
  refine (CY.out _).mono ?_
  rintro e wh2 ⟨vy, rfl, hn1, hb⟩
  have ND_2 := (show Hid (Num wh2 vd d) from ND_1.out.below hb)
  have NY_2 := (show Hid (Num wh2 vy c) from hn1)
  refine hK.out _ _ ⟨hS.1.trans (hb.mono hS.1.size), hS.2.1.below hb, hS.2.2.below hb⟩ (fun hS => ?_)
  clear hK K hb ND_1 hn1
  try simp only [Act.put, List.setIfInBounds_toArray, List.set_cons_zero, List.set_cons_succ, List.getElem_toArray, List.getElem_cons_succ, List.getElem_cons_zero]
  refine wpAnyH_ready (rs := [5]) (by kernel_rfl) (by simp) ?_
  refine AllReadyH.cons rfl (fun K hK => ?_) AllReadyH.nil
  go_simp
  refine (C4.out _ _ (NY_2.out)).mono ?_
  rintro e wh3 ⟨rfl, hb⟩
  have ND_3 := (show Hid (Num wh3 vd d) from ND_2.out.below hb)
  have NY_3 := (show Hid (Num wh3 vy c) from NY_2.out.below hb)
  refine hK.out _ _ ⟨hS.1.trans (hb.mono hS.1.size), hS.2.1.below hb, hS.2.2.below hb⟩ (fun hS => ?_)
  clear hK K hb ND_2 NY_2 
  try simp only [Act.put, List.setIfInBounds_toArray, List.set_cons_zero, List.set_cons_succ, List.getElem_toArray, List.getElem_cons_succ, List.getElem_cons_zero]
  refine wpAnyH_take (i := 6) (v := .agg E.toArray) rfl (by kernel_rfl) (by kernel_rfl) (by kernel_rfl) (fun _ _ _ h => h) (yieldsIf_build (by kernel_rfl) 43 _ rfl [(0, .agg SX.toArray), (1, .agg RY.toArray)] (by kernel_rfl) E HBP.out) hS ?_
  try simp only [Act.put, List.setIfInBounds_toArray, List.set_cons_zero, List.set_cons_succ, List.getElem_toArray, List.getElem_cons_succ, List.getElem_cons_zero]
  refine wpAnyH_ready (rs := [7]) (by kernel_rfl) (by simp) ?_
  refine AllReadyH.cons rfl (fun K hK => ?_) AllReadyH.nil
  refine want_it (by kernel_rfl) ?_
  have AOF := (show Hid (Ao w.heap.size wh3 (n + 1) 64) from hS.2.2)
  have HBF := (show Hid _ from hS.1)
  refine wp_store_mid 43 (.tmp 2) (.tmp 14) rfl (n + 1) 0 E.toArray rfl rfl (LE.out.t AOF.out) LE.out.j LE.out.o ?_
  simp only
  refine hK.out _ _ ⟨below_setCells hS.1 AOF.out.1, Rp.sets hS.2.1 (by omega) _ _, AOF.out.sets _ _ _⟩ (fun hS => ?_)
  clear hK K
  try simp only [Act.put, List.getElem_toArray, List.getElem_cons_succ, List.getElem_cons_zero]
  refine wpAnyH_done (by kernel_rfl) ?_ _
  go_wp2
  exact bodyPost_ret (results_cell Try.results40 rfl (end43 LE.out AOF.out)) rfl ⟨rfl, below_setCells HBF.out AOF.out.1⟩
set_option maxHeartbeats 1000000 in
set_option maxRecDepth 4000 in
theorem rout_any {ux uy uz : Value} {x y z : Nat} {w : World} (nx : Num w ux x) (ny : Num w uy y) (nz : Num w uz z) (lx : x < p) (ly : y < p) (lz : z < p) :
    Calls Try.prog 37 #[.agg #[ux, uy, uz]] w fun e w' => e = .returned (pv (x * (z ^ (p - 2) % p) % p) (y * (z ^ (p - 2) % p) % p)) ∧ Below w.heap.size w w' := by
  have CI : Hid (∀ (W : World) (u : Value), Num W u z → Calls Try.prog 25 #[u] W fun e w' => ∃ r, e = .returned r ∧ Num w' r (z ^ (p - 2) % p) ∧ Below W.heap.size W w') := fun W u h => inv_num h lz
  have li := modp (z ^ (p - 2))
  have CM : Hid (∀ (W : World) (u v : Value), Num W u x → Num W v (z ^ (p - 2) % p) → Calls Try.prog 21 #[u, v] W fun e w' => ∃ r, e = .returned r ∧ Num w' r (x * (z ^ (p - 2) % p) % p) ∧ Below W.heap.size W w') := fun W u v h1 h2 => mul_num h1 h2 lx li
  have CN : Hid (∀ (W : World) (u v : Value), Num W u y → Num W v (z ^ (p - 2) % p) → Calls Try.prog 21 #[u, v] W fun e w' => ∃ r, e = .returned r ∧ Num w' r (y * (z ^ (p - 2) % p) % p) ∧ Below W.heap.size W w') := fun W u v h1 h2 => mul_num h1 h2 ly li
  obtain ⟨i, hi⟩ : ∃ i, z ^ (p - 2) % p = i := ⟨_, rfl⟩
  rw [hi] at CI CM CN ⊢
  obtain ⟨a, ha⟩ : ∃ a, x * i % p = a := ⟨_, rfl⟩
  obtain ⟨c, hc⟩ : ∃ a, y * i % p = a := ⟨_, rfl⟩
  rw [ha] at CM ⊢
  rw [hc] at CN ⊢
  have C3 : Hid (∀ (W : World) (u : Value), Num W u a → Calls Try.prog 16 #[u] W fun e w' => e = .returned (.agg (bvc a).toArray) ∧ Below W.heap.size W w') := fun W u h => bytes_num h
  have C4 : Hid (∀ (W : World) (u : Value), Num W u c → Calls Try.prog 16 #[u] W fun e w' => e = .returned (.agg (bvc c).toArray) ∧ Below W.heap.size W w') := fun W u h => bytes_num h
  have HBP : Hid (Try.prog.built 43 [(0, .agg (bvc a).toArray), (1, .agg (bvc c).toArray)] = some (bvc a ++ bvc c).toArray) := build_point _ _ (bvc_len _) (bvc_len _)
  have LE : Hid (L64 (bvc a ++ bvc c)) := l64 _ _
  unfold pv
  have HS := (show Hid _ from start54p w [ux, uy, uz])
  obtain ⟨E, hE⟩ : ∃ Z, bvc a ++ bvc c = Z := ⟨_, rfl⟩
  rw [hE] at HBP LE ⊢
  obtain ⟨SX, hSX⟩ : ∃ Z, bvc a = Z := ⟨_, rfl⟩
  rw [hSX] at C3 HBP
  obtain ⟨RY, hRY⟩ : ∃ Z, bvc c = Z := ⟨_, rfl⟩
  rw [hRY] at C4 HBP
  clear hE hSX hRY hi ha hc li lx ly lz
  have hz2 := zero43
  obtain ⟨Z43, hZ2⟩ : ∃ Z, z43 = Z := ⟨_, rfl⟩
  rw [hZ2] at hz2 HS
  clear hZ2
  obtain ⟨n, hn⟩ : ∃ n, w.heap.size = n := ⟨_, rfl⟩
  have HN : Hid (w.heap.size = n) := hn
  obtain ⟨we, hwe⟩ : ∃ v, (w.alloc (.cells #[ux, uy, uz] 54)).alloc (.cells Z43 43) = v := ⟨_, rfl⟩
  have BP : Hid (Rp we n 0 [ux, uy, uz]) := by have h := HS.out.1; rw [hwe, HN.out] at h; exact h
  have AO : Hid (Ao w.heap.size we (n + 1) 64) := by have h := HS.out.2.1; rw [hwe] at h; show Ao _ _ _ _; rw [HN.out] at h ⊢; exact h
  have HBE : Hid (Below w.heap.size w we) := by have h := HS.out.2.2; rw [hwe] at h; exact h
  have NX : Hid (Num we ux x) := nx.below HBE.out
  have NY : Hid (Num we uy y) := ny.below HBE.out
  have NZ : Hid (Num we uz z) := nz.below HBE.out
  clear HS nx ny nz
  have BP_0 := BP
  have AO_0 := AO
  have NX_0 := NX
  have NY_0 := NY
  have HB_0 := (show Hid (Below we.heap.size we we) from Below.refl _ _)
  have TK_0 := (show Hid True from trivial)
  clear BP AO NX NY
  have q2 := BP_0.out.c2
  go_enter Try.func37, Try.ntmps37
  go_wp2_with (first
    | (have hq := TK_0; go_at_call 25; refine (CI.out _ _ NZ.out).mono ?_; rintro e w1 ⟨vi, rfl, hn1, hb⟩; have HB_1 := (show Hid (Below we.heap.size we w1) from HB_0.out.trans (hb.mono HB_0.out.size)); have BP_1 := (show Hid (Rp w1 n 0 [ux, uy, uz]) from BP_0.out.below hb); have AO_1 := (show Hid (Ao w.heap.size w1 (n + 1) 64) from AO_0.out.below hb); have NX_1 := (show Hid (Num w1 ux x) from NX_0.out.below hb); have NY_1 := (show Hid (Num w1 uy y) from NY_0.out.below hb); have NI_1 := (show Hid (Num w1 vi i) from hn1); clear q2; have TK_1 := (show Hid True from trivial); clear hq TK_0 hb HB_0 BP_0 AO_0 NX_0 NY_0 hn1))
  have HB2 := (show Hid (Below w.heap.size w w1) from HBE.out.trans (HB_1.out.mono HBE.out.size))
  clear HBE HB_1 hwe NZ
  refine wp_region_held_drew (S := fun w' => Below w.heap.size w w' ∧ Rp w' n 0 [ux, uy, uz] ∧ Ao w.heap.size w' (n + 1) 64) (by kernel_rfl) ⟨HB2.out.trans ((drewB w1).mono HB2.out.size), BP_1.out.below (drewB w1), AO_1.out.below (drewB w1)⟩ (fun hS => ?_)
  have NX_0 := (show Hid (Num (World.drew w1) ux x) from NX_1.out.below (drewB w1))
  have NY_0 := (show Hid (Num (World.drew w1) uy y) from NY_1.out.below (drewB w1))
  have NI_0 := (show Hid (Num (World.drew w1) vi i) from NI_1.out.below (drewB w1))
  obtain ⟨wd, hwd⟩ : ∃ v, World.drew w1 = v := ⟨_, rfl⟩
  rw [hwd] at hS NX_0 NY_0 NI_0 ⊢
  clear hwd
  refine wpAnyH_take (i := 0) (v := .pointer (some ⟨n, 0, none⟩)) rfl (by kernel_rfl) (by kernel_rfl) (by kernel_rfl) (fun _ _ _ h => h) (Or.inl ⟨by kernel_rfl, fun wq hS => by go_simp⟩) hS ?_
  try simp only [Act.put, List.setIfInBounds_toArray, List.set_cons_zero, List.set_cons_succ, List.getElem_toArray, List.getElem_cons_zero]
  refine wpAnyH_take (i := 1) (v := ux) rfl (by kernel_rfl) (by kernel_rfl) (by kernel_rfl) (fun _ _ _ h => h) (Or.inl ⟨by kernel_rfl, fun wq hq => by have g := Rp.c0 hq.2.1; clear hq hS; go_simp⟩) hS ?_
  try simp only [Act.put, List.setIfInBounds_toArray, List.set_cons_zero, List.set_cons_succ, List.getElem_toArray, List.getElem_cons_succ, List.getElem_cons_zero]
  refine wpAnyH_take (i := 2) (v := vi) rfl (by kernel_rfl) (by kernel_rfl) (by kernel_rfl) (fun _ _ _ h => h) (Or.inl ⟨by kernel_rfl, fun wq hS => by go_simp⟩) hS ?_
  try simp only [Act.put, List.setIfInBounds_toArray, List.set_cons_zero, List.set_cons_succ, List.getElem_toArray, List.getElem_cons_succ, List.getElem_cons_zero]
  refine wpAnyH_take (i := 5) (v := .pointer (some ⟨n, 1, none⟩)) rfl (by kernel_rfl) (by kernel_rfl) (by kernel_rfl) (fun _ _ _ h => h) (Or.inl ⟨by kernel_rfl, fun wq hS => by go_simp⟩) hS ?_
  try simp only [Act.put, List.setIfInBounds_toArray, List.set_cons_zero, List.set_cons_succ, List.getElem_toArray, List.getElem_cons_succ, List.getElem_cons_zero]
  refine wpAnyH_take (i := 6) (v := uy) rfl (by kernel_rfl) (by kernel_rfl) (by kernel_rfl) (fun _ _ _ h => h) (Or.inl ⟨by kernel_rfl, fun wq hq => by have g := Rp.c1 hq.2.1; clear hq hS; go_simp⟩) hS ?_
  try simp only [Act.put, List.setIfInBounds_toArray, List.set_cons_zero, List.set_cons_succ, List.getElem_toArray, List.getElem_cons_succ, List.getElem_cons_zero]
  refine wpAnyH_take (i := 7) (v := vi) rfl (by kernel_rfl) (by kernel_rfl) (by kernel_rfl) (fun _ _ _ h => h) (Or.inl ⟨by kernel_rfl, fun wq hS => by go_simp⟩) hS ?_
  try simp only [Act.put, List.setIfInBounds_toArray, List.set_cons_zero, List.set_cons_succ, List.getElem_toArray, List.getElem_cons_succ, List.getElem_cons_zero]
  refine wpAnyH_ready (rs := [3]) (by kernel_rfl) (by simp) ?_
  refine AllReadyH.cons rfl (fun K hK => ?_) AllReadyH.nil
  go_simp
  refine (CM.out _ _ _ (NX_0.out) (NI_0.out)).mono ?_
  rintro e wh1 ⟨va, rfl, hn1, hb⟩
  have NX_1 := (show Hid (Num wh1 ux x) from NX_0.out.below hb)
  have NY_1 := (show Hid (Num wh1 uy y) from NY_0.out.below hb)
  have NI_1 := (show Hid (Num wh1 vi i) from NI_0.out.below hb)
  have NA_1 := (show Hid (Num wh1 va a) from hn1)
  refine hK.out _ _ ⟨hS.1.trans (hb.mono hS.1.size), hS.2.1.below hb, hS.2.2.below hb⟩ (fun hS => ?_)
  clear hK K hb NX_0 NY_0 NI_0 hn1
  try simp only [Act.put, List.setIfInBounds_toArray, List.set_cons_zero, List.set_cons_succ, List.getElem_toArray, List.getElem_cons_succ, List.getElem_cons_zero]
  refine wpAnyH_ready (rs := [4]) (by kernel_rfl) (by simp) ?_
  refine AllReadyH.cons rfl (fun K hK => ?_) AllReadyH.nil
  go_simp
  refine (C3.out _ _ (NA_1.out)).mono ?_
  rintro e wh2 ⟨rfl, hb⟩
  have NX_2 := (show Hid (Num wh2 ux x) from NX_1.out.below hb)
  have NY_2 := (show Hid (Num wh2 uy y) from NY_1.out.below hb)
  have NI_2 := (show Hid (Num wh2 vi i) from NI_1.out.below hb)
  have NA_2 := (show Hid (Num wh2 va a) from NA_1.out.below hb)
  refine hK.out _ _ ⟨hS.1.trans (hb.mono hS.1.size), hS.2.1.below hb, hS.2.2.below hb⟩ (fun hS => ?_)
  clear hK K hb NX_1 NY_1 NI_1 NA_1 
  try simp only [Act.put, List.setIfInBounds_toArray, List.set_cons_zero, List.set_cons_succ, List.getElem_toArray, List.getElem_cons_succ, List.getElem_cons_zero]
  refine wpAnyH_ready (rs := [8]) (by kernel_rfl) (by simp) ?_
  refine AllReadyH.cons rfl (fun K hK => ?_) AllReadyH.nil
  go_simp
  refine (CN.out _ _ _ (NY_2.out) (NI_2.out)).mono ?_
  rintro e wh3 ⟨vc, rfl, hn1, hb⟩
  have NX_3 := (show Hid (Num wh3 ux x) from NX_2.out.below hb)
  have NY_3 := (show Hid (Num wh3 uy y) from NY_2.out.below hb)
  have NI_3 := (show Hid (Num wh3 vi i) from NI_2.out.below hb)
  have NA_3 := (show Hid (Num wh3 va a) from NA_2.out.below hb)
  have NC_3 := (show Hid (Num wh3 vc c) from hn1)
  refine hK.out _ _ ⟨hS.1.trans (hb.mono hS.1.size), hS.2.1.below hb, hS.2.2.below hb⟩ (fun hS => ?_)
  clear hK K hb NX_2 NY_2 NI_2 NA_2 hn1
  try simp only [Act.put, List.setIfInBounds_toArray, List.set_cons_zero, List.set_cons_succ, List.getElem_toArray, List.getElem_cons_succ, List.getElem_cons_zero]
  refine wpAnyH_ready (rs := [9]) (by kernel_rfl) (by simp) ?_
  refine AllReadyH.cons rfl (fun K hK => ?_) AllReadyH.nil
  go_simp
  refine (C4.out _ _ (NC_3.out)).mono ?_
  rintro e wh4 ⟨rfl, hb⟩
  have NX_4 := (show Hid (Num wh4 ux x) from NX_3.out.below hb)
  have NY_4 := (show Hid (Num wh4 uy y) from NY_3.out.below hb)
  have NI_4 := (show Hid (Num wh4 vi i) from NI_3.out.below hb)
  have NA_4 := (show Hid (Num wh4 va a) from NA_3.out.below hb)
  have NC_4 := (show Hid (Num wh4 vc c) from NC_3.out.below hb)
  refine hK.out _ _ ⟨hS.1.trans (hb.mono hS.1.size), hS.2.1.below hb, hS.2.2.below hb⟩ (fun hS => ?_)
  clear hK K hb NX_3 NY_3 NI_3 NA_3 NC_3 
  try simp only [Act.put, List.setIfInBounds_toArray, List.set_cons_zero, List.set_cons_succ, List.getElem_toArray, List.getElem_cons_succ, List.getElem_cons_zero]
  refine wpAnyH_take (i := 10) (v := .agg E.toArray) rfl (by kernel_rfl) (by kernel_rfl) (by kernel_rfl) (fun _ _ _ h => h) (yieldsIf_build (by kernel_rfl) 43 _ rfl [(0, .agg SX.toArray), (1, .agg RY.toArray)] (by kernel_rfl) E HBP.out) hS ?_
  try simp only [Act.put, List.setIfInBounds_toArray, List.set_cons_zero, List.set_cons_succ, List.getElem_toArray, List.getElem_cons_succ, List.getElem_cons_zero]
  refine wpAnyH_ready (rs := [11]) (by kernel_rfl) (by simp) ?_
  refine AllReadyH.cons rfl (fun K hK => ?_) AllReadyH.nil
  refine want_it (by kernel_rfl) ?_
  have AOF := (show Hid (Ao w.heap.size wh4 (n + 1) 64) from hS.2.2)
  have HBF := (show Hid _ from hS.1)
  refine wp_store_mid 43 (.tmp 2) (.tmp 17) rfl (n + 1) 0 E.toArray rfl rfl (LE.out.t AOF.out) LE.out.j LE.out.o ?_
  simp only
  refine hK.out _ _ ⟨below_setCells hS.1 AOF.out.1, Rp.sets hS.2.1 (by omega) _ _, AOF.out.sets _ _ _⟩ (fun hS => ?_)
  clear hK K
  try simp only [Act.put, List.getElem_toArray, List.getElem_cons_succ, List.getElem_cons_zero]
  refine wpAnyH_done (by kernel_rfl) ?_ _
  go_wp2
  exact bodyPost_ret (results_cell Try.results37 rfl (end43 LE.out AOF.out)) rfl ⟨rfl, below_setCells HBF.out AOF.out.1⟩
end Dt
end Go.Proofs.Ytgdekigdbbldoaa
