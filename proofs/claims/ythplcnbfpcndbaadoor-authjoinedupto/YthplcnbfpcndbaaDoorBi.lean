/- What changes of the seven numbers: changesOfSingles, walked. -/
import Derived.Test.YthplcnbfpcndbaaDoorBg
import Derived.Test.YthplcnbfpcndbaaDoorBc
import Derived.Deep.CutRange
namespace Go.Proofs.YthplcnbfpcndbaaDoor
open Go.RowKit Go.Maps

theorem z86 (w : World) : (zeroValue 86).run Tryd.prog w = .ok (.agg (hC ⟨#[]⟩ (0, false) (0, false))) w := by kernel_rfl
theorem chgs_keep {l : List ByteArray} {x : ByteArray} {a b : GV} (h : num a x = num b x) : chgs (l ++ [x]) a b = chgs l a b := by
  unfold chgs
  rw [List.filter_append, List.map_append]
  simp [h]
theorem chgs_add {l : List ByteArray} {x : ByteArray} {a b : GV} (h : num a x ≠ num b x) : chgs (l ++ [x]) a b = chgs l a b ++ [(x, num a x, num b x)] := by
  unfold chgs
  rw [List.filter_append, List.map_append]
  simp [h]
theorem in_old (nm : ByteArray) (p q : Nm) : In (nC p) (hC nm p q) 1 := fun j v h => by
  have hj : j < 2 := (Array.getElem?_eq_some_iff.1 h).1
  rcases j with _ | _ | j
  all_goals first | exact h | omega
theorem in_new (nm : ByteArray) (p q : Nm) : In (nC q) (hC nm p q) 3 := fun j v h => by
  have hj : j < 2 := (Array.getElem?_eq_some_iff.1 h).1
  rcases j with _ | _ | j
  all_goals first | exact h | omega

theorem yieldsIf_build {P : Program} {ops : Array Oper} {S : World → Prop} {op : Oper} {a : Act} (hw : Region.wanted op (yielded ops a.tmps) = true) (t : TypeId) (parts : Array (Nat × Operand)) (ho : op.op = .build t parts)
    (L : List (Nat × Value)) (hL : (parts.map fun ((i, x) : Nat × Operand) => (i, a.eval x)).toList = L) (cells : List Value) (hb : P.built t L = some cells.toArray) : YieldsIf P ops S op (.agg cells.toArray) a :=
  .inl ⟨hw, fun w _ => by
    rw [← hL] at hb
    unfold execOp
    simp only [ho, Sem.run_bind, run_build w t _ _ hb, Result.andThen_ok]
    rfl⟩

set_option maxRecDepth 100000 in
set_option maxHeartbeats 8000000 in
theorem singles_any (a b : GV) (D1 D2 : Array Value) (B w : World) (hB : Below B.heap.size B w) (h1 : LaidV B a D1) (h2 : LaidV B b D2) (hg : Sing B) :
    Calls Tryd.prog 71 #[.agg D1, .agg D2] w (ChgOut (chgs seven a b) w) := by
  have hc0 := Ctx.start w
  have k1 := fun nm W h => numberOf_any a D1 nm B W h h1
  have k2 := fun nm W h => numberOf_any b D2 nm B W h h2
  have d1 := h1.vc.sz
  have d2 := h2.vc.sz
  clear h1 h2
  obtain ⟨SC, hr0, hlt0, hix, hn⟩ : ∃ SC : Array Value, w.rangeAt 0 0 SC.toList ∧ 0 < w.heap.size ∧ (∀ i : Nat, i < 7 → ∃ nm, seven[i]? = some nm ∧ ∀ W, (Instr.index 99 (.agg SC) (.int .i64 (i : Int))).run Tryd.prog W = .ok (.string nm) W) ∧ (Tryd.prog.info? 99).map (·.size) = some SC.toList.length := ⟨sevC, (hg.below hB).1, (hg.below hB).2, idx99, n99⟩
  have HIX : Hid (∀ i : Nat, i < 7 → ∃ nm, seven[i]? = some nm ∧ ∀ W, (Instr.index 99 (.agg SC) (.int .i64 (i : Int))).run Tryd.prog W = .ok (.string nm) W) := hix
  clear hix hg
  have hq := neq63
  have hgd := fun (x y : Operand) (p q : Nm) (W : World) => eq63.2 .neq x y p q W
  go_enter Tryd.func71, Tryd.ntmps71
  go_wp2_with (first
    | (refine v_box rfl 26 (.tmp 0) rfl D1 rfl hc0 ?_; intro w1 N1 hc1 _; clear hc0)
    | (refine v_box rfl 26 (.tmp 1) rfl D2 rfl hc1 ?_; intro w2 N2 hc2 _; clear hc1)
    | (refine wpList_load_mid rfl 99 (.global 0) rfl 0 0 rfl SC.toList _ (below_range hc2.bel hr0 hlt0) Tryd.underlying99 rfl hn ?_; clear hn))
  obtain ⟨Bs, hBs⟩ : ∃ n, w2.heap.size = n := ⟨_, rfl⟩
  have hBs' : Bs ≤ w2.heap.size := Nat.le_of_eq hBs.symm
  have hwB : w.heap.size ≤ Bs := by rw [← hBs]; exact hc2.bel.size
  have hL : Hid (∀ x ∈ [(N2, 26, D2), (N1, 26, D1)], x.1 < Bs) := fun x hx => by rw [← hBs]; exact (hc2.holds x hx).2.1
  clear hBs
  go_loopw [5, 10] (fun v u wr => ∃ (i : Nat) (cs : List Chg), u = .int .i64 (i : Int) ∧ i ≤ 7 ∧ RowH Bs wr v cs ∧ Hid (cs = chgs (seven.take i) a b) ∧ cs.length ≤ i ∧ Bs ≤ wr.heap.size ∧ Ctx w wr [(N2, 26, D2), (N1, 26, D1)]) (fun _ u _ => 7 - numOf u)
  case atStart => exact ⟨0, [], rfl, Nat.zero_le _, RowH.nil _ _, rfl, Nat.le_refl _, hBs', hc2⟩
  case round =>
    obtain ⟨i, cs, rfl, hil, hrow, HO, hcl, hbs, hc⟩ := hrel
    clear hc2 hBs'
    by_cases hlt : i < 7
    · have hlt' : (i : Int) < 7 := by omega
      obtain ⟨nm, hnm, hix⟩ := HIX.out i hlt
      have hwr : IntKind.i64.wrap ((i : Int) + 1) = ((i + 1 : Nat) : Int) := by rw [wrap_small _ (by omega) (by omega)]; omega
      have htake : Hid (seven.take (i + 1) = seven.take i ++ [nm]) := by
        obtain ⟨h1, h2⟩ := List.getElem?_eq_some_iff.1 hnm
        show _ = _
        rw [← h2]
        exact List.take_succ_eq_append_getElem h1
      have q1 := k1 nm
      have q2 := k2 nm
      have HK : Hid (num a nm = num b nm → cs = chgs (seven.take (i + 1)) a b) := fun h => by rw [htake.out, chgs_keep h, ← HO.out]
      have HA : Hid (num a nm ≠ num b nm → cs ++ [(nm, num a nm, num b nm)] = chgs (seven.take (i + 1)) a b) := fun h => by rw [htake.out, chgs_add h, ← HO.out]
      clear hnm htake HO
      generalize num a nm = p at *
      generalize num b nm = q at *
      go_wp2
      go_cut [8, 10] from 10 to 30 (fun s c wx => ∃ N, s = .pointer (some ⟨N, 0, none⟩) ∧ c = .int .i64 (i : Int) ∧ Hid (Ctx wr wx [(N, 86, hC nm p q)]))
      case first =>
        have hz := z86
        refine wp_region_held_drew (S := fun w' => Below wr.heap.size wr w') (by kernel_rfl) (drewB wr) (fun hS => ?_)
        obtain ⟨wd, hwd⟩ : ∃ v, World.drew wr = v := ⟨_, rfl⟩
        rw [hwd] at hS ⊢
        clear hwd
        refine wpAnyH_take (i := 0) (v := .string nm) rfl (by kernel_rfl) (by kernel_rfl) (by kernel_rfl) (fun _ _ _ h => h) (Or.inl ⟨by kernel_rfl, fun wq hS => by clear hS; go_simp⟩) hS ?_
        try simp only [Act.put, List.setIfInBounds_toArray, List.set_cons_zero, List.set_cons_succ, List.getElem_toArray, List.getElem_cons_zero]
        refine wpAnyH_take (i := 1) (v := .agg D1.toList.toArray) rfl (by kernel_rfl) (by kernel_rfl) (by kernel_rfl) (fun _ _ _ h => h) (yieldsIf_load_mid (by kernel_rfl) 26 (.tmp 2) rfl N1 0 rfl D1.toList _ (fun wq hq => ((hc.call hq).holds _ (List.mem_cons_of_mem _ (List.mem_cons_self ..))).2.2.1) Tryd.underlying26 rfl (by simpa using sz26 d1)) hS ?_
        try simp only [Act.put, List.setIfInBounds_toArray, List.set_cons_zero, List.set_cons_succ, List.getElem_toArray, List.getElem_cons_succ, List.getElem_cons_zero, Array.toArray_toList]
        refine wpAnyH_take (i := 2) (v := .string nm) rfl (by kernel_rfl) (by kernel_rfl) (by kernel_rfl) (fun _ _ _ h => h) (Or.inl ⟨by kernel_rfl, fun wq hS => by clear hS; go_simp⟩) hS ?_
        try simp only [Act.put, List.setIfInBounds_toArray, List.set_cons_zero, List.set_cons_succ, List.getElem_toArray, List.getElem_cons_succ, List.getElem_cons_zero]
        refine wpAnyH_take (i := 4) (v := .agg D2.toList.toArray) rfl (by kernel_rfl) (by kernel_rfl) (by kernel_rfl) (fun _ _ _ h => h) (yieldsIf_load_mid (by kernel_rfl) 26 (.tmp 3) rfl N2 0 rfl D2.toList _ (fun wq hq => ((hc.call hq).holds _ (List.mem_cons_self ..)).2.2.1) Tryd.underlying26 rfl (by simpa using sz26 d2)) hS ?_
        try simp only [Act.put, List.setIfInBounds_toArray, List.set_cons_zero, List.set_cons_succ, List.getElem_toArray, List.getElem_cons_succ, List.getElem_cons_zero, Array.toArray_toList]
        refine wpAnyH_take (i := 5) (v := .string nm) rfl (by kernel_rfl) (by kernel_rfl) (by kernel_rfl) (fun _ _ _ h => h) (Or.inl ⟨by kernel_rfl, fun wq hS => by clear hS; go_simp⟩) hS ?_
        try simp only [Act.put, List.setIfInBounds_toArray, List.set_cons_zero, List.set_cons_succ, List.getElem_toArray, List.getElem_cons_succ, List.getElem_cons_zero]
        refine wpAnyH_ready (rs := [3, 8]) (by kernel_rfl) (by simp) ?_
        refine AllReadyH.cons rfl (fun K hK => ?_) (AllReadyH.cons rfl (fun K hK => ?_) AllReadyH.nil)
        · go_simp
          refine (q1 _ (hB.trans ((hc.call hS).bel.mono hB.size))).mono ?_
          rintro e wn ⟨rfl, hb⟩
          refine hK.out _ _ (hS.trans (hb.mono hS.size)) (fun hS => ?_)
          clear hK K hb
          try simp only [Act.put, List.setIfInBounds_toArray, List.set_cons_zero, List.set_cons_succ, List.getElem_toArray, List.getElem_cons_succ, List.getElem_cons_zero]
          refine wpAnyH_ready (rs := [6, 8]) (by kernel_rfl) (by simp) ?_
          refine AllReadyH.cons rfl (fun K hK => ?_) (AllReadyH.cons rfl (fun K hK => ?_) AllReadyH.nil)
          · go_simp
            refine (q2 _ (hB.trans ((hc.call hS).bel.mono hB.size))).mono ?_
            rintro e wn ⟨rfl, hb⟩
            refine hK.out _ _ (hS.trans (hb.mono hS.size)) (fun hS => ?_)
            clear hK K hb
            try simp only [Act.put, List.setIfInBounds_toArray, List.set_cons_zero, List.set_cons_succ, List.getElem_toArray, List.getElem_cons_succ, List.getElem_cons_zero]
            refine wpAnyH_take (i := 7) (v := .agg (hC nm p q).toList.toArray) rfl (by kernel_rfl) (by kernel_rfl) (by kernel_rfl) (fun _ _ _ h => h) (yieldsIf_build (by kernel_rfl) 86 _ rfl [(0, .string nm), (1, .agg (nC p)), (2, .agg (nC q))] (by kernel_rfl) (hC nm p q).toList (by kernel_rfl)) hS ?_
            try simp only [Act.put, List.setIfInBounds_toArray, List.set_cons_zero, List.set_cons_succ, List.getElem_toArray, List.getElem_cons_succ, List.getElem_cons_zero]
            refine wpAnyH_ready (rs := [8]) (by kernel_rfl) (by simp) ?_
            refine AllReadyH.cons rfl (fun K hK => ?_) AllReadyH.nil
            go_simp
            have c8 := (Ctx.empty hS).push 86 (hC ⟨#[]⟩ (0, false) (0, false))
            refine hK.out _ _ (hS.alloc hS.size _) (fun hS => ?_)
            clear hK K
            try simp only [Act.put, List.setIfInBounds_toArray, List.set_cons_zero, List.set_cons_succ, List.getElem_toArray, List.getElem_cons_succ, List.getElem_cons_zero]
            obtain ⟨wa, hwa⟩ : ∃ v, World.alloc wn (.cells (hC ⟨#[]⟩ (0, false) (0, false)) 86) = v := ⟨_, rfl⟩
            rw [hwa] at c8 hS ⊢
            clear hwa
            refine wpAnyH_ready (rs := [9]) (by kernel_rfl) (by simp) ?_
            refine AllReadyH.cons rfl (fun K hK => ?_) AllReadyH.nil
            refine want_it (by kernel_rfl) ?_
            refine wp_store_mid 86 (.tmp 8) (.tmp 20) rfl _ 0 (hC nm p q) rfl rfl (c8.holds _ (List.mem_cons_self ..)).2.2.2 (n86 _ _ _) (hC_one _ _ _) ?_
            have c9 := c8.put 0 rfl (hC nm p q) rfl
            refine hK.out _ _ c9.bel (fun hS => ?_)
            clear hK K
            try simp only [Act.put, List.getElem_toArray, List.getElem_cons_succ, List.getElem_cons_zero]
            refine wpAnyH_done (by kernel_rfl) ?_ _
            go_wp2
            go_meet
            case rel => exact ⟨_, rfl, rfl, c9⟩
          · go_simp
            have c8 := (Ctx.empty hS).push 86 (hC ⟨#[]⟩ (0, false) (0, false))
            refine hK.out _ _ (hS.alloc hS.size _) (fun hS => ?_)
            clear hK K
            try simp only [Act.put, List.setIfInBounds_toArray, List.set_cons_zero, List.set_cons_succ, List.getElem_toArray, List.getElem_cons_succ, List.getElem_cons_zero]
            obtain ⟨wa, hwa⟩ : ∃ v, World.alloc wn (.cells (hC ⟨#[]⟩ (0, false) (0, false)) 86) = v := ⟨_, rfl⟩
            rw [hwa] at c8 hS ⊢
            clear hwa
            refine wpAnyH_ready (rs := [6]) (by kernel_rfl) (by simp) ?_
            refine AllReadyH.cons rfl (fun K hK => ?_) AllReadyH.nil
            go_simp
            refine (q2 _ (hB.trans ((hc.call hS).bel.mono hB.size))).mono ?_
            rintro e wn ⟨rfl, hb⟩
            replace c8 := c8.call hb
            refine hK.out _ _ (hS.trans (hb.mono hS.size)) (fun hS => ?_)
            clear hK K hb
            try simp only [Act.put, List.setIfInBounds_toArray, List.set_cons_zero, List.set_cons_succ, List.getElem_toArray, List.getElem_cons_succ, List.getElem_cons_zero]
            refine wpAnyH_take (i := 7) (v := .agg (hC nm p q).toList.toArray) rfl (by kernel_rfl) (by kernel_rfl) (by kernel_rfl) (fun _ _ _ h => h) (yieldsIf_build (by kernel_rfl) 86 _ rfl [(0, .string nm), (1, .agg (nC p)), (2, .agg (nC q))] (by kernel_rfl) (hC nm p q).toList (by kernel_rfl)) hS ?_
            try simp only [Act.put, List.setIfInBounds_toArray, List.set_cons_zero, List.set_cons_succ, List.getElem_toArray, List.getElem_cons_succ, List.getElem_cons_zero]
            refine wpAnyH_ready (rs := [9]) (by kernel_rfl) (by simp) ?_
            refine AllReadyH.cons rfl (fun K hK => ?_) AllReadyH.nil
            refine want_it (by kernel_rfl) ?_
            refine wp_store_mid 86 (.tmp 8) (.tmp 20) rfl _ 0 (hC nm p q) rfl rfl (c8.holds _ (List.mem_cons_self ..)).2.2.2 (n86 _ _ _) (hC_one _ _ _) ?_
            have c9 := c8.put 0 rfl (hC nm p q) rfl
            refine hK.out _ _ c9.bel (fun hS => ?_)
            clear hK K
            try simp only [Act.put, List.getElem_toArray, List.getElem_cons_succ, List.getElem_cons_zero]
            refine wpAnyH_done (by kernel_rfl) ?_ _
            go_wp2
            go_meet
            case rel => exact ⟨_, rfl, rfl, c9⟩
        · go_simp
          have c8 := (Ctx.empty hS).push 86 (hC ⟨#[]⟩ (0, false) (0, false))
          refine hK.out _ _ (hS.alloc hS.size _) (fun hS => ?_)
          clear hK K
          try simp only [Act.put, List.setIfInBounds_toArray, List.set_cons_zero, List.set_cons_succ, List.getElem_toArray, List.getElem_cons_succ, List.getElem_cons_zero]
          obtain ⟨wa, hwa⟩ : ∃ v, World.alloc wd (.cells (hC ⟨#[]⟩ (0, false) (0, false)) 86) = v := ⟨_, rfl⟩
          rw [hwa] at c8 hS ⊢
          clear hwa
          refine wpAnyH_ready (rs := [3]) (by kernel_rfl) (by simp) ?_
          refine AllReadyH.cons rfl (fun K hK => ?_) AllReadyH.nil
          go_simp
          refine (q1 _ (hB.trans ((hc.call hS).bel.mono hB.size))).mono ?_
          rintro e wn ⟨rfl, hb⟩
          replace c8 := c8.call hb
          refine hK.out _ _ (hS.trans (hb.mono hS.size)) (fun hS => ?_)
          clear hK K hb
          try simp only [Act.put, List.setIfInBounds_toArray, List.set_cons_zero, List.set_cons_succ, List.getElem_toArray, List.getElem_cons_succ, List.getElem_cons_zero]
          refine wpAnyH_ready (rs := [6]) (by kernel_rfl) (by simp) ?_
          refine AllReadyH.cons rfl (fun K hK => ?_) AllReadyH.nil
          go_simp
          refine (q2 _ (hB.trans ((hc.call hS).bel.mono hB.size))).mono ?_
          rintro e wn ⟨rfl, hb⟩
          replace c8 := c8.call hb
          refine hK.out _ _ (hS.trans (hb.mono hS.size)) (fun hS => ?_)
          clear hK K hb
          try simp only [Act.put, List.setIfInBounds_toArray, List.set_cons_zero, List.set_cons_succ, List.getElem_toArray, List.getElem_cons_succ, List.getElem_cons_zero]
          refine wpAnyH_take (i := 7) (v := .agg (hC nm p q).toList.toArray) rfl (by kernel_rfl) (by kernel_rfl) (by kernel_rfl) (fun _ _ _ h => h) (yieldsIf_build (by kernel_rfl) 86 _ rfl [(0, .string nm), (1, .agg (nC p)), (2, .agg (nC q))] (by kernel_rfl) (hC nm p q).toList (by kernel_rfl)) hS ?_
          try simp only [Act.put, List.setIfInBounds_toArray, List.set_cons_zero, List.set_cons_succ, List.getElem_toArray, List.getElem_cons_succ, List.getElem_cons_zero]
          refine wpAnyH_ready (rs := [9]) (by kernel_rfl) (by simp) ?_
          refine AllReadyH.cons rfl (fun K hK => ?_) AllReadyH.nil
          refine want_it (by kernel_rfl) ?_
          refine wp_store_mid 86 (.tmp 8) (.tmp 20) rfl _ 0 (hC nm p q) rfl rfl (c8.holds _ (List.mem_cons_self ..)).2.2.2 (n86 _ _ _) (hC_one _ _ _) ?_
          have c9 := c8.put 0 rfl (hC nm p q) rfl
          refine hK.out _ _ c9.bel (fun hS => ?_)
          clear hK K
          try simp only [Act.put, List.getElem_toArray, List.getElem_cons_succ, List.getElem_cons_zero]
          refine wpAnyH_done (by kernel_rfl) ?_ _
          go_wp2
          go_meet
          case rel => exact ⟨_, rfl, rfl, c9⟩
      case rest =>
        obtain ⟨N, rfl, rfl, HX⟩ := hcut
        have hcx := HX.out
        have hc3 := hc.call hcx.bel
        have hrow3 := hrow.call hcx.bel
        have hbs3 := Nat.le_trans hbs hcx.bel.size
        clear HX hrow hc hbs
        by_cases hne : p = q
        · have HS := (show Hid (cs = chgs (seven.take (i + 1)) a b) from HK.out hne)
          have hd : decide (p = q) = true := decide_eq_true hne
          clear HK HA hne
          go_wp2_with (first
            | (refine v_part rfl 63 (.tmp 21) rfl 0 (nC p) rfl hcx rfl (in_old nm p q) _ Tryd.underlying63 rfl n63 ?_)
            | (refine v_part rfl 63 (.tmp 23) rfl 0 (nC q) rfl hcx rfl (in_new nm p q) _ Tryd.underlying63 rfl n63 ?_))
          go_roundw
          case rel => exact ⟨i + 1, cs, by simp, hlt, hrow3, HS, by omega, hbs3, hc3⟩
          case measure => simp [numOf]; omega
        · have HS := (show Hid (cs ++ [(nm, p, q)] = chgs (seven.take (i + 1)) a b) from HA.out hne)
          have hd : decide (p = q) = false := decide_eq_false hne
          clear HK HA hne
          go_wp2_with (first
            | (refine v_part rfl 63 (.tmp 21) rfl 0 (nC p) rfl hcx rfl (in_old nm p q) _ Tryd.underlying63 rfl n63 ?_)
            | (refine v_part rfl 63 (.tmp 23) rfl 0 (nC q) rfl hcx rfl (in_new nm p q) _ Tryd.underlying63 rfl n63 ?_)
            | (refine v_load rfl 86 (.tmp 8) rfl 0 rfl hcx rfl _ Tryd.underlying86 rfl (n86 _ _ _) ?_)
            | (refine app_h rfl (.tmp 26) (.tmp 28) rfl Bs _ _ rfl (hrow3.more _) _ (nm, p, q) rfl (chg_range _ (nm, p, q) _ rfl) (by omega) (Nat.le_trans hbs3 (by simp)) ?_; intro vn wn hrn hgn hbn; have hbs4 := Nat.le_trans (Nat.le_trans hbs3 (by simp)) hbn.size; have hc4 := (hc3.call ((Below.refl _ _).alloc (Nat.le_refl _) _)).low hL.out hwB hbn))
          go_roundw
          case rel => exact ⟨i + 1, _, by simp, hlt, hrn, HS, by rw [List.length_append]; simp; omega, hbs4, hc4⟩
          case measure => simp [numOf]; omega
    · have hlt' : ¬ (i : Int) < 7 := by omega
      have HE : Hid (cs = chgs seven a b) := by
        have := HO.out
        rw [List.take_of_length_le (show seven.length ≤ i from by have : seven.length = 7 := rfl; omega)] at this
        exact this
      clear HO
      go_wp2
      go_ret
      exact ⟨_, cs, rfl, hrow.chgs (by omega), fun x => by rw [HE.out], hc.bel⟩
end Go.Proofs.YthplcnbfpcndbaaDoor
