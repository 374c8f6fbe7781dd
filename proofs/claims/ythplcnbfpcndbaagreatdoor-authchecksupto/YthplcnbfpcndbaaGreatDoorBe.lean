/- Maps from names to numbers in memory; the numbers in a field, as such a map: numbersIn, walked. -/
import Derived.Test.YthplcnbfpcndbaaGreatDoorBa
import Derived.Test.YthplcnbfpcndbaaGreatDoorMn
import Derived.Deep.RegionHeld
namespace Go.Proofs.YthplcnbfpcndbaaGreatDoor
open Go.RowKit Go.Maps

theorem law9 : Keyed Tryz.prog 9 := string_keyed Tryz.underlying9
theorem key9 {s : ByteArray} (hs : s.size ≤ 1048576) : keyOf Tryz.prog 9 (.string s) = some (kS s) := Go.WideMaps.keyOf_string_mk Tryz.underlying9 (by unfold maxLen; omega)
section
variable {w : World} {ops : Array Oper} {rest : List Oper} {o : Oper} {a : Act} {Q : Exit → Act → World → Prop}
theorem look_ok (hg : o.guard = none) (m x : Operand) (hop : o.op = Op.lookup 112 m x true) (b n : Nat) (D : DataW Unit) (hm : a.eval m = .map (some b)) (hown : w.ownsMap Tryz.prog 9 numElem b n D) (key : ByteArray) (hx : a.eval x = .string key)
    (hkey : keyOf Tryz.prog 9 (.string key) = some (kS key)) (p : Nm) (hat : D.atKey (kS key) (dN (0, false)) = dN p) (hK : wpList Tryz.prog ops Q rest (a.put o.dst (.tuple #[.agg (nC p), .bool (Maps.has D (kS key))])) w) : wpList Tryz.prog ops Q (o :: rest) a w :=
  wpList_lookup_own_ok w hg m x 112 hop 9 75 law9 Tryz.underlying112 numElem (z63 w) (dN (0, false)) [] (numElem_mk (0, false)) b n D hm hown (.string key) (kS key) hx hkey (fun v ps hv => by
    obtain ⟨q, rfl, hz⟩ := numElem_inv hv
    rw [hat] at hz
    obtain rfl := dN_inj (congrArg Prod.fst hz)
    exact hK)
theorem look_one (hg : o.guard = none) (m x : Operand) (hop : o.op = Op.lookup 112 m x false) (b n : Nat) (D : DataW Unit) (hm : a.eval m = .map (some b)) (hown : w.ownsMap Tryz.prog 9 numElem b n D) (key : ByteArray) (hx : a.eval x = .string key)
    (hkey : keyOf Tryz.prog 9 (.string key) = some (kS key)) (p : Nm) (hat : D.atKey (kS key) (dN (0, false)) = dN p) (hK : wpList Tryz.prog ops Q rest (a.put o.dst (.agg (nC p))) w) : wpList Tryz.prog ops Q (o :: rest) a w := by
  refine wpList_plain hg fun K' hK' => ?_
  obtain ⟨v, ps, hrun, hv⟩ := hown.lookup law9 Tryz.underlying112 (z63 w) (numElem_mk (0, false)) hkey
  obtain ⟨q, rfl, hz⟩ := numElem_inv hv
  rw [hat] at hz
  obtain rfl := dN_inj (congrArg Prod.fst hz)
  unfold Oper.wp
  simp [execOp, hop, hm, hx, hrun, Result.andThen]
  exact hK' _ _ hK
end
/-- A store into a map, where the order is drawn. -/
theorem wp_mapUpdate {w : World} {o : Oper} {a : Act} {K : Act → World → Prop} {Q : Exit → Act → World → Prop} (m x v : Operand) (hop : o.op = Op.mapUpdate 112 m x v) (b n : Nat) (D : DataW Unit)
    (hm : a.eval m = .map (some b)) (hown : w.ownsMap Tryz.prog 9 numElem b n D) (hn : n < maxLen) (key : ByteArray) (hx : a.eval x = .string key) (hs : key.size ≤ 1048576) (p : Nm) (hv : a.eval v = .agg (nC p))
    (hK : ∀ w', w'.ownsMap Tryz.prog 9 numElem b (n + 1) (D.put (kS key) (dN p)) → w.grownBy w' (some b) → K (a.put o.dst undef) w') : o.wp Tryz.prog a w K Q := by
  obtain ⟨w', hrun, r1, r2⟩ := hown.update law9 Tryz.underlying112 hn (key9 hs) (numElem_mk p)
  unfold Oper.wp
  simp [execOp, hop, hm, hx, hv, hrun, Result.andThen]
  exact hK w' r1 r2
theorem want_it {c : Prop} [Decidable c] {A B : Prop} (h : c) (ha : A) : if c then A else B := by rw [if_pos h]; exact ha
theorem drewB (w : World) : Below w.heap.size w w.drew := ⟨rfl, rfl, rfl, Nat.le_refl _, fun _ _ => rfl⟩
/-- What numbersIn answers: a map of its own that holds an object's numbers. -/
def NumOut (v : GV) (w : World) (r : Ending) (w' : World) : Prop := ∃ b n M, r = .returned (.map (some b)) ∧ w.heap.size ≤ b ∧ n ≤ 1048576 ∧ w'.ownsMap Tryz.prog 9 numElem b n M ∧ NumsOf M v ∧ Below w.heap.size w w'

set_option maxRecDepth 100000 in
set_option maxHeartbeats 8000000 in
theorem numbersIn_any (v : GV) (D : Array Value) (ob : ByteArray) (B w : World) (hB : Below B.heap.size B w) (hv : LaidV B v D) : Calls Tryz.prog 100 #[.agg D, .string ob] w (NumOut (fldD v ob) w) := by
  have hc0 := Ctx.start w
  have hf := fun W (h : Below B.heap.size B W) => field_any v D ob B W h hv
  have hf' : ∀ W, Below B.heap.size B W → Calls Tryz.prog 61 #[.agg D, .string ob] W fun e w' => ∃ E, e = .returned (.tuple #[.agg E, .bool (fld v ob).isSome]) ∧ LaidV B (fldD v ob) E ∧ Below W.heap.size W w' := hf
  have d6 := hv.vc.sz
  clear hv hf
  generalize (fld v ob).isSome = s at *
  generalize fldD v ob = u at *
  have hmm := @run_makeMap Tryz.prog
  by_cases hk : u.k = 5
  · have hk' : (u.k != 5) = false := by simp [hk]
    go_enter Tryz.func100, Tryz.ntmps100
    go_wp2_with (first
      | (refine v_box rfl 26 (.tmp 0) rfl D rfl hc0 ?_; intro w1 N1 hc1 hb1; have hcm := hc1.map 112; have om : (w1.alloc (.map #[] 0)).ownsMap Tryz.prog 9 numElem w1.heap.size 0 (.map []) := World.ownsMap_made _ _ _ _; have hb1s := hc1.bel.size; clear hc0)
      | (refine v_load rfl 26 (.tmp 2) rfl 1 rfl hcm rfl _ Tryz.underlying26 rfl (sz26 d6) ?_)
      | (go_at_call 61; refine (hf' _ (hB.trans (hcm.bel.mono hB.size))).mono ?_; rintro e w2 ⟨E, rfl, hE, hb2⟩; replace hcm := hcm.call hb2; replace om := own_below om hb2; clear hf')
      | (refine v_decl rfl rfl 26 rfl (.tmp 6) (.tmp 17) rfl zV E z26 (fun _ => rfl) (fun _ => rfl) (by rw [hE.vc.sz]; rfl) (sz26 hE.vc.sz) hE.vc.one hcm ?_; intro w3 N3 hc3 hb3; replace om := own_below om hb3; have c0 := hc3.cell 0 rfl 0 hE.vc.i0; obtain ⟨hsz, hone, -, -, -, -, -, hfs, fa, fc, i5, hfl⟩ := hE.vc; have c5 := hc3.cell 0 rfl 5 i5; have HFL : Hid (LaidF B fa 0 u.f) := hfl; clear hfl hE hcm))
    clear c0 c5
    have HU : Hid (∀ M, Hold M u.f → NumsOf M u) := fun M h => h.nums hk
    clear hk
    have HW : Hid (w.heap.size ≤ w1.heap.size) := hb1s
    clear hb1s
    generalize w1.heap.size = bm at *
    go_loopw [26] (fun t w' => ∃ (i n : Nat) (M : DataW Unit), t = .int .i64 (i : Int) ∧ i ≤ u.f.length ∧ n ≤ i ∧ w'.ownsMap Tryz.prog 9 numElem bm n M ∧ Hid (Hold M (u.f.take i)) ∧ Ctx w w' [(N3, 26, E), (bm, 112, #[]), (N1, 26, D)]) (fun t _ => u.f.length - numOf t)
    case atStart => exact ⟨0, 0, .map [], rfl, Nat.zero_le _, Nat.le_refl _, om, Hold.nil, hc3⟩
    case round =>
      obtain ⟨i, n, M, rfl, hil, hni, om, HG, hc⟩ := hrel
      clear hmm
      by_cases hlt : i < u.f.length
      · have hlt' : (i : Int) < (u.f.length : Int) := by omega
        have hp := HFL.out.get i hlt
        have htake : Hid (u.f.take (i + 1) = u.f.take i ++ [u.f[i]]) := List.take_succ_eq_append_getElem hlt
        obtain ⟨⟨n0, x0⟩, hX⟩ : ∃ X, u.f[i] = X := ⟨_, rfl⟩
        rw [hX] at hp htake
        clear hX
        rw [Nat.zero_add] at hp
        unfold LaidP at hp
        obtain ⟨b, off, F, rfl, hF7, hF1, hrng, hF0, hns, D0, hD0, hin⟩ := hp
        have d06 := hD0.vc.sz
        have kn := fun W => asNumber_any x0 D0 B W hD0
        clear hD0
        replace hrng := range_below (hB.trans (hc.bel.mono hB.size)) hrng
        have hwr : IntKind.i64.wrap ((i : Int) + 1) = ((i + 1 : Nat) : Int) := by rw [wrap_small _ (by omega) (by omega)]; omega
        have hat := (HG.out n0).2
        have hnm : n < maxLen := by unfold maxLen; omega
        cases hI : Maps.has M (kS n0)
        · have HS : Hid (Hold (M.put (kS n0) (dN (numV x0))) (u.f.take (i + 1))) := by
            show Hold _ _
            rw [htake.out]
            exact HG.out.put om.isMap (x := (n0, x0)) hI
          have HI : Hid (Maps.has M (kS n0) = false) := hI
          clear HG htake hI
          generalize numV x0 = q at *
          go_wp2_with (first
            | (refine wpList_load_mid rfl 49 (.tmp 28) rfl b (off + i * 7) rfl F.toList _ hrng Tryz.underlying49 rfl (by simpa using sz59 hF7) ?_)
            | (refine v_decl rfl rfl 49 rfl (.tmp 9) (.tmp 29) rfl zF F z59 (fun _ => rfl) (fun _ => rfl) (by rw [hF7]; rfl) (sz59 hF7) hF1 hc ?_; intro w4 N4 hc4 hb4; replace om := own_below om hb4; have y0 := hc4.cell 0 rfl 0 hF0)
            | (at_lookup; refine look_ok rfl _ _ rfl bm n M rfl om n0 rfl (key9 hns) _ hat ?_; rw [HI.out])
            | (refine v_decl rfl rfl 75 rfl (.tmp 10) (.tmp 35) rfl (nC (0, false)) (nC _) z63 (fun _ => rfl) (fun _ => rfl) rfl n63 (nC_one _) hc4 ?_; intro w5 N5 hc5 hb5; replace om := own_below om hb5; have y1 := hc5.cell 1 rfl 0 hF0))
          clear y0 y1
          refine wp_region_held_drew (S := fun w' => Ctx w w' [(N4, 49, F), (N3, 26, E), (bm, 112, #[]), (N1, 26, D)]) (by kernel_rfl) ((hc5.sub (List.sublist_cons_self _ _)).call (drewB w5)) (fun hS => ?_)
          replace om := own_below om (drewB w5)
          have OM : Hid (World.ownsMap w5.drew Tryz.prog 9 numElem bm n M) := om
          obtain ⟨wd, hwd⟩ : ∃ v, World.drew w5 = v := ⟨_, rfl⟩
          rw [hwd] at hS OM ⊢
          clear hwd om hat
          refine wpAnyH_take (i := 0) (v := .map (some bm)) rfl (by kernel_rfl) (by kernel_rfl) (by kernel_rfl) (fun _ _ _ h => h) (Or.inl ⟨by kernel_rfl, fun wq hS => by clear hS; go_simp⟩) hS ?_
          try simp only [Act.put, List.setIfInBounds_toArray, List.set_cons_zero, List.set_cons_succ, List.getElem_toArray, List.getElem_cons_zero]
          refine wpAnyH_take (i := 1) (v := .pointer (some ⟨N4, 0, none⟩)) rfl (by kernel_rfl) (by kernel_rfl) (by kernel_rfl) (fun _ _ _ h => h) (Or.inl ⟨by kernel_rfl, fun wq hS => by clear hS; go_simp⟩) hS ?_
          try simp only [Act.put, List.setIfInBounds_toArray, List.set_cons_zero, List.set_cons_succ, List.getElem_toArray, List.getElem_cons_succ, List.getElem_cons_zero]
          refine wpAnyH_take (i := 2) (v := .string n0) rfl (by kernel_rfl) (by kernel_rfl) (by kernel_rfl) (fun _ _ _ h => h) (Or.inl ⟨by kernel_rfl, fun wq hS => by have g := hS.cell 0 rfl 0 hF0; clear hS; go_simp⟩) hS ?_
          try simp only [Act.put, List.setIfInBounds_toArray, List.set_cons_zero, List.set_cons_succ, List.getElem_toArray, List.getElem_cons_succ, List.getElem_cons_zero]
          refine wpAnyH_take (i := 3) (v := .pointer (some ⟨N4, 1, none⟩)) rfl (by kernel_rfl) (by kernel_rfl) (by kernel_rfl) (fun _ _ _ h => h) (Or.inl ⟨by kernel_rfl, fun wq hS => by clear hS; go_simp⟩) hS ?_
          try simp only [Act.put, List.setIfInBounds_toArray, List.set_cons_zero, List.set_cons_succ, List.getElem_toArray, List.getElem_cons_succ, List.getElem_cons_zero]
          refine wpAnyH_take (i := 4) (v := .agg D0.toList.toArray) rfl (by kernel_rfl) (by kernel_rfl) (by kernel_rfl) (fun _ _ _ h => h) (yieldsIf_load_mid (by kernel_rfl) 26 (.tmp 42) rfl N4 1 rfl D0.toList _ (fun wq hq j v hv => by
            have := hq.cell 0 rfl (1 + j) (hin j v (by simpa using hv))
            exact this) Tryz.underlying26 rfl (by simpa using sz26 d06)) hS ?_
          try simp only [Act.put, List.setIfInBounds_toArray, List.set_cons_zero, List.set_cons_succ, List.getElem_toArray, List.getElem_cons_succ, List.getElem_cons_zero, Array.toArray_toList]
          refine wpAnyH_ready (rs := [5]) (by kernel_rfl) (by simp) ?_
          refine AllReadyH.cons rfl (fun K hK => ?_) AllReadyH.nil
          go_simp
          refine (kn _).mono ?_
          rintro e wh ⟨rfl, hb⟩
          replace OM : Hid (World.ownsMap wh Tryz.prog 9 numElem bm n M) := own_below OM.out hb
          refine hK.out _ _ (hS.call hb) (fun hS => ?_)
          clear hK K hb
          try simp only [Act.put, List.setIfInBounds_toArray, List.set_cons_zero, List.set_cons_succ, List.getElem_toArray, List.getElem_cons_succ, List.getElem_cons_zero]
          refine wpAnyH_ready (rs := [6]) (by kernel_rfl) (by simp) ?_
          refine AllReadyH.cons rfl (fun K hK => ?_) AllReadyH.nil
          refine want_it (by kernel_rfl) ?_
          refine wp_mapUpdate (.tmp 39) (.tmp 41) (.tmp 44) rfl bm n M rfl OM.out hnm n0 rfl hns q rfl ?_
          intro wm om6 hg6
          have hc6 := hS.grown hg6 (hS.holds _ (List.mem_cons_of_mem _ (List.mem_cons_of_mem _ (List.mem_cons_self ..)))).1 (map_only hS.nd (List.mem_cons_of_mem _ (List.mem_cons_of_mem _ (List.mem_cons_self ..))))
          refine hK.out _ _ hc6 (fun hS => ?_)
          clear hK K
          try simp only [Act.put, List.getElem_toArray, List.getElem_cons_succ, List.getElem_cons_zero]
          refine wpAnyH_done (by kernel_rfl) ?_ _
          go_wp2
          go_roundw
          case rel => exact ⟨i + 1, n + 1, _, by simp, hlt, by omega, om6, HS, hc6.sub (List.sublist_cons_self _ _)⟩
          case measure => simp [numOf]; omega
        · have HS : Hid (Hold M (u.f.take (i + 1))) := by
            show Hold _ _
            rw [htake.out]
            exact HG.out.keep (x := (n0, x0)) hI
          have HI : Hid (Maps.has M (kS n0) = true) := hI
          clear HG htake hI kn
          go_wp2_with (first
            | (refine wpList_load_mid rfl 49 (.tmp 28) rfl b (off + i * 7) rfl F.toList _ hrng Tryz.underlying49 rfl (by simpa using sz59 hF7) ?_)
            | (refine v_decl rfl rfl 49 rfl (.tmp 9) (.tmp 29) rfl zF F z59 (fun _ => rfl) (fun _ => rfl) (by rw [hF7]; rfl) (sz59 hF7) hF1 hc ?_; intro w4 N4 hc4 hb4; replace om := own_below om hb4; have y0 := hc4.cell 0 rfl 0 hF0)
            | (at_lookup; refine look_ok rfl _ _ rfl bm n M rfl om n0 rfl (key9 hns) _ hat ?_; rw [HI.out])
            | (refine v_decl rfl rfl 75 rfl (.tmp 10) (.tmp 35) rfl (nC (0, false)) (nC _) z63 (fun _ => rfl) (fun _ => rfl) rfl n63 (nC_one _) hc4 ?_; intro w5 N5 hc5 hb5; replace om := own_below om hb5))
          go_roundw
          case rel => exact ⟨i + 1, n, M, by simp, hlt, by omega, om, HS, (hc5.sub (List.sublist_cons_self _ _)).sub (List.sublist_cons_self _ _)⟩
          case measure => simp [numOf]; omega
      · have hlt' : ¬ (i : Int) < (u.f.length : Int) := by omega
        have HE : Hid (Hold M u.f) := by
          have := HG.out
          rw [List.take_of_length_le (by omega)] at this
          exact this
        clear HG
        go_wp2
        go_ret
        exact ⟨bm, n, M, rfl, HW.out, by omega, om, HU.out M HE.out, hc.bel⟩
  · have hk' : (u.k != 5) = true := by simp [hk]
    go_enter Tryz.func100, Tryz.ntmps100
    go_wp2_with (first
      | (refine v_box rfl 26 (.tmp 0) rfl D rfl hc0 ?_; intro w1 N1 hc1 hb1; have hcm := hc1.map 112; have om : (w1.alloc (.map #[] 0)).ownsMap Tryz.prog 9 numElem w1.heap.size 0 (.map []) := World.ownsMap_made _ _ _ _; have hb1s := hc1.bel.size; clear hc0)
      | (refine v_load rfl 26 (.tmp 2) rfl 1 rfl hcm rfl _ Tryz.underlying26 rfl (sz26 d6) ?_)
      | (go_at_call 61; refine (hf' _ (hB.trans (hcm.bel.mono hB.size))).mono ?_; rintro e w2 ⟨E, rfl, hE, hb2⟩; replace hcm := hcm.call hb2; replace om := own_below om hb2; clear hf')
      | (refine v_decl rfl rfl 26 rfl (.tmp 6) (.tmp 17) rfl zV E z26 (fun _ => rfl) (fun _ => rfl) (by rw [hE.vc.sz]; rfl) (sz26 hE.vc.sz) hE.vc.one hcm ?_; intro w3 N3 hc3 hb3; replace om := own_below om hb3; have c0 := hc3.cell 0 rfl 0 hE.vc.i0; clear hE hcm))
    go_ret
    exact ⟨w1.heap.size, 0, .map [], rfl, hb1s, by omega, om, nums_none hk, hc3.bel⟩
end Go.Proofs.YthplcnbfpcndbaaGreatDoor
