/- What changes in a field: changesIn, walked. -/
import Derived.Test.YthplcnbfpcndbaaDoorBf
namespace Go.Proofs.YthplcnbfpcndbaaDoor
open Go.RowKit Go.Maps

/-- How changesIn ends. -/
def ChgOut (T : List Chg) (w : World) (r : Ending) (w' : World) : Prop := ∃ v cs, r = .returned v ∧ ChgsAt w' v cs ∧ (∀ x, x ∈ cs ↔ x ∈ T) ∧ Below w.heap.size w w'

set_option maxRecDepth 100000 in
set_option maxHeartbeats 8000000 in
theorem changesIn_any (ob : ByteArray) (va vb : GV) (D1 D2 : Array Value) (B w : World) (hB : Below B.heap.size B w) (h1 : LaidV B va D1) (h2 : LaidV B vb D2) :
    Calls Tryd.prog 69 #[.string ob, .agg D1, .agg D2] w (ChgOut (chgIn ob va vb) w) := by
  have hc0 := Ctx.start w
  have k1 := fun W h => numbersIn_any va D1 ob B W h h1
  have k2 := fun W h => numbersIn_any vb D2 ob B W h h2
  have d1 := h1.vc.sz
  have d2 := h2.vc.sz
  clear h1 h2
  unfold chgIn
  generalize fldD va ob = a at *
  generalize fldD vb ob = b at *
  have hq := neq63
  have hgd := fun (x y : Operand) (p q : Nm) (W : World) => eq63.2 .neq x y p q W
  go_enter Tryd.func69, Tryd.ntmps69
  go_wp2_with (first
    | (refine v_box rfl 26 (.tmp 1) rfl D1 rfl hc0 ?_; intro w1 N1 hc1 _; clear hc0)
    | (refine v_box rfl 26 (.tmp 2) rfl D2 rfl hc1 ?_; intro w2 N2 hc2 _; clear hc1))
  refine wp_region_held_drew (S := fun w' => Ctx w w' [(N2, 26, D2), (N1, 26, D1)]) (by kernel_rfl) (hc2.call (drewB w2)) (fun hS => ?_)
  obtain ⟨wd, hwd⟩ : ∃ v, World.drew w2 = v := ⟨_, rfl⟩
  rw [hwd] at hS ⊢
  clear hwd hc2
  refine wpAnyH_take (i := 0) (v := .agg D1.toList.toArray) rfl (by kernel_rfl) (by kernel_rfl) (by kernel_rfl) (fun _ _ _ h => h) (yieldsIf_load_mid (by kernel_rfl) 26 (.tmp 4) rfl N1 0 rfl D1.toList _ (fun wq hq => (hq.holds _ (List.mem_cons_of_mem _ (List.mem_cons_self ..))).2.2.1) Tryd.underlying26 rfl (by simpa using sz26 d1)) hS ?_
  try simp only [Act.put, List.setIfInBounds_toArray, List.set_cons_zero, List.set_cons_succ, List.getElem_toArray, List.getElem_cons_zero, Array.toArray_toList]
  refine wpAnyH_take (i := 1) (v := .string ob) rfl (by kernel_rfl) (by kernel_rfl) (by kernel_rfl) (fun _ _ _ h => h) (Or.inl ⟨by kernel_rfl, fun wq hS => by clear hS; go_simp⟩) hS ?_
  try simp only [Act.put, List.setIfInBounds_toArray, List.set_cons_zero, List.set_cons_succ, List.getElem_toArray, List.getElem_cons_succ, List.getElem_cons_zero]
  refine wpAnyH_take (i := 3) (v := .agg D2.toList.toArray) rfl (by kernel_rfl) (by kernel_rfl) (by kernel_rfl) (fun _ _ _ h => h) (yieldsIf_load_mid (by kernel_rfl) 26 (.tmp 5) rfl N2 0 rfl D2.toList _ (fun wq hq => (hq.holds _ (List.mem_cons_self ..)).2.2.1) Tryd.underlying26 rfl (by simpa using sz26 d2)) hS ?_
  try simp only [Act.put, List.setIfInBounds_toArray, List.set_cons_zero, List.set_cons_succ, List.getElem_toArray, List.getElem_cons_succ, List.getElem_cons_zero, Array.toArray_toList]
  refine wpAnyH_take (i := 4) (v := .string ob) rfl (by kernel_rfl) (by kernel_rfl) (by kernel_rfl) (fun _ _ _ h => h) (Or.inl ⟨by kernel_rfl, fun wq hS => by clear hS; go_simp⟩) hS ?_
  try simp only [Act.put, List.setIfInBounds_toArray, List.set_cons_zero, List.set_cons_succ, List.getElem_toArray, List.getElem_cons_succ, List.getElem_cons_zero]
  refine wpAnyH_ready (rs := [2]) (by kernel_rfl) (by simp) ?_
  refine AllReadyH.cons rfl (fun K hK => ?_) AllReadyH.nil
  go_simp
  refine (k1 _ (hB.trans (hS.bel.mono hB.size))).mono ?_
  rintro e w3 ⟨bA, nA, MA, rfl, hbA, hnA, omA, hA, hb3⟩
  refine hK.out _ _ (hS.call hb3) (fun hS => ?_)
  clear hK K k1
  try simp only [Act.put, List.setIfInBounds_toArray, List.set_cons_zero, List.set_cons_succ, List.getElem_toArray, List.getElem_cons_succ, List.getElem_cons_zero]
  refine wpAnyH_ready (rs := [5]) (by kernel_rfl) (by simp) ?_
  refine AllReadyH.cons rfl (fun K hK => ?_) AllReadyH.nil
  go_simp
  refine (k2 _ (hB.trans (hS.bel.mono hB.size))).mono ?_
  rintro e w4 ⟨bB, nB, MB, rfl, hbB, hnB, omB, hBn, hb4⟩
  refine hK.out _ _ (hS.call hb4) (fun hS => ?_)
  clear hK K k2
  try simp only [Act.put, List.setIfInBounds_toArray, List.set_cons_zero, List.set_cons_succ, List.getElem_toArray, List.getElem_cons_succ, List.getElem_cons_zero]
  refine wpAnyH_take (i := 6) (v := .map (some bA)) rfl (by kernel_rfl) (by kernel_rfl) (by kernel_rfl) (fun _ _ _ h => h) (Or.inl ⟨by kernel_rfl, fun wq hS => by clear hS; go_simp⟩) hS ?_
  try simp only [Act.put, List.setIfInBounds_toArray, List.set_cons_zero, List.set_cons_succ, List.getElem_toArray, List.getElem_cons_succ, List.getElem_cons_zero]
  refine wpAnyH_take (i := 7) (v := .map (some bB)) rfl (by kernel_rfl) (by kernel_rfl) (by kernel_rfl) (fun _ _ _ h => h) (Or.inl ⟨by kernel_rfl, fun wq hS => by clear hS; go_simp⟩) hS ?_
  try simp only [Act.put, List.setIfInBounds_toArray, List.set_cons_zero, List.set_cons_succ, List.getElem_toArray, List.getElem_cons_succ, List.getElem_cons_zero]
  refine wpAnyH_done (by kernel_rfl) ?_ _
  replace omA := own_below omA hb4
  have hbw := hS.bel
  clear hS hb3 hb4
  have hrw : w.heap.size ≤ w4.heap.size := hbw.size
  have hBr : bB ≠ w4.heap.size := Nat.ne_of_lt omB.lt
  have hAr : bA ≠ w4.heap.size := Nat.ne_of_lt omA.lt
  have hsA := omA.size_le
  have hsB := omB.size_le
  go_wp2_with (at_range; refine wpList_range_own _ rfl _ 102 rfl 9 63 law9 Tryd.underlying102 _ bA nA _ rfl omA ?_; intro w5 hrg0 hg0 hs0)
  go_frame
  replace omB := omB.kept hg0 (by simp)
  replace hbw := hbw.grown hg0 hbw.size (fun j hj => by cases hj)
  clear hs0 hg0 omA
  obtain ⟨Bs, hBs⟩ : ∃ n, w5.heap.size = n := ⟨_, rfl⟩
  have hBs' : Bs ≤ w5.heap.size := Nat.le_of_eq hBs.symm
  have hwB : w.heap.size ≤ Bs := by rw [← hBs]; exact hbw.size
  clear hBs
  generalize w4.heap.size = r1 at *
  go_loopw [9] (fun v wr => ∃ (left : Lit → Bool) (cnt : Nat) (cs : List Chg), wr.ranges Tryd.prog 9 numElem bA r1 nA MA left cnt ∧ wr.ownsMap Tryd.prog 9 numElem bB nB MB ∧ RowH Bs wr v cs ∧ Hid (One left a b cs) ∧ cs.length + cnt ≤ nA ∧ Bs ≤ wr.heap.size ∧ Below w.heap.size w wr) (fun _ wr => wr.rangeLeft bA r1)
  case atStart => exact ⟨_, _, [], hrg0, omB, RowH.nil _ _, One.start hA, by simpa using hsA, hBs', hbw⟩
  case round =>
    obtain ⟨left, cnt, cs, hrg, om, hrow, HO, hcn, hbs, hnx⟩ := hrel
    clear hrg0 omB hbw hBs'
    go_wp2_with (at_next; refine next_num rfl _ rfl bA r1 nA MA left cnt rfl hrg ?_ ?_)
    · intro hc0 hl0
      clear hrw hBr
      have hom := hrg.owns
      have hrw2 := hnx.size
      have hAr2 : bA ≠ wr.heap.size := Nat.ne_of_lt hom.lt
      have HB0 : Hid (Both (Maps.has MB) a b cs) := Both.start HO.out hl0 hBn
      clear HO hl0
      go_wp2_with (at_range; refine wpList_range_own _ rfl _ 102 rfl 9 63 law9 Tryd.underlying102 _ bB nB _ rfl om ?_; intro w6 hrg0 hg0 hs0)
      go_frame
      replace hom := hom.kept hg0 (by simp)
      replace hrow : RowH Bs w6 u9 cs := World.ownsRow.kept (row := none) hrow hg0 (by cases u9.ownBlock <;> simp)
      replace hnx := hnx.grown hg0 hnx.size (fun j hj => by cases hj)
      replace hbs := Nat.le_trans hbs hg0.size
      clear hs0 hg0 om hrg
      generalize wr.heap.size = r2 at *
      go_loopw [9] (fun v w' => ∃ (left : Lit → Bool) (cnt : Nat) (cs : List Chg), w'.ranges Tryd.prog 9 numElem bB r2 nB MB left cnt ∧ w'.ownsMap Tryd.prog 9 numElem bA nA MA ∧ RowH Bs w' v cs ∧ Hid (Both left a b cs) ∧ cs.length + cnt ≤ nA + nB ∧ Bs ≤ w'.heap.size ∧ Below w.heap.size w w') (fun _ w' => w'.rangeLeft bB r2)
      case atStart => exact ⟨_, _, cs, hrg0, hom, hrow, HB0, by omega, hbs, hnx⟩
      case round =>
        clear hrg0 hom hrow HB0 hbs hnx hcn
        obtain ⟨left, cnt, cs, hrg, om, hrow, HO, hcn, hbs, hnx⟩ := hrel
        go_wp2_with (at_next; refine next_num rfl _ rfl bB r2 nB MB left cnt rfl hrg ?_ ?_)
        · intro hc0 hl0
          have HF : Hid (∀ x, x ∈ cs ↔ x ∈ chgs (nms a ++ nms b) a b) := HO.out.fin hl0
          clear HO hl0
          go_wp2
          go_ret
          exact ⟨_, cs, rfl, hrow.chgs (by omega), HF.out, hnx⟩
        · intro x c w7 cnt1 hkey hat hrg1 hlt hg1 hs1 hen
          obtain ⟨hxm, hxn⟩ := hBn.in hat
          generalize c.v = p at *
          have hat2 := (hA x).2
          have hmeas := hrg.left_eq
          replace hrow := hrow.step hrg hg1
          replace om := om.kept hg1 (fun e => hAr2 (Option.some.inj e))
          replace hnx := hnx.grown hg1 hnx.size (fun j hj => by cases hj; exact hrw2)
          replace hbs := Nat.le_trans hbs hg1.size
          have hc0 := Ctx.start w7
          clear hrg hg1 hs1 hat
          generalize num a x = q at *
          obtain ⟨pn, pb⟩ := p
          cases hI : Maps.has MA (kS x)
          · have HI : Hid (Maps.has MA (kS x) = false) := hI
            have hxa : x ∉ nms a := hA.isLeft.1 hI
            clear hI
            cases pb
            · have hx2 : (num b x).2 = false := by rw [hxn]
              have HS : Hid (Both (fun z => left z && !z.sameKey (kS x)) a b cs) := HO.out.keep (.inr hx2)
              clear HO
              clear hx2 hxn hxa hxm
              go_wp2_with (first
                | (refine v_alloc rfl 63 rfl (nC (0, false)) z63 hc0 ?_; intro w7 N7 hc7 _; clear hc0)
                | (refine v_store rfl 63 (.tmp 13) (.tmp 49) rfl 0 (nC (pn, false)) rfl rfl hc7 rfl rfl n63 (nC_one _) ?_; intro w8 hc8; clear hc7; have omx := own_below om hc8.bel)
                | (at_lookup; refine look_ok rfl _ _ rfl bA nA MA rfl omx x rfl hkey q hat2 ?_; rw [HI.out])
                | (refine v_decl rfl rfl 63 rfl (.tmp 14) (.tmp 54) rfl (nC (0, false)) (nC q) z63 (fun _ => rfl) (fun _ => rfl) rfl n63 (nC_one _) hc8 ?_; intro w9 N9 hc9 _; clear hc8 omx; replace hrow := hrow.call hc9.bel; replace om := own_below om hc9.bel; replace hnx := hnx.trans (hc9.bel.mono hnx.size); have hrg2 := hrg1.kept (grown_of hc9.bel (Nat.le_refl _)) (by simp) (by simp); replace hbs := Nat.le_trans hbs hc9.bel.size; have c1 := hc9.cell 1 rfl 1 rfl; clear hrg1))
              go_roundw
              case rel => exact ⟨_, cnt1, cs, hrg2, om, hrow, HS, by omega, hbs, hnx⟩
              case measure => rw [hrg2.left_eq, hmeas]; exact hlt
            · have HS : Hid (Both (fun z => left z && !z.sameKey (kS x)) a b (cs ++ [(x, (0, false), (pn, true))])) := by
                have := HO.out.add hxm hxa (by rw [hxn])
                rw [hxn] at this
                exact this
              clear HO hxn hxa hxm
              go_wp2_with (first
                | (refine v_alloc rfl 63 rfl (nC (0, false)) z63 hc0 ?_; intro w7 N7 hc7 _; clear hc0)
                | (refine v_store rfl 63 (.tmp 13) (.tmp 49) rfl 0 (nC (pn, true)) rfl rfl hc7 rfl rfl n63 (nC_one _) ?_; intro w8 hc8; clear hc7; have omx := own_below om hc8.bel)
                | (at_lookup; refine look_ok rfl _ _ rfl bA nA MA rfl omx x rfl hkey q hat2 ?_; rw [HI.out])
                | (refine v_decl rfl rfl 63 rfl (.tmp 14) (.tmp 54) rfl (nC (0, false)) (nC q) z63 (fun _ => rfl) (fun _ => rfl) rfl n63 (nC_one _) hc8 ?_; intro w9 N9 hc9 _; clear hc8 omx; replace hrow := hrow.call hc9.bel; replace om := own_below om hc9.bel; replace hnx := hnx.trans (hc9.bel.mono hnx.size); have hrg2 := hrg1.kept (grown_of hc9.bel (Nat.le_refl _)) (by simp) (by simp); replace hbs := Nat.le_trans hbs hc9.bel.size; have c1 := hc9.cell 1 rfl 1 rfl; clear hrg1)
                | (refine Go.Great.wpList_buildTo rfl 63 _ rfl (some 2) rfl (nC (0, false)) (by kernel_rfl) ?_)
                | (refine v_load rfl 63 (.tmp 13) rfl 1 rfl hc9 rfl _ Tryd.underlying63 rfl n63 ?_)
                | (refine app_h rfl (.tmp 62) (.tmp 67) rfl Bs _ _ rfl (hrow.more _) _ (x, (0, false), (pn, true)) rfl (chg_range _ (x, (0, false), (pn, true)) _ rfl) (by omega) (Nat.le_trans hbs (by simp)) ?_; intro vn wn hrn hgn hbn; have hak := app_keep hrow hgn; have hrg3 := hak.1 hrg2; have om3 := hak.2 om; have hbs3 := Nat.le_trans (Nat.le_trans hbs (by simp)) hbn.size; have hnx3 := (hnx.alloc hnx.size _).trans (hbn.mono hwB)))
              go_roundw
              case rel => exact ⟨_, cnt1, _, hrg3, om3, hrn, HS, by rw [List.length_append]; simp; omega, hbs3, hnx3⟩
              case measure => rw [hrg3.left_eq, hmeas]; exact hlt
          · have HI : Hid (Maps.has MA (kS x) = true) := hI
            have hxa : x ∈ nms a := by
              have := (hA x).1
              rw [hI] at this
              exact inN_iff.1 this.symm
            clear hI
            have HS : Hid (Both (fun z => left z && !z.sameKey (kS x)) a b cs) := HO.out.keep (.inl hxa)
            clear HO
            clear hxn hxa hxm
            go_wp2_with (first
              | (refine v_alloc rfl 63 rfl (nC (0, false)) z63 hc0 ?_; intro w7 N7 hc7 _; clear hc0)
              | (refine v_store rfl 63 (.tmp 13) (.tmp 49) rfl 0 (nC (pn, pb)) rfl rfl hc7 rfl rfl n63 (nC_one _) ?_; intro w8 hc8; clear hc7; have omx := own_below om hc8.bel)
              | (at_lookup; refine look_ok rfl _ _ rfl bA nA MA rfl omx x rfl hkey q hat2 ?_; rw [HI.out])
              | (refine v_decl rfl rfl 63 rfl (.tmp 14) (.tmp 54) rfl (nC (0, false)) (nC q) z63 (fun _ => rfl) (fun _ => rfl) rfl n63 (nC_one _) hc8 ?_; intro w9 N9 hc9 _; clear hc8 omx; replace hrow := hrow.call hc9.bel; replace om := own_below om hc9.bel; replace hnx := hnx.trans (hc9.bel.mono hnx.size); have hrg2 := hrg1.kept (grown_of hc9.bel (Nat.le_refl _)) (by simp) (by simp); replace hbs := Nat.le_trans hbs hc9.bel.size; have c1 := hc9.cell 1 rfl 1 rfl; clear hrg1))
            go_roundw
            case rel => exact ⟨_, cnt1, cs, hrg2, om, hrow, HS, by omega, hbs, hnx⟩
            case measure => rw [hrg2.left_eq, hmeas]; exact hlt
    · intro x c w6 cnt1 hkey hat hrg1 hlt hg1 hs1 hen
      obtain ⟨hxm, hxn⟩ := hA.in hat
      generalize c.v = cv at *
      subst hxn
      have hat2 := (hBn x).2
      have hmeas := hrg.left_eq
      replace hrow := hrow.step hrg hg1
      replace om := om.kept hg1 (fun e => hBr (Option.some.inj e))
      replace hnx := hnx.grown hg1 hnx.size (fun j hj => by cases hj; exact hrw)
      replace hbs := Nat.le_trans hbs hg1.size
      have hc0 := Ctx.start w6
      clear hrg hg1 hs1 hat
      by_cases hne : num a x = num b x
      · have HS : Hid (One (fun z => left z && !z.sameKey (kS x)) a b cs) := HO.out.keep hne
        have hd : decide (num a x = num b x) = true := decide_eq_true hne
        clear HO hne
        generalize num a x = p at *
        generalize num b x = q at *
        go_wp2_with (first
          | (refine v_alloc rfl 63 rfl (nC (0, false)) z63 hc0 ?_; intro w7 N7 hc7 _; clear hc0)
          | (refine v_store rfl 63 (.tmp 11) (.tmp 28) rfl 0 (nC p) rfl rfl hc7 rfl rfl n63 (nC_one _) ?_; intro w8 hc8; clear hc7; replace hrow := hrow.call hc8.bel; replace om := own_below om hc8.bel; replace hnx := hnx.trans (hc8.bel.mono hnx.size); have hrg2 := hrg1.kept (grown_of hc8.bel (Nat.le_refl _)) (by simp) (by simp); replace hbs := Nat.le_trans hbs hc8.bel.size; clear hrg1)
          | (refine v_load rfl 63 (.tmp 11) rfl 0 rfl hc8 rfl _ Tryd.underlying63 rfl n63 ?_)
          | (at_lookup; refine look_one rfl _ _ rfl bB nB MB rfl om x rfl hkey q hat2 ?_))
        go_roundw
        case rel => exact ⟨_, cnt1, cs, hrg2, om, hrow, HS, by omega, hbs, hnx⟩
        case measure => rw [hrg2.left_eq, hmeas]; exact hlt
      · have HS : Hid (One (fun z => left z && !z.sameKey (kS x)) a b (cs ++ [(x, num a x, num b x)])) := HO.out.add hxm hne
        have hd : decide (num a x = num b x) = false := decide_eq_false hne
        clear HO hne
        generalize num a x = p at *
        generalize num b x = q at *
        go_wp2_with (first
          | (refine v_alloc rfl 63 rfl (nC (0, false)) z63 hc0 ?_; intro w7 N7 hc7 _; clear hc0)
          | (refine v_store rfl 63 (.tmp 11) (.tmp 28) rfl 0 (nC p) rfl rfl hc7 rfl rfl n63 (nC_one _) ?_; intro w8 hc8; clear hc7; replace hrow := hrow.call hc8.bel; replace om := own_below om hc8.bel; replace hnx := hnx.trans (hc8.bel.mono hnx.size); have hrg2 := hrg1.kept (grown_of hc8.bel (Nat.le_refl _)) (by simp) (by simp); replace hbs := Nat.le_trans hbs hc8.bel.size; clear hrg1)
          | (refine v_load rfl 63 (.tmp 11) rfl 0 rfl hc8 rfl _ Tryd.underlying63 rfl n63 ?_)
          | (at_lookup; refine look_one rfl _ _ rfl bB nB MB rfl om x rfl hkey q hat2 ?_)
          | (refine Go.Great.wpList_buildTo rfl 86 _ rfl (some 5) rfl (hC x p q) (by kernel_rfl) ?_)
          | (refine app_h rfl (.tmp 34) (.tmp 41) rfl Bs _ _ rfl (hrow.more _) _ (x, p, q) rfl (chg_range _ (x, p, q) _ rfl) (by omega) (Nat.le_trans hbs (by simp)) ?_; intro vn wn hrn hgn hbn; have hak := app_keep hrow hgn; have hrg3 := hak.1 hrg2; have om3 := hak.2 om; have hbs3 := Nat.le_trans (Nat.le_trans hbs (by simp)) hbn.size; have hnx3 := (hnx.alloc hnx.size _).trans (hbn.mono hwB)))
        go_roundw
        case rel => exact ⟨_, cnt1, _, hrg3, om3, hrn, HS, by rw [List.length_append]; simp; omega, hbs3, hnx3⟩
        case measure => rw [hrg3.left_eq, hmeas]; exact hlt
end Go.Proofs.YthplcnbfpcndbaaDoor
