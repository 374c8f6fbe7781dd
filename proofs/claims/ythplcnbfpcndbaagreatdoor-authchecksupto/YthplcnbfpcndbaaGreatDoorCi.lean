/- Has a content the form of levels, as the reference tells it: walked. -/
import Derived.Test.YthplcnbfpcndbaaGreatDoorTa
import Derived.Test.YthplcnbfpcndbaaGreatDoorBd
import Derived.Test.YthplcnbfpcndbaaGreatDoorTc
import Derived.Test.YthplcnbfpcndbaaGreatDoorBe
import Derived.Deep.CutRange
namespace Go.Proofs.YthplcnbfpcndbaaGreatDoor
open Go.RowKit

set_option maxRecDepth 100000 in
set_option maxHeartbeats 8000000 in
theorem rformed_any (v : GV) (D : Array Value) (B w : World) (hB : Below B.heap.size B w) (hv : LaidV B v D) :
    Calls Tryz.prog 24 #[.agg D] w fun r w' => r = .returned (.bool (formB v)) ∧ Below w.heap.size w w' := by
  have hc := Ctx.start w
  have d6 := hv.vc.sz
  have k7 : ∀ W, Calls Tryz.prog 55 #[] W fun r w' => ∃ v, r = .returned v ∧ TxAt w' v seven ∧ Below W.heap.size W w' := fun W => rseven_any W
  have hs7 : seven.length ≤ 3000000 := by decide
  have KF : Hid (∀ nm W, Below B.heap.size B W → Calls Tryz.prog 53 #[.agg D, .string nm] W fun e w' => ∃ E, e = .returned (.tuple #[.agg E, .bool (fld v nm).isSome]) ∧ LaidV B (fldD v nm) E ∧ Below W.heap.size W w') := fun nm W h => rfield_any v D nm B W h hv
  have KI : Hid (∀ (x : GV) (E : Array Value) W, Below B.heap.size B W → LaidV B x E → Calls Tryz.prog 56 #[.agg E] W fun r w' => r = .returned (.bool (numsB x)) ∧ Below W.heap.size W w') := fun x E W h hE => rints_any x E B W h hE
  obtain ⟨R, hR⟩ : ∃ R, formB v = R := ⟨_, rfl⟩
  rw [hR]
  have HR : Hid (R = (seven.all (sevOk v) && ((!(fld v sEvents).isSome || numsB (fldD v sEvents)) && (!(fld v sUsers).isSome || (numsB (fldD v sUsers) && (fldD v sUsers).f.all (fun x => isU x.1)))))) := by
    show _ = _
    rw [← hR]
    rfl
  clear hR hv
  generalize seven = S at *
  have z0 : True := trivial
  go_enter Tryz.func24, Tryz.ntmps24
  go_wp2_with (first
    | (have hq := z1; clear hq; go_at_call 55; refine (k7 _).mono ?_; rintro r wS ⟨v7, rfl, hS7, hbq⟩; replace hc := hc.call hbq; obtain ⟨sa, sc, rfl, HTX⟩ := tx_get hS7; clear hbq k7 hS7; clear z1)
    | (have hq := z0; clear hq; refine v_box rfl 26 (.tmp 0) rfl D rfl hc ?_; intro wq N1 hcq _; replace hc := hcq; clear hcq; clear z0; have z1 : True := trivial))
  have hcS := hc
  go_loopw [4] (fun u w' => ∃ i : Nat, u = .int .i64 (i : Int) ∧ i ≤ S.length ∧ Hid ((S.take i).all (sevOk v) = true) ∧ Ctx w w' [(N1, 26, D)] ∧ Below wS.heap.size wS w') (fun u _ => S.length - numOf u)
  case atStart => exact ⟨0, rfl, Nat.zero_le _, rfl, hcS, Below.refl _ _⟩
  case round =>
    clear hc hcS
    obtain ⟨i, rfl, hil, HG, hc, hm⟩ := hrel
    by_cases hlt : i < S.length
    · have hlt' : (i : Int) < (S.length : Int) := by omega
      have hwr : IntKind.i64.wrap ((i : Int) + 1) = ((i + 1 : Nat) : Int) := by rw [wrap_small _ (by omega) (by omega)]; omega
      obtain ⟨b, off, rfl, hcw⟩ := tx_at HTX.out hm i hlt
      have HS : Hid (∀ q, sevOk v S[i] = q → (S.take (i + 1)).all (sevOk v) = q) := fun q hq => by
        rw [take_snoc S i hlt, List.all_append, HG.out]
        simp [hq]
      have HF : Hid ((S.take (i + 1)).all (sevOk v) = false → R = false) := fun h => by
        have h1 : S.all (sevOk v) = false := by
          rw [List.all_eq_false] at h ⊢
          obtain ⟨x, hx, hp⟩ := h
          exact ⟨x, List.mem_of_mem_take hx, hp⟩
        rw [HR.out, h1]
        rfl
      clear HG
      generalize S[i] = nm at *
      have kf := KF.out nm
      unfold sevOk at HS
      generalize (fld v nm).isSome = bb at *
      generalize fldD v nm = xv at *
      go_wp2
      go_cut [5, 6] from 16 to 36 (fun s q wx => ∃ N E, s = .pointer (some ⟨N, 0, none⟩) ∧ q = .bool bb ∧ Hid (LaidV B xv E ∧ Ctx wr wx [(N, 26, E)]))
      case first =>
        have hz := z26
        refine wp_region_held_drew (S := fun w' => Below wr.heap.size wr w') (by kernel_rfl) (drewB wr) (fun hS => ?_)
        obtain ⟨wd, hwd⟩ : ∃ v, World.drew wr = v := ⟨_, rfl⟩
        rw [hwd] at hS ⊢
        clear hwd
        refine wpAnyH_take (i := 0) (v := .agg D.toList.toArray) rfl (by kernel_rfl) (by kernel_rfl) (by kernel_rfl) (fun _ _ _ h => h) (yieldsIf_load_mid (by kernel_rfl) 26 (.tmp 1) rfl N1 0 rfl D.toList _ (fun wq hq => ((hc.call hq).holds _ (List.mem_cons_self ..)).2.2.1) Tryz.underlying26 rfl (by simpa using sz26 d6)) hS ?_
        try simp only [Act.put, List.setIfInBounds_toArray, List.set_cons_zero, List.set_cons_succ, List.getElem_toArray, List.getElem_cons_zero, Array.toArray_toList]
        refine wpAnyH_take (i := 1) (v := .slice (some ⟨b, off, none⟩) S.length sc) rfl (by kernel_rfl) (by kernel_rfl) (by kernel_rfl) (fun _ _ _ h => h) (Or.inl ⟨by kernel_rfl, fun wq hS => by clear hS; go_simp⟩) hS ?_
        try simp only [Act.put, List.setIfInBounds_toArray, List.set_cons_zero, List.set_cons_succ, List.getElem_toArray, List.getElem_cons_succ, List.getElem_cons_zero]
        refine wpAnyH_take (i := 2) (v := .int .i64 (i : Int)) rfl (by kernel_rfl) (by kernel_rfl) (by kernel_rfl) (fun _ _ _ h => h) (Or.inl ⟨by kernel_rfl, fun wq hS => by clear hS; go_simp⟩) hS ?_
        try simp only [Act.put, List.setIfInBounds_toArray, List.set_cons_zero, List.set_cons_succ, List.getElem_toArray, List.getElem_cons_succ, List.getElem_cons_zero]
        refine wpAnyH_take (i := 3) (v := .pointer (some ⟨b, off + i, none⟩)) rfl (by kernel_rfl) (by kernel_rfl) (by kernel_rfl) (fun _ _ _ h => h) (Or.inl ⟨by kernel_rfl, fun wq hS => by clear hS; go_simp⟩) hS ?_
        try simp only [Act.put, List.setIfInBounds_toArray, List.set_cons_zero, List.set_cons_succ, List.getElem_toArray, List.getElem_cons_succ, List.getElem_cons_zero]
        refine wpAnyH_take (i := 4) (v := .string nm) rfl (by kernel_rfl) (by kernel_rfl) (by kernel_rfl) (fun _ _ _ h => h) (Or.inl ⟨by kernel_rfl, fun wq hS => by have g := (hS.cell (World.block_lt_of_cell? wr _ hcw)).trans hcw; clear hS; go_simp⟩) hS ?_
        try simp only [Act.put, List.setIfInBounds_toArray, List.set_cons_zero, List.set_cons_succ, List.getElem_toArray, List.getElem_cons_succ, List.getElem_cons_zero]
        refine wpAnyH_ready (rs := [5, 9]) (by kernel_rfl) (by simp) ?_
        refine AllReadyH.cons rfl (fun K hK => ?_) (AllReadyH.cons rfl (fun K hK => ?_) AllReadyH.nil)
        · go_simp
          refine (kf _ (hB.trans ((hc.call hS).bel.mono hB.size))).mono ?_
          rintro e wn ⟨E, rfl, hEE, hb⟩
          refine hK.out _ _ (hS.trans (hb.mono hS.size)) (fun hS => ?_)
          clear hK K hb
          try simp only [Act.put, List.setIfInBounds_toArray, List.set_cons_zero, List.set_cons_succ, List.getElem_toArray, List.getElem_cons_succ, List.getElem_cons_zero, Array.toArray_toList]
          refine wpAnyH_take (i := 6) (v := .tuple #[.agg E, .bool bb]) rfl (by kernel_rfl) (by kernel_rfl) (by kernel_rfl) (fun _ _ _ h => h) (Or.inl ⟨by kernel_rfl, fun wq hS => by clear hS; go_simp⟩) hS ?_
          try simp only [Act.put, List.setIfInBounds_toArray, List.set_cons_zero, List.set_cons_succ, List.getElem_toArray, List.getElem_cons_succ, List.getElem_cons_zero]
          refine wpAnyH_take (i := 7) (v := .agg E) rfl (by kernel_rfl) (by kernel_rfl) (by kernel_rfl) (fun _ _ _ h => h) (Or.inl ⟨by kernel_rfl, fun wq hS => by clear hS; go_simp⟩) hS ?_
          try simp only [Act.put, List.setIfInBounds_toArray, List.set_cons_zero, List.set_cons_succ, List.getElem_toArray, List.getElem_cons_succ, List.getElem_cons_zero]
          refine wpAnyH_take (i := 8) (v := .bool bb) rfl (by kernel_rfl) (by kernel_rfl) (by kernel_rfl) (fun _ _ _ h => h) (Or.inl ⟨by kernel_rfl, fun wq hS => by clear hS; go_simp⟩) hS ?_
          try simp only [Act.put, List.setIfInBounds_toArray, List.set_cons_zero, List.set_cons_succ, List.getElem_toArray, List.getElem_cons_succ, List.getElem_cons_zero]
          refine wpAnyH_ready (rs := [9]) (by kernel_rfl) (by simp) ?_
          refine AllReadyH.cons rfl (fun K hK => ?_) AllReadyH.nil
          go_simp
          have c8 := (Ctx.empty hS).push 26 zV
          refine hK.out _ _ (hS.alloc hS.size _) (fun hS => ?_)
          clear hK K
          try simp only [Act.put, List.setIfInBounds_toArray, List.set_cons_zero, List.set_cons_succ, List.getElem_toArray, List.getElem_cons_succ, List.getElem_cons_zero, Array.toArray_toList]
          obtain ⟨wa, hwa⟩ : ∃ v, World.alloc wn (.cells zV 26) = v := ⟨_, rfl⟩
          rw [hwa] at c8 hS ⊢
          clear hwa
          refine wpAnyH_ready (rs := [10]) (by kernel_rfl) (by simp) ?_
          refine AllReadyH.cons rfl (fun K hK => ?_) AllReadyH.nil
          refine want_it (by kernel_rfl) ?_
          have hE6 := hEE.vc.sz
          refine wp_store_mid 26 (.tmp 5) (.tmp 29) rfl _ 0 E rfl rfl (by rw [hE6]; exact (c8.holds _ (List.mem_cons_self ..)).2.2.2) (sz26 hE6) hEE.vc.one ?_
          have c9 := c8.put 0 rfl E (by rw [hE6]; rfl)
          refine hK.out _ _ c9.bel (fun hS => ?_)
          clear hK K
          try simp only [Act.put, List.getElem_toArray, List.getElem_cons_succ, List.getElem_cons_zero]
          refine wpAnyH_take (i := 11) (v := .bool bb) rfl (by kernel_rfl) (by kernel_rfl) (by kernel_rfl) (fun _ _ _ h => h) (Or.inl ⟨by kernel_rfl, fun wq hS => by clear hS; go_simp⟩) hS ?_
          try simp only [Act.put, List.setIfInBounds_toArray, List.set_cons_zero, List.set_cons_succ, List.getElem_toArray, List.getElem_cons_succ, List.getElem_cons_zero]
          refine wpAnyH_done (by kernel_rfl) ?_ _
          go_wp2
          go_meet
          case rel => exact ⟨_, E, rfl, rfl, ⟨hEE, c9⟩⟩
        · go_simp
          have c8 := (Ctx.empty hS).push 26 zV
          refine hK.out _ _ (hS.alloc hS.size _) (fun hS => ?_)
          clear hK K
          try simp only [Act.put, List.setIfInBounds_toArray, List.set_cons_zero, List.set_cons_succ, List.getElem_toArray, List.getElem_cons_succ, List.getElem_cons_zero, Array.toArray_toList]
          obtain ⟨wa, hwa⟩ : ∃ v, World.alloc wd (.cells zV 26) = v := ⟨_, rfl⟩
          rw [hwa] at c8 hS ⊢
          clear hwa
          refine wpAnyH_ready (rs := [5]) (by kernel_rfl) (by simp) ?_
          refine AllReadyH.cons rfl (fun K hK => ?_) AllReadyH.nil
          go_simp
          refine (kf _ (hB.trans ((hc.call hS).bel.mono hB.size))).mono ?_
          rintro e wn ⟨E, rfl, hEE, hb⟩
          replace c8 := c8.call hb
          refine hK.out _ _ (hS.trans (hb.mono hS.size)) (fun hS => ?_)
          clear hK K hb
          try simp only [Act.put, List.setIfInBounds_toArray, List.set_cons_zero, List.set_cons_succ, List.getElem_toArray, List.getElem_cons_succ, List.getElem_cons_zero, Array.toArray_toList]
          refine wpAnyH_take (i := 6) (v := .tuple #[.agg E, .bool bb]) rfl (by kernel_rfl) (by kernel_rfl) (by kernel_rfl) (fun _ _ _ h => h) (Or.inl ⟨by kernel_rfl, fun wq hS => by clear hS; go_simp⟩) hS ?_
          try simp only [Act.put, List.setIfInBounds_toArray, List.set_cons_zero, List.set_cons_succ, List.getElem_toArray, List.getElem_cons_succ, List.getElem_cons_zero]
          refine wpAnyH_take (i := 7) (v := .agg E) rfl (by kernel_rfl) (by kernel_rfl) (by kernel_rfl) (fun _ _ _ h => h) (Or.inl ⟨by kernel_rfl, fun wq hS => by clear hS; go_simp⟩) hS ?_
          try simp only [Act.put, List.setIfInBounds_toArray, List.set_cons_zero, List.set_cons_succ, List.getElem_toArray, List.getElem_cons_succ, List.getElem_cons_zero]
          refine wpAnyH_take (i := 8) (v := .bool bb) rfl (by kernel_rfl) (by kernel_rfl) (by kernel_rfl) (fun _ _ _ h => h) (Or.inl ⟨by kernel_rfl, fun wq hS => by clear hS; go_simp⟩) hS ?_
          try simp only [Act.put, List.setIfInBounds_toArray, List.set_cons_zero, List.set_cons_succ, List.getElem_toArray, List.getElem_cons_succ, List.getElem_cons_zero]
          refine wpAnyH_ready (rs := [10]) (by kernel_rfl) (by simp) ?_
          refine AllReadyH.cons rfl (fun K hK => ?_) AllReadyH.nil
          refine want_it (by kernel_rfl) ?_
          have hE6 := hEE.vc.sz
          refine wp_store_mid 26 (.tmp 5) (.tmp 29) rfl _ 0 E rfl rfl (by rw [hE6]; exact (c8.holds _ (List.mem_cons_self ..)).2.2.2) (sz26 hE6) hEE.vc.one ?_
          have c9 := c8.put 0 rfl E (by rw [hE6]; rfl)
          refine hK.out _ _ c9.bel (fun hS => ?_)
          clear hK K
          try simp only [Act.put, List.getElem_toArray, List.getElem_cons_succ, List.getElem_cons_zero]
          refine wpAnyH_take (i := 11) (v := .bool bb) rfl (by kernel_rfl) (by kernel_rfl) (by kernel_rfl) (fun _ _ _ h => h) (Or.inl ⟨by kernel_rfl, fun wq hS => by clear hS; go_simp⟩) hS ?_
          try simp only [Act.put, List.setIfInBounds_toArray, List.set_cons_zero, List.set_cons_succ, List.getElem_toArray, List.getElem_cons_succ, List.getElem_cons_zero]
          refine wpAnyH_done (by kernel_rfl) ?_ _
          go_wp2
          go_meet
          case rel => exact ⟨_, E, rfl, rfl, ⟨hEE, c9⟩⟩
      case rest =>
        obtain ⟨N, E, rfl, rfl, HX⟩ := hcut
        obtain ⟨hEE, hcx⟩ := HX.out
        have hc3 := hc.call hcx.bel
        have hm3 := hm.trans (hcx.bel.mono hm.size)
        have c0 := hcx.cell 0 rfl 0 hEE.vc.i0
        clear HX hEE hc hm kf
        cases bb
        · have HE : Hid ((S.take (i + 1)).all (sevOk v) = true) := HS.out true rfl
          clear HS HF
          go_wp2
          go_roundw
          case rel => exact ⟨i + 1, by simp, hlt, HE, hc3, hm3⟩
          case measure => simp [numOf]; omega
        · by_cases hk : xv.k = 2
          · have hk' : (xv.k != 2) = false := by simp [hk]
            have HE : Hid ((S.take (i + 1)).all (sevOk v) = true) := HS.out true (by simp [hk])
            clear HS HF hk
            go_wp2
            go_roundw
            case rel => exact ⟨i + 1, by simp, hlt, HE, hc3, hm3⟩
            case measure => simp [numOf]; omega
          · have hk' : (xv.k != 2) = true := by simp [hk]
            have HE : Hid (R = false) := HF.out (HS.out false (by simp [hk]))
            clear HS HF hk
            go_wp2
            go_ret
            exact ⟨by rw [HE.out]; rfl, hc3.bel⟩
    · have hlt' : ¬ (i : Int) < (S.length : Int) := by omega
      have kfe := KF.out sEvents
      have kfu := KF.out sUsers
      have HR2 : Hid (R = ((!(fld v sEvents).isSome || numsB (fldD v sEvents)) && (!(fld v sUsers).isSome || (numsB (fldD v sUsers) && (fldD v sUsers).f.all (fun x => isU x.1))))) := by
        show _ = _
        have h1 := HG.out
        rw [List.take_of_length_le (by omega)] at h1
        rw [HR.out, h1]
        rfl
      have kie := fun E W h hE => KI.out (fldD v sEvents) E W h hE
      have kiu := fun E W h hE => KI.out (fldD v sUsers) E W h hE
      clear HG HR KF KI HTX
      generalize (fld v sEvents).isSome = eO at *
      generalize (fld v sUsers).isSome = uO at *
      generalize numsB (fldD v sEvents) = nE at *
      generalize numsB (fldD v sUsers) = nU at *
      generalize fldD v sEvents = ve at *
      generalize fldD v sUsers = vu at *
      cases eO
      · skip
        cases uO
        · skip
          have HR3 : Hid (R = true) := by show _ = _; rw [HR2.out]; simp
          clear HR2
          have z0 : True := trivial
          go_wp2_with (first
            | (have hq := z9; clear hq; go_at_call 56; refine (kiu Fu _ (hB.trans (hc.bel.mono hB.size)) hFu).mono ?_; rintro r wq ⟨rfl, hbq⟩; replace hc := hc.call hbq; obtain ⟨-, -, -, -, -, -, -, fus, ua, uc, iu5, ufl⟩ := hFu.vc; have HU : Hid (LaidF B ua 0 vu.f) := ufl; clear kiu ufl hFu; clear hbq; clear z9)
            | (have hq := z8; clear hq; refine v_load rfl 26 (.tmp 10) rfl 0 rfl hc rfl _ Tryz.underlying26 rfl (sz26 fu6) ?_; clear z8; have z9 : True := trivial)
            | (have hq := z7; clear hq; refine v_decl rfl rfl 26 rfl (.tmp 10) (.tmp 52) rfl zV Fu z26 (fun _ => rfl) (fun _ => rfl) (by rw [fu6]; rfl) (sz26 fu6) fu1 hc ?_; intro wq N10 hcq _; replace hc := hcq; clear hcq; clear z7; have z8 : True := trivial)
            | (have hq := z6; clear hq; go_at_call 53; refine (kfu _ (hB.trans (hc.bel.mono hB.size))).mono ?_; rintro r wq ⟨Fu, rfl, hFu, hbq⟩; replace hc := hc.call hbq; have fu6 := hFu.vc.sz; have fu1 := hFu.vc.one; clear kfu; clear hbq; clear z6; have z7 : True := trivial)
            | (have hq := z5; clear hq; refine v_load rfl 26 (.tmp 1) rfl 1 rfl hc rfl _ Tryz.underlying26 rfl (sz26 d6) ?_; clear z5; have z6 : True := trivial)
            | (have hq := z4; clear hq; go_at_call 56; refine (kie Fe _ (hB.trans (hc.bel.mono hB.size)) hFe).mono ?_; rintro r wq ⟨rfl, hbq⟩; replace hc := hc.call hbq; clear kie; clear hbq; clear z4; have z5 : True := trivial)
            | (have hq := z3; clear hq; refine v_load rfl 26 (.tmp 7) rfl 0 rfl hc rfl _ Tryz.underlying26 rfl (sz26 fe6) ?_; clear z3; have z4 : True := trivial)
            | (have hq := z2; clear hq; refine v_decl rfl rfl 26 rfl (.tmp 7) (.tmp 40) rfl zV Fe z26 (fun _ => rfl) (fun _ => rfl) (by rw [fe6]; rfl) (sz26 fe6) fe1 hc ?_; intro wq Nq hcq _; replace hc := hcq; clear hcq; clear z2; have z3 : True := trivial)
            | (have hq := z1; clear hq; go_at_call 53; refine (kfe _ (hB.trans (hc.bel.mono hB.size))).mono ?_; rintro r wq ⟨Fe, rfl, hFe, hbq⟩; replace hc := hc.call hbq; have fe6 := hFe.vc.sz; have fe1 := hFe.vc.one; clear kfe; clear hbq; clear z1; have z2 : True := trivial)
            | (have hq := z0; clear hq; refine v_load rfl 26 (.tmp 1) rfl 0 rfl hc rfl _ Tryz.underlying26 rfl (sz26 d6) ?_; clear z0; have z1 : True := trivial))
          clear hm hlt hlt' hil
          generalize vu.f = f at *
          replace hc := hc.sub (L := _) (M := [(N10, 26, Fu)]) (by simp)
          go_loopw [13] (fun u w' => ∃ i : Nat, u = .int .i64 (i : Int) ∧ i ≤ f.length ∧ Hid (True) ∧ Ctx w w' [(N10, 26, Fu)]) (fun u _ => f.length - numOf u)
          case atStart => exact ⟨0, rfl, Nat.zero_le _, trivial, hc⟩
          case round =>
            clear hc
            obtain ⟨i, rfl, hil, HG, hc⟩ := hrel
            have c5 := hc.cell 0 rfl 5 iu5
            by_cases hlt : i < f.length
            · have hlt' : (i : Int) < (f.length : Int) := by omega
              have hwr : IntKind.i64.wrap ((i : Int) + 1) = ((i + 1 : Nat) : Int) := by rw [wrap_small _ (by omega) (by omega)]; omega
              obtain ⟨b, off, rfl, g0, -, gs⟩ := fl_cell (hB.trans (hc.bel.mono hB.size)) HU.out i hlt
              have kU : ∀ W, Calls Tryz.prog 48 #[.string f[i].1] W fun r w' => r = .returned (.bool (isU f[i].1)) ∧ w' = W := fun W => ruser_any' f[i].1 W (by omega)
              generalize isU f[i].1 = q at *
              generalize f[i].1 = nm at *
              go_wp2_with (go_at_call 48; refine (kU _).mono ?_; rintro r wq ⟨rfl, rfl⟩)
              go_roundw
              case rel => exact ⟨i + 1, by simp, hlt, trivial, hc⟩
              case measure => simp [numOf]; omega
            · have hlt' : ¬ (i : Int) < (f.length : Int) := by omega
              have HE := HR3
              clear HG
              go_wp2
              go_ret
              exact ⟨by rw [HE.out]; rfl, hc.bel⟩
        · cases nU
          · skip
            have HE : Hid (R = false) := by show _ = _; rw [HR2.out]; simp
            have z0 : True := trivial
            go_wp2_with (first
              | (have hq := z9; clear hq; go_at_call 56; refine (kiu Fu _ (hB.trans (hc.bel.mono hB.size)) hFu).mono ?_; rintro r wq ⟨rfl, hbq⟩; replace hc := hc.call hbq; obtain ⟨-, -, -, -, -, -, -, fus, ua, uc, iu5, ufl⟩ := hFu.vc; have HU : Hid (LaidF B ua 0 vu.f) := ufl; clear kiu ufl hFu; clear hbq; clear z9)
              | (have hq := z8; clear hq; refine v_load rfl 26 (.tmp 10) rfl 0 rfl hc rfl _ Tryz.underlying26 rfl (sz26 fu6) ?_; clear z8; have z9 : True := trivial)
              | (have hq := z7; clear hq; refine v_decl rfl rfl 26 rfl (.tmp 10) (.tmp 52) rfl zV Fu z26 (fun _ => rfl) (fun _ => rfl) (by rw [fu6]; rfl) (sz26 fu6) fu1 hc ?_; intro wq N10 hcq _; replace hc := hcq; clear hcq; clear z7; have z8 : True := trivial)
              | (have hq := z6; clear hq; go_at_call 53; refine (kfu _ (hB.trans (hc.bel.mono hB.size))).mono ?_; rintro r wq ⟨Fu, rfl, hFu, hbq⟩; replace hc := hc.call hbq; have fu6 := hFu.vc.sz; have fu1 := hFu.vc.one; clear kfu; clear hbq; clear z6; have z7 : True := trivial)
              | (have hq := z5; clear hq; refine v_load rfl 26 (.tmp 1) rfl 1 rfl hc rfl _ Tryz.underlying26 rfl (sz26 d6) ?_; clear z5; have z6 : True := trivial)
              | (have hq := z4; clear hq; go_at_call 56; refine (kie Fe _ (hB.trans (hc.bel.mono hB.size)) hFe).mono ?_; rintro r wq ⟨rfl, hbq⟩; replace hc := hc.call hbq; clear kie; clear hbq; clear z4; have z5 : True := trivial)
              | (have hq := z3; clear hq; refine v_load rfl 26 (.tmp 7) rfl 0 rfl hc rfl _ Tryz.underlying26 rfl (sz26 fe6) ?_; clear z3; have z4 : True := trivial)
              | (have hq := z2; clear hq; refine v_decl rfl rfl 26 rfl (.tmp 7) (.tmp 40) rfl zV Fe z26 (fun _ => rfl) (fun _ => rfl) (by rw [fe6]; rfl) (sz26 fe6) fe1 hc ?_; intro wq Nq hcq _; replace hc := hcq; clear hcq; clear z2; have z3 : True := trivial)
              | (have hq := z1; clear hq; go_at_call 53; refine (kfe _ (hB.trans (hc.bel.mono hB.size))).mono ?_; rintro r wq ⟨Fe, rfl, hFe, hbq⟩; replace hc := hc.call hbq; have fe6 := hFe.vc.sz; have fe1 := hFe.vc.one; clear kfe; clear hbq; clear z1; have z2 : True := trivial)
              | (have hq := z0; clear hq; refine v_load rfl 26 (.tmp 1) rfl 0 rfl hc rfl _ Tryz.underlying26 rfl (sz26 d6) ?_; clear z0; have z1 : True := trivial))
            go_ret
            exact ⟨by rw [HE.out]; rfl, hc.bel⟩
          · skip
            have HR3 : Hid (R = vu.f.all (fun x => isU x.1)) := by show _ = _; rw [HR2.out]; simp
            clear HR2
            have z0 : True := trivial
            go_wp2_with (first
              | (have hq := z9; clear hq; go_at_call 56; refine (kiu Fu _ (hB.trans (hc.bel.mono hB.size)) hFu).mono ?_; rintro r wq ⟨rfl, hbq⟩; replace hc := hc.call hbq; obtain ⟨-, -, -, -, -, -, -, fus, ua, uc, iu5, ufl⟩ := hFu.vc; have HU : Hid (LaidF B ua 0 vu.f) := ufl; clear kiu ufl hFu; clear hbq; clear z9)
              | (have hq := z8; clear hq; refine v_load rfl 26 (.tmp 10) rfl 0 rfl hc rfl _ Tryz.underlying26 rfl (sz26 fu6) ?_; clear z8; have z9 : True := trivial)
              | (have hq := z7; clear hq; refine v_decl rfl rfl 26 rfl (.tmp 10) (.tmp 52) rfl zV Fu z26 (fun _ => rfl) (fun _ => rfl) (by rw [fu6]; rfl) (sz26 fu6) fu1 hc ?_; intro wq N10 hcq _; replace hc := hcq; clear hcq; clear z7; have z8 : True := trivial)
              | (have hq := z6; clear hq; go_at_call 53; refine (kfu _ (hB.trans (hc.bel.mono hB.size))).mono ?_; rintro r wq ⟨Fu, rfl, hFu, hbq⟩; replace hc := hc.call hbq; have fu6 := hFu.vc.sz; have fu1 := hFu.vc.one; clear kfu; clear hbq; clear z6; have z7 : True := trivial)
              | (have hq := z5; clear hq; refine v_load rfl 26 (.tmp 1) rfl 1 rfl hc rfl _ Tryz.underlying26 rfl (sz26 d6) ?_; clear z5; have z6 : True := trivial)
              | (have hq := z4; clear hq; go_at_call 56; refine (kie Fe _ (hB.trans (hc.bel.mono hB.size)) hFe).mono ?_; rintro r wq ⟨rfl, hbq⟩; replace hc := hc.call hbq; clear kie; clear hbq; clear z4; have z5 : True := trivial)
              | (have hq := z3; clear hq; refine v_load rfl 26 (.tmp 7) rfl 0 rfl hc rfl _ Tryz.underlying26 rfl (sz26 fe6) ?_; clear z3; have z4 : True := trivial)
              | (have hq := z2; clear hq; refine v_decl rfl rfl 26 rfl (.tmp 7) (.tmp 40) rfl zV Fe z26 (fun _ => rfl) (fun _ => rfl) (by rw [fe6]; rfl) (sz26 fe6) fe1 hc ?_; intro wq Nq hcq _; replace hc := hcq; clear hcq; clear z2; have z3 : True := trivial)
              | (have hq := z1; clear hq; go_at_call 53; refine (kfe _ (hB.trans (hc.bel.mono hB.size))).mono ?_; rintro r wq ⟨Fe, rfl, hFe, hbq⟩; replace hc := hc.call hbq; have fe6 := hFe.vc.sz; have fe1 := hFe.vc.one; clear kfe; clear hbq; clear z1; have z2 : True := trivial)
              | (have hq := z0; clear hq; refine v_load rfl 26 (.tmp 1) rfl 0 rfl hc rfl _ Tryz.underlying26 rfl (sz26 d6) ?_; clear z0; have z1 : True := trivial))
            clear hm hlt hlt' hil
            generalize vu.f = f at *
            replace hc := hc.sub (L := _) (M := [(N10, 26, Fu)]) (by simp)
            go_loopw [13] (fun u w' => ∃ i : Nat, u = .int .i64 (i : Int) ∧ i ≤ f.length ∧ Hid ((f.take i).all (fun x => isU x.1) = true) ∧ Ctx w w' [(N10, 26, Fu)]) (fun u _ => f.length - numOf u)
            case atStart => exact ⟨0, rfl, Nat.zero_le _, rfl, hc⟩
            case round =>
              clear hc
              obtain ⟨i, rfl, hil, HG, hc⟩ := hrel
              have c5 := hc.cell 0 rfl 5 iu5
              by_cases hlt : i < f.length
              · have hlt' : (i : Int) < (f.length : Int) := by omega
                have hwr : IntKind.i64.wrap ((i : Int) + 1) = ((i + 1 : Nat) : Int) := by rw [wrap_small _ (by omega) (by omega)]; omega
                obtain ⟨b, off, rfl, g0, -, gs⟩ := fl_cell (hB.trans (hc.bel.mono hB.size)) HU.out i hlt
                have kU : ∀ W, Calls Tryz.prog 48 #[.string f[i].1] W fun r w' => r = .returned (.bool (isU f[i].1)) ∧ w' = W := fun W => ruser_any' f[i].1 W (by omega)
                have HS : Hid (∀ q, isU f[i].1 = q → (f.take (i + 1)).all (fun x => isU x.1) = q) := fun q hq => by
                  rw [take_snoc f i hlt, List.all_append, HG.out]
                  simp [hq]
                have HF : Hid ((f.take (i + 1)).all (fun x => isU x.1) = false → R = false) := fun h => by
                  have h1 : f.all (fun x => isU x.1) = false := by
                    rw [List.all_eq_false] at h ⊢
                    obtain ⟨x, hx, hp⟩ := h
                    exact ⟨x, List.mem_of_mem_take hx, hp⟩
                  rw [HR3.out, h1]
                clear HG
                generalize isU f[i].1 = q at *
                generalize f[i].1 = nm at *
                cases q
                · have HE : Hid (R = false) := HF.out (HS.out false rfl)
                  clear HS HF
                  go_wp2_with (go_at_call 48; refine (kU _).mono ?_; rintro r wq ⟨rfl, rfl⟩)
                  go_ret
                  exact ⟨by rw [HE.out]; rfl, hc.bel⟩
                · have HE : Hid ((f.take (i + 1)).all (fun x => isU x.1) = true) := HS.out true rfl
                  clear HS HF
                  go_wp2_with (go_at_call 48; refine (kU _).mono ?_; rintro r wq ⟨rfl, rfl⟩)
                  go_roundw
                  case rel => exact ⟨i + 1, by simp, hlt, HE, hc⟩
                  case measure => simp [numOf]; omega
              · have hlt' : ¬ (i : Int) < (f.length : Int) := by omega
                have HE : Hid (R = true) := by
                  have h1 := HG.out
                  rw [List.take_of_length_le (by omega)] at h1
                  rw [HR3.out]
                  exact h1
                clear HG
                go_wp2
                go_ret
                exact ⟨by rw [HE.out]; rfl, hc.bel⟩
      · cases nE
        · skip
          have HE : Hid (R = false) := by show _ = _; rw [HR2.out]; simp
          have z0 : True := trivial
          go_wp2_with (first
            | (have hq := z4; clear hq; go_at_call 56; refine (kie Fe _ (hB.trans (hc.bel.mono hB.size)) hFe).mono ?_; rintro r wq ⟨rfl, hbq⟩; replace hc := hc.call hbq; clear kie; clear hbq; clear z4)
            | (have hq := z3; clear hq; refine v_load rfl 26 (.tmp 7) rfl 0 rfl hc rfl _ Tryz.underlying26 rfl (sz26 fe6) ?_; clear z3; have z4 : True := trivial)
            | (have hq := z2; clear hq; refine v_decl rfl rfl 26 rfl (.tmp 7) (.tmp 40) rfl zV Fe z26 (fun _ => rfl) (fun _ => rfl) (by rw [fe6]; rfl) (sz26 fe6) fe1 hc ?_; intro wq Nq hcq _; replace hc := hcq; clear hcq; clear z2; have z3 : True := trivial)
            | (have hq := z1; clear hq; go_at_call 53; refine (kfe _ (hB.trans (hc.bel.mono hB.size))).mono ?_; rintro r wq ⟨Fe, rfl, hFe, hbq⟩; replace hc := hc.call hbq; have fe6 := hFe.vc.sz; have fe1 := hFe.vc.one; clear kfe; clear hbq; clear z1; have z2 : True := trivial)
            | (have hq := z0; clear hq; refine v_load rfl 26 (.tmp 1) rfl 0 rfl hc rfl _ Tryz.underlying26 rfl (sz26 d6) ?_; clear z0; have z1 : True := trivial))
          go_ret
          exact ⟨by rw [HE.out]; rfl, hc.bel⟩
        · skip
          cases uO
          · skip
            have HR3 : Hid (R = true) := by show _ = _; rw [HR2.out]; simp
            clear HR2
            have z0 : True := trivial
            go_wp2_with (first
              | (have hq := z9; clear hq; go_at_call 56; refine (kiu Fu _ (hB.trans (hc.bel.mono hB.size)) hFu).mono ?_; rintro r wq ⟨rfl, hbq⟩; replace hc := hc.call hbq; obtain ⟨-, -, -, -, -, -, -, fus, ua, uc, iu5, ufl⟩ := hFu.vc; have HU : Hid (LaidF B ua 0 vu.f) := ufl; clear kiu ufl hFu; clear hbq; clear z9)
              | (have hq := z8; clear hq; refine v_load rfl 26 (.tmp 10) rfl 0 rfl hc rfl _ Tryz.underlying26 rfl (sz26 fu6) ?_; clear z8; have z9 : True := trivial)
              | (have hq := z7; clear hq; refine v_decl rfl rfl 26 rfl (.tmp 10) (.tmp 52) rfl zV Fu z26 (fun _ => rfl) (fun _ => rfl) (by rw [fu6]; rfl) (sz26 fu6) fu1 hc ?_; intro wq N10 hcq _; replace hc := hcq; clear hcq; clear z7; have z8 : True := trivial)
              | (have hq := z6; clear hq; go_at_call 53; refine (kfu _ (hB.trans (hc.bel.mono hB.size))).mono ?_; rintro r wq ⟨Fu, rfl, hFu, hbq⟩; replace hc := hc.call hbq; have fu6 := hFu.vc.sz; have fu1 := hFu.vc.one; clear kfu; clear hbq; clear z6; have z7 : True := trivial)
              | (have hq := z5; clear hq; refine v_load rfl 26 (.tmp 1) rfl 1 rfl hc rfl _ Tryz.underlying26 rfl (sz26 d6) ?_; clear z5; have z6 : True := trivial)
              | (have hq := z4; clear hq; go_at_call 56; refine (kie Fe _ (hB.trans (hc.bel.mono hB.size)) hFe).mono ?_; rintro r wq ⟨rfl, hbq⟩; replace hc := hc.call hbq; clear kie; clear hbq; clear z4; have z5 : True := trivial)
              | (have hq := z3; clear hq; refine v_load rfl 26 (.tmp 7) rfl 0 rfl hc rfl _ Tryz.underlying26 rfl (sz26 fe6) ?_; clear z3; have z4 : True := trivial)
              | (have hq := z2; clear hq; refine v_decl rfl rfl 26 rfl (.tmp 7) (.tmp 40) rfl zV Fe z26 (fun _ => rfl) (fun _ => rfl) (by rw [fe6]; rfl) (sz26 fe6) fe1 hc ?_; intro wq Nq hcq _; replace hc := hcq; clear hcq; clear z2; have z3 : True := trivial)
              | (have hq := z1; clear hq; go_at_call 53; refine (kfe _ (hB.trans (hc.bel.mono hB.size))).mono ?_; rintro r wq ⟨Fe, rfl, hFe, hbq⟩; replace hc := hc.call hbq; have fe6 := hFe.vc.sz; have fe1 := hFe.vc.one; clear kfe; clear hbq; clear z1; have z2 : True := trivial)
              | (have hq := z0; clear hq; refine v_load rfl 26 (.tmp 1) rfl 0 rfl hc rfl _ Tryz.underlying26 rfl (sz26 d6) ?_; clear z0; have z1 : True := trivial))
            clear hm hlt hlt' hil
            generalize vu.f = f at *
            replace hc := hc.sub (L := _) (M := [(N10, 26, Fu)]) (by simp)
            go_loopw [13] (fun u w' => ∃ i : Nat, u = .int .i64 (i : Int) ∧ i ≤ f.length ∧ Hid (True) ∧ Ctx w w' [(N10, 26, Fu)]) (fun u _ => f.length - numOf u)
            case atStart => exact ⟨0, rfl, Nat.zero_le _, trivial, hc⟩
            case round =>
              clear hc
              obtain ⟨i, rfl, hil, HG, hc⟩ := hrel
              have c5 := hc.cell 0 rfl 5 iu5
              by_cases hlt : i < f.length
              · have hlt' : (i : Int) < (f.length : Int) := by omega
                have hwr : IntKind.i64.wrap ((i : Int) + 1) = ((i + 1 : Nat) : Int) := by rw [wrap_small _ (by omega) (by omega)]; omega
                obtain ⟨b, off, rfl, g0, -, gs⟩ := fl_cell (hB.trans (hc.bel.mono hB.size)) HU.out i hlt
                have kU : ∀ W, Calls Tryz.prog 48 #[.string f[i].1] W fun r w' => r = .returned (.bool (isU f[i].1)) ∧ w' = W := fun W => ruser_any' f[i].1 W (by omega)
                generalize isU f[i].1 = q at *
                generalize f[i].1 = nm at *
                go_wp2_with (go_at_call 48; refine (kU _).mono ?_; rintro r wq ⟨rfl, rfl⟩)
                go_roundw
                case rel => exact ⟨i + 1, by simp, hlt, trivial, hc⟩
                case measure => simp [numOf]; omega
              · have hlt' : ¬ (i : Int) < (f.length : Int) := by omega
                have HE := HR3
                clear HG
                go_wp2
                go_ret
                exact ⟨by rw [HE.out]; rfl, hc.bel⟩
          · cases nU
            · skip
              have HE : Hid (R = false) := by show _ = _; rw [HR2.out]; simp
              have z0 : True := trivial
              go_wp2_with (first
                | (have hq := z9; clear hq; go_at_call 56; refine (kiu Fu _ (hB.trans (hc.bel.mono hB.size)) hFu).mono ?_; rintro r wq ⟨rfl, hbq⟩; replace hc := hc.call hbq; obtain ⟨-, -, -, -, -, -, -, fus, ua, uc, iu5, ufl⟩ := hFu.vc; have HU : Hid (LaidF B ua 0 vu.f) := ufl; clear kiu ufl hFu; clear hbq; clear z9)
                | (have hq := z8; clear hq; refine v_load rfl 26 (.tmp 10) rfl 0 rfl hc rfl _ Tryz.underlying26 rfl (sz26 fu6) ?_; clear z8; have z9 : True := trivial)
                | (have hq := z7; clear hq; refine v_decl rfl rfl 26 rfl (.tmp 10) (.tmp 52) rfl zV Fu z26 (fun _ => rfl) (fun _ => rfl) (by rw [fu6]; rfl) (sz26 fu6) fu1 hc ?_; intro wq N10 hcq _; replace hc := hcq; clear hcq; clear z7; have z8 : True := trivial)
                | (have hq := z6; clear hq; go_at_call 53; refine (kfu _ (hB.trans (hc.bel.mono hB.size))).mono ?_; rintro r wq ⟨Fu, rfl, hFu, hbq⟩; replace hc := hc.call hbq; have fu6 := hFu.vc.sz; have fu1 := hFu.vc.one; clear kfu; clear hbq; clear z6; have z7 : True := trivial)
                | (have hq := z5; clear hq; refine v_load rfl 26 (.tmp 1) rfl 1 rfl hc rfl _ Tryz.underlying26 rfl (sz26 d6) ?_; clear z5; have z6 : True := trivial)
                | (have hq := z4; clear hq; go_at_call 56; refine (kie Fe _ (hB.trans (hc.bel.mono hB.size)) hFe).mono ?_; rintro r wq ⟨rfl, hbq⟩; replace hc := hc.call hbq; clear kie; clear hbq; clear z4; have z5 : True := trivial)
                | (have hq := z3; clear hq; refine v_load rfl 26 (.tmp 7) rfl 0 rfl hc rfl _ Tryz.underlying26 rfl (sz26 fe6) ?_; clear z3; have z4 : True := trivial)
                | (have hq := z2; clear hq; refine v_decl rfl rfl 26 rfl (.tmp 7) (.tmp 40) rfl zV Fe z26 (fun _ => rfl) (fun _ => rfl) (by rw [fe6]; rfl) (sz26 fe6) fe1 hc ?_; intro wq Nq hcq _; replace hc := hcq; clear hcq; clear z2; have z3 : True := trivial)
                | (have hq := z1; clear hq; go_at_call 53; refine (kfe _ (hB.trans (hc.bel.mono hB.size))).mono ?_; rintro r wq ⟨Fe, rfl, hFe, hbq⟩; replace hc := hc.call hbq; have fe6 := hFe.vc.sz; have fe1 := hFe.vc.one; clear kfe; clear hbq; clear z1; have z2 : True := trivial)
                | (have hq := z0; clear hq; refine v_load rfl 26 (.tmp 1) rfl 0 rfl hc rfl _ Tryz.underlying26 rfl (sz26 d6) ?_; clear z0; have z1 : True := trivial))
              go_ret
              exact ⟨by rw [HE.out]; rfl, hc.bel⟩
            · skip
              have HR3 : Hid (R = vu.f.all (fun x => isU x.1)) := by show _ = _; rw [HR2.out]; simp
              clear HR2
              have z0 : True := trivial
              go_wp2_with (first
                | (have hq := z9; clear hq; go_at_call 56; refine (kiu Fu _ (hB.trans (hc.bel.mono hB.size)) hFu).mono ?_; rintro r wq ⟨rfl, hbq⟩; replace hc := hc.call hbq; obtain ⟨-, -, -, -, -, -, -, fus, ua, uc, iu5, ufl⟩ := hFu.vc; have HU : Hid (LaidF B ua 0 vu.f) := ufl; clear kiu ufl hFu; clear hbq; clear z9)
                | (have hq := z8; clear hq; refine v_load rfl 26 (.tmp 10) rfl 0 rfl hc rfl _ Tryz.underlying26 rfl (sz26 fu6) ?_; clear z8; have z9 : True := trivial)
                | (have hq := z7; clear hq; refine v_decl rfl rfl 26 rfl (.tmp 10) (.tmp 52) rfl zV Fu z26 (fun _ => rfl) (fun _ => rfl) (by rw [fu6]; rfl) (sz26 fu6) fu1 hc ?_; intro wq N10 hcq _; replace hc := hcq; clear hcq; clear z7; have z8 : True := trivial)
                | (have hq := z6; clear hq; go_at_call 53; refine (kfu _ (hB.trans (hc.bel.mono hB.size))).mono ?_; rintro r wq ⟨Fu, rfl, hFu, hbq⟩; replace hc := hc.call hbq; have fu6 := hFu.vc.sz; have fu1 := hFu.vc.one; clear kfu; clear hbq; clear z6; have z7 : True := trivial)
                | (have hq := z5; clear hq; refine v_load rfl 26 (.tmp 1) rfl 1 rfl hc rfl _ Tryz.underlying26 rfl (sz26 d6) ?_; clear z5; have z6 : True := trivial)
                | (have hq := z4; clear hq; go_at_call 56; refine (kie Fe _ (hB.trans (hc.bel.mono hB.size)) hFe).mono ?_; rintro r wq ⟨rfl, hbq⟩; replace hc := hc.call hbq; clear kie; clear hbq; clear z4; have z5 : True := trivial)
                | (have hq := z3; clear hq; refine v_load rfl 26 (.tmp 7) rfl 0 rfl hc rfl _ Tryz.underlying26 rfl (sz26 fe6) ?_; clear z3; have z4 : True := trivial)
                | (have hq := z2; clear hq; refine v_decl rfl rfl 26 rfl (.tmp 7) (.tmp 40) rfl zV Fe z26 (fun _ => rfl) (fun _ => rfl) (by rw [fe6]; rfl) (sz26 fe6) fe1 hc ?_; intro wq Nq hcq _; replace hc := hcq; clear hcq; clear z2; have z3 : True := trivial)
                | (have hq := z1; clear hq; go_at_call 53; refine (kfe _ (hB.trans (hc.bel.mono hB.size))).mono ?_; rintro r wq ⟨Fe, rfl, hFe, hbq⟩; replace hc := hc.call hbq; have fe6 := hFe.vc.sz; have fe1 := hFe.vc.one; clear kfe; clear hbq; clear z1; have z2 : True := trivial)
                | (have hq := z0; clear hq; refine v_load rfl 26 (.tmp 1) rfl 0 rfl hc rfl _ Tryz.underlying26 rfl (sz26 d6) ?_; clear z0; have z1 : True := trivial))
              clear hm hlt hlt' hil
              generalize vu.f = f at *
              replace hc := hc.sub (L := _) (M := [(N10, 26, Fu)]) (by simp)
              go_loopw [13] (fun u w' => ∃ i : Nat, u = .int .i64 (i : Int) ∧ i ≤ f.length ∧ Hid ((f.take i).all (fun x => isU x.1) = true) ∧ Ctx w w' [(N10, 26, Fu)]) (fun u _ => f.length - numOf u)
              case atStart => exact ⟨0, rfl, Nat.zero_le _, rfl, hc⟩
              case round =>
                clear hc
                obtain ⟨i, rfl, hil, HG, hc⟩ := hrel
                have c5 := hc.cell 0 rfl 5 iu5
                by_cases hlt : i < f.length
                · have hlt' : (i : Int) < (f.length : Int) := by omega
                  have hwr : IntKind.i64.wrap ((i : Int) + 1) = ((i + 1 : Nat) : Int) := by rw [wrap_small _ (by omega) (by omega)]; omega
                  obtain ⟨b, off, rfl, g0, -, gs⟩ := fl_cell (hB.trans (hc.bel.mono hB.size)) HU.out i hlt
                  have kU : ∀ W, Calls Tryz.prog 48 #[.string f[i].1] W fun r w' => r = .returned (.bool (isU f[i].1)) ∧ w' = W := fun W => ruser_any' f[i].1 W (by omega)
                  have HS : Hid (∀ q, isU f[i].1 = q → (f.take (i + 1)).all (fun x => isU x.1) = q) := fun q hq => by
                    rw [take_snoc f i hlt, List.all_append, HG.out]
                    simp [hq]
                  have HF : Hid ((f.take (i + 1)).all (fun x => isU x.1) = false → R = false) := fun h => by
                    have h1 : f.all (fun x => isU x.1) = false := by
                      rw [List.all_eq_false] at h ⊢
                      obtain ⟨x, hx, hp⟩ := h
                      exact ⟨x, List.mem_of_mem_take hx, hp⟩
                    rw [HR3.out, h1]
                  clear HG
                  generalize isU f[i].1 = q at *
                  generalize f[i].1 = nm at *
                  cases q
                  · have HE : Hid (R = false) := HF.out (HS.out false rfl)
                    clear HS HF
                    go_wp2_with (go_at_call 48; refine (kU _).mono ?_; rintro r wq ⟨rfl, rfl⟩)
                    go_ret
                    exact ⟨by rw [HE.out]; rfl, hc.bel⟩
                  · have HE : Hid ((f.take (i + 1)).all (fun x => isU x.1) = true) := HS.out true rfl
                    clear HS HF
                    go_wp2_with (go_at_call 48; refine (kU _).mono ?_; rintro r wq ⟨rfl, rfl⟩)
                    go_roundw
                    case rel => exact ⟨i + 1, by simp, hlt, HE, hc⟩
                    case measure => simp [numOf]; omega
                · have hlt' : ¬ (i : Int) < (f.length : Int) := by omega
                  have HE : Hid (R = true) := by
                    have h1 := HG.out
                    rw [List.take_of_length_le (by omega)] at h1
                    rw [HR3.out]
                    exact h1
                  clear HG
                  go_wp2
                  go_ret
                  exact ⟨by rw [HE.out]; rfl, hc.bel⟩
end Go.Proofs.YthplcnbfpcndbaaGreatDoor
