/- Has a content the form of levels? Contracts, by walking their text. -/
import Derived.Test.YthplcnbfpcndbaaGreatDoorTf
namespace Go.Proofs.YthplcnbfpcndbaaGreatDoor
open Go.RowKit

def sevOk (v : GV) (nm : ByteArray) : Bool := !(fld v nm).isSome || decide ((fldD v nm).k = 2)
set_option maxRecDepth 100000 in
set_option maxHeartbeats 8000000 in
theorem areLevels_any (v : GV) (D : Array Value) (B w : World) (hB : Below B.heap.size B w) (hv : LaidV B v D) (hg : Sing B) :
    Calls Tryz.prog 77 #[.agg D] w fun r w' => r = .returned (.bool (formB v)) ∧ Below w.heap.size w w' := by
  have hc0 := Ctx.start w
  have hf := fun nm W (h : Below B.heap.size B W) => field_any v D nm B W h hv
  have d6 := hv.vc.sz
  clear hv
  obtain ⟨SC, hr0, hlt0, hix, hn⟩ : ∃ SC : Array Value, w.rangeAt 0 0 SC.toList ∧ 0 < w.heap.size ∧ (∀ i : Nat, i < 7 → ∃ nm, seven[i]? = some nm ∧ ∀ W, (Instr.index 109 (.agg SC) (.int .i64 (i : Int))).run Tryz.prog W = .ok (.string nm) W) ∧ (Tryz.prog.info? 109).map (·.size) = some SC.toList.length := ⟨sevC, (hg.below hB).1, (hg.below hB).2, idx99, n99⟩
  have HIX : Hid (∀ i : Nat, i < 7 → ∃ nm, seven[i]? = some nm ∧ ∀ W, (Instr.index 109 (.agg SC) (.int .i64 (i : Int))).run Tryz.prog W = .ok (.string nm) W) := hix
  have HF : Hid (∀ nm W, Below B.heap.size B W → Calls Tryz.prog 61 #[.agg D, .string nm] W (FOut v nm B W)) := hf
  clear hix hf hg
  have HN : Hid (seven.all (sevOk v) = (seven.drop 0).all (sevOk v)) := rfl
  go_enter Tryz.func77, Tryz.ntmps77
  go_wp2_with (first
    | (refine v_box rfl 26 (.tmp 0) rfl D rfl hc0 ?_; intro w1 N1 hc1 hb1; clear hc0)
    | (refine wpList_load_mid rfl 109 (.global 0) rfl 0 0 rfl SC.toList _ (below_range hc1.bel hr0 hlt0) Tryz.underlying109 rfl hn ?_; clear hn))
  go_loopw [11] (fun u w' => ∃ i : Nat, u = .int .i64 (i : Int) ∧ i ≤ 7 ∧ Hid (seven.all (sevOk v) = (seven.drop i).all (sevOk v)) ∧ Ctx w w' [(N1, 26, D)]) (fun u _ => 7 - numOf u)
  case atStart => exact ⟨0, rfl, Nat.zero_le _, HN, hc1⟩
  case round =>
    obtain ⟨i, rfl, hil, HG, hc⟩ := hrel
    clear HN hc1 hb1
    by_cases hlt : i < 7
    · have hlt' : (i : Int) < 7 := by omega
      obtain ⟨nm, hnm, hix⟩ := HIX.out i hlt
      have hwr : IntKind.i64.wrap ((i : Int) + 1) = ((i + 1 : Nat) : Int) := by rw [wrap_small _ (by omega) (by omega)]; omega
      have hdrop : Hid (seven.drop i = nm :: seven.drop (i + 1)) := by
        obtain ⟨h1, h2⟩ := List.getElem?_eq_some_iff.1 hnm
        show _ = _
        rw [← h2]
        exact List.drop_eq_getElem_cons h1
      have hfl := HF.out nm
      clear hnm
      obtain ⟨b, hb⟩ : ∃ b, (fld v nm).isSome = b := ⟨_, rfl⟩
      have hfb : ∀ W, Below B.heap.size B W → Calls Tryz.prog 61 #[.agg D, .string nm] W fun e w' => ∃ E, e = .returned (.tuple #[.agg E, .bool b]) ∧ LaidV B (fldD v nm) E ∧ Below W.heap.size W w' := hb ▸ hfl
      clear hfl
      cases b
      · have HE : Hid (seven.all (sevOk v) = (seven.drop (i + 1)).all (sevOk v)) := by show _ = _; rw [HG.out, hdrop.out, List.all_cons, sevOk, hb]; rfl
        clear HG hdrop hb
        go_wp2_with (first
          | (refine v_load rfl 26 (.tmp 1) rfl 0 rfl hc rfl _ Tryz.underlying26 rfl (sz26 d6) ?_)
          | (go_at_call 61; refine (hfb _ (hB.trans (hc.bel.mono hB.size))).mono ?_; rintro e w2 ⟨E, rfl, hE, hb2⟩; have hc2 := hc.call hb2; have e6 := hE.vc.sz; have eo := hE.vc.one; clear hE hfb)
          | (refine v_decl rfl rfl 26 rfl (.tmp 5) (.tmp 18) rfl zV E z26 (fun _ => rfl) (fun _ => rfl) (by rw [e6]; rfl) (sz26 e6) eo hc2 ?_; intro w3 N3 hc3 _))
        go_roundw
        case rel => exact ⟨i + 1, by simp, hlt, HE, hc3.sub (List.sublist_cons_self _ _)⟩
        case measure => simp [numOf]; omega
      · by_cases hk : (fldD v nm).k = 2
        · have HE : Hid (seven.all (sevOk v) = (seven.drop (i + 1)).all (sevOk v)) := by show _ = _; rw [HG.out, hdrop.out, List.all_cons, sevOk, hb, decide_eq_true hk]; rfl
          have hk' : ((fldD v nm).k != 2) = false := by simp [hk]
          clear HG hdrop hb hk
          go_wp2_with (first
            | (refine v_load rfl 26 (.tmp 1) rfl 0 rfl hc rfl _ Tryz.underlying26 rfl (sz26 d6) ?_)
            | (go_at_call 61; refine (hfb _ (hB.trans (hc.bel.mono hB.size))).mono ?_; rintro e w2 ⟨E, rfl, hE, hb2⟩; have hc2 := hc.call hb2; have e6 := hE.vc.sz; have eo := hE.vc.one; have e0 := hE.vc.i0; clear hE hfb)
            | (refine v_decl rfl rfl 26 rfl (.tmp 5) (.tmp 18) rfl zV E z26 (fun _ => rfl) (fun _ => rfl) (by rw [e6]; rfl) (sz26 e6) eo hc2 ?_; intro w3 N3 hc3 _; have c0 := hc3.cell 0 rfl 0 e0))
          go_roundw
          case rel => exact ⟨i + 1, by simp, hlt, HE, hc3.sub (List.sublist_cons_self _ _)⟩
          case measure => simp [numOf]; omega
        · have HE : Hid (formB v = false) := by
            show _ = _
            have h1 : seven.all (sevOk v) = false := by rw [HG.out, hdrop.out, List.all_cons, sevOk, hb, decide_eq_false hk]; rfl
            unfold formB
            change (seven.all (sevOk v) && _) = false
            rw [h1]
            rfl
          have hk' : ((fldD v nm).k != 2) = true := by simp [hk]
          clear HG hdrop hb hk
          go_wp2_with (first
            | (refine v_load rfl 26 (.tmp 1) rfl 0 rfl hc rfl _ Tryz.underlying26 rfl (sz26 d6) ?_)
            | (go_at_call 61; refine (hfb _ (hB.trans (hc.bel.mono hB.size))).mono ?_; rintro e w2 ⟨E, rfl, hE, hb2⟩; have hc2 := hc.call hb2; have e6 := hE.vc.sz; have eo := hE.vc.one; have e0 := hE.vc.i0; clear hE hfb)
            | (refine v_decl rfl rfl 26 rfl (.tmp 5) (.tmp 18) rfl zV E z26 (fun _ => rfl) (fun _ => rfl) (by rw [e6]; rfl) (sz26 e6) eo hc2 ?_; intro w3 N3 hc3 _; have c0 := hc3.cell 0 rfl 0 e0))
          go_ret
          exact ⟨by rw [HE.out]; rfl, hc3.bel⟩
    · have hlt' : ¬ (i : Int) < 7 := by omega
      have HE : Hid (formB v = ((!(fld v sEvents).isSome || numsB (fldD v sEvents)) && (!(fld v sUsers).isSome || (numsB (fldD v sUsers) && (fldD v sUsers).f.all (fun x => isU x.1))))) := by
        show _ = _
        have h1 : seven.all (sevOk v) = true := by
          rw [HG.out, List.drop_eq_nil_of_le (show seven.length ≤ i from by have : seven.length = 7 := rfl; omega)]
          rfl
        unfold formB
        change (seven.all (sevOk v) && _) = _
        rw [h1]
        rfl
      clear HG HIX
      obtain ⟨bE, hbE⟩ : ∃ b, (fld v sEvents).isSome = b := ⟨_, rfl⟩
      obtain ⟨bU, hbU⟩ : ∃ b, (fld v sUsers).isSome = b := ⟨_, rfl⟩
      have hfE : ∀ W, Below B.heap.size B W → Calls Tryz.prog 61 #[.agg D, .string sEvents] W fun e w' => ∃ E, e = .returned (.tuple #[.agg E, .bool bE]) ∧ LaidV B (fldD v sEvents) E ∧ Below W.heap.size W w' := hbE ▸ HF.out sEvents
      have hfU : ∀ W, Below B.heap.size B W → Calls Tryz.prog 61 #[.agg D, .string sUsers] W fun e w' => ∃ E, e = .returned (.tuple #[.agg E, .bool bU]) ∧ LaidV B (fldD v sUsers) E ∧ Below W.heap.size W w' := hbU ▸ HF.out sUsers
      clear HF
      have hnE := fun E (h : LaidV B (fldD v sEvents) E) W (hW : Below B.heap.size B W) => areNumbers_any (fldD v sEvents) E B W hW h
      have hnU := fun E (h : LaidV B (fldD v sUsers) E) W (hW : Below B.heap.size B W) => areNumbers_any (fldD v sUsers) E B W hW h
      rw [hbE, hbU] at HE
      clear hbE hbU
      generalize fldD v sEvents = vE at *
      generalize fldD v sUsers = vU at *
      generalize numsB vE = nE at *
      generalize numsB vU = nU at *
      have hall : vU.f.all (fun x => isU x.1) = !(vU.f.any fun x => !isU x.1) := by
        rw [List.not_any_eq_all_not]
        simp
      rw [hall] at HE
      clear hall
      cases bE
      · skip
        cases bU
        · skip
          have HR : Hid (formB v = (true)) := by show _ = _; rw [HE.out]; simp
          clear HE
          have f0 : True := trivial
          go_wp2_with (first
            | (have hq := f2; clear hq; refine v_decl rfl rfl 26 rfl (.tmp 9) (.tmp 41) rfl zV U z26 (fun _ => rfl) (fun _ => rfl) (by rw [u6]; rfl) (sz26 u6) uo hc ?_; intro wz Nz hcz _; replace hc := hcz; clear hcz f2; have f3 : True := trivial)
            | (have hq := f1; clear hq; go_at_call 61; refine (hfU _ (hB.trans (hc.bel.mono hB.size))).mono ?_; rintro r wy ⟨U, rfl, hU, hby⟩; replace hc := hc.call hby; have u6 := hU.vc.sz; have uo := hU.vc.one; clear f1 hfU hU hby; have f2 : True := trivial)
            | (have hq := f1; clear hq; refine v_load rfl 26 (.tmp 1) rfl 1 rfl hc rfl _ Tryz.underlying26 rfl (sz26 d6) ?_)
            | (have hq := e1; clear hq; refine v_decl rfl rfl 26 rfl (.tmp 7) (.tmp 30) rfl zV E z26 (fun _ => rfl) (fun _ => rfl) (by rw [e6]; rfl) (sz26 e6) eo hc ?_; intro wz Nz hcz _; replace hc := hcz; clear hcz e1; have f1 : True := trivial)
            | (have hq := f0; clear hq; go_at_call 61; refine (hfE _ (hB.trans (hc.bel.mono hB.size))).mono ?_; rintro r wy ⟨E, rfl, hE, hby⟩; replace hc := hc.call hby; have e6 := hE.vc.sz; have eo := hE.vc.one; clear f0 hfE hE hby; have e1 : True := trivial)
            | (have hq := f0; clear hq; refine v_load rfl 26 (.tmp 1) rfl 0 rfl hc rfl _ Tryz.underlying26 rfl (sz26 d6) ?_))
          go_ret
          exact ⟨by rw [HR.out]; rfl, hc.bel⟩
        · cases nU
          · skip
            have HR : Hid (formB v = (false)) := by show _ = _; rw [HE.out]; simp
            clear HE
            have f0 : True := trivial
            go_wp2_with (first
              | (have hq := f4; clear hq; go_at_call 97; refine (knU _ (hB.trans (hc.bel.mono hB.size))).mono ?_; rintro r wy ⟨rfl, hby⟩; replace hc := hc.call hby; clear f4 knU hby)
              | (have hq := f3; clear hq; refine v_loadg rfl 26 (.tmp 9) rfl 0 rfl hc rfl _ Tryz.underlying26 rfl (sz26 u6) ?_; clear f3; have f4 : True := trivial)
              | (have hq := f2; clear hq; refine v_decl rfl rfl 26 rfl (.tmp 9) (.tmp 41) rfl zV U z26 (fun _ => rfl) (fun _ => rfl) (by rw [u6]; rfl) (sz26 u6) uo hc ?_; intro wz Nz hcz _; replace hc := hcz; clear hcz f2; have f3 : True := trivial)
              | (have hq := f1; clear hq; go_at_call 61; refine (hfU _ (hB.trans (hc.bel.mono hB.size))).mono ?_; rintro r wy ⟨U, rfl, hU, hby⟩; replace hc := hc.call hby; have u6 := hU.vc.sz; have uo := hU.vc.one; have knU := hnU U hU; clear f1 hfU hU hby; have f2 : True := trivial)
              | (have hq := f1; clear hq; refine v_load rfl 26 (.tmp 1) rfl 1 rfl hc rfl _ Tryz.underlying26 rfl (sz26 d6) ?_)
              | (have hq := e1; clear hq; refine v_decl rfl rfl 26 rfl (.tmp 7) (.tmp 30) rfl zV E z26 (fun _ => rfl) (fun _ => rfl) (by rw [e6]; rfl) (sz26 e6) eo hc ?_; intro wz Nz hcz _; replace hc := hcz; clear hcz e1; have f1 : True := trivial)
              | (have hq := f0; clear hq; go_at_call 61; refine (hfE _ (hB.trans (hc.bel.mono hB.size))).mono ?_; rintro r wy ⟨E, rfl, hE, hby⟩; replace hc := hc.call hby; have e6 := hE.vc.sz; have eo := hE.vc.one; clear f0 hfE hE hby; have e1 : True := trivial)
              | (have hq := f0; clear hq; refine v_load rfl 26 (.tmp 1) rfl 0 rfl hc rfl _ Tryz.underlying26 rfl (sz26 d6) ?_))
            go_ret
            exact ⟨by rw [HR.out]; rfl, hc.bel⟩
          · skip
            have HR : Hid (formB v = (!(vU.f.any fun x => !isU x.1))) := by show _ = _; rw [HE.out]; simp
            clear HE
            have f0 : True := trivial
            go_wp2_with (first
              | (go_at_call 98; refine (hu _ (hB.trans (hc.bel.mono hB.size))).mono ?_; rintro r wy ⟨rfl, hby⟩; replace hc := hc.call hby)
              | (have hq := f4; clear hq; go_at_call 97; refine (knU _ (hB.trans (hc.bel.mono hB.size))).mono ?_; rintro r wy ⟨rfl, hby⟩; replace hc := hc.call hby; have cU := hc.cell 0 rfl 5 u5; clear f4 knU hby)
              | (have hq := f3; clear hq; refine v_loadg rfl 26 (.tmp 9) rfl 0 rfl hc rfl _ Tryz.underlying26 rfl (sz26 u6) ?_; clear f3; have f4 : True := trivial)
              | (have hq := f2; clear hq; refine v_decl rfl rfl 26 rfl (.tmp 9) (.tmp 41) rfl zV U z26 (fun _ => rfl) (fun _ => rfl) (by rw [u6]; rfl) (sz26 u6) uo hc ?_; intro wz Nz hcz _; replace hc := hcz; clear hcz f2; have f3 : True := trivial)
              | (have hq := f1; clear hq; go_at_call 61; refine (hfU _ (hB.trans (hc.bel.mono hB.size))).mono ?_; rintro r wy ⟨U, rfl, hU, hby⟩; replace hc := hc.call hby; have u6 := hU.vc.sz; have uo := hU.vc.one; have knU := hnU U hU; have ufs := hU.vc.fs; obtain ⟨ua, uc, u5, ufl⟩ := hU.vc.fl; have hu := fun W (hW : Below B.heap.size B W) => noUsers_any vU.f ua uc B W hW ufs ufl; clear f1 hfU hU hby; have f2 : True := trivial)
              | (have hq := f1; clear hq; refine v_load rfl 26 (.tmp 1) rfl 1 rfl hc rfl _ Tryz.underlying26 rfl (sz26 d6) ?_)
              | (have hq := e1; clear hq; refine v_decl rfl rfl 26 rfl (.tmp 7) (.tmp 30) rfl zV E z26 (fun _ => rfl) (fun _ => rfl) (by rw [e6]; rfl) (sz26 e6) eo hc ?_; intro wz Nz hcz _; replace hc := hcz; clear hcz e1; have f1 : True := trivial)
              | (have hq := f0; clear hq; go_at_call 61; refine (hfE _ (hB.trans (hc.bel.mono hB.size))).mono ?_; rintro r wy ⟨E, rfl, hE, hby⟩; replace hc := hc.call hby; have e6 := hE.vc.sz; have eo := hE.vc.one; clear f0 hfE hE hby; have e1 : True := trivial)
              | (have hq := f0; clear hq; refine v_load rfl 26 (.tmp 1) rfl 0 rfl hc rfl _ Tryz.underlying26 rfl (sz26 d6) ?_))
            go_ret
            exact ⟨by rw [HR.out]; rfl, hc.bel⟩
      · cases nE
        · skip
          have HR : Hid (formB v = (false)) := by show _ = _; rw [HE.out]; simp
          clear HE
          have f0 : True := trivial
          go_wp2_with (first
            | (have hq := e3; clear hq; go_at_call 97; refine (knE _ (hB.trans (hc.bel.mono hB.size))).mono ?_; rintro r wy ⟨rfl, hby⟩; replace hc := hc.call hby; clear e3 knE hby; have f1 : True := trivial)
            | (have hq := e2; clear hq; refine v_loadg rfl 26 (.tmp 7) rfl 0 rfl hc rfl _ Tryz.underlying26 rfl (sz26 e6) ?_; clear e2; have e3 : True := trivial)
            | (have hq := e1; clear hq; refine v_decl rfl rfl 26 rfl (.tmp 7) (.tmp 30) rfl zV E z26 (fun _ => rfl) (fun _ => rfl) (by rw [e6]; rfl) (sz26 e6) eo hc ?_; intro wz Nz hcz _; replace hc := hcz; clear hcz e1; have e2 : True := trivial)
            | (have hq := f0; clear hq; go_at_call 61; refine (hfE _ (hB.trans (hc.bel.mono hB.size))).mono ?_; rintro r wy ⟨E, rfl, hE, hby⟩; replace hc := hc.call hby; have e6 := hE.vc.sz; have eo := hE.vc.one; have knE := hnE E hE; clear f0 hfE hE hby; have e1 : True := trivial)
            | (have hq := f0; clear hq; refine v_load rfl 26 (.tmp 1) rfl 0 rfl hc rfl _ Tryz.underlying26 rfl (sz26 d6) ?_))
          go_ret
          exact ⟨by rw [HR.out]; rfl, hc.bel⟩
        · skip
          cases bU
          · skip
            have HR : Hid (formB v = (true)) := by show _ = _; rw [HE.out]; simp
            clear HE
            have f0 : True := trivial
            go_wp2_with (first
              | (have hq := f2; clear hq; refine v_decl rfl rfl 26 rfl (.tmp 9) (.tmp 41) rfl zV U z26 (fun _ => rfl) (fun _ => rfl) (by rw [u6]; rfl) (sz26 u6) uo hc ?_; intro wz Nz hcz _; replace hc := hcz; clear hcz f2; have f3 : True := trivial)
              | (have hq := f1; clear hq; go_at_call 61; refine (hfU _ (hB.trans (hc.bel.mono hB.size))).mono ?_; rintro r wy ⟨U, rfl, hU, hby⟩; replace hc := hc.call hby; have u6 := hU.vc.sz; have uo := hU.vc.one; clear f1 hfU hU hby; have f2 : True := trivial)
              | (have hq := f1; clear hq; refine v_load rfl 26 (.tmp 1) rfl 1 rfl hc rfl _ Tryz.underlying26 rfl (sz26 d6) ?_)
              | (have hq := e3; clear hq; go_at_call 97; refine (knE _ (hB.trans (hc.bel.mono hB.size))).mono ?_; rintro r wy ⟨rfl, hby⟩; replace hc := hc.call hby; clear e3 knE hby; have f1 : True := trivial)
              | (have hq := e2; clear hq; refine v_loadg rfl 26 (.tmp 7) rfl 0 rfl hc rfl _ Tryz.underlying26 rfl (sz26 e6) ?_; clear e2; have e3 : True := trivial)
              | (have hq := e1; clear hq; refine v_decl rfl rfl 26 rfl (.tmp 7) (.tmp 30) rfl zV E z26 (fun _ => rfl) (fun _ => rfl) (by rw [e6]; rfl) (sz26 e6) eo hc ?_; intro wz Nz hcz _; replace hc := hcz; clear hcz e1; have e2 : True := trivial)
              | (have hq := f0; clear hq; go_at_call 61; refine (hfE _ (hB.trans (hc.bel.mono hB.size))).mono ?_; rintro r wy ⟨E, rfl, hE, hby⟩; replace hc := hc.call hby; have e6 := hE.vc.sz; have eo := hE.vc.one; have knE := hnE E hE; clear f0 hfE hE hby; have e1 : True := trivial)
              | (have hq := f0; clear hq; refine v_load rfl 26 (.tmp 1) rfl 0 rfl hc rfl _ Tryz.underlying26 rfl (sz26 d6) ?_))
            go_ret
            exact ⟨by rw [HR.out]; rfl, hc.bel⟩
          · cases nU
            · skip
              have HR : Hid (formB v = (false)) := by show _ = _; rw [HE.out]; simp
              clear HE
              have f0 : True := trivial
              go_wp2_with (first
                | (have hq := f4; clear hq; go_at_call 97; refine (knU _ (hB.trans (hc.bel.mono hB.size))).mono ?_; rintro r wy ⟨rfl, hby⟩; replace hc := hc.call hby; clear f4 knU hby)
                | (have hq := f3; clear hq; refine v_loadg rfl 26 (.tmp 9) rfl 0 rfl hc rfl _ Tryz.underlying26 rfl (sz26 u6) ?_; clear f3; have f4 : True := trivial)
                | (have hq := f2; clear hq; refine v_decl rfl rfl 26 rfl (.tmp 9) (.tmp 41) rfl zV U z26 (fun _ => rfl) (fun _ => rfl) (by rw [u6]; rfl) (sz26 u6) uo hc ?_; intro wz Nz hcz _; replace hc := hcz; clear hcz f2; have f3 : True := trivial)
                | (have hq := f1; clear hq; go_at_call 61; refine (hfU _ (hB.trans (hc.bel.mono hB.size))).mono ?_; rintro r wy ⟨U, rfl, hU, hby⟩; replace hc := hc.call hby; have u6 := hU.vc.sz; have uo := hU.vc.one; have knU := hnU U hU; clear f1 hfU hU hby; have f2 : True := trivial)
                | (have hq := f1; clear hq; refine v_load rfl 26 (.tmp 1) rfl 1 rfl hc rfl _ Tryz.underlying26 rfl (sz26 d6) ?_)
                | (have hq := e3; clear hq; go_at_call 97; refine (knE _ (hB.trans (hc.bel.mono hB.size))).mono ?_; rintro r wy ⟨rfl, hby⟩; replace hc := hc.call hby; clear e3 knE hby; have f1 : True := trivial)
                | (have hq := e2; clear hq; refine v_loadg rfl 26 (.tmp 7) rfl 0 rfl hc rfl _ Tryz.underlying26 rfl (sz26 e6) ?_; clear e2; have e3 : True := trivial)
                | (have hq := e1; clear hq; refine v_decl rfl rfl 26 rfl (.tmp 7) (.tmp 30) rfl zV E z26 (fun _ => rfl) (fun _ => rfl) (by rw [e6]; rfl) (sz26 e6) eo hc ?_; intro wz Nz hcz _; replace hc := hcz; clear hcz e1; have e2 : True := trivial)
                | (have hq := f0; clear hq; go_at_call 61; refine (hfE _ (hB.trans (hc.bel.mono hB.size))).mono ?_; rintro r wy ⟨E, rfl, hE, hby⟩; replace hc := hc.call hby; have e6 := hE.vc.sz; have eo := hE.vc.one; have knE := hnE E hE; clear f0 hfE hE hby; have e1 : True := trivial)
                | (have hq := f0; clear hq; refine v_load rfl 26 (.tmp 1) rfl 0 rfl hc rfl _ Tryz.underlying26 rfl (sz26 d6) ?_))
              go_ret
              exact ⟨by rw [HR.out]; rfl, hc.bel⟩
            · skip
              have HR : Hid (formB v = (!(vU.f.any fun x => !isU x.1))) := by show _ = _; rw [HE.out]; simp
              clear HE
              have f0 : True := trivial
              go_wp2_with (first
                | (go_at_call 98; refine (hu _ (hB.trans (hc.bel.mono hB.size))).mono ?_; rintro r wy ⟨rfl, hby⟩; replace hc := hc.call hby)
                | (have hq := f4; clear hq; go_at_call 97; refine (knU _ (hB.trans (hc.bel.mono hB.size))).mono ?_; rintro r wy ⟨rfl, hby⟩; replace hc := hc.call hby; have cU := hc.cell 0 rfl 5 u5; clear f4 knU hby)
                | (have hq := f3; clear hq; refine v_loadg rfl 26 (.tmp 9) rfl 0 rfl hc rfl _ Tryz.underlying26 rfl (sz26 u6) ?_; clear f3; have f4 : True := trivial)
                | (have hq := f2; clear hq; refine v_decl rfl rfl 26 rfl (.tmp 9) (.tmp 41) rfl zV U z26 (fun _ => rfl) (fun _ => rfl) (by rw [u6]; rfl) (sz26 u6) uo hc ?_; intro wz Nz hcz _; replace hc := hcz; clear hcz f2; have f3 : True := trivial)
                | (have hq := f1; clear hq; go_at_call 61; refine (hfU _ (hB.trans (hc.bel.mono hB.size))).mono ?_; rintro r wy ⟨U, rfl, hU, hby⟩; replace hc := hc.call hby; have u6 := hU.vc.sz; have uo := hU.vc.one; have knU := hnU U hU; have ufs := hU.vc.fs; obtain ⟨ua, uc, u5, ufl⟩ := hU.vc.fl; have hu := fun W (hW : Below B.heap.size B W) => noUsers_any vU.f ua uc B W hW ufs ufl; clear f1 hfU hU hby; have f2 : True := trivial)
                | (have hq := f1; clear hq; refine v_load rfl 26 (.tmp 1) rfl 1 rfl hc rfl _ Tryz.underlying26 rfl (sz26 d6) ?_)
                | (have hq := e3; clear hq; go_at_call 97; refine (knE _ (hB.trans (hc.bel.mono hB.size))).mono ?_; rintro r wy ⟨rfl, hby⟩; replace hc := hc.call hby; clear e3 knE hby; have f1 : True := trivial)
                | (have hq := e2; clear hq; refine v_loadg rfl 26 (.tmp 7) rfl 0 rfl hc rfl _ Tryz.underlying26 rfl (sz26 e6) ?_; clear e2; have e3 : True := trivial)
                | (have hq := e1; clear hq; refine v_decl rfl rfl 26 rfl (.tmp 7) (.tmp 30) rfl zV E z26 (fun _ => rfl) (fun _ => rfl) (by rw [e6]; rfl) (sz26 e6) eo hc ?_; intro wz Nz hcz _; replace hc := hcz; clear hcz e1; have e2 : True := trivial)
                | (have hq := f0; clear hq; go_at_call 61; refine (hfE _ (hB.trans (hc.bel.mono hB.size))).mono ?_; rintro r wy ⟨E, rfl, hE, hby⟩; replace hc := hc.call hby; have e6 := hE.vc.sz; have eo := hE.vc.one; have knE := hnE E hE; clear f0 hfE hE hby; have e1 : True := trivial)
                | (have hq := f0; clear hq; refine v_load rfl 26 (.tmp 1) rfl 0 rfl hc rfl _ Tryz.underlying26 rfl (sz26 d6) ?_))
              go_ret
              exact ⟨by rw [HR.out]; rfl, hc.bel⟩

end Go.Proofs.YthplcnbfpcndbaaGreatDoor
