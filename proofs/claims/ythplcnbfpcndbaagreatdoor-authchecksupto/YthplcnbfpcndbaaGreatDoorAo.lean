/- The head of all statements: the document's examples come out as it says. -/
import Derived.Test.YthplcnbfpcndbaaGreatDoorAm
import Derived.Test.YthplcnbfpcndbaaGreatDoorAn
namespace Go.Proofs.YthplcnbfpcndbaaGreatDoor
open Go.RowKit

abbrev xC : ByteArray := ⟨#[99]⟩
abbrev xJ : ByteArray := ⟨#[106]⟩
abbrev xM : ByteArray := ⟨#[109]⟩
abbrev xR : ByteArray := ⟨#[33, 114, 58, 120]⟩
abbrev xA : ByteArray := ⟨#[64, 97, 58, 120]⟩
abbrev xB : ByteArray := ⟨#[64, 98, 58, 120]⟩
abbrev xT : ByteArray := ⟨#[109, 46, 114, 111, 111, 109, 46, 109, 101, 115, 115, 97, 103, 101]⟩
def evc : EV := ⟨xC, tC, xR, xA, true, s0, [], 0, .mk 5 0 s0 [(sVer, vText s11)]⟩
def evj (u : ByteArray) : EV := ⟨xJ, tM, xR, u, true, u, [xC], 0, .mk 5 0 s0 [(sMemb, vText sJoin)]⟩
def evm : EV := ⟨xM, xT, xR, xA, false, s0, [], 0, GV.zero⟩
def v0 (_ : EV) (_ : List EV) : Int := 0
theorem up1 : chk v0 evc [] = 0 := by kernel_rfl
theorem up2 : chk v0 (evj xA) [evc] = 0 := by kernel_rfl
theorem up3 : chk v0 evm [evc, evj xA] = 0 := by kernel_rfl
theorem up4 : chk v0 (evj xB) [evc] = 23 := by kernel_rfl
theorem up5 : level [evc, evj xA] xA = 100 := by kernel_rfl
theorem up6 : (sel evm).length = 3 := by kernel_rfl
abbrev cC (b : Nat) : Array Value := evC xC tC xR xA true s0 (.slice none 0 0) 5 (.slice (some ⟨b, 0, none⟩) 1 1)
abbrev cJ (u : ByteArray) (p b : Nat) : Array Value := evC xJ tM xR u true u (.slice (some ⟨p, 0, none⟩) 1 1) 5 (.slice (some ⟨b, 0, none⟩) 1 1)
abbrev cM : Array Value := evC xM xT xR xA false s0 (.slice none 0 0) 0 (.slice none 0 0)
theorem tx_nil (w : World) : TxAt w (.slice none 0 0) [] := ⟨none, 0, rfl, Nat.le_refl _, fun i h => by cases h⟩
section
variable {w0 w : World} {L : List Var}
theorem ec_c (h : Ctx w0 w L) (i : Nat) {b : Nat} (hi : L[i]? = some (b, 49, dFld sVer s11)) : EC w evc (cC b) :=
  ec_of rfl rfl (tx_nil w) (laid_con (by decide) (by decide) (h.holds _ (List.mem_of_getElem? hi)).2.2.1) (by decide) (by decide) (by decide) (by decide) (by decide)
theorem ec_j (h : Ctx w0 w L) (u : ByteArray) (hu : u.size ≤ 1048576) (i j : Nat) {p b : Nat} (hi : L[i]? = some (b, 49, dFld sMemb sJoin)) (hj : L[j]? = some (p, 9, #[.string xC])) : EC w (evj u) (cJ u p b) :=
  ec_of rfl rfl ⟨_, _, rfl, Nat.le_refl _, fun k hk => ⟨p, 0, rfl, by
    have hk0 : k = 0 := by simpa [evj] using hk
    subst hk0
    exact h.cell j hj 0 rfl⟩⟩ (laid_con (by decide) (by decide) (h.holds _ (List.mem_of_getElem? hi)).2.2.1) (by decide) (by decide) (by decide) hu hu
theorem ec_m (w : World) : EC w evm cM := ec_of rfl rfl (tx_nil w) (laid_zero w) (by decide) (by decide) (by decide) (by decide) (by decide)
end
theorem evs_one {W : World} {r : Array Value} {C : Array Value} {e : EV} {n : Nat} (hr : Laid r [C]) (he : EC W e C) (hn : ∀ (j : Nat) v, r[j]? = some v → W.cell? ⟨n, j, none⟩ = some v) : EvsAt W (.slice (some ⟨n, 0, none⟩) 1 1) [e] := by
  refine ⟨by simp, _, _, rfl, fun i hi => ?_⟩
  have hi0 : i = 0 := by simpa using hi
  subst hi0
  refine ⟨n, 0, C, rfl, he, fun j v hv => ?_⟩
  have := hn _ _ (hr 0 (by simp) j v (by simpa using hv))
  simpa using this
theorem evs_two {W : World} {r : Array Value} {C D : Array Value} {e f : EV} {n : Nat} (hr : Laid r [C, D]) (he : EC W e C) (hf : EC W f D) (hn : ∀ (j : Nat) v, r[j]? = some v → W.cell? ⟨n, j, none⟩ = some v) : EvsAt W (.slice (some ⟨n, 0, none⟩) 2 2) [e, f] := by
  refine ⟨by simp, _, _, rfl, fun i hi => ?_⟩
  have hi2 : i = 0 ∨ i = 1 := by
    have : i < 2 := hi
    omega
  rcases hi2 with rfl | rfl
  · refine ⟨n, 0, C, rfl, he, fun j v hv => ?_⟩
    have := hn _ _ (hr 0 (by simp) j v (by simpa using hv))
    simpa using this
  · refine ⟨n, 0, D, rfl, hf, fun j v hv => ?_⟩
    have := hn _ _ (hr 1 (by simp) j v (by simpa using hv))
    simpa using this
theorem new_cells (W : World) (r : Array Value) (j : Nat) (v : Value) (h : r[j]? = some v) : (W.alloc (.cells r 28)).cell? ⟨W.heap.size, j, none⟩ = some v := by
  rw [World.cell?_alloc_mark W r 28 (0, 0) j]
  exact h
abbrev xTwo (p b1 b2 : Nat) : Array Value := #[.string xC, .string tC, .string xR, .string xA, .bool true, .string s0, .slice none 0 0, .slice none 0 0, .int .i64 0, .int .i64 0, .int .i64 5, .bool false, .int .i64 0, .string s0, .slice none 0 0, .slice (some ⟨b1, 0, none⟩) 1 1, .int .i64 0, .bool false, .int .i64 0, .string ⟨#[]⟩, .slice none 0 0, .slice none 0 0, .string xJ, .string tM, .string xR, .string xA, .bool true, .string xA, .slice (some ⟨p, 0, none⟩) 1 1, .slice none 0 0, .int .i64 0, .int .i64 0, .int .i64 5, .bool false, .int .i64 0, .string s0, .slice none 0 0, .slice (some ⟨b2, 0, none⟩) 1 1, .int .i64 0, .bool false, .int .i64 0, .string ⟨#[]⟩, .slice none 0 0, .slice none 0 0]
theorem laid_two (p b1 b2 : Nat) : Laid (xTwo p b1 b2) [cC b1, cJ xA p b2] := by
  intro i hi j v hv
  have hi2 : i = 0 ∨ i = 1 := by
    have : i < 2 := hi
    omega
  rcases hi2 with rfl | rfl
  · have hj : j < 22 := (Array.getElem?_eq_some_iff.1 hv).1
    rcases j with _ | _ | _ | _ | _ | _ | _ | _ | _ | _ | _ | _ | _ | _ | _ | _ | _ | _ | _ | _ | _ | _ | j
    all_goals first | exact hv | omega
  · have hj : j < 22 := (Array.getElem?_eq_some_iff.1 hv).1
    rcases j with _ | _ | _ | _ | _ | _ | _ | _ | _ | _ | _ | _ | _ | _ | _ | _ | _ | _ | _ | _ | _ | _ | j
    all_goals first | exact hv | omega
theorem laid_one (C : Array Value) : Laid C [C] := by
  intro i hi j v hv
  have hi0 : i = 0 := by simpa using hi
  subst hi0
  simpa using hv
theorem evs_nil (W : World) : EvsAt W (.slice none 0 0) [] := ⟨by simp, none, 0, rfl, fun i h => by cases h⟩
theorem nf1 : isF evc tL s0 = false := by kernel_rfl
theorem nf2 : isF (evj xA) tL s0 = false := by kernel_rfl
theorem nf3 : isF evm tL s0 = false := by kernel_rfl
theorem nf4 : isF (evj xB) tL s0 = false := by kernel_rfl
theorem chk_at (e : EV) (l : List EV) (C : Array Value) (v : Value) (W : World) (he : EC W e C) (hl : EvsAt W v l) (hf : isF e tL s0 = false) (n : Int) (hn : chk v0 e l = n) :
    Calls Tryz.prog 5 #[.agg C, v] W fun r w' => r = .returned (.int .i64 n) ∧ Below W.heap.size W w' := by
  rw [← hn]
  exact check_any v0 e l C v W W (Below.refl _ _) he hl (fun h => by rw [hf] at h; cases h)

theorem lvl_at (l : List EV) (u : ByteArray) (v : Value) (W : World) (hl : EvsAt W v l) (n : Int) (hn : level l u = n) :
    Calls Tryz.prog 9 #[.string u, v] W fun r w' => r = .returned (.int .i64 n) ∧ Below W.heap.size W w' := by
  rw [← hn]
  exact Level_any l v u W W (Below.refl _ _) hl

set_option maxRecDepth 100000 in
set_option maxHeartbeats 8000000 in
theorem up_any (w : World) : Calls Tryz.prog 4 #[] w fun r w' => r = .returned (.bool true) ∧ Below w.heap.size w w' := by
  have hc := Ctx.start w
  have f0 : True := trivial
  go_enter Tryz.func4, Tryz.ntmps4
  go_wp2_with (first
    | (have hq := i8; clear hq; go_at_call 10; refine (select_any evm cM _ _ (Below.refl _ _) (ec_m _)).mono ?_; rintro r wt ⟨sv, rfl, ⟨-, sa, sc, hsv, -⟩, hbt⟩; rw [up6] at hsv; subst hsv; replace hc := hc.call hbt; clear hbt; clear i8; have i9 : True := trivial)
    | (have hq := i7; clear hq; refine v_loadg rfl 28 (.tmp 4) rfl 1 rfl hc rfl _ Tryz.underlying28 rfl (sz28 rfl) ?_; clear i7; have i8 : True := trivial)
    | (have hq := i6; clear hq; go_at_call 9; refine (lvl_at [evc, evj xA] xA _ _ (evs_two (laid_two _ _ _) (ec_c hc 7 rfl) (ec_j hc xA (by decide) 4 5 rfl rfl) (fun j v h => hc.cell 0 rfl j h)) 100 up5).mono ?_; rintro r wt ⟨rfl, hbt⟩; replace hc := hc.call hbt; clear hbt; clear i6; have i7 : True := trivial)
    | (have hq := i4; clear hq; go_at_call 5; replace hc := hc.call ((Below.refl _ _).alloc (Nat.le_refl _) (.cells (cC b1) 28)); have hv := evs_one (laid_one _) (ec_c hc 7 rfl) (new_cells _ (cC b1)); refine (chk_at (evj xB) [evc] _ _ _ (ec_j hc xB (by decide) 4 5 rfl rfl) hv nf4 23 up4).mono ?_; rintro r wt ⟨rfl, hbt⟩; replace hc := hc.call hbt; clear hbt hv; clear i4; have i6 : True := trivial)
    | (have hq := i3; clear hq; refine v_loadg rfl 28 (.tmp 1) rfl 6 rfl hc rfl _ Tryz.underlying28 rfl (sz28 rfl) ?_; clear i3; have i4 : True := trivial)
    | (have hq := i2; clear hq; refine v_loadg rfl 28 (.tmp 3) rfl 2 rfl hc rfl _ Tryz.underlying28 rfl (sz28 rfl) ?_; clear i2; have i3 : True := trivial)
    | (have hq := i1; clear hq; go_at_call 5; refine (chk_at evm [evc, evj xA] _ _ _ (ec_m _) (evs_two (laid_two _ _ _) (ec_c hc 7 rfl) (ec_j hc xA (by decide) 4 5 rfl rfl) (fun j v h => hc.cell 0 rfl j h)) nf3 0 up3).mono ?_; rintro r wt ⟨rfl, hbt⟩; replace hc := hc.call hbt; clear hbt ; clear i1; have i2 : True := trivial)
    | (have hq := g9; clear hq; refine v_loadg rfl 28 (.tmp 4) rfl 1 rfl hc rfl _ Tryz.underlying28 rfl (sz28 rfl) ?_; clear g9; have i1 : True := trivial)
    | (have hq := g7; clear hq; go_at_call 5; replace hc := hc.call ((Below.refl _ _).alloc (Nat.le_refl _) (.cells (cC b1) 28)); have hv := evs_one (laid_one _) (ec_c hc 7 rfl) (new_cells _ (cC b1)); refine (chk_at (evj xA) [evc] _ _ _ (ec_j hc xA (by decide) 4 5 rfl rfl) hv nf2 0 up2).mono ?_; rintro r wt ⟨rfl, hbt⟩; replace hc := hc.call hbt; clear hbt hv; clear g7; have g9 : True := trivial)
    | (have hq := g6; clear hq; refine v_loadg rfl 28 (.tmp 1) rfl 6 rfl hc rfl _ Tryz.underlying28 rfl (sz28 rfl) ?_; clear g6; have g7 : True := trivial)
    | (have hq := g5; clear hq; refine v_loadg rfl 28 (.tmp 2) rfl 3 rfl hc rfl _ Tryz.underlying28 rfl (sz28 rfl) ?_; clear g5; have g6 : True := trivial)
    | (have hq := g4; clear hq; go_at_call 5; refine (chk_at evc [] _ _ _ (ec_c hc 7 rfl) (evs_nil _) nf1 0 up1).mono ?_; rintro r wt ⟨rfl, hbt⟩; replace hc := hc.call hbt; clear hbt ; clear g4; have g5 : True := trivial)
    | (have hq := g2; clear hq; replace hc := hc.push 28 (xTwo wC.heap.size b1 b2); refine v_loadg rfl 28 (.tmp 1) rfl 6 rfl hc rfl _ Tryz.underlying28 rfl (sz28 rfl) ?_; clear g2; have g4 : True := trivial)
    | (have hq := g1; clear hq; refine v_loadg rfl 28 (.tmp 2) rfl 2 rfl hc rfl _ Tryz.underlying28 rfl (sz28 rfl) ?_; clear g1; have g2 : True := trivial)
    | (have hq := f9; clear hq; refine v_loadg rfl 28 (.tmp 1) rfl 5 rfl hc rfl _ Tryz.underlying28 rfl (sz28 rfl) ?_; clear f9; have g1 : True := trivial)
    | (have hq := f8; clear hq; refine v_decl rfl rfl 28 rfl (.tmp 4) (.tmp 16) rfl zE cM z28 (fun _ => rfl) (fun _ => rfl) rfl (sz28 rfl) (evC_one _ _ _ _ _ _ _ _ _ rfl rfl) ((hc.set1 (f := 3) 0 rfl (.string xB) (show 3 < 22 by decide)).set1 (f := 5) 0 rfl (.string xB) (show 5 < 22 by decide)) ?_; intro wM NM hcd _; replace hc : Ctx w wM [(NM, 28, cM), (NB, 28, cJ xB wC.heap.size b2), (NJ, 28, cJ xA wC.heap.size b2), (b2, 49, dFld sMemb sJoin), (wC.heap.size, 9, #[.string xC]), (NC, 28, cC b1), (b1, 49, dFld sVer s11)] := hcd; clear hcd d3 z3 d5 z5; clear f8; have f9 : True := trivial)
    | (have hq := f7; clear hq; refine v_decl rfl rfl 28 rfl (.tmp 3) (.tmp 13) rfl zE (cJ xA wC.heap.size b2) z28 (fun _ => rfl) (fun _ => rfl) rfl (sz28 rfl) (evC_one _ _ _ _ _ _ _ _ _ rfl rfl) hc ?_; intro wB NB hcd _; replace hc := hcd; clear hcd; have d3 := hc.cell 0 rfl 3 rfl; have z3 := hc.fz 0 rfl 3 (show 3 < 22 by decide); have d5 := hc.cell 0 rfl 5 rfl; have z5 := hc.fz 0 rfl 5 (show 5 < 22 by decide); clear f7; have f8 : True := trivial)
    | (have hq := f6; clear hq; refine v_load rfl 28 (.tmp 2) rfl 0 rfl hc rfl _ Tryz.underlying28 rfl (sz28 rfl) ?_; clear f6; have f7 : True := trivial)
    | (have hq := f5; clear hq; refine v_decl rfl rfl 28 rfl (.tmp 2) (.tmp 12) rfl zE (cJ xA wC.heap.size b2) z28 (fun _ => rfl) (fun _ => rfl) rfl (sz28 rfl) (evC_one _ _ _ _ _ _ _ _ _ rfl rfl) hc ?_; intro wJ NJ hcd _; replace hc := hcd; clear hcd; clear f5; have f6 : True := trivial)
    | (have hq := f4; clear hq; go_at_call 7; refine (content_any _ _ _).mono ?_; rintro r wt ⟨b2, rfl, hg, hbt⟩; replace hc := hc.add (T := 49) hbt hg; clear hbt hg; clear f4; have f5 : True := trivial)
    | (have hq := f3; clear hq; go_at_call 8; refine (text_any _ _).mono ?_; rintro r wt ⟨rfl, hbt⟩; replace hc := (hc.push 9 #[.string xC]).call hbt; clear hbt; clear f3; have f4 : True := trivial)
    | (have hq := f2; clear hq; refine v_decl rfl rfl 28 rfl (.tmp 1) (.tmp 8) rfl zE (cC b1) z28 (fun _ => rfl) (fun _ => rfl) rfl (sz28 rfl) (evC_one _ _ _ _ _ _ _ _ _ rfl rfl) hc ?_; intro wC NC hcd _; replace hc := hcd; clear hcd; clear f2; have f3 : True := trivial)
    | (have hq := f1; clear hq; go_at_call 7; refine (content_any _ _ _).mono ?_; rintro r wt ⟨b1, rfl, hg, hbt⟩; replace hc := hc.add (T := 49) hbt hg; clear hbt hg; clear f1; have f2 : True := trivial)
    | (have hq := f0; clear hq; go_at_call 8; refine (text_any _ _).mono ?_; rintro r wt ⟨rfl, hbt⟩; replace hc := (hc).call hbt; clear hbt; clear f0; have f1 : True := trivial))
  go_ret
  exact ⟨rfl, hc.bel⟩
end Go.Proofs.YthplcnbfpcndbaaGreatDoor
