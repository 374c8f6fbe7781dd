/- The head of all statements: what it lays. -/
import Derived.Test.YthplcnbfpcndbaaGreatDoorAk
namespace Go.Proofs.YthplcnbfpcndbaaGreatDoor
open Go.RowKit

theorem fill_evs (Cs : List (Array Value)) (h : ∀ C ∈ Cs, C.size = 22) (cells : Array Value) (hc : cells.size = Cs.length * 22) :
    ∃ r, Instr.fill (fun i => some (i * 22, 22)) cells (((Cs.map Value.agg).zipIdx 0).map fun x => (x.2, x.1)) = some r ∧ r.size = cells.size ∧ ∀ i (hi : i < Cs.length) (j : Nat) v, Cs[i][j]? = some v → r[i * 22 + j]? = some v := by
  obtain ⟨r, h1, h2, h3⟩ := Great.fill_dense (s := 22) (by omega) (Cs.map Value.agg) 0 cells (fun v hv => by
    obtain ⟨C, hC, rfl⟩ := List.mem_map.1 hv
    exact h C hC) (by simp; omega)
  refine ⟨r, h1, h2, fun i hi j v hv => ?_⟩
  have hj : j < 22 := by
    have := (Array.getElem?_eq_some_iff.1 hv).1
    rw [h _ (List.getElem_mem hi)] at this
    exact this
  rw [h3, if_pos (by simp; omega)]
  rw [show (i * 22 + j) / 22 - 0 = i by omega, show (i * 22 + j) % 22 = j by omega]
  simp [List.getElem?_eq_getElem hi]
  exact hv
section
variable {w : World} {ops : Array Oper} {rest : List Oper} {o : Oper} {a : Act} {Q : Exit → Act → World → Prop}
/-- Events laid as a list. -/
def Laid (r : Array Value) (Cs : List (Array Value)) : Prop := ∀ i (hi : i < Cs.length) (j : Nat) v, Cs[i][j]? = some v → r[i * 22 + j]? = some v
theorem info28 : (Tryz.prog.info? 28).map (fun i => (i.zero, i.size)) = some (some (.agg zE), 22) := by kernel_rfl
theorem run_evs (len : Nat) (vs : Array (Nat × Value)) (Cs : List (Array Value)) (hl : len = Cs.length) (h0 : 0 < len) (h1 : len ≤ 1000) (hsz : ∀ C ∈ Cs, C.size = 22) (hp : vs.toList = ((Cs.map Value.agg).zipIdx 0).map fun x => (x.2, x.1)) (w : World) :
    ∃ r, Laid r Cs ∧ (Instr.buildSlice 29 len vs).run Tryz.prog w = .ok (.slice (some ⟨w.heap.size, 0, none⟩) len len) (w.alloc (.cells r 28)) := by
  cases hie : Tryz.prog.info? 28 with
  | none => have := info28; rw [hie] at this; cases this
  | some ie =>
    have hi := info28
    rw [hie] at hi
    simp only [Option.map_some, Option.some.injEq, Prod.mk.injEq] at hi
    obtain ⟨hz, hs⟩ := hi
    obtain ⟨r, g1, g2, g3⟩ := fill_evs Cs hsz ((Array.range (len * 22)).map ((Value.agg zE).cells[· % (Value.agg zE).cells.size]!)) (by simp [hl])
    refine ⟨r, g3, run_buildSlice w 29 28 len vs r ie (.agg zE) Tryz.underlying29 hie hz (by rw [hs]; omega) (by rw [hs]; omega) ?_⟩
    rw [hs, hp]
    exact g1
theorem laid_evs {W : World} {r : Array Value} {Cs : List (Array Value)} {l : List EV} {w : World} (hr : Laid r Cs) (hl : l.length = Cs.length) (h1 : l.length ≤ 1000) (he : ∀ i (h : i < l.length), EC W l[i] (Cs[i]'(by omega))) (hN : ∃ N, W.heap[N]? = some (.cells r 28 (0, 0)) ∧ w.heap.size = N) :
    EvsAt W (.slice (some ⟨w.heap.size, 0, none⟩) l.length l.length) l := by
  obtain ⟨N, hN, rfl⟩ := hN
  refine ⟨by omega, _, _, rfl, fun i hi => ⟨_, 0, Cs[i]'(by omega), rfl, he i hi, fun j v hv => ?_⟩⟩
  have := hr i (by omega) j v (by simpa using hv)
  rw [Nat.zero_add]
  simp [World.cell?, hN, this]
end
abbrev vText (s : ByteArray) : GV := .mk 3 0 s []
abbrev dText (s : ByteArray) : Array Value := #[.int .i64 3, .bool false, .int .i64 0, .string s, .slice none 0 0, .slice none 0 0]
abbrev dCon (b : Nat) : Array Value := #[.int .i64 5, .bool false, .int .i64 0, .string s0, .slice none 0 0, .slice (some ⟨b, 0, none⟩) 1 1]
theorem laid_text (w : World) (s : ByteArray) (hs : s.size ≤ 1048576) : LaidV w (vText s) (dText s) := by
  unfold LaidV
  exact ⟨rfl, all_oneCell_toArray (cs := [.int .i64 3, .bool false, .int .i64 0, .string s, .slice none 0 0, .slice none 0 0]) (fun v hv => by
    simp only [List.mem_cons, List.mem_nil_iff, or_false] at hv
    rcases hv with rfl | rfl | rfl | rfl | rfl | rfl <;> rfl), rfl, rfl, rfl, by decide, hs, by decide, none, 0, rfl, by unfold LaidF; trivial⟩

set_option maxRecDepth 100000 in
set_option maxHeartbeats 4000000 in
theorem text_any (s : ByteArray) (w : World) : Calls Tryz.prog 8 #[.string s] w fun r w' => r = .returned (.agg (dText s)) ∧ Below w.heap.size w w' := by
  have hc0 := Ctx.start w
  have hone : (dText s).all (·.oneCell') = true := all_oneCell_toArray (cs := [.int .i64 3, .bool false, .int .i64 0, .string s, .slice none 0 0, .slice none 0 0]) (fun v hv => by
    simp only [List.mem_cons, List.mem_nil_iff, or_false] at hv
    rcases hv with rfl | rfl | rfl | rfl | rfl | rfl <;> rfl)
  go_enter Tryz.func8, Tryz.ntmps8
  go_wp2_with (first
    | (refine v_alloc rfl 26 rfl zV z26 hc0 ?_; intro w1 N1 hc1 _; clear hc0)
    | (refine v_store rfl 26 (.tmp 2) (.tmp 4) rfl 0 (dText s) rfl rfl hc1 rfl rfl (sz26 rfl) hone ?_; intro w5 hc5))
  exact bodyPost_ret (res_one rfl rfl hc5 0 rfl _ Tryz.underlying26 rfl (sz26 rfl)) rfl ⟨rfl, hc5.bel⟩

theorem con_one (b : Nat) : (dCon b).all (·.oneCell') = true := all_oneCell_toArray (cs := [.int .i64 5, .bool false, .int .i64 0, .string s0, .slice none 0 0, .slice (some ⟨b, 0, none⟩) 1 1]) (fun v hv => by
  simp only [List.mem_cons, List.mem_nil_iff, or_false] at hv
  rcases hv with rfl | rfl | rfl | rfl | rfl | rfl <;> rfl)
abbrev dFld (nm s : ByteArray) : Array Value := #[.string nm, .int .i64 3, .bool false, .int .i64 0, .string s, .slice none 0 0, .slice none 0 0]
theorem fld_one (nm s : ByteArray) : (dFld nm s).all (·.oneCell') = true := all_oneCell_toArray (cs := [.string nm, .int .i64 3, .bool false, .int .i64 0, .string s, .slice none 0 0, .slice none 0 0]) (fun v hv => by
  simp only [List.mem_cons, List.mem_nil_iff, or_false] at hv
  rcases hv with rfl | rfl | rfl | rfl | rfl | rfl | rfl <;> rfl)
theorem laid_con {w : World} {b : Nat} {nm s : ByteArray} (hn : nm.size ≤ 1048576) (hs : s.size ≤ 1048576) (h : w.rangeAt b 0 (dFld nm s).toList) : LaidV w (.mk 5 0 s0 [(nm, vText s)]) (dCon b) := by
  unfold LaidV
  refine ⟨rfl, con_one b, rfl, rfl, rfl, by decide, by decide, by simp, _, 1, rfl, ?_⟩
  unfold LaidF
  refine ⟨?_, by unfold LaidF; trivial⟩
  unfold LaidP
  refine ⟨b, 0, dFld nm s, rfl, rfl, fld_one nm s, h, rfl, hn, dText s, laid_text w s hs, fun j v hv => ?_⟩
  have hj : j < 6 := (Array.getElem?_eq_some_iff.1 hv).1
  rcases j with _ | _ | _ | _ | _ | _ | j
  all_goals first | exact hv | omega
theorem Ctx.add {w0 w w' : World} {L : List Var} (h : Ctx w0 w L) (hb : Below w.heap.size w w') {b : Nat} {T : TypeId} {C : Array Value} (g : w.heap.size ≤ b ∧ b < w'.heap.size ∧ w'.rangeAt b 0 C.toList ∧ w'.there b 0 C.size) : Ctx w0 w' ((b, T, C) :: L) := by
  have h' := h.call hb
  refine ⟨h'.bel, ?_, fun x hx => ?_⟩
  · rw [List.map_cons, List.nodup_cons]
    refine ⟨fun hm => ?_, h.nd⟩
    obtain ⟨x, hx, he⟩ := List.mem_map.1 hm
    have := (h.holds x hx).2.1
    simp only at he
    omega
  · rcases List.mem_cons.1 hx with rfl | hx
    · exact ⟨Nat.le_trans h.bel.size g.1, g.2⟩
    · exact h'.holds x hx
/-- How a content of one field comes. -/
def COut (nm s : ByteArray) (w : World) (r : Ending) (w' : World) : Prop := ∃ b, r = .returned (.agg (dCon b)) ∧ (w.heap.size ≤ b ∧ b < w'.heap.size ∧ w'.rangeAt b 0 (dFld nm s).toList ∧ w'.there b 0 (dFld nm s).size) ∧ Below w.heap.size w w'
set_option maxRecDepth 100000 in
set_option maxHeartbeats 4000000 in
theorem content_any (nm s : ByteArray) (w : World) : Calls Tryz.prog 7 #[.string nm, .agg (dText s)] w (COut nm s w) := by
  have hc0 := Ctx.start w
  go_enter Tryz.func7, Tryz.ntmps7
  go_wp2_with (first
    | (refine v_box rfl 26 (.tmp 1) rfl (dText s) rfl hc0 ?_; intro w1 N1 hc1 _; clear hc0)
    | (refine v_alloc rfl 26 rfl zV z26 hc1 ?_; intro w2 N2 hc2 _; clear hc1)
    | (refine v_load rfl 26 (.tmp 3) rfl 1 rfl hc2 rfl _ Tryz.underlying26 rfl (sz26 rfl) ?_)
    | (refine v_store rfl 26 (.tmp 4) (.tmp 9) rfl 1 (dCon w2.heap.size) rfl rfl (hc2.push 49 (dFld nm s)) rfl rfl (sz26 rfl) (con_one _) ?_; intro w5 hc5))
  exact bodyPost_ret (res_one rfl rfl hc5 1 rfl _ Tryz.underlying26 rfl (sz26 rfl)) rfl ⟨_, rfl, hc5.holds _ (List.mem_of_getElem? (i := 0) rfl), hc5.bel⟩
abbrev cD (k : Int) (f : Value) : Array Value := #[.int .i64 k, .bool false, .int .i64 0, .string s0, .slice none 0 0, f]
/-- The cells of an event of a content of that kind. -/
abbrev evC (id ty room snd : ByteArray) (hk : Bool) (key : ByteArray) (pv : Value) (k : Int) (f : Value) : Array Value :=
  #[.string id, .string ty, .string room, .string snd, .bool hk, .string key, pv, .slice none 0 0, .int .i64 0, .int .i64 0, .int .i64 k, .bool false, .int .i64 0, .string s0, .slice none 0 0, f, .int .i64 0, .bool false, .int .i64 0, .string ⟨#[]⟩, .slice none 0 0, .slice none 0 0]
theorem evC_one (id ty room snd : ByteArray) (hk : Bool) (key : ByteArray) (pv : Value) (k : Int) (f : Value) (h1 : pv.oneCell' = true) (h2 : f.oneCell' = true) : (evC id ty room snd hk key pv k f).all (·.oneCell') = true :=
  all_oneCell_toArray (cs := [.string id, .string ty, .string room, .string snd, .bool hk, .string key, pv, .slice none 0 0, .int .i64 0, .int .i64 0, .int .i64 k, .bool false, .int .i64 0, .string s0, .slice none 0 0, f, .int .i64 0, .bool false, .int .i64 0, .string ⟨#[]⟩, .slice none 0 0, .slice none 0 0]) (fun v hv => by
    simp only [List.mem_cons, List.mem_nil_iff, or_false] at hv
    rcases hv with rfl | rfl | rfl | rfl | rfl | rfl | rfl | rfl | rfl | rfl | rfl | rfl | rfl | rfl | rfl | rfl | rfl | rfl | rfl | rfl | rfl | rfl
    all_goals first | rfl | exact h1 | exact h2)
theorem ec_of {w : World} {id ty room snd key : ByteArray} {hk : Bool} {prev : List ByteArray} {con : GV} {pv : Value} {k : Int} {f : Value} (h1 : pv.oneCell' = true) (h2 : f.oneCell' = true) (hp : TxAt w pv prev) (hc : LaidV w con (cD k f))
    (hl : prev.length ≤ 1048576) (s1 : ty.size ≤ 1048576) (s2 : room.size ≤ 1048576) (s3 : snd.size ≤ 1048576) (s5 : key.size ≤ 1048576) : EC w ⟨id, ty, room, snd, hk, key, prev, 0, con⟩ (evC id ty room snd hk key pv k f) :=
  ⟨rfl, evC_one _ _ _ _ _ _ _ _ _ h1 h2, rfl, rfl, rfl, rfl, rfl, rfl, ⟨_, rfl, hp⟩, ⟨none, 0, rfl⟩, ⟨_, hc, fun j v hv => by
    have hj : j < 6 := (Array.getElem?_eq_some_iff.1 hv).1
    rcases j with _ | _ | _ | _ | _ | _ | j
    all_goals first | exact hv | omega⟩, hl, Nat.zero_le _, s1, s2, s3, s5⟩
theorem Ctx.set1 {w0 w : World} {L : List Var} (h : Ctx w0 w L) {N f : Nat} {T : TypeId} {C0 : Array Value} (k : Nat) (hk : L[k]? = some (N, T, C0)) (u : Value) (hf : f < C0.size) :
    Ctx w0 (w.setCell ⟨N, f, none⟩ u) (putV L k (C0.setIfInBounds f u)) := by
  show Ctx w0 (w.setCells N f [u]) _
  have hm := h.holds _ (List.mem_of_getElem? hk)
  obtain ⟨hkl, hke⟩ := List.getElem?_eq_some_iff.1 hk
  refine ⟨h.bel.trans (setCells_below N _ f w _ hm.1), ?_, fun x hx => ?_⟩
  · have e : (putV L k (C0.setIfInBounds f u)).map (·.1) = L.map (·.1) := by
      unfold putV
      apply List.ext_getElem?
      intro i
      rw [List.getElem?_map, List.getElem?_map, List.getElem?_modify]
      split <;> cases L[i]? <;> rfl
    rw [e]
    exact h.nd
  · obtain ⟨i, hi, hxe⟩ := List.getElem_of_mem hx
    have hil : i < L.length := by simpa [putV] using hi
    have hx2 : (putV L k (C0.setIfInBounds f u))[i]? = some x := by rw [List.getElem?_eq_getElem hi, hxe]
    unfold putV at hx2
    rw [List.getElem?_modify, List.getElem?_eq_getElem hil] at hx2
    by_cases hik : k = i
    · subst hik
      simp only [if_true, hke, Option.map_eq_map, Option.map_some, Option.some.injEq] at hx2
      subst hx2
      have hcell : ∀ j, j < C0.size → (w.setCells N f [u]).cell? ⟨N, 0 + j, none⟩ = if j = f then some u else w.cell? ⟨N, 0 + j, none⟩ := fun j hj => by
        by_cases e : j = f
        · subst e
          rw [if_pos rfl]
          have := World.cell?_setCells_in N [u] j w (fun i hi => by
            have : i = 0 := by simpa using hi
            subst this
            have := (hm.2.2.2 j hf).1
            simpa using this) 0 (by simp)
          simpa using this
        · rw [if_neg e]
          exact World.cell?_setCells_out N [u] f w ⟨N, 0 + j, none⟩ (fun _ _ => by simp; omega)
      refine ⟨hm.1, by rw [setCells_size]; exact hm.2.1, fun j v hv => ?_, fun j hj => ?_⟩
      · have hj : j < C0.size := by
          have := (List.getElem?_eq_some_iff.1 hv).1
          simpa using this
        rw [hcell j hj]
        have hv' : (C0.setIfInBounds f u)[j]? = some v := by rw [← Array.getElem?_toList]; exact hv
        rw [Array.getElem?_setIfInBounds] at hv'
        by_cases e : j = f
        · subst e
          rw [if_pos rfl, if_pos hf] at hv'
          rw [if_pos rfl]
          exact hv'
        · rw [if_neg (Ne.symm e)] at hv'
          rw [if_neg e]
          exact hm.2.2.1 j v (by simpa using hv')
      · have hj' : j < C0.size := by simpa using hj
        rw [hcell j hj', World.frozen?_setCells]
        refine ⟨?_, (hm.2.2.2 j hj').2⟩
        split
        · rfl
        · exact (hm.2.2.2 j hj').1
    · simp only [if_neg hik, Option.map_eq_map, Option.map_some, Option.some.injEq] at hx2
      have hxL : x ∈ L := by rw [← hx2]; exact List.getElem_mem _
      obtain ⟨g1, g2, g3, g4⟩ := h.holds x hxL
      have hne : x.1 ≠ N := by
        intro he
        have hnd := h.nd
        rw [List.Nodup, List.pairwise_iff_getElem] at hnd
        have e1 : (L.map (·.1))[i]'(by simpa using hil) = x.1 := by rw [List.getElem_map, hx2]
        have e2 : (L.map (·.1))[k]'(by simpa using hkl) = N := by rw [List.getElem_map, hke]
        rcases Nat.lt_or_gt_of_ne hik with hlt | hlt
        · exact hnd k i (by simpa using hkl) (by simpa using hil) hlt (by rw [e1, e2, he])
        · exact hnd i k (by simpa using hil) (by simpa using hkl) hlt (by rw [e1, e2, he])
      have hc : ∀ j, (w.setCells N f [u]).cell? ⟨x.1, 0 + j, none⟩ = w.cell? ⟨x.1, 0 + j, none⟩ := fun j => World.cell?_of_block (a := ⟨x.1, 0 + j, none⟩) (setCells_block N _ f w _ hne)
      refine ⟨g1, by rw [setCells_size]; exact g2, fun j v hv => ?_, fun j hj => ?_⟩
      · rw [hc]
        exact g3 j v hv
      · rw [hc, World.frozen?_setCells]
        exact g4 j hj
section
variable {P : Program} {ops : Array Oper} {rest : List Oper} {o : Oper} {a : Act} {w w0 : World} {Q : Exit → Act → World → Prop} {L : List Var}
theorem wpList_want (hw : Region.wanted o (yielded ops a.tmps) = true) (h : ∀ K : Act → World → Prop, (∀ a w, wpList P ops Q rest a w → K a w) → o.wp P a w K Q) : wpList P ops Q (o :: rest) a w :=
  wpList_step fun K hK => by rw [if_pos hw]; exact h K hK
/-- A variable read behind a guard that lets it. -/
theorem v_loadg (hw : Region.wanted o (yielded ops a.tmps) = true) (t : TypeId) (x : Operand) (ho : o.op = .load t x) (k : Nat) {N : Nat} {C : Array Value} (hx : a.eval x = .pointer (some ⟨N, 0, none⟩)) (hc : Ctx w0 w L) (hk : L[k]? = some (N, t, C)) (d : TypeDesc)
    (hu : P.underlying t = some d) (hd : d.isRow = true) (hi : (P.info? t).map (·.size) = some C.size)
    (h : wpList P ops Q rest (a.put o.dst (.agg C)) w) : wpList P ops Q (o :: rest) a w :=
  wpList_want hw fun K hK => by
    unfold Oper.wp execOp
    simp only [ho, hx, Instr.loadAt, Instr.sureAddr, Sem.run_bind, Sem.run_pure, Result.andThen_ok, run_loadVar_mid w N 0 t C.toList d (hc.holds _ (List.mem_of_getElem? hk)).2.2.1 hu hd (by simpa using hi)]
    simp only [Array.toArray_toList]
    exact hK _ _ h
/-- A list of events, laid behind a guard that lets it. -/
theorem v_evsg (hw : Region.wanted o (yielded ops a.tmps) = true) (len : Nat) (parts : Array (Nat × Operand)) (ho : o.op = .buildSlice 29 len parts) (Cs : List (Array Value)) (hl : len = Cs.length) (h0 : 0 < len) (h1 : len ≤ 1000) (hsz : ∀ C ∈ Cs, C.size = 22)
    (hp : (parts.map fun (i, x) => (i, a.eval x)).toList = ((Cs.map Value.agg).zipIdx 0).map fun x => (x.2, x.1))
    (h : ∀ r, Laid r Cs → wpList Tryz.prog ops Q rest (a.put o.dst (.slice (some ⟨w.heap.size, 0, none⟩) len len)) (w.alloc (.cells r 28))) : wpList Tryz.prog ops Q (o :: rest) a w :=
  wpList_want hw fun K hK => by
    obtain ⟨r, hr, hrun⟩ := run_evs len _ Cs hl h0 h1 hsz hp w
    unfold Oper.wp execOp
    simp only [ho, Sem.run_bind, hrun, Result.andThen_ok]
    exact hK _ _ (h r hr)
end
end Go.Proofs.YthplcnbfpcndbaaGreatDoor
