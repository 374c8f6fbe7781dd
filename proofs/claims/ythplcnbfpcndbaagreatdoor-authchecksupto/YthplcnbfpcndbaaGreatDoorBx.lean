/- Variables of a call that lie in memory, as a list of blocks with their cells; how operations on whole structs turn it. -/
import Derived.Test.YthplcnbfpcndbaaGreatDoorChecked
import Derived.Deep.MidRow
import Derived.Great.Ranges
import Derived.Great.BuildSlice
import Derived.Lib.OthersKept
import Derived.BigQuiet
import Derived.WalkMore
import Derived.WalkSmall
import Derived.Laws.EntriesVeiled
import Derived.OneCell
namespace Go.Proofs.YthplcnbfpcndbaaGreatDoor
open Go.RowKit

/-- A variable: its block, its type, its cells. -/
abbrev Var := Nat × TypeId × Array Value
/-- Since w0 nothing old has turned, and these variables hold these cells. -/
structure Ctx (w0 w : World) (L : List Var) : Prop where
  bel : Below w0.heap.size w0 w
  nd : (L.map (·.1)).Nodup
  holds : ∀ x ∈ L, w0.heap.size ≤ x.1 ∧ x.1 < w.heap.size ∧ w.rangeAt x.1 0 x.2.2.toList ∧ w.there x.1 0 x.2.2.size

theorem Ctx.start (w : World) : Ctx w w [] := ⟨Below.refl _ _, List.nodup_nil, fun x h => by cases h⟩
theorem Ctx.call {w0 w w' : World} {L : List Var} (h : Ctx w0 w L) (hb : Below w.heap.size w w') : Ctx w0 w' L :=
  ⟨h.bel.trans (hb.mono h.bel.size), h.nd, fun x hx => by
    obtain ⟨h1, h2, h3, h4⟩ := h.holds x hx
    refine ⟨h1, Nat.lt_of_lt_of_le h2 hb.size, fun j v hv => ?_, fun j hj => ?_⟩
    · rw [hb.cell h2]; exact h3 j v hv
    · rw [hb.cell h2, hb.frozen h2]; exact h4 j hj⟩
theorem Ctx.drew {w0 w : World} {L : List Var} (h : Ctx w0 w L) (n : Nat) : Ctx w0 (w.drewN n) L := h.call ⟨rfl, rfl, rfl, Nat.le_refl _, fun _ _ => rfl⟩
theorem Ctx.sub {w0 w : World} {L M : List Var} (h : Ctx w0 w L) (hs : M.Sublist L) : Ctx w0 w M :=
  ⟨h.bel, h.nd.sublist (hs.map _), fun x hx => h.holds x (hs.subset hx)⟩
theorem Ctx.cell {w0 w : World} {L : List Var} (h : Ctx w0 w L) {N : Nat} {T : TypeId} {C : Array Value} (k : Nat) (hk : L[k]? = some (N, T, C)) (o : Nat) {v : Value} (hv : C[o]? = some v) : w.cell? ⟨N, o, none⟩ = some v := by
  have := (h.holds _ (List.mem_of_getElem? hk)).2.2.1 o v (by simpa using hv)
  simpa using this
theorem Ctx.fz {w0 w : World} {L : List Var} (h : Ctx w0 w L) {N : Nat} {T : TypeId} {C : Array Value} (k : Nat) (hk : L[k]? = some (N, T, C)) (o : Nat) (hv : o < C.size) : w.frozen? ⟨N, o, none⟩ = false := by
  have := ((h.holds _ (List.mem_of_getElem? hk)).2.2.2 o hv).2
  simpa using this
theorem Ctx.push {w0 w : World} {L : List Var} (h : Ctx w0 w L) (T : TypeId) (C : Array Value) : Ctx w0 (w.alloc (.cells C T)) ((w.heap.size, T, C) :: L) := by
  have h' := h.call ((Below.refl w.heap.size w).alloc (Nat.le_refl _) (.cells C T))
  refine ⟨h'.bel, ?_, fun x hx => ?_⟩
  · rw [List.map_cons, List.nodup_cons]
    refine ⟨fun hm => ?_, h.nd⟩
    obtain ⟨x, hx, he⟩ := List.mem_map.1 hm
    have := (h.holds x hx).2.1
    simp only at he
    omega
  · rcases List.mem_cons.1 hx with rfl | hx
    · have e := heap_alloc_new w (.cells C T)
      refine ⟨h.bel.size, by simp, fun j v hv => ?_, fun j hj => ?_⟩
      · simp only [World.cell?]
        rw [e]
        simpa using hv
      · simp only [World.cell?, World.frozen?]
        rw [e]
        have hj' : j < C.size := hj
        simp [Array.getElem?_eq_getElem hj']
    · exact h'.holds x hx
/-- The variables with other cells in the k-th. -/
def putV (L : List Var) (k : Nat) (C : Array Value) : List Var := L.modify k fun x => (x.1, x.2.1, C)
theorem setCells_block (b : Nat) : ∀ (vs : List Value) (o : Nat) (w : World) (k : Nat), k ≠ b → (w.setCells b o vs).heap[k]? = w.heap[k]?
  | [], _, _, _, _ => rfl
  | v :: r, o, w, k, h => by
    rw [World.setCells, setCells_block b r _ _ k h, Below.heap_setCell _ _ _ _ h]
theorem setCells_size (b : Nat) : ∀ (vs : List Value) (o : Nat) (w : World), (w.setCells b o vs).heap.size = w.heap.size
  | [], _, _ => rfl
  | v :: r, o, w => by rw [World.setCells, setCells_size b r]; exact World.size_setCell _ _ _
theorem setCells_below (b : Nat) : ∀ (vs : List Value) (o : Nat) (w : World) (n : Nat), n ≤ b → Below n w (w.setCells b o vs)
  | [], _, _w, _n, _ => Below.refl _ _
  | v :: r, o, w, n, h => ((Below.refl n w).setCell (p := ⟨b, o, none⟩) h v).trans (setCells_below b r (o + 1) _ n h)
theorem Ctx.put {w0 w : World} {L : List Var} (h : Ctx w0 w L) {N : Nat} {T : TypeId} {C0 : Array Value} (k : Nat) (hk : L[k]? = some (N, T, C0)) (C : Array Value) (hs : C.size = C0.size) :
    Ctx w0 (w.setCells N 0 C.toList) (putV L k C) := by
  have hm := h.holds _ (List.mem_of_getElem? hk)
  obtain ⟨hkl, hke⟩ := List.getElem?_eq_some_iff.1 hk
  refine ⟨h.bel.trans (setCells_below N _ 0 w _ hm.1), ?_, fun x hx => ?_⟩
  · have e : (putV L k C).map (·.1) = L.map (·.1) := by
      unfold putV
      apply List.ext_getElem?
      intro i
      rw [List.getElem?_map, List.getElem?_map, List.getElem?_modify]
      split <;> cases L[i]? <;> rfl
    rw [e]
    exact h.nd
  · obtain ⟨i, hi, hxe⟩ := List.getElem_of_mem hx
    have hil : i < L.length := by simpa [putV] using hi
    have hx2 : (putV L k C)[i]? = some x := by rw [List.getElem?_eq_getElem hi, hxe]
    unfold putV at hx2
    rw [List.getElem?_modify, List.getElem?_eq_getElem hil] at hx2
    by_cases hik : k = i
    · subst hik
      simp only [if_true, hke, Option.map_eq_map, Option.map_some, Option.some.injEq] at hx2
      subst hx2
      have ht : w.there N 0 C.toList.length := by
        rw [Array.length_toList, hs]
        exact hm.2.2.2
      refine ⟨hm.1, by rw [setCells_size]; exact hm.2.1, World.rangeAt_setCells_same w N 0 _ ht, fun j hj => ?_⟩
      have := ht j (by simpa using hj)
      exact ⟨World.isSome_setCells N _ 0 w _ this.1, by rw [World.frozen?_setCells]; exact this.2⟩
    · simp only [if_neg hik, Option.map_eq_map, Option.map_some, Option.some.injEq] at hx2
      have hxL : x ∈ L := by rw [← hx2]; exact List.getElem_mem _
      obtain ⟨g1, g2, g3, g4⟩ := h.holds x hxL
      have hne : x.1 ≠ N := by
        intro he
        have hnd := h.nd
        rw [List.Nodup, List.pairwise_iff_getElem] at hnd
        have e1 : (L.map (·.1))[i]'(by simpa using hil) = x.1 := by rw [List.getElem_map, hx2]
        have e2 : (L.map (·.1))[k]'(by simpa using hkl) = N := by rw [List.getElem_map, hke]
        rcases Nat.lt_or_gt_of_ne hik with hlt | hlt
        · exact hnd k i (by simpa using hkl) (by simpa using hil) hlt (by rw [e1, e2, he])
        · exact hnd i k (by simpa using hil) (by simpa using hkl) hlt (by rw [e1, e2, he])
      have hc : ∀ j, (w.setCells N 0 C.toList).cell? ⟨x.1, 0 + j, none⟩ = w.cell? ⟨x.1, 0 + j, none⟩ := fun j => World.cell?_of_block (a := ⟨x.1, 0 + j, none⟩) (setCells_block N _ 0 w _ hne)
      refine ⟨g1, by rw [setCells_size]; exact g2, fun j v hv => ?_, fun j hj => ?_⟩
      · rw [hc]
        exact g3 j v hv
      · rw [hc, World.frozen?_setCells]
        exact g4 j hj

section
variable {P : Program} {ops : Array Oper} {rest : List Oper} {o : Oper} {a : Act} {w w0 : World} {Q : Exit → Act → World → Prop} {L : List Var}
/-- A variable that holds a value. -/
theorem v_box (hg : o.guard = none) (t : TypeId) (x : Operand) (ho : o.op = .box t x) (C : Array Value) (hx : (a.eval x).cells = C) (hc : Ctx w0 w L)
    (h : ∀ w1 N, Ctx w0 w1 ((N, t, C) :: L) → Below w.heap.size w w1 → wpList P ops Q rest (a.put o.dst (.pointer (some ⟨N, 0, none⟩))) w1) : wpList P ops Q (o :: rest) a w :=
  Go.Great.wpList_boxTo hg t x ho _ rfl _ rfl C hx (h _ _ (hc.push t C) ((Below.refl _ _).alloc (Nat.le_refl _) _))
/-- A new variable, of noughts. -/
theorem v_alloc (hg : o.guard = none) (t : TypeId) (ho : o.op = .alloc t) (Z : Array Value) (hz : ∀ w, (zeroValue t).run P w = .ok (.agg Z) w) (hc : Ctx w0 w L)
    (h : ∀ w1 N, Ctx w0 w1 ((N, t, Z) :: L) → Below w.heap.size w w1 → wpList P ops Q rest (a.put o.dst (.pointer (some ⟨N, 0, none⟩))) w1) : wpList P ops Q (o :: rest) a w :=
  wpList_plain hg fun K hK => by
    unfold Oper.wp execOp
    simp only [ho, Sem.run_bind, Instr.alloc, newVar, newRow, hz, Value.cells, run_newObj_alloc, Sem.run_pure, Result.andThen_ok]
    exact hK _ _ (h _ _ (hc.push t Z) ((Below.refl _ _).alloc (Nat.le_refl _) _))
theorem v_store (hg : o.guard = none) (t : TypeId) (x y : Operand) (ho : o.op = .store t x y) (k : Nat) {N : Nat} {C0 : Array Value} (C : Array Value) (hx : a.eval x = .pointer (some ⟨N, 0, none⟩)) (hy : a.eval y = .agg C)
    (hc : Ctx w0 w L) (hk : L[k]? = some (N, t, C0)) (hs : C.size = C0.size) (hi : (P.info? t).map (·.size) = some C.size) (h1 : C.all (·.oneCell') = true)
    (h : ∀ w1, Ctx w0 w1 (putV L k C) → wpList P ops Q rest (a.put o.dst undef) w1) : wpList P ops Q (o :: rest) a w :=
  wpList_store_mid hg t x y ho N 0 C hx hy (by rw [hs]; exact (hc.holds _ (List.mem_of_getElem? hk)).2.2.2) hi h1 (h _ (hc.put k hk C hs))
theorem v_load (hg : o.guard = none) (t : TypeId) (x : Operand) (ho : o.op = .load t x) (k : Nat) {N : Nat} {C : Array Value} (hx : a.eval x = .pointer (some ⟨N, 0, none⟩)) (hc : Ctx w0 w L) (hk : L[k]? = some (N, t, C)) (d : TypeDesc)
    (hu : P.underlying t = some d) (hd : d.isRow = true) (hi : (P.info? t).map (·.size) = some C.size)
    (h : wpList P ops Q rest (a.put o.dst (.agg C)) w) : wpList P ops Q (o :: rest) a w :=
  wpList_load_mid hg t x ho N 0 hx C.toList d (hc.holds _ (List.mem_of_getElem? hk)).2.2.1 hu hd (by simpa using hi) (by simpa using h)
/-- A new variable that is given a value at once. -/
theorem v_decl {o2 : Oper} (hg : o.guard = none) (hg2 : o2.guard = none) (t : TypeId) (ho : o.op = .alloc t) (x y : Operand) (ho2 : o2.op = .store t x y) (Z C : Array Value) (hz : ∀ w, (zeroValue t).run P w = .ok (.agg Z) w)
    (hx : ∀ N, (a.put o.dst (.pointer (some ⟨N, 0, none⟩))).eval x = .pointer (some ⟨N, 0, none⟩)) (hy : ∀ N, (a.put o.dst (.pointer (some ⟨N, 0, none⟩))).eval y = .agg C) (hs : C.size = Z.size) (hi : (P.info? t).map (·.size) = some C.size) (h1 : C.all (·.oneCell') = true) (hc : Ctx w0 w L)
    (h : ∀ w1 N, Ctx w0 w1 ((N, t, C) :: L) → Below w.heap.size w w1 → wpList P ops Q rest ((a.put o.dst (.pointer (some ⟨N, 0, none⟩))).put o2.dst undef) w1) : wpList P ops Q (o :: o2 :: rest) a w :=
  wpList_plain hg fun K hK => by
    unfold Oper.wp execOp
    simp only [ho, Sem.run_bind, Instr.alloc, newVar, newRow, hz, Value.cells, run_newObj_alloc, Sem.run_pure, Result.andThen_ok]
    have hp := hc.push t Z
    refine hK _ _ (wpList_store_mid hg2 t x y ho2 w.heap.size 0 C (hx _) (hy _) (by rw [hs]; exact (hp.holds _ (List.mem_cons_self ..)).2.2.2) hi h1 (h _ _ (hp.put 0 rfl C hs) ?_))
    exact ((Below.refl w.heap.size w).alloc (Nat.le_refl _) _).trans (setCells_below _ _ 0 _ _ (Nat.le_refl _))
/-- A struct within one. -/
theorem v_part (hg : o.guard = none) (t : TypeId) (x : Operand) (ho : o.op = .load t x) (k : Nat) {N f : Nat} {T : TypeId} {C : Array Value} (D : Array Value) (hx : a.eval x = .pointer (some ⟨N, f, none⟩)) (hc : Ctx w0 w L) (hk : L[k]? = some (N, T, C))
    (hD : ∀ (j : Nat) v, D[j]? = some v → C[f + j]? = some v) (d : TypeDesc) (hu : P.underlying t = some d) (hd : d.isRow = true) (hi : (P.info? t).map (·.size) = some D.size)
    (h : wpList P ops Q rest (a.put o.dst (.agg D)) w) : wpList P ops Q (o :: rest) a w :=
  wpList_load_mid hg t x ho N f hx D.toList d (fun j v hv => by
    have := hc.cell k hk (f + j) (hD j v (by simpa using hv))
    exact this) hu hd (by simpa using hi) (by simpa using h)
end
/-- A function's results, the first in a variable. -/
theorem res_two {P : Program} {fn : Func} {tmps : Array Value} {w w0 : World} {L : List Var} {b c : Tmp} {t : TypeId} {N : Nat} {C : Array Value} {v : Value} (hf : fn.results = #[.cell b t, .tmp c]) (hb : tmps[b]? = some (.pointer (some ⟨N, 0, none⟩))) (hv : tmps[c]? = some v)
    (hc : Ctx w0 w L) (k : Nat) (hk : L[k]? = some (N, t, C)) (d : TypeDesc) (hu : P.underlying t = some d) (hd : d.isRow = true) (hi : (P.info? t).map (·.size) = some C.size) : (results fn tmps).run P w = .ok (.tuple #[.agg C, v]) w := by
  have hl := run_loadVar_mid (P := P) w N 0 t C.toList d (hc.holds _ (List.mem_of_getElem? hk)).2.2.1 hu hd (by simpa using hi)
  unfold results
  rw [hf]
  have h1 : (asAddr (tmps[b]?.getD undef)).run P w = .ok ⟨N, 0, none⟩ w := by rw [hb]; rfl
  simp [Sem.run_bind, h1, hl, hv, Array.mapM_eq_mapM_toList]
theorem res_one {P : Program} {fn : Func} {tmps : Array Value} {w w0 : World} {L : List Var} {b : Tmp} {t : TypeId} {N : Nat} {C : Array Value} (hf : fn.results = #[.cell b t]) (hb : tmps[b]? = some (.pointer (some ⟨N, 0, none⟩)))
    (hc : Ctx w0 w L) (k : Nat) (hk : L[k]? = some (N, t, C)) (d : TypeDesc) (hu : P.underlying t = some d) (hd : d.isRow = true) (hi : (P.info? t).map (·.size) = some C.size) : (results fn tmps).run P w = .ok (.agg C) w := by
  have hl := run_loadVar_mid (P := P) w N 0 t C.toList d (hc.holds _ (List.mem_of_getElem? hk)).2.2.1 hu hd (by simpa using hi)
  unfold results
  rw [hf]
  have h1 : (asAddr (tmps[b]?.getD undef)).run P w = .ok ⟨N, 0, none⟩ w := by rw [hb]; rfl
  simp [Sem.run_bind, h1, hl, Array.mapM_eq_mapM_toList]
end Go.Proofs.YthplcnbfpcndbaaGreatDoor
