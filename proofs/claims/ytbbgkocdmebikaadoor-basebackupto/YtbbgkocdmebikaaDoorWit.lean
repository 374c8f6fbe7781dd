/- A world in which errors.errorType holds what its initialiser lays: for the rows' witnesses; what the list says of its cell; and how an argument of type []byte is opened. -/
import Derived.Test.YtbbgkocdmebikaaDoorRows
import Derived.Test.YtbbgkocdmebikaaDoorLw
import Derived.ProofKit
import Derived.OpenShut
import Derived.LaidLaws
import Derived.LaidHandle
import Derived.SizedLaws
import Derived.Stop.Joined
import Derived.Deep.DeepHandedRow
namespace Go.Proofs.YtbbgkocdmebikaaDoor
open Go.ChangeShapes Go.WideShapes Go.ChangeAt Go.RowKit
namespace Wit

theorem own : ownKnob Tryd.prog.godebug = none := by kernel_rfl
/-- A block with other cells. -/
def put (cs : Array Value) : Obj → Obj
  | .cells _ t frozen => .cells cs t frozen
  | o => o
def errorCells : Array Value := #[.iface 71 (.agg #[.pointer (some ⟨2, 28, none⟩)])]
noncomputable def laidWorld (os : Os) : World :=
  { World.holding Tryd.prog os ⟨#[], #[], []⟩ with heap := (World.holding Tryd.prog os ⟨#[], #[], []⟩).heap.modify 0 (put errorCells) }
def laid1 : List (String × DataW Unit) := [("errors.errorType", Rows.laid_errors_errorType)]
set_option maxRecDepth 100000 in
theorem met1 (os : Os) (args : Array Value) : laidMetH Tryd.prog laid1 ((laidWorld os).forCall (fun _ _ => 0) ⟨#[], args, []⟩).memory :=
  laidMetH_of_parts (laidMet_of_run' 8 (by kernel_rfl) (by kernel_rfl)) (by kernel_rfl)

theorem et : Tryd.prog.globalNamed "errors.errorType" = some 0 := by kernel_rfl
theorem rt : (Tryd.prog.cutTypes.find? (·.1 == "internal/reflectlite.rtype")).map (·.2) = some 71 := by kernel_rfl
theorem oneRow : ((List.range 115).filter fun t => Tryd.prog.rowNamed t [101, 114, 114, 111, 114]) = [28] := by kernel_rfl
theorem size : Tryd.prog.types.size = 115 := by kernel_rfl
/-- What the list says of errors.errorType. -/
theorem handle {W : World} (h : laidMetH Tryd.prog laid1 W) : Bw.ErrT W := by
  have h' : laidMet Tryd.prog [] W ∧ handlesMet Tryd.prog [("errors.errorType", Rows.laid_errors_errorType)] W := h
  obtain ⟨name, u, ty, e1, e2, e3, e4, e5⟩ := h'.2 _ (List.mem_singleton.2 rfl)
  have en : name = [101, 114, 114, 111, 114] := (Option.some.inj e1).symm
  subst en
  obtain rfl := Option.some.inj (rt.symm.trans e2)
  have hm : ty ∈ (List.range 115).filter fun t => Tryd.prog.rowNamed t [101, 114, 114, 111, 114] := List.mem_filter.2 ⟨List.mem_range.2 (by rw [← size]; exact e3), e4⟩
  rw [oneRow] at hm
  obtain rfl := List.mem_singleton.1 hm
  have hh : typeHandle Tryd.prog 28 = .pointer (some ⟨2, 28, none⟩) := by kernel_rfl
  rw [hh] at e5
  unfold Bw.ErrT
  simpa using World.var?_cell et e5 0

theorem cells5 : Tryd.prog.cellsOf 5 = 1 := by kernel_rfl
theorem laidOut : laidOutB Tryd.prog = true := by kernel_rfl
theorem byte_of {z : Int} (h : (Lit.int .u8 z).wf = true) : 0 ≤ z ∧ z < 256 := by
  have h1 : IntKind.u8.min ≤ z ∧ z ≤ IntKind.u8.max := by simpa [Lit.wf] using h
  have e1 : IntKind.u8.min = 0 := by decide
  have e2 : IntKind.u8.max = 255 := by decide
  omega
set_option maxRecDepth 100000 in
/-- An argument of type []byte: the bytes that it holds, and what it reads as. -/
theorem open_bs {H : Type} {enc : TypeId × Value → H} {W : World} {base : Nat} {v : Value} {d : DataW H} {ps : List MemPlace}
    (hval : Value.okWide Tryd.prog W .any base 22 v) (h : DataW.Trod enc Tryd.prog W 0 (fun _ => true) true 22 v d ps) :
    ∃ bs : List UInt8, Bw.SlA W v bs ∧ bs.length ≤ Rows.uptoBulk d := by
  obtain ⟨a0, len, cap, rfl⟩ := okWide_slice Tryd.underlying22 hval
  obtain ⟨fuel, hf⟩ := h
  rcases open_ints Tryd.underlying22 Tryd.underlying5 cells5 hf with ⟨hcs, hx⟩ | ⟨a, len', cap', zs, hcs, _, hl, hm, hz, hx, hcell, hwz⟩
  · simp [Value.cells] at hcs
    obtain ⟨rfl, rfl, rfl⟩ := hcs
    exact ⟨[], .inl ⟨rfl, rfl⟩, by simp⟩
  · simp [Value.cells] at hcs
    obtain ⟨rfl, rfl, rfl⟩ := hcs
    simp only [Prod.mk.injEq] at hx
    simp only [if_true] at hz
    have hle : (zs.take len).length = len := by rw [List.length_take]; omega
    refine ⟨(zs.take len).map fun z => z.toNat.toUInt8, ?_, ?_⟩
    · obtain ⟨b, off, spot⟩ := a
      by_cases hl0 : len = 0
      · subst hl0
        exact .inr (.inl ⟨by simp, _, _, rfl⟩)
      · have hspot : spot = none := by simpa [Addr.add] using World.cell?_spot (hcell 0 (by omega))
        subst hspot
        refine .inr (.inr ⟨b, off, cap, by rw [List.length_map, hle], by rw [List.length_map, hle]; exact hl, fun j hj => ?_⟩)
        rw [List.length_map, hle] at hj
        have hjz : j < zs.length := by omega
        have hb := byte_of (hwz zs[j] (List.getElem_mem _))
        rw [← Bw.addO, hcell j hjz, List.getD_eq_getElem?_getD, List.getElem?_eq_getElem hjz]
        simp only [List.getElem_map, List.getElem_take, Option.getD_some]
        rw [Bs.u8 _ (by omega)]
        congr 2
        omega
    · rw [hx.1, List.length_map, hle]
      simp only [Rows.uptoBulk]
      have : ∀ (l : List Int), l.length ≤ Rows.uptoBulkAll (H := H) (lits .u8 l) := by
        intro l
        induction l with
        | nil => simp [lits, Rows.uptoBulkAll]
        | cons z r ih =>
          simp only [lits, List.map_cons, Rows.uptoBulkAll, Rows.uptoBulk, List.length_cons] at ih ⊢
          omega
      have h1 := this (zs.take len)
      rw [hle] at h1
      omega
end Wit
end Go.Proofs.YtbbgkocdmebikaaDoor
