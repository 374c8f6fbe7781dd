/- A world in which the two tables hold what their initialisers lay: for the rows' witnesses; what the list says of their cells; and how an argument of type []byte is opened. -/
import Derived.Test.YtfmkkjnmadaplaaDoorRows
import Derived.Test.YtfmkkjnmadaplaaDoorSl
import Derived.Test.YtfmkkjnmadaplaaDoorRgl
import Derived.ProofKit
import Derived.OpenShut
import Derived.LaidLaws
import Derived.LaidHandle
import Derived.SizedLaws
import Derived.Stop.Joined
import Derived.Deep.DeepHandedRow
import Derived.Lib.LaidTab
import Derived.Lib.LaidU8
namespace Go.Proofs.YtfmkkjnmadaplaaDoor
open Go.ChangeShapes Go.WideShapes Go.ChangeAt Go.RowKit
namespace Wit

theorem own : ownKnob Tryd.prog.godebug = none := by kernel_rfl
/-- A block with other cells. -/
def put (cs : Array Value) : Obj → Obj
  | .cells _ t frozen => .cells cs t frozen
  | o => o
def squares : Array Value := (Hs.square.map fun (x : Nat) => Value.int .u64 (x : Int)).toArray
def cubes : Array Value := (Hs.cube.map fun (x : Nat) => Value.int .u64 (x : Int)).toArray
noncomputable def laidWorld (os : Os) : World :=
  { World.holding Tryd.prog os ⟨#[], #[], []⟩ with heap := ((World.holding Tryd.prog os ⟨#[], #[], []⟩).heap.modify 0 (put squares)).modify 1 (put cubes) }
def laid2 : List (String × DataW Unit) := [("covey/hash.cubeRoots", Rows.laid_covey_hash_cubeRoots), ("covey/hash.squareRoots", Rows.laid_covey_hash_squareRoots)]
set_option maxRecDepth 100000 in
theorem met2 (os : Os) (args : Array Value) : laidMetH Tryd.prog laid2 ((laidWorld os).forCall (fun _ _ => 0) ⟨#[], args, []⟩).memory :=
  laidMetH_of_parts (laidMet_of_run' 8 (by kernel_rfl) (by kernel_rfl)) (by kernel_rfl)
theorem g0 : Tryd.prog.globalNamed "covey/hash.squareRoots" = some 0 := by kernel_rfl
theorem g1 : Tryd.prog.globalNamed "covey/hash.cubeRoots" = some 1 := by kernel_rfl
theorem y0 : (Tryd.prog.globals[0]?).map (·.type) = some 49 := by kernel_rfl
theorem y1 : (Tryd.prog.globals[1]?).map (·.type) = some 72 := by kernel_rfl
theorem c47 : Tryd.prog.cellsOf 47 = 1 := by kernel_rfl
theorem c49 : Tryd.prog.cellsOf 49 = 8 := by kernel_rfl
theorem c72 : Tryd.prog.cellsOf 72 = 80 := by kernel_rfl
theorem square_eq : (Rows.laid_covey_hash_squareRoots : DataW Unit) = Lib.tabData .u64 (Hs.square.map fun (x : Nat) => (x : Int)) := by kernel_rfl
theorem cube_eq : (Rows.laid_covey_hash_cubeRoots : DataW Unit) = Lib.tabData .u64 (Hs.cube.map fun (x : Nat) => (x : Int)) := by kernel_rfl
theorem range_of {W : World} {n : String} {g : Nat} {l : List Value} (hg : Tryd.prog.globalNamed n = some g) (h : W.var? Tryd.prog n = some l.toArray) : W.rangeAt g 0 l := fun j v hv => by
  rw [Nat.zero_add, World.var?_cell hg h j]
  simpa using hv
/-- What the list says of the two tables. -/
theorem tabs {W : World} (h' : laidMetH Tryd.prog laid2 W) : Rg.Tabs W := by
  have h : laidMet Tryd.prog laid2 W := h'
  have r0 := Lib.laidMet.reads h (n := "covey/hash.squareRoots") (d := Rows.laid_covey_hash_squareRoots) (by simp [laid2])
  have r1 := Lib.laidMet.reads h (n := "covey/hash.cubeRoots") (d := Rows.laid_covey_hash_cubeRoots) (by simp [laid2])
  rw [square_eq] at r0
  rw [cube_eq] at r1
  obtain ⟨g, t, cs, fuel, p, hg, hty, hvar, hd⟩ := r0
  obtain rfl := Option.some.inj (g0.symm.trans hg)
  obtain rfl := Option.some.inj (y0.symm.trans hty)
  have e0 := Lib.cells_of_tab Tryd.underlying49 Tryd.underlying47 c47 c49 hd
  obtain ⟨g, t, cs1, fuel1, p1, hg1, hty1, hvar1, hd1⟩ := r1
  obtain rfl := Option.some.inj (g1.symm.trans hg1)
  obtain rfl := Option.some.inj (y1.symm.trans hty1)
  have e1 := Lib.cells_of_tab Tryd.underlying72 Tryd.underlying47 c47 c72 hd1
  rw [List.map_map] at e0 e1
  refine ⟨?_, ?_⟩
  · refine range_of g0 ?_
    rw [hvar]
    congr 1
    rw [← Array.toList_inj, e0]
    rfl
  · refine range_of g1 ?_
    rw [hvar1]
    congr 1
    rw [← Array.toList_inj, e1]
    rfl

theorem cells5 : Tryd.prog.cellsOf 5 = 1 := by kernel_rfl
theorem bytes5 : Tryd.prog.bytesOf 5 = 1 := by kernel_rfl
theorem laidOut : laidOutB Tryd.prog = true := by kernel_rfl
theorem u8 (k : Nat) (h : k < 256) : (k.toUInt8).toNat = k := by
  rw [Nat.toUInt8_eq, UInt8.toNat_ofNat']
  omega
theorem byte_of {z : Int} (h : (Lit.int .u8 z).wf = true) : 0 ≤ z ∧ z < 256 := by
  have h1 : IntKind.u8.min ≤ z ∧ z ≤ IntKind.u8.max := by simpa [Lit.wf] using h
  have e1 : IntKind.u8.min = 0 := by decide
  have e2 : IntKind.u8.max = 255 := by decide
  omega
theorem int_of {z : Int} (h : (Lit.int .i64 z).wf = true) : -9223372036854775808 ≤ z ∧ z ≤ 9223372036854775807 := by
  have h1 : IntKind.i64.min ≤ z ∧ z ≤ IntKind.i64.max := by simpa [Lit.wf] using h
  have e1 : IntKind.i64.min = -9223372036854775808 := by decide
  have e2 : IntKind.i64.max = 9223372036854775807 := by decide
  omega
set_option maxRecDepth 100000 in
/-- An argument of type []byte: the bytes that it holds, and what it reads as. -/
theorem open_bs {H : Type} {enc : TypeId × Value → H} {W : World} {base : Nat} {v : Value} {d : DataW H} {ps : List MemPlace}
    (hval : Value.okWide Tryd.prog W .any base 22 v) (h : DataW.Trod enc Tryd.prog W 0 (fun _ => true) true 22 v d ps) :
    ∃ (bs : List UInt8) (sp : Option Addr) (sc : Nat), v = .slice sp bs.length sc ∧ Bw.SlM W (.slice sp bs.length sc) bs ∧ bs.length ≤ Rows.uptoBulk d ∧ (bs = [] ∨ ∃ es sr, d = .slice es sr ∧ es.length = bs.length) := by
  obtain ⟨a0, len, cap, rfl⟩ := okWide_slice Tryd.underlying22 hval
  obtain ⟨fuel, hf⟩ := h
  rcases open_ints Tryd.underlying22 Tryd.underlying5 cells5 hf with ⟨hcs, hx⟩ | ⟨a, len', cap', zs, hcs, _, hl, hm, hz, hx, hcell, hwz⟩
  · simp [Value.cells] at hcs
    obtain ⟨rfl, rfl, rfl⟩ := hcs
    exact ⟨[], _, _, rfl, .inl ⟨rfl, .inl rfl⟩, by simp, .inl rfl⟩
  · simp [Value.cells] at hcs
    obtain ⟨rfl, rfl, rfl⟩ := hcs
    simp only [Prod.mk.injEq] at hx
    simp only [if_true] at hz
    have hle : (zs.take len).length = len := by rw [List.length_take]; omega
    have hcap : cap ≤ 9223372036854775807 := by unfold maxLen at hm; omega
    have hbl : ((zs.take len).map fun z => z.toNat.toUInt8).length = len := by rw [List.length_map, hle]
    refine ⟨(zs.take len).map fun z => z.toNat.toUInt8, some a, cap, by rw [hbl], ?_, ?_, .inr ⟨_, _, hx.1, by rw [hbl]; simp only [lits, List.length_map]; exact hle⟩⟩
    · obtain ⟨b, off, spot⟩ := a
      by_cases hl0 : len = 0
      · subst hl0
        exact .inl ⟨by simp, .inr ⟨_, _, by rw [hbl], hcap⟩⟩
      · have hspot : spot = none := by simpa [Addr.add] using World.cell?_spot (hcell 0 (by omega))
        subst hspot
        refine .inr ⟨b, off, cap, rfl, by rw [hbl]; exact hl, hcap, fun j hj => ?_⟩
        rw [hbl] at hj
        have hjz : j < zs.length := by omega
        have hb := byte_of (hwz zs[j] (List.getElem_mem _))
        rw [← Bw.addO, hcell j hjz, List.getD_eq_getElem?_getD, List.getElem?_eq_getElem hjz]
        simp only [List.getElem_map, List.getElem_take, Option.getD_some]
        rw [u8 _ (by omega)]
        congr 2
        omega
    · rw [hx.1, hbl]
      simp only [Rows.uptoBulk]
      have : ∀ (l : List Int), l.length ≤ Rows.uptoBulkAll (H := H) (lits .u8 l) := by
        intro l
        induction l with
        | nil => simp [lits, Rows.uptoBulkAll]
        | cons z r ih =>
          simp only [lits, List.map_cons, Rows.uptoBulkAll, Rows.uptoBulk, List.length_cons] at ih ⊢
          omega
      have h1 := this (zs.take len)
      rw [hle] at h1
      omega
end Wit
end Go.Proofs.YtfmkkjnmadaplaaDoor
