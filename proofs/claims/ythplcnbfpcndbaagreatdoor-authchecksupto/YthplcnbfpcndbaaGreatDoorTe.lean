/- What the rows' list says of the variable covey/auth.singles: the seven names lie there. An argument of the type api.Event. -/
import Derived.Test.YthplcnbfpcndbaaGreatDoorWit
import Derived.Test.YthplcnbfpcndbaaGreatDoorTf
import Derived.Test.YthplcnbfpcndbaaGreatDoorAr
namespace Go.Proofs.YthplcnbfpcndbaaGreatDoor
open Go.ChangeShapes Go.WideShapes Go.ChangeAt Go.RowKit
namespace Wit
theorem y0 : (Tryz.prog.globals[0]?).map (·.type) = some 109 := by kernel_rfl
theorem c99 : Tryz.prog.cellsOf 109 = 7 := by kernel_rfl
theorem c9 : Tryz.prog.cellsOf 9 = 1 := by kernel_rfl
/-- An array of texts that reads as these holds them, cell for cell. -/
theorem cells_of_texts {H : Type} {enc : TypeId × Value → H} {P : Program} {w : World} {base : Nat} {sp : Nat → Bool} {held : Bool} {fuel : Nat} {t e : TypeId} {n : Nat} {cs : List Value} {zs : List ByteArray} {p : List MemPlace}
    (ht : P.underlying t = some (.array n e)) (he : P.underlying e = some .string) (hce : P.cellsOf e = 1) (hct : P.cellsOf t = n)
    (h : DataW.trod enc P w base sp held fuel t cs = some (.agg (zs.map fun z => .lit (.string z.data.toList)), p)) : cs = zs.map fun z => Value.string z := by
  cases fuel with
  | zero => simp [DataW.trod] at h
  | succ fuel =>
    simp only [DataW.trod, ht, hce, hct, Nat.mul_one] at h
    split at h
    · rename_i hl
      obtain ⟨xs, hm, hx⟩ := Option.map_eq_some_iff.1 h
      have hxs : xs.map (·.1) = zs.map fun z => (DataW.lit (.string z.data.toList) : DataW H) := by
        have := congrArg Prod.fst hx
        simpa using this
      have hxl : xs.length = n := by simpa using Lib.mapM_length hm
      have hzl : zs.length = n := by
        have := congrArg List.length hxs
        simp at this
        omega
      apply List.ext_getElem?
      intro i
      by_cases hi : i < n
      · obtain ⟨b, hb, hf⟩ := Lib.mapM_at hm i i (by simp [hi])
        obtain ⟨z, hc, rfl, _⟩ := DataW.trod_string he hf
        have h1 : cs[i]? = some (.string z) := by
          have := congrArg (·[0]?) hc
          simpa [List.getElem?_take, List.getElem?_drop] using this
        have h2 : (xs.map (·.1))[i]? = some (DataW.lit (.string z.data.toList) : DataW H) := by simp [hb]
        rw [hxs] at h2
        simp only [List.getElem?_map, Option.map_eq_some_iff, DataW.lit.injEq] at h2
        obtain ⟨z', hz', e⟩ := h2
        rw [h1, List.getElem?_map, hz', str_inj e]
        rfl
      · rw [List.getElem?_eq_none (by omega), List.getElem?_eq_none (by simp; omega)]
    · cases h
theorem sing_eq : (Rows.laid_covey_auth_singles : DataW Unit) = .agg (seven.map fun z => .lit (.string z.data.toList)) := by kernel_rfl
theorem sing {W : World} (h : laidMetH Tryz.prog laid1 W) : Sing W := by
  have h' : laidMet Tryz.prog laid1 W := h
  have r := Lib.laidMet.reads h' (n := "covey/auth.singles") (d := Rows.laid_covey_auth_singles) (by simp [laid1])
  rw [sing_eq] at r
  obtain ⟨g, t, cs, fuel, p, hg, hty, hvar, hd⟩ := r
  obtain rfl := Option.some.inj (n0.symm.trans hg)
  obtain rfl := Option.some.inj (y0.symm.trans hty)
  have hcs := cells_of_texts Tryz.underlying109 Tryz.underlying9 c9 c99 hd
  have hr : W.rangeAt 0 0 sevC.toList := fun j v hv => by
    have := World.var?_cell hg hvar j
    rw [Nat.zero_add, this, ← Array.getElem?_toList, hcs]
    exact hv
  exact ⟨hr, block_lt hr (by decide)⟩
end Wit
end Go.Proofs.YthplcnbfpcndbaaGreatDoor

namespace Go.Proofs.YthplcnbfpcndbaaGreatDoor
open Go.RowKit
namespace ArgW
set_option maxRecDepth 100000 in
theorem open_ev {H : Type} {enc : TypeId × Value → H} {W : World} {base : Nat} {v : Value} {d : DataW H} {ps : List MemPlace} (hval : Value.okWide Tryz.prog W .any base 28 v) (h : DataW.Trod enc Tryz.prog W 0 (fun _ => true) true 28 v d ps) (hb : Rows.uptoBulk d ≤ 1048576) :
    ∃ (cs : Array Value) (e : EV), v = .agg cs ∧ EC W e cs := by
  unfold Value.okWide at hval
  rw [Tryz.underlying28] at hval
  obtain ⟨cs, rfl, _, _⟩ := hval
  obtain ⟨fuel, hf⟩ := h
  obtain ⟨e, he⟩ := open_event hf hb
  exact ⟨cs, e, rfl, by simpa [Value.cells] using he⟩
end ArgW
end Go.Proofs.YthplcnbfpcndbaaGreatDoor
