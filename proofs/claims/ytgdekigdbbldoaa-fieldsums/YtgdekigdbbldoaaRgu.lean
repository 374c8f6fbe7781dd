/- As the region with a quiet front and a tail, its first operation taken ahead. Nothing of the program. -/
import Derived.Test.YtgdekigdbbldoaaRgt
namespace Go.Proofs.Ytgdekigdbbldoaa
open Go.RowKit
namespace Rg
/-- The same, where the region's first operation gives the same in every world, and a tail's wants it. -/
theorem region_tail2 {P : Program} {C : World → Prop} {id : Nat} {Q : Exit → Act → World → Prop} {a : Act} {w : World} {k l' t : List Oper} {o0 : Oper} (m : Nat) (f : Nat) (hm : P.follows .mixedOrders = true) (hl : k.take m = o0 :: l') (ht : k.drop m = t) (hC : C { w with drawn := w.drawn + 1 })
    (hg : o0.guard = none) (v0 : Value) (hy : ∀ w', (execOp a.eval o0).run P w' = .ok (.value v0) w') (hQ2 : ∀ c a' w, Q (.panic c) (a'.put o0.dst v0) w → Q (.panic c) a' w)
    (hs : Region.noSelect (o0 :: l' ++ t).toArray = true) (hf : Region.free .any (o0 :: l' ++ t).toArray (Array.replicate (o0 :: l' ++ t).toArray.size false) 0 = true) (hr : (Region.ready .any (o0 :: l' ++ t).toArray (Array.replicate (o0 :: l' ++ t).toArray.size false)).contains 0 = true)
    (hB1 : Region.noSelect (o0 :: l').toArray = true) (hB : Region.lexFrom .any (o0 :: l').toArray l'.length 1 ((Array.replicate (o0 :: l').toArray.size false).setIfInBounds 0 true) = true) (hT : tailB (o0 :: l') t f 1 = true)
    (h : wpQuiet P (o0 :: l').toArray C (fun a' => ∀ w', C w' → wpList P k.toArray Q t a' w') l' (a.put o0.dst v0)) : (Code.region id k.toArray true).wp P Q a w := by
  have hk : k = (o0 :: l') ++ t := by rw [← hl, ← ht, List.take_append_drop]
  subst hk
  refine wp_region_any hm ?_
  have h1 := wpAnyQ_lex (C := C) (md := .any) (ops := (o0 :: l').toArray) hB1 l' 1 ((Array.replicate (o0 :: l').toArray.size false).setIfInBounds 0 true) _ (fun j => by simp [Nat.add_comm 1 j]) hB h
  have e : (o0 :: l' ++ t).toArray.size = (l'.length + t.length) + 1 := by simp
  have h2 := wpAny_front (t := t) (f := f) (Q := Q) hT (by simp) l'.length ((Array.replicate (o0 :: l' ++ t).toArray.size false).setIfInBounds 0 true) ((Array.replicate (o0 :: l').toArray.size false).setIfInBounds 0 true) _ _ hC (by simp) (by simp) (fun i hi => by
    rw [getD_set, getD_set]
    by_cases hi0 : i = 0
    · rw [if_pos ⟨hi0, by simp⟩, if_pos ⟨hi0, by simp⟩]
    · rw [if_neg (fun h => hi0 h.1), if_neg (fun h => hi0 h.1)]
      have hi1 : i < l'.length + 1 := by simpa using hi
      simp [Array.getD_eq_getD_getElem?, hi1, Nat.lt_of_lt_of_le hi1 (show l'.length + 1 ≤ l'.length + t.length + 1 by omega)]) ((Closed.start _ _).step (by simpa using hr)) (fun i hi1 hi => by
    have hi1' : l'.length + 1 ≤ i := by simpa using hi1
    rw [getD_set, if_neg (fun h => by omega)]
    have hi2 : i < l'.length + t.length + 1 := by simpa [Nat.add_right_comm] using hi
    simp [Array.getD_eq_getD_getElem?, hi2]) (fun i hi => by
    obtain rfl : i = 0 := by omega
    rw [getD_set, if_pos ⟨rfl, by simp⟩]) h1
  rw [e]
  rw [e] at h2
  have hr' := hr
  have hf' := hf
  rw [e] at hr' hf'
  refine wpAny_take (i := 0) (oi := o0) (v := v0) (by simp) hs hf' hr' hQ2 (.inl ⟨by unfold Region.wanted; rw [hg], hy⟩) h2
end Rg
end Go.Proofs.Ytgdekigdbbldoaa
