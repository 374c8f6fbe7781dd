/- A region with variables of 32 bytes that are made, in whatever order: the form that the walks use; boxes of points. How an argument that is a point is opened. -/
import Derived.Test.YtgdekigdbbldoaaG20
import Derived.Test.YtgdekigdbbldoaaG26
import Derived.Test.YtgdekigdbbldoaaG19
namespace Go.Proofs.Ytgdekigdbbldoaa
open Go.RowKit
namespace Fd
open Rg

theorem region_float {P : Program} {N : Nat} {W : World} {id : Nat} {Q : Exit → Act → World → Prop} {a : Act} {w : World} {k l t : List Oper} {ty : TypeId} {Z : Obj} {n : Nat} (al : List Tmp) (m f : Nat)
    (hm : P.follows .mixedOrders = true) (hC : Below N W w) (hN : N ≤ W.heap.size)
    (hZ : ∀ (ρ : Operand → Value) (o : Oper) (w : World), isAl ty o = true → (execOp ρ o).run P w = .ok (.value (.pointer (some ⟨w.heap.size, 0, none⟩))) (w.alloc Z))
    (hth : ∀ w : World, (w.alloc Z).there w.heap.size 0 n)
    (hl : k.take m = l) (ht : k.drop m = t) (hB : Region.lexB .any (l.map (hush ty)).toArray = true) (hT : tailB l t f 0 = true) (hF : floatB ty al l = true) (hS : slotsB al l = true)
    (h : ∃ A : Act, (∀ (N2 : Nat) (W2 : World), N ≤ N2 → Below N W W2 → N2 ≤ W2.heap.size → wpQuiet P (l.map (hush ty)).toArray (fun w' => ∃ x : Cl N2 W2, w' = x.u) (fun a' => a' = A) (l.map (hush ty)) a) ∧
      ∀ (g : Tmp → Nat) (w' : World), Below N W w' → (∀ d ∈ al, N ≤ g d ∧ g d < w'.heap.size ∧ w'.there (g d) 0 n) → (∀ d ∈ al, ∀ e ∈ al, d ≠ e → g d ≠ g e) → wpList P k.toArray Q t (putsT A al g) w') :
    (Code.region id k.toArray true).wp P Q a w := by
  obtain ⟨A, hq, hend⟩ := h
  have hk : k = l ++ t := by rw [← hl, ← ht, List.take_append_drop]
  subst hk
  simp only [Region.lexB, Bool.and_eq_true] at hB
  refine wp_region_any hm ?_
  have h2 := wpAny_float (P := P) (Q := Q) (A := A) hT hF hS hZ hth hend l.length (Array.replicate (l ++ t).toArray.size false) (Array.replicate l.toArray.size false) a a [] (fun _ => 0) N W { w with drawn := w.drawn + 1 }
    (Nat.le_refl _) hN (Below.refl _ _) (drawn_below hC) (Rf.refl _ _) (fun d hd => by cases hd) (fun d hd => by cases hd) (fun i o d hi _ _ => by
      have hi2 := (List.getElem?_eq_some_iff.1 hi).1
      simp [Array.getD_eq_getD_getElem?, Nat.lt_of_lt_of_le hi2 (Nat.le_add_right _ _)]) (by simp) (by simp) (fun i hi => by
      simp [Array.getD_eq_getD_getElem?, hi, Nat.lt_of_lt_of_le hi (Nat.le_add_right _ _)]) (Closed.start _ _) (fun i _ hi => by
      have hi2 : i < l.length + t.length := by rw [← List.length_append]; exact hi
      simp [Array.getD_eq_getD_getElem?, hi2]) (fun N2 W2 q1 q2 q3 => by
      have h1 := wpAnyQ_lex (C := fun w' => ∃ x : Cl N2 W2, w' = x.u) (md := .any) (ops := (l.map (hush ty)).toArray) hB.1 (l.map (hush ty)) 0 (Array.replicate (l.map (hush ty)).toArray.size false) a (by simp) (by simpa using hB.2) (hq N2 W2 q1 q2 q3)
      simpa using h1)
  simpa using h2
theorem alloc22 (ρ : Operand → Value) (o : Oper) (w : World) (h : isAl 22 o = true) : (execOp ρ o).run Try.prog w = .ok (.value (.pointer (some ⟨w.heap.size, 0, none⟩))) (w.alloc (.cells z22 22)) := by
  obtain ⟨dst, op, type, pos, after, guard⟩ := o
  unfold isAl at h
  cases op <;> simp only [] at h <;> try cases h
  rename_i u
  have : u = 22 := by simpa using h
  subst this
  have hz := zero22
  go_simp
theorem there22 (w : World) : (w.alloc (.cells z22 22)).there w.heap.size 0 32 := z22_there w
/-- Two variables are written. -/
theorem two_boxes {N : Nat} {W w : World} {b c : Nat} {R S : List Value} (hb : Below N W w) (h1 : N ≤ b ∧ b < w.heap.size ∧ w.there b 0 32) (h2 : N ≤ c ∧ c < w.heap.size ∧ w.there c 0 32) (hne : b ≠ c) (hR : R.length = 32) (hS : S.length = 32) :
    Bo ((w.setCells b 0 R).setCells c 0 S) b R ∧ Bo ((w.setCells b 0 R).setCells c 0 S) c S ∧ Below N W ((w.setCells b 0 R).setCells c 0 S) :=
  ⟨⟨World.rangeAt_setCells_apart (World.rangeAt_setCells_same _ _ _ _ (by rw [hR]; exact h1.2.2)) _ _ _ (.inl hne), by rw [size_setCells, size_setCells]; exact h1.2.1⟩,
   ⟨World.rangeAt_setCells_same _ _ _ _ (by rw [hS]; exact World.there_setCells h2.2.2 _ _ _), by rw [size_setCells, size_setCells]; exact h2.2.1⟩, below_setCells (below_setCells hb h1.1) h2.1⟩
/-- A point's value, and a box of a point. -/
def pv (x y : Nat) : Value := .agg (bvc x ++ bvc y).toArray
theorem range_left {w : World} {b o : Nat} {X Y : List Value} (h : w.rangeAt b o (X ++ Y)) : w.rangeAt b o X := fun j v hv => h j v (by rw [List.getElem?_append_left (List.getElem?_eq_some_iff.1 hv).1]; exact hv)
theorem range_right {w : World} {b o m : Nat} {X Y : List Value} (h : w.rangeAt b o (X ++ Y)) (hX : X.length = m) : w.rangeAt b (o + m) Y := fun j v hv => by
  have := h (m + j) v (by rw [List.getElem?_append_right (by omega), hX, Nat.add_sub_cancel_left]; exact hv)
  rw [← Nat.add_assoc] at this
  exact this
end Fd
end Go.Proofs.Ytgdekigdbbldoaa

namespace Go.Proofs.Ytgdekigdbbldoaa
open Go.ChangeShapes Go.WideShapes Go.ChangeAt Go.RowKit Go.WideMaps
namespace Wit
section
variable {H : Type} {enc : TypeId × Value → H} {W : World}
set_option maxRecDepth 100000 in
/-- What is read as 32 bytes is the bytes of a number. -/
theorem cells22 {m : Nat} {xs : List Value} {y : DataW H × List MemPlace} (hn : xs.length = 32) (h : DataW.trod enc Try.prog W 0 (fun _ => true) true m 22 xs = some y) :
    ∃ a, a < 115792089237316195423570985008687907853269984665640564039457584007913129639936 ∧ xs = Fd.bvc a := by
  cases m with
  | zero => simp [DataW.trod] at h
  | succ m =>
    rw [DataW.trod_step] at h
    unfold DataW.trodStep at h
    simp only [Try.underlying22] at h
    rw [if_pos (by rw [arr22.size]; exact hn)] at h
    simp only [Option.map_eq_some_iff] at h
    obtain ⟨ys, hy, _⟩ := h
    rw [arr22.one] at hy
    obtain ⟨zs, h1, h2, h3⟩ := cells_of _ xs m ys hy
    rw [List.length_range] at h1
    have hlt := ofB_lt zs h2
    rw [h1, Dt.b256, ← Dt.two256] at hlt
    refine ⟨Dt.ofB zs, hlt, List.ext_getElem? fun j => ?_⟩
    rcases Nat.lt_or_ge j 32 with hj | hj
    · rw [h3 j j (by rw [List.getElem?_range hj])]
      have := Fd.bvc_at (Dt.ofB zs) j hj
      rw [by_ofB zs h2 j] at this
      exact this.symm
    · rw [List.getElem?_eq_none (by omega), List.getElem?_eq_none (by rw [Fd.bvc_len]; exact hj)]
theorem cells43 : Try.prog.cellsOf 43 = 64 := by kernel_rfl
theorem cells22n : Try.prog.cellsOf 22 = 32 := by kernel_rfl
set_option maxRecDepth 100000 in
/-- What is read as a point is two numbers. -/
theorem open43 {r : Reach} {b0 : Nat} {v : Value} {d : DataW H} {ps : List MemPlace} (hval : Value.okWide Try.prog W r b0 43 v) (hd : DataW.Trod enc Try.prog W 0 (fun _ => true) true 43 v d ps) :
    ∃ a b, a < 115792089237316195423570985008687907853269984665640564039457584007913129639936 ∧ b < 115792089237316195423570985008687907853269984665640564039457584007913129639936 ∧ v = Fd.pv a b := by
  obtain ⟨xs, rfl, hn⟩ := okWide_struct Try.underlying43 hval
  rw [cells43] at hn
  obtain ⟨fuel, hf⟩ := hd
  cases fuel with
  | zero => simp [DataW.trod] at hf
  | succ m =>
    rw [DataW.trod_step] at hf
    unfold DataW.trodStep at hf
    simp only [Try.underlying43, Value.cells] at hf
    rw [if_pos (by rw [cells43]; simpa using hn)] at hf
    simp only [Option.map_eq_some_iff] at hf
    obtain ⟨ys, hy, _⟩ := hf
    simp only [List.mapM_cons, List.mapM_nil, bind, Option.bind_eq_some_iff, cells22n] at hy
    obtain ⟨y1, hy1, z1, ⟨y2, hy2, _⟩, _⟩ := hy
    have l1 : xs.toList.length = 64 := by simpa using hn
    obtain ⟨a, la, ea⟩ := cells22 (by simp [l1]) hy1
    obtain ⟨b, lb, eb⟩ := cells22 (by simp [l1]) hy2
    refine ⟨a, b, la, lb, ?_⟩
    unfold Fd.pv
    rw [← ea, ← eb]
    congr 1
    refine Array.toList_inj.1 ?_
    show xs.toList = _
    rw [List.drop_zero, List.take_of_length_le (l := List.drop 32 xs.toList) (by rw [List.length_drop, l1]; decide), List.take_append_drop]
end
end Wit
end Go.Proofs.Ytgdekigdbbldoaa
