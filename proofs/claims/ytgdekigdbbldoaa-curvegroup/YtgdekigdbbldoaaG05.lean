/- As the region with a quiet front and a tail, its first operation taken ahead. Nothing of the program. A region that draws its order: a front that only reads (in a class of worlds), and a rest, each of which waits for all the front; the rest in whatever order its own edges leave. Edges that don't bind may point onward. Nothing of the program. -/
import Derived.Test.YtgdekigdbbldoaaG04
namespace Go.Proofs.Ytgdekigdbbldoaa
open Go.RowKit
namespace Rg
/-- The same, where the region's first operation gives the same in every world, and a tail's wants it. -/
theorem region_tail2 {P : Program} {C : World → Prop} {id : Nat} {Q : Exit → Act → World → Prop} {a : Act} {w : World} {k l' t : List Oper} {o0 : Oper} (m : Nat) (f : Nat) (hm : P.follows .mixedOrders = true) (hl : k.take m = o0 :: l') (ht : k.drop m = t) (hC : C { w with drawn := w.drawn + 1 })
    (hg : o0.guard = none) (v0 : Value) (hy : ∀ w', (execOp a.eval o0).run P w' = .ok (.value v0) w') (hQ2 : ∀ c a' w, Q (.panic c) (a'.put o0.dst v0) w → Q (.panic c) a' w)
    (hs : Region.noSelect (o0 :: l' ++ t).toArray = true) (hf : Region.free .any (o0 :: l' ++ t).toArray (Array.replicate (o0 :: l' ++ t).toArray.size false) 0 = true) (hr : (Region.ready .any (o0 :: l' ++ t).toArray (Array.replicate (o0 :: l' ++ t).toArray.size false)).contains 0 = true)
    (hB1 : Region.noSelect (o0 :: l').toArray = true) (hB : Region.lexFrom .any (o0 :: l').toArray l'.length 1 ((Array.replicate (o0 :: l').toArray.size false).setIfInBounds 0 true) = true) (hT : tailB (o0 :: l') t f 1 = true)
    (h : wpQuiet P (o0 :: l').toArray C (fun a' => ∀ w', C w' → wpList P k.toArray Q t a' w') l' (a.put o0.dst v0)) : (Code.region id k.toArray true).wp P Q a w := by
  have hk : k = (o0 :: l') ++ t := by rw [← hl, ← ht, List.take_append_drop]
  subst hk
  refine wp_region_any hm ?_
  have h1 := wpAnyQ_lex (C := C) (md := .any) (ops := (o0 :: l').toArray) hB1 l' 1 ((Array.replicate (o0 :: l').toArray.size false).setIfInBounds 0 true) _ (fun j => by simp [Nat.add_comm 1 j]) hB h
  have e : (o0 :: l' ++ t).toArray.size = (l'.length + t.length) + 1 := by simp
  have h2 := wpAny_front (t := t) (f := f) (Q := Q) hT (by simp) l'.length ((Array.replicate (o0 :: l' ++ t).toArray.size false).setIfInBounds 0 true) ((Array.replicate (o0 :: l').toArray.size false).setIfInBounds 0 true) _ _ hC (by simp) (by simp) (fun i hi => by
    rw [getD_set, getD_set]
    by_cases hi0 : i = 0
    · rw [if_pos ⟨hi0, by simp⟩, if_pos ⟨hi0, by simp⟩]
    · rw [if_neg (fun h => hi0 h.1), if_neg (fun h => hi0 h.1)]
      have hi1 : i < l'.length + 1 := by simpa using hi
      simp [Array.getD_eq_getD_getElem?, hi1, Nat.lt_of_lt_of_le hi1 (show l'.length + 1 ≤ l'.length + t.length + 1 by omega)]) ((Closed.start _ _).step (by simpa using hr)) (fun i hi1 hi => by
    have hi1' : l'.length + 1 ≤ i := by simpa using hi1
    rw [getD_set, if_neg (fun h => by omega)]
    have hi2 : i < l'.length + t.length + 1 := by simpa [Nat.add_right_comm] using hi
    simp [Array.getD_eq_getD_getElem?, hi2]) (fun i hi => by
    obtain rfl : i = 0 := by omega
    rw [getD_set, if_pos ⟨rfl, by simp⟩]) h1
  rw [e]
  rw [e] at h2
  have hr' := hr
  have hf' := hf
  rw [e] at hr' hf'
  refine wpAny_take (i := 0) (oi := o0) (v := v0) (by simp) hs hf' hr' hQ2 (.inl ⟨by unfold Region.wanted; rw [hg], hy⟩) h2
end Rg
end Go.Proofs.Ytgdekigdbbldoaa

namespace Go.Proofs.Ytgdekigdbbldoaa
open Go.RowKit
namespace Rg

/-- Each operation waits for earlier ones alone; no guard of the front looks behind it; each of the rest waits for all the front. -/
def frontB (l t : List Oper) (f s : Nat) : Bool :=
  ((List.range (l ++ t).length).all fun i => (((l ++ t)[i]?).map (·.after.all fun e => !Region.binds .any e || decide (e.on < i))).getD true) &&
  (l.all fun o => (o.guard.map fun g => decide (g.1 < l.length)).getD true) &&
  ((List.range t.length).all fun j => (List.range l.length).all fun i => decide (i < s) || (clo (l ++ t) f (l.length + j)).contains i)
/-- The front done, the rest not. -/
def marks (m n : Nat) : Array Bool := (List.replicate m true ++ List.replicate n false).toArray
section
variable {P : Program} {C : World → Prop} {l t : List Oper} {f s : Nat}
theorem front_earlier (hT : frontB l t f s = true) {i : Nat} {o : Oper} (ho : (l ++ t)[i]? = some o) : ∀ e ∈ o.after, Region.binds .any e = true → e.on < i := by
  unfold frontB at hT
  simp only [Bool.and_eq_true, List.all_eq_true] at hT
  have hi : i < (l ++ t).length := (List.getElem?_eq_some_iff.1 ho).1
  have h1 := hT.1.1 i (List.mem_range.2 hi)
  rw [ho] at h1
  simp only [Option.map_some, Option.getD_some, Array.all_eq_true_iff_forall_mem, Bool.or_eq_true, Bool.not_eq_true', decide_eq_true_eq] at h1
  intro e he hb
  rcases h1 e he with h | h
  · rw [hb] at h
    cases h
  · exact h
theorem front_guard (hT : frontB l t f s = true) {o : Oper} (ho : o ∈ l) {g : Nat} {b : Bool} (hg : o.guard = some (g, b)) : g < l.length := by
  unfold frontB at hT
  simp only [Bool.and_eq_true, List.all_eq_true] at hT
  have h1 := hT.1.2 o ho
  rw [hg] at h1
  simpa using h1
theorem rest_ready (hT : frontB l t f s = true) {listed : Array Bool} (hcl : Closed (l ++ t).toArray listed) {j : Nat} (hj : j < t.length) (hr : l.length + j ∈ Region.ready .any (l ++ t).toArray listed) (hs : ∀ i, i < s → listed.getD i false = true) : ∀ i, i < l.length → listed.getD i false = true := by
  intro i hi
  obtain ⟨_, o', ho', hall⟩ := mem_ready.1 hr
  have hT2 := hT
  unfold frontB at hT2
  simp only [Bool.and_eq_true, List.all_eq_true] at hT2
  have h1 := hT2.2 j (List.mem_range.2 hj) i (List.mem_range.2 hi)
  by_cases his : i < s
  · exact hs i his
  refine clo_listed hcl f (l.length + j) (fun b hb => ?_) i (by simpa [his] using h1)
  obtain ⟨oa, h2, e, he, hbd, rfl⟩ := edges_spec hb
  have h3 : (l ++ t).toArray[l.length + j]? = some oa := by simpa using h2
  rw [h3] at ho'
  obtain rfl := Option.some.inj ho'
  exact hall e he hbd
theorem wanted_front2 (hT : frontB l t f s = true) {o : Oper} (ho : o ∈ l) (tmps : Array Value) : Region.wanted o (yielded (l ++ t).toArray tmps) = Region.wanted o (yielded l.toArray tmps) := by
  unfold Region.wanted
  cases hg : o.guard with
  | none => rfl
  | some gb =>
    obtain ⟨g, b⟩ := gb
    simp only
    rw [yielded_front (front_guard hT ho hg)]
theorem wpAny_more {Q : Exit → Act → World → Prop} {ops : Array Oper} : ∀ (n : Nat) (listed : Array Bool) (a : Act) (w : World), wpAny P .any ops Q n listed a w → wpAny P .any ops Q (n + 1) listed a w
  | 0, listed, a, w, h => ⟨fun _ => h.2, fun i hi => by rw [h.1] at hi; cases hi⟩
  | n + 1, listed, a, w, h => ⟨h.1, fun i hi => by
    have h2 := h.2 i hi
    unfold wpOp at h2 ⊢
    have hm : ∀ a w, wpAny P .any ops Q n (listed.setIfInBounds i true) a w → wpAny P .any ops Q (n + 1) (listed.setIfInBounds i true) a w := fun a w hk => wpAny_more n (listed.setIfInBounds i true) a w hk
    cases hoi : ops[i]? with
    | none =>
      rw [hoi] at h2
      exact hm _ _ h2
    | some o =>
      rw [hoi] at h2
      simp only at h2 ⊢
      by_cases hw : Region.wanted o (yielded ops a.tmps) = true
      · simp only [hw, if_true] at h2 ⊢
        rcases h2 with h2 | h2
        · exact .inl (Oper.wp_mono hm h2)
        · exact .inr h2
      · simp only [hw] at h2 ⊢
        exact hm _ _ h2⟩
theorem wpAny_more' {Q : Exit → Act → World → Prop} {ops : Array Oper} {n : Nat} {listed : Array Bool} {a : Act} {w : World} (h : wpAny P .any ops Q n listed a w) : ∀ k, wpAny P .any ops Q (k + n) listed a w
  | 0 => by rw [Nat.zero_add]; exact h
  | k + 1 => by rw [Nat.add_right_comm]; exact wpAny_more _ _ _ _ (wpAny_more' h k)
theorem marks_eq {listed : Array Bool} {m n : Nat} (h1 : listed.size = m + n) (hd : ∀ k, k < m → listed.getD k false = true) (hu : ∀ i, m ≤ i → i < m + n → listed.getD i true = false) : listed = marks m n := by
  apply Array.ext
  · simp [marks, h1]
  · intro i hi hi2
    rcases Nat.lt_or_ge i m with h | h
    · have h3 := hd i h
      rw [Array.getD_eq_getD_getElem?, Array.getElem?_eq_getElem hi] at h3
      simp only [marks, List.getElem_toArray]
      rw [List.getElem_append_left (by simpa using h)]
      simpa using h3
    · have h3 := hu i h (by omega)
      rw [Array.getD_eq_getD_getElem?, Array.getElem?_eq_getElem hi] at h3
      simp only [marks, List.getElem_toArray]
      rw [List.getElem_append_right (by simpa using h)]
      simpa using h3
/-- The front, in whatever order; then the tail. -/
theorem wpAny_front2 {Q : Exit → Act → World → Prop} (hT : frontB l t f s = true) : ∀ (fuel : Nat) (listed ll : Array Bool) (a : Act) (w : World), C w → listed.size = (l ++ t).length → ll.size = l.length → (∀ i, i < l.length → ll.getD i true = listed.getD i true) → Closed (l ++ t).toArray listed → (∀ i, l.length ≤ i → i < (l ++ t).length → listed.getD i true = false) → (∀ i, i < s → listed.getD i false = true) →
    wpAnyQ P .any l.toArray C (fun a' => ∀ w', C w' → wpAny P .any (l ++ t).toArray Q t.length (marks l.length t.length) a' w') fuel ll a → wpAny P .any (l ++ t).toArray Q (fuel + t.length) listed a w := by
  have hD : ∀ (listed ll : Array Bool), listed.size = (l ++ t).length → ll.size = l.length → (∀ i, i < l.length → ll.getD i true = listed.getD i true) → ∀ i, i < l.length → ll.getD i false = listed.getD i false := fun listed ll h1 h2 h3 i hi => by
    have := h3 i hi
    rw [Array.getD_eq_getD_getElem?, Array.getD_eq_getD_getElem?, Array.getElem?_eq_getElem (by omega), Array.getElem?_eq_getElem (by rw [h1, List.length_append]; omega)] at this ⊢
    simpa using this
  -- where the front has nothing more to do all of it is done
  have hAll : ∀ (listed ll : Array Bool), listed.size = (l ++ t).length → ll.size = l.length → (∀ i, i < l.length → ll.getD i true = listed.getD i true) → Region.ready .any l.toArray ll = [] → ∀ i, i < l.length → listed.getD i false = true := fun listed ll h1 h2 h3 hr i => by
    induction i using Nat.strongRecOn with
    | _ i ih =>
      intro hi
      rcases h : ll.getD i true with _ | _
      · exfalso
        have hm : i ∈ Region.ready .any l.toArray ll := by
          rw [mem_ready]
          refine ⟨h, l[i], by simp [hi], fun e he hbe => ?_⟩
          have h4 : (l ++ t)[i]? = some l[i] := by rw [List.getElem?_append_left hi]; exact List.getElem?_eq_getElem hi
          have h5 := front_earlier hT h4 e he hbe
          rw [hD listed ll h1 h2 h3 e.on (by omega)]
          exact ih e.on h5 (by omega)
        rw [hr] at hm
        cases hm
      · rw [← hD listed ll h1 h2 h3 i hi]
        rw [Array.getD_eq_getD_getElem?, Array.getElem?_eq_getElem (by omega)] at h ⊢
        simpa using h
  -- what of the front is ready there is ready here
  have hRd : ∀ (listed ll : Array Bool), listed.size = (l ++ t).length → ll.size = l.length → (∀ i, i < l.length → ll.getD i true = listed.getD i true) → ∀ i, i < l.length → i ∈ Region.ready .any (l ++ t).toArray listed → i ∈ Region.ready .any l.toArray ll := fun listed ll h1 h2 h3 i hi hr => by
    obtain ⟨hn, o, ho, hall⟩ := mem_ready.1 hr
    have ho2 : (l ++ t)[i]? = some o := by simpa using ho
    have ho3 : l[i]? = some o := by rwa [List.getElem?_append_left hi] at ho2
    refine mem_ready.2 ⟨by rw [h3 i hi]; exact hn, o, by simpa using ho3, fun e he hb => ?_⟩
    rw [hD listed ll h1 h2 h3 e.on (by have := front_earlier hT ho2 e he hb; omega)]
    exact hall e he hb
  -- a ready one of the tail means that the front is done
  have hTl : ∀ (listed : Array Bool), listed.size = (l ++ t).length → Closed (l ++ t).toArray listed → (∀ i, i < s → listed.getD i false = true) → ∀ i, l.length ≤ i → i ∈ Region.ready .any (l ++ t).toArray listed → ∀ k, k < l.length → listed.getD k false = true := fun listed h1 hcl hs0 i hi hr k hk => by
    obtain ⟨j, rfl⟩ : ∃ j, i = l.length + j := ⟨i - l.length, by omega⟩
    have := ready_lt hr
    rw [List.length_append] at this
    exact rest_ready hT hcl (by omega) hr hs0 k hk
  have hEnd : ∀ (fuel : Nat) (listed : Array Bool) (a : Act) (w : World), C w → listed.size = (l ++ t).length → Closed (l ++ t).toArray listed → (∀ i, l.length ≤ i → i < (l ++ t).length → listed.getD i true = false) → (∀ k, k < l.length → listed.getD k false = true) → (∀ w', C w' → wpAny P .any (l ++ t).toArray Q t.length (marks l.length t.length) a w') → wpAny P .any (l ++ t).toArray Q (fuel + t.length) listed a w := fun fuel listed a w hC h1 hcl hun hdone h =>
    by
    have e := marks_eq (by rw [h1, List.length_append]) hdone (fun i hi hi2 => hun i hi (by rw [List.length_append]; exact hi2))
    rw [e]
    exact wpAny_more' (h w hC) fuel
  intro fuel
  induction fuel with
  | zero =>
    intro listed ll a w hC h1 h2 h3 hcl hun hs0 h
    exact hEnd 0 listed a w hC h1 hcl hun (hAll listed ll h1 h2 h3 h.1) h.2
  | succ fuel ih =>
    intro listed ll a w hC h1 h2 h3 hcl hun hs0 h
    by_cases hr0 : Region.ready .any l.toArray ll = []
    · exact hEnd _ listed a w hC h1 hcl hun (hAll listed ll h1 h2 h3 hr0) (h.1 hr0)
    · have hnd : ∀ i, i ∈ Region.ready .any (l ++ t).toArray listed → i < l.length := fun i hi => by
        rcases Nat.lt_or_ge i l.length with h' | h'
        · exact h'
        · exfalso
          apply hr0
          refine ready_nil fun k hk => ?_
          have hk2 : k < l.length := by simpa using hk
          have := hTl listed h1 hcl hs0 i h' hi k hk2
          rw [h3 k hk2]
          rw [Array.getD_eq_getD_getElem?, Array.getElem?_eq_getElem (by rw [h1, List.length_append]; omega)] at this ⊢
          simpa using this
      rw [Nat.add_right_comm]
      refine ⟨fun h0 => ?_, fun i hi => ?_⟩
      · exfalso
        obtain ⟨i, hi⟩ := List.exists_mem_of_ne_nil _ hr0
        obtain ⟨hn, o, ho, hall⟩ := mem_ready.1 hi
        have ho3 : l[i]? = some o := by simpa using ho
        have hil : i < l.length := (List.getElem?_eq_some_iff.1 ho3).1
        have hm : i ∈ Region.ready .any (l ++ t).toArray listed := by
          refine mem_ready.2 ⟨by rw [← h3 i hil]; exact hn, o, ?_, fun e he hb => ?_⟩
          · have : (l ++ t)[i]? = some o := by rw [List.getElem?_append_left hil]; exact ho3
            simpa using this
          · have h5 : e.on < i := front_earlier hT (by rw [List.getElem?_append_left hil]; exact ho3) e he hb
            rw [← hD listed ll h1 h2 h3 e.on (by omega)]
            exact hall e he hb
        rw [h0] at hm
        cases hm
      · have hil := hnd i hi
        have hil2 := hRd listed ll h1 h2 h3 i hil hi
        have hq := h.2 i hil2
        obtain ⟨_, o, ho, _⟩ := mem_ready.1 hil2
        have ho3 : l[i]? = some o := by simpa using ho
        have hol : o ∈ l := List.mem_of_getElem? ho3
        have hq2 : qOp P (l ++ t).toArray C i (wpAnyQ P .any l.toArray C (fun a' => ∀ w', C w' → wpAny P .any (l ++ t).toArray Q t.length (marks l.length t.length) a' w') fuel (ll.setIfInBounds i true)) a := by
          unfold qOp at hq ⊢
          have ho4 : (l ++ t).toArray[i]? = some o := by
            have : (l ++ t)[i]? = some o := by rw [List.getElem?_append_left hil]; exact ho3
            simpa using this
          rw [ho] at hq
          rw [ho4]
          simp only at hq ⊢
          rw [wanted_front2 hT hol]
          exact hq
        refine wpOp_of_qOp hC (fun a' w' hC' hK => ih (listed.setIfInBounds i true) (ll.setIfInBounds i true) a' w' hC' (by simpa using h1) (by simpa using h2) (fun k hk => ?_) (hcl.step hi) (fun k hk hk2 => ?_) (fun k hk => getD_set_f _ _ _ (hs0 k hk)) hK) hq2
        · rw [getD_set, getD_set]
          by_cases hki : k = i
          · rw [if_pos ⟨hki, by omega⟩, if_pos ⟨hki, by rw [h1, List.length_append]; omega⟩]
          · rw [if_neg (fun h => hki h.1), if_neg (fun h => hki h.1)]
            exact h3 k hk
        · rw [getD_set, if_neg (fun h => by omega)]
          exact hun k hk hk2
end
theorem region_rest {P : Program} {C : World → Prop} {id : Nat} {Q : Exit → Act → World → Prop} {a : Act} {w : World} {k l t : List Oper} (m : Nat) (f : Nat) (hm : P.follows .mixedOrders = true) (hl : k.take m = l) (ht : k.drop m = t) (hC : C { w with drawn := w.drawn + 1 })
    (hB : Region.lexB .any l.toArray = true) (hT : frontB l t f 0 = true)
    (h : wpQuiet P l.toArray C (fun a' => ∀ w', C w' → wpAny P .any k.toArray Q t.length (marks l.length t.length) a' w') l a) : (Code.region id k.toArray true).wp P Q a w := by
  have hk : k = l ++ t := by rw [← hl, ← ht, List.take_append_drop]
  subst hk
  simp only [Region.lexB, Bool.and_eq_true] at hB
  refine wp_region_any hm ?_
  have h1 := wpAnyQ_lex (C := C) (md := .any) (ops := l.toArray) hB.1 l 0 (Array.replicate l.toArray.size false) a (by simp) (by simpa using hB.2) h
  have h2 := wpAny_front2 (t := t) (f := f) (Q := Q) hT l.length (Array.replicate (l ++ t).toArray.size false) (Array.replicate l.toArray.size false) a _ hC (by simp) (by simp) (fun i hi => by
    simp [Array.getD_eq_getD_getElem?, hi, Nat.lt_of_lt_of_le hi (Nat.le_add_right _ _)]) (Closed.start _ _) (fun i _ hi => by
    have hi2 : i < l.length + t.length := by rw [← List.length_append]; exact hi
    simp [Array.getD_eq_getD_getElem?, hi2]) (fun i hi => absurd hi (Nat.not_lt_zero i)) h1
  have e : (l ++ t).toArray.size = l.length + t.length := by simp
  rw [e]
  rw [e] at h2
  exact h2
theorem region_rest1 {P : Program} {C : World → Prop} {id : Nat} {Q : Exit → Act → World → Prop} {a : Act} {w : World} {k l' t : List Oper} {o0 : Oper} (m : Nat) (f : Nat) (hm : P.follows .mixedOrders = true) (hl : k.take m = o0 :: l') (ht : k.drop m = t) (hC : C { w with drawn := w.drawn + 1 })
    (hg : o0.guard = none) (x : Operand) (v0 : Value) (ho : o0.op = .move x) (hv0 : a.eval x = v0) (hQ2 : ∀ c a' w, Q (.panic c) (a'.put o0.dst v0) w → Q (.panic c) a' w)
    (hs : Region.noSelect (o0 :: l' ++ t).toArray = true) (hf : Region.free .any (o0 :: l' ++ t).toArray (Array.replicate (o0 :: l' ++ t).toArray.size false) 0 = true) (hr : (Region.ready .any (o0 :: l' ++ t).toArray (Array.replicate (o0 :: l' ++ t).toArray.size false)).contains 0 = true)
    (hB1 : Region.noSelect (o0 :: l').toArray = true) (hB : Region.lexFrom .any (o0 :: l').toArray l'.length 1 ((Array.replicate (o0 :: l').toArray.size false).setIfInBounds 0 true) = true) (hT : frontB (o0 :: l') t f 1 = true)
    (h : wpQuiet P (o0 :: l').toArray C (fun a' => ∀ w', C w' → wpAny P .any k.toArray Q t.length (marks (l'.length + 1) t.length) a' w') l' (a.put o0.dst v0)) : (Code.region id k.toArray true).wp P Q a w := by
  subst hv0
  have hk : k = (o0 :: l') ++ t := by rw [← hl, ← ht, List.take_append_drop]
  subst hk
  refine wp_region_any hm ?_
  have h1 := wpAnyQ_lex (C := C) (md := .any) (ops := (o0 :: l').toArray) hB1 l' 1 ((Array.replicate (o0 :: l').toArray.size false).setIfInBounds 0 true) _ (fun j => by simp [Nat.add_comm 1 j]) hB h
  have e : (o0 :: l' ++ t).toArray.size = (l'.length + t.length) + 1 := by simp
  have h2 := wpAny_front2 (t := t) (f := f) (s := 1) (Q := Q) hT l'.length ((Array.replicate (o0 :: l' ++ t).toArray.size false).setIfInBounds 0 true) ((Array.replicate (o0 :: l').toArray.size false).setIfInBounds 0 true) _ _ hC (by simp) (by simp) (fun i hi => by
    rw [getD_set, getD_set]
    by_cases hi0 : i = 0
    · rw [if_pos ⟨hi0, by simp⟩, if_pos ⟨hi0, by simp⟩]
    · rw [if_neg (fun h => hi0 h.1), if_neg (fun h => hi0 h.1)]
      have hi1 : i < l'.length + 1 := by simpa using hi
      simp [Array.getD_eq_getD_getElem?, hi1, Nat.lt_of_lt_of_le hi1 (show l'.length + 1 ≤ l'.length + t.length + 1 by omega)]) ((Closed.start _ _).step (by simpa using hr)) (fun i hi1 hi => by
    have hi1' : l'.length + 1 ≤ i := by simpa using hi1
    rw [getD_set, if_neg (fun h => by omega)]
    have hi2 : i < l'.length + t.length + 1 := by simpa [Nat.add_right_comm] using hi
    simp [Array.getD_eq_getD_getElem?, hi2]) (fun i hi => by
    obtain rfl : i = 0 := by omega
    rw [getD_set, if_pos ⟨rfl, by simp⟩]) h1
  rw [e]
  rw [e] at h2
  have hr' := hr
  have hf' := hf
  rw [e] at hr' hf'
  refine wpAny_take (i := 0) (oi := o0) (v := a.eval x) (by simp) hs hf' hr' hQ2 (.inl ⟨by unfold Region.wanted; rw [hg], fun w' => ?_⟩) h2
  unfold execOp
  simp [ho]
/-- What is left stands in a line. -/
def lineB (ops : Array Oper) : Array Bool → List Nat → Bool
  | listed, [] => decide (Region.ready .any ops listed = [])
  | listed, i :: is => decide (Region.ready .any ops listed = [i]) && lineB ops (listed.setIfInBounds i true) is
theorem wpAny_line {P : Program} {ops : Array Oper} {Q : Exit → Act → World → Prop} : ∀ (is : List Nat) (listed : Array Bool) (os : List Oper) (a : Act) (w : World), lineB ops listed is = true → is.map (ops[·]?) = os.map some → wpList P ops Q os a w → wpAny P .any ops Q is.length listed a w
  | [], listed, os, a, w, hB, ho, h => by
    cases os with
    | nil => exact ⟨of_decide_eq_true hB, h⟩
    | cons o os => cases ho
  | i :: is, listed, os, a, w, hB, ho, h => by
    cases os with
    | nil => cases ho
    | cons o os =>
      simp only [lineB, Bool.and_eq_true] at hB
      have hr := of_decide_eq_true hB.1
      simp only [List.map_cons, List.cons.injEq] at ho
      refine ⟨fun h0 => (by rw [hr] at h0; cases h0), fun j hj => ?_⟩
      rw [hr] at hj
      obtain rfl := List.mem_singleton.1 hj
      unfold wpOp
      rw [ho.1]
      unfold wpList at h
      have hst : ∀ a' w', wpList P ops Q os a' w' → wpAny P .any ops Q is.length (listed.setIfInBounds j true) a' w' := fun a' w' hk => wpAny_line is _ os a' w' hB.2 ho.2 hk
      by_cases hw : Region.wanted o (yielded ops a.tmps) = true
      · simp only [hw, if_true] at h ⊢
        rcases h with h | h
        · exact .inl (Oper.wp_mono hst h)
        · exact .inr h
      · simp only [hw] at h ⊢
        exact hst _ _ h
/-- Of the rest one looks at slots alone and is ready at once; what is left stands in a line. -/
theorem rest_float {P : Program} {ops : Array Oper} {Q : Exit → Act → World → Prop} {listed : Array Bool} {a : Act} {w : World} {n : Nat} (i : Nat) (is : List Nat) (oi : Oper) (v : Value) (os : List Oper) (hn : n = is.length + 1) (hi : ops[i]? = some oi) (ho : is.map (ops[·]?) = os.map some) (hs : Region.noSelect ops = true) (hf : Region.free .any ops listed i = true) (hr : (Region.ready .any ops listed).contains i = true)
    (hL : lineB ops (listed.setIfInBounds i true) is = true) (hg : oi.guard = none) (hy : ∀ w', (execOp a.eval oi).run P w' = .ok (.value v) w') (hQ : ∀ c a w, Q (.panic c) (a.put oi.dst v) w → Q (.panic c) a w) (h : wpList P ops Q os (a.put oi.dst v) w) : wpAny P .any ops Q n listed a w := by
  rw [hn]
  exact wpAny_take hi hs hf hr hQ (.inl ⟨by unfold Region.wanted; rw [hg], hy⟩) (wpAny_line is _ os _ _ hL ho h)
end Rg
end Go.Proofs.Ytgdekigdbbldoaa
