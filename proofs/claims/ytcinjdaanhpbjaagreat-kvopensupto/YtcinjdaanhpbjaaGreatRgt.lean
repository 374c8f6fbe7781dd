/- A region that draws its order, whose front only reads (in a class of worlds) and whose tail waits, one behind the other, for all ahead: the front walked as quiet, the tail as a plain list. Nothing of the program. -/
import Derived.Test.YtcinjdaanhpbjaaGreatRgm
namespace Go.Proofs.YtcinjdaanhpbjaaGreat
open Go.RowKit
namespace Rg

/-- What an operation waits for, itself. -/
def edges (ops : List Oper) (a : Nat) : List Nat := ((ops[a]?).map fun o => (o.after.toList.filter fun e => Region.binds .any e).map (·.on)).getD []
/-- What an operation waits for, by way of others too. -/
def clo (ops : List Oper) : Nat → Nat → List Nat
  | 0, _ => []
  | f + 1, a => (edges ops a).flatMap fun b => b :: clo ops f b
/-- Each operation waits for earlier ones alone; no guard of the front looks behind it; each of the tail waits for all ahead. -/
def tailB (l t : List Oper) (f s : Nat) : Bool :=
  ((List.range (l ++ t).length).all fun i => (((l ++ t)[i]?).map (·.after.all fun e => decide (e.on < i))).getD true) &&
  (l.all fun o => (o.guard.map fun g => decide (g.1 < l.length)).getD true) &&
  ((List.range t.length).all fun j => (List.range (l.length + j)).all fun i => decide (i < s) || (clo (l ++ t) f (l.length + j)).contains i)

theorem edges_spec {ops : List Oper} {a b : Nat} (h : b ∈ edges ops a) : ∃ oa, ops[a]? = some oa ∧ ∃ e ∈ oa.after, Region.binds .any e = true ∧ e.on = b := by
  unfold edges at h
  cases hq : ops[a]? with
  | none => rw [hq] at h; simp at h
  | some oa =>
    rw [hq] at h
    simp only [Option.map_some, Option.getD_some, List.mem_map, List.mem_filter] at h
    obtain ⟨x, ⟨hx, hb⟩, rfl⟩ := h
    exact ⟨oa, rfl, x, Array.mem_toList_iff.1 hx, hb, rfl⟩
theorem clo_listed {ops : List Oper} {listed : Array Bool} (hcl : Closed ops.toArray listed) : ∀ (f a : Nat), (∀ b ∈ edges ops a, listed.getD b false = true) → ∀ b ∈ clo ops f a, listed.getD b false = true
  | 0, _, _, b, h => by simp [clo] at h
  | f + 1, a, ha, b, h => by
    simp only [clo, List.mem_flatMap, List.mem_cons] at h
    obtain ⟨e, he, rfl | h⟩ := h
    · exact ha _ he
    · refine clo_listed hcl f e (fun x hx => ?_) b h
      obtain ⟨oa, h1, y, hy, hb, rfl⟩ := edges_spec hx
      exact hcl e oa (by simpa using h1) (ha e he) y hy hb
section
variable {P : Program} {C : World → Prop} {l t : List Oper} {f s : Nat}

theorem tail_earlier (hT : tailB l t f s = true) {i : Nat} {o : Oper} (ho : (l ++ t)[i]? = some o) : ∀ e ∈ o.after, e.on < i := by
  unfold tailB at hT
  simp only [Bool.and_eq_true, List.all_eq_true] at hT
  have hi : i < (l ++ t).length := (List.getElem?_eq_some_iff.1 ho).1
  have h1 := hT.1.1 i (List.mem_range.2 hi)
  rw [ho] at h1
  simp only [Option.map_some, Option.getD_some, Array.all_eq_true_iff_forall_mem, decide_eq_true_eq] at h1
  exact h1
theorem tail_guard (hT : tailB l t f s = true) {o : Oper} (ho : o ∈ l) {g : Nat} {b : Bool} (hg : o.guard = some (g, b)) : g < l.length := by
  unfold tailB at hT
  simp only [Bool.and_eq_true, List.all_eq_true] at hT
  have h1 := hT.1.2 o ho
  rw [hg] at h1
  simpa using h1
/-- An operation of the tail that is ready has all ahead of it done. -/
theorem tail_ready (hT : tailB l t f s = true) {listed : Array Bool} (hcl : Closed (l ++ t).toArray listed) {j : Nat} (hj : j < t.length) (hr : l.length + j ∈ Region.ready .any (l ++ t).toArray listed) (hs : ∀ i, i < s → listed.getD i false = true) : ∀ i, i < l.length + j → listed.getD i false = true := by
  intro i hi
  obtain ⟨_, o', ho', hall⟩ := mem_ready.1 hr
  have hT2 := hT
  unfold tailB at hT2
  simp only [Bool.and_eq_true, List.all_eq_true] at hT2
  have h1 := hT2.2 j (List.mem_range.2 hj) i (List.mem_range.2 hi)
  by_cases his : i < s
  · exact hs i his
  refine clo_listed hcl f (l.length + j) (fun b hb => ?_) i (by simpa [his] using h1)
  obtain ⟨oa, h2, e, he, hbd, rfl⟩ := edges_spec hb
  have h3 : (l ++ t).toArray[l.length + j]? = some oa := by simpa using h2
  rw [h3] at ho'
  obtain rfl := Option.some.inj ho'
  exact hall e he hbd
theorem ready_lt {ops : List Oper} {listed : Array Bool} {i : Nat} (h : i ∈ Region.ready .any ops.toArray listed) : i < ops.length := by
  obtain ⟨_, o, ho, _⟩ := mem_ready.1 h
  have : ops[i]? = some o := by simpa using ho
  exact (List.getElem?_eq_some_iff.1 this).1

/-- The tail, one behind the other. -/
theorem wpAny_tail {Q : Exit → Act → World → Prop} (hT : tailB l t f s = true) (hsl : s ≤ l.length) : ∀ (r : List Oper) (j fuel : Nat) (listed : Array Bool) (a : Act) (w : World), t.drop j = r → j ≤ t.length → r.length ≤ fuel → listed.size = (l ++ t).length → Closed (l ++ t).toArray listed → (∀ i, i < l.length + j → listed.getD i false = true) → (∀ i, l.length + j ≤ i → i < (l ++ t).length → listed.getD i true = false) →
    wpList P (l ++ t).toArray Q r a w → wpAny P .any (l ++ t).toArray Q fuel listed a w
  | [], j, fuel, listed, a, w, hd, hj, _, hsz, _, hdone, _, h => by
    have hjl : j = t.length := by
      have := congrArg List.length hd
      simp at this
      omega
    have hnil : Region.ready .any (l ++ t).toArray listed = [] := ready_nil fun i hi => by
      have hi2 : i < (l ++ t).length := by simpa using hi
      have := hdone i (by rw [hjl, ← List.length_append]; exact hi2)
      rw [Array.getD_eq_getD_getElem?, Array.getElem?_eq_getElem (by rw [hsz]; exact hi2)] at this ⊢
      simpa using this
    cases fuel with
    | zero => exact ⟨hnil, h⟩
    | succ n => exact ⟨fun _ => h, fun i hi => by rw [hnil] at hi; cases hi⟩
  | o :: r, j, fuel, listed, a, w, hd, hj, hfu, hsz, hcl, hdone, hun, h => by
    have hjt : j < t.length := by
      rcases Nat.lt_or_ge j t.length with h' | h'
      · exact h'
      · rw [List.drop_of_length_le h'] at hd
        cases hd
    have hoj : (l ++ t)[l.length + j]? = some o := by
      rw [List.getElem?_append_right (by omega), Nat.add_sub_cancel_left]
      have h1 : (t.drop j)[0]? = some o := by rw [hd]; rfl
      rw [List.getElem?_drop, Nat.add_zero] at h1
      exact h1
    have hlt : l.length + j < (l ++ t).length := (List.getElem?_eq_some_iff.1 hoj).1
    have hrd : l.length + j ∈ Region.ready .any (l ++ t).toArray listed := by
      rw [mem_ready]
      refine ⟨hun _ (Nat.le_refl _) hlt, o, by simpa using hoj, fun e he _ => hdone _ (tail_earlier hT hoj e he)⟩
    cases fuel with
    | zero => simp at hfu
    | succ n =>
      refine ⟨fun h0 => (by rw [h0] at hrd; cases hrd), fun i hi => ?_⟩
      have hil := ready_lt hi
      have hij : i = l.length + j := by
        rcases Nat.lt_trichotomy i (l.length + j) with h' | h' | h'
        · have h1 := (mem_ready.1 hi).1
          have h2 := hdone i h'
          rw [Array.getD_eq_getD_getElem?, Array.getElem?_eq_getElem (by rw [hsz]; exact hil)] at h1 h2
          simp at h1 h2
          rw [h1] at h2
          cases h2
        · exact h'
        · obtain ⟨j', rfl⟩ : ∃ j', i = l.length + j' := ⟨i - l.length, by omega⟩
          have h1 := tail_ready hT hcl (by rw [List.length_append] at hil; omega) hi (fun i hi => hdone i (by omega)) (l.length + j) h'
          have h2 := hun (l.length + j) (Nat.le_refl _) hlt
          rw [Array.getD_eq_getD_getElem?, Array.getElem?_eq_getElem (by rw [hsz]; exact hlt)] at h1 h2
          simp at h1 h2
          rw [h1] at h2
          cases h2
      subst hij
      have hst : ∀ a' w', wpList P (l ++ t).toArray Q r a' w' → wpAny P .any (l ++ t).toArray Q n (listed.setIfInBounds (l.length + j) true) a' w' := fun a' w' hk => by
        refine wpAny_tail hT hsl r (j + 1) n _ a' w' ?_ hjt (by simp at hfu; omega) (by simpa using hsz) (hcl.step hrd) (fun i hi => ?_) (fun i hi hi2 => ?_) hk
        · have : t.drop (j + 1) = (t.drop j).drop 1 := by rw [List.drop_drop]
          rw [this, hd]
          rfl
        · by_cases he : i = l.length + j
          · subst he
            rw [getD_set, if_pos ⟨rfl, by rw [hsz]; exact hlt⟩]
          · exact getD_set_f _ _ _ (hdone i (by omega))
        · rw [getD_set, if_neg (fun h => by omega)]
          exact hun i (by omega) hi2
      unfold wpOp
      have hoj2 : (l ++ t).toArray[l.length + j]? = some o := by simpa using hoj
      rw [hoj2]
      unfold wpList at h
      by_cases hw : Region.wanted o (yielded (l ++ t).toArray a.tmps) = true
      · simp only [hw, if_true] at h ⊢
        rcases h with h | h
        · exact .inl (Oper.wp_mono hst h)
        · exact .inr h
      · simp only [hw] at h ⊢
        exact hst _ _ h
theorem yielded_front {tmps : Array Value} {g : Nat} (hg : g < l.length) : yielded (l ++ t).toArray tmps g = yielded l.toArray tmps g := by
  unfold yielded
  simp [List.getElem?_append_left hg]
theorem wanted_front (hT : tailB l t f s = true) {o : Oper} (ho : o ∈ l) (tmps : Array Value) : Region.wanted o (yielded (l ++ t).toArray tmps) = Region.wanted o (yielded l.toArray tmps) := by
  unfold Region.wanted
  cases hg : o.guard with
  | none => rfl
  | some gb =>
    obtain ⟨g, b⟩ := gb
    simp only
    rw [yielded_front (tail_guard hT ho hg)]
/-- The front, in whatever order; then the tail. -/
theorem wpAny_front {Q : Exit → Act → World → Prop} (hT : tailB l t f s = true) (hsl : s ≤ l.length) : ∀ (fuel : Nat) (listed ll : Array Bool) (a : Act) (w : World), C w → listed.size = (l ++ t).length → ll.size = l.length → (∀ i, i < l.length → ll.getD i true = listed.getD i true) → Closed (l ++ t).toArray listed → (∀ i, l.length ≤ i → i < (l ++ t).length → listed.getD i true = false) → (∀ i, i < s → listed.getD i false = true) →
    wpAnyQ P .any l.toArray C (fun a' => ∀ w', C w' → wpList P (l ++ t).toArray Q t a' w') fuel ll a → wpAny P .any (l ++ t).toArray Q (fuel + t.length) listed a w := by
  have hD : ∀ (listed ll : Array Bool), listed.size = (l ++ t).length → ll.size = l.length → (∀ i, i < l.length → ll.getD i true = listed.getD i true) → ∀ i, i < l.length → ll.getD i false = listed.getD i false := fun listed ll h1 h2 h3 i hi => by
    have := h3 i hi
    rw [Array.getD_eq_getD_getElem?, Array.getD_eq_getD_getElem?, Array.getElem?_eq_getElem (by omega), Array.getElem?_eq_getElem (by rw [h1, List.length_append]; omega)] at this ⊢
    simpa using this
  -- where the front has nothing more to do all of it is done
  have hAll : ∀ (listed ll : Array Bool), listed.size = (l ++ t).length → ll.size = l.length → (∀ i, i < l.length → ll.getD i true = listed.getD i true) → Region.ready .any l.toArray ll = [] → ∀ i, i < l.length → listed.getD i false = true := fun listed ll h1 h2 h3 hr i => by
    induction i using Nat.strongRecOn with
    | _ i ih =>
      intro hi
      rcases h : ll.getD i true with _ | _
      · exfalso
        have hm : i ∈ Region.ready .any l.toArray ll := by
          rw [mem_ready]
          refine ⟨h, l[i], by simp [hi], fun e he _ => ?_⟩
          have h4 : (l ++ t)[i]? = some l[i] := by rw [List.getElem?_append_left hi]; exact List.getElem?_eq_getElem hi
          have h5 := tail_earlier hT h4 e he
          rw [hD listed ll h1 h2 h3 e.on (by omega)]
          exact ih e.on h5 (by omega)
        rw [hr] at hm
        cases hm
      · rw [← hD listed ll h1 h2 h3 i hi]
        rw [Array.getD_eq_getD_getElem?, Array.getElem?_eq_getElem (by omega)] at h ⊢
        simpa using h
  -- what of the front is ready there is ready here
  have hRd : ∀ (listed ll : Array Bool), listed.size = (l ++ t).length → ll.size = l.length → (∀ i, i < l.length → ll.getD i true = listed.getD i true) → ∀ i, i < l.length → i ∈ Region.ready .any (l ++ t).toArray listed → i ∈ Region.ready .any l.toArray ll := fun listed ll h1 h2 h3 i hi hr => by
    obtain ⟨hn, o, ho, hall⟩ := mem_ready.1 hr
    have ho2 : (l ++ t)[i]? = some o := by simpa using ho
    have ho3 : l[i]? = some o := by rwa [List.getElem?_append_left hi] at ho2
    refine mem_ready.2 ⟨by rw [h3 i hi]; exact hn, o, by simpa using ho3, fun e he hb => ?_⟩
    rw [hD listed ll h1 h2 h3 e.on (by have := tail_earlier hT ho2 e he; omega)]
    exact hall e he hb
  -- a ready one of the tail means that the front is done
  have hTl : ∀ (listed : Array Bool), listed.size = (l ++ t).length → Closed (l ++ t).toArray listed → (∀ i, i < s → listed.getD i false = true) → ∀ i, l.length ≤ i → i ∈ Region.ready .any (l ++ t).toArray listed → ∀ k, k < l.length → listed.getD k false = true := fun listed h1 hcl hs0 i hi hr k hk => by
    obtain ⟨j, rfl⟩ : ∃ j, i = l.length + j := ⟨i - l.length, by omega⟩
    have := ready_lt hr
    rw [List.length_append] at this
    exact tail_ready hT hcl (by omega) hr hs0 k (by omega)
  have hEnd : ∀ (fuel : Nat) (listed : Array Bool) (a : Act) (w : World), C w → listed.size = (l ++ t).length → Closed (l ++ t).toArray listed → (∀ i, l.length ≤ i → i < (l ++ t).length → listed.getD i true = false) → (∀ k, k < l.length → listed.getD k false = true) → (∀ w', C w' → wpList P (l ++ t).toArray Q t a w') → wpAny P .any (l ++ t).toArray Q (fuel + t.length) listed a w := fun fuel listed a w hC h1 hcl hun hdone h =>
    wpAny_tail hT hsl t 0 _ listed a w rfl (Nat.zero_le _) (by omega) h1 hcl (fun i hi => hdone i (by omega)) (fun i hi hi2 => hun i (by omega) hi2) (h w hC)
  intro fuel
  induction fuel with
  | zero =>
    intro listed ll a w hC h1 h2 h3 hcl hun hs0 h
    exact hEnd 0 listed a w hC h1 hcl hun (hAll listed ll h1 h2 h3 h.1) h.2
  | succ fuel ih =>
    intro listed ll a w hC h1 h2 h3 hcl hun hs0 h
    by_cases hr0 : Region.ready .any l.toArray ll = []
    · exact hEnd _ listed a w hC h1 hcl hun (hAll listed ll h1 h2 h3 hr0) (h.1 hr0)
    · have hnd : ∀ i, i ∈ Region.ready .any (l ++ t).toArray listed → i < l.length := fun i hi => by
        rcases Nat.lt_or_ge i l.length with h' | h'
        · exact h'
        · exfalso
          apply hr0
          refine ready_nil fun k hk => ?_
          have hk2 : k < l.length := by simpa using hk
          have := hTl listed h1 hcl hs0 i h' hi k hk2
          rw [h3 k hk2]
          rw [Array.getD_eq_getD_getElem?, Array.getElem?_eq_getElem (by rw [h1, List.length_append]; omega)] at this ⊢
          simpa using this
      rw [Nat.add_right_comm]
      refine ⟨fun h0 => ?_, fun i hi => ?_⟩
      · exfalso
        obtain ⟨i, hi⟩ := List.exists_mem_of_ne_nil _ hr0
        obtain ⟨hn, o, ho, hall⟩ := mem_ready.1 hi
        have ho3 : l[i]? = some o := by simpa using ho
        have hil : i < l.length := (List.getElem?_eq_some_iff.1 ho3).1
        have hm : i ∈ Region.ready .any (l ++ t).toArray listed := by
          refine mem_ready.2 ⟨by rw [← h3 i hil]; exact hn, o, ?_, fun e he hb => ?_⟩
          · have : (l ++ t)[i]? = some o := by rw [List.getElem?_append_left hil]; exact ho3
            simpa using this
          · have h5 : e.on < i := tail_earlier hT (by rw [List.getElem?_append_left hil]; exact ho3) e he
            rw [← hD listed ll h1 h2 h3 e.on (by omega)]
            exact hall e he hb
        rw [h0] at hm
        cases hm
      · have hil := hnd i hi
        have hil2 := hRd listed ll h1 h2 h3 i hil hi
        have hq := h.2 i hil2
        obtain ⟨_, o, ho, _⟩ := mem_ready.1 hil2
        have ho3 : l[i]? = some o := by simpa using ho
        have hol : o ∈ l := List.mem_of_getElem? ho3
        have hq2 : qOp P (l ++ t).toArray C i (wpAnyQ P .any l.toArray C (fun a' => ∀ w', C w' → wpList P (l ++ t).toArray Q t a' w') fuel (ll.setIfInBounds i true)) a := by
          unfold qOp at hq ⊢
          have ho4 : (l ++ t).toArray[i]? = some o := by
            have : (l ++ t)[i]? = some o := by rw [List.getElem?_append_left hil]; exact ho3
            simpa using this
          rw [ho] at hq
          rw [ho4]
          simp only at hq ⊢
          rw [wanted_front hT hol]
          exact hq
        refine wpOp_of_qOp hC (fun a' w' hC' hK => ih (listed.setIfInBounds i true) (ll.setIfInBounds i true) a' w' hC' (by simpa using h1) (by simpa using h2) (fun k hk => ?_) (hcl.step hi) (fun k hk hk2 => ?_) (fun k hk => getD_set_f _ _ _ (hs0 k hk)) hK) hq2
        · rw [getD_set, getD_set]
          by_cases hki : k = i
          · rw [if_pos ⟨hki, by omega⟩, if_pos ⟨hki, by rw [h1, List.length_append]; omega⟩]
          · rw [if_neg (fun h => hki h.1), if_neg (fun h => hki h.1)]
            exact h3 k hk
        · rw [getD_set, if_neg (fun h => by omega)]
          exact hun k hk hk2
end
theorem region_tail {P : Program} {C : World → Prop} {id : Nat} {Q : Exit → Act → World → Prop} {a : Act} {w : World} {k l t : List Oper} (m : Nat) (f : Nat) (hm : P.follows .mixedOrders = true) (hl : k.take m = l) (ht : k.drop m = t) (hC : C { w with drawn := w.drawn + 1 })
    (hB : Region.lexB .any l.toArray = true) (hT : tailB l t f 0 = true)
    (h : wpQuiet P l.toArray C (fun a' => ∀ w', C w' → wpList P k.toArray Q t a' w') l a) : (Code.region id k.toArray true).wp P Q a w := by
  have hk : k = l ++ t := by rw [← hl, ← ht, List.take_append_drop]
  subst hk
  simp only [Region.lexB, Bool.and_eq_true] at hB
  refine wp_region_any hm ?_
  have h1 := wpAnyQ_lex (C := C) (md := .any) (ops := l.toArray) hB.1 l 0 (Array.replicate l.toArray.size false) a (by simp) (by simpa using hB.2) h
  have h2 := wpAny_front (t := t) (f := f) (Q := Q) hT (Nat.zero_le _) l.length (Array.replicate (l ++ t).toArray.size false) (Array.replicate l.toArray.size false) a _ hC (by simp) (by simp) (fun i hi => by
    simp [Array.getD_eq_getD_getElem?, hi, Nat.lt_of_lt_of_le hi (Nat.le_add_right _ _)]) (Closed.start _ _) (fun i _ hi => by
    have hi2 : i < l.length + t.length := by rw [← List.length_append]; exact hi
    simp [Array.getD_eq_getD_getElem?, hi2]) (fun i hi => absurd hi (Nat.not_lt_zero i)) h1
  have e : (l ++ t).toArray.size = l.length + t.length := by simp
  rw [e]
  rw [e] at h2
  exact h2
/-- The same, where the region's first operation moves a slot that a tail's wants, and nothing between waits for it. -/
theorem region_tail1 {P : Program} {C : World → Prop} {id : Nat} {Q : Exit → Act → World → Prop} {a : Act} {w : World} {k l' t : List Oper} {o0 : Oper} (m : Nat) (f : Nat) (hm : P.follows .mixedOrders = true) (hl : k.take m = o0 :: l') (ht : k.drop m = t) (hC : C { w with drawn := w.drawn + 1 })
    (hg : o0.guard = none) (x : Operand) (v0 : Value) (ho : o0.op = .move x) (hv0 : a.eval x = v0) (hQ2 : ∀ c a' w, Q (.panic c) (a'.put o0.dst v0) w → Q (.panic c) a' w)
    (hs : Region.noSelect (o0 :: l' ++ t).toArray = true) (hf : Region.free .any (o0 :: l' ++ t).toArray (Array.replicate (o0 :: l' ++ t).toArray.size false) 0 = true) (hr : (Region.ready .any (o0 :: l' ++ t).toArray (Array.replicate (o0 :: l' ++ t).toArray.size false)).contains 0 = true)
    (hB1 : Region.noSelect (o0 :: l').toArray = true) (hB : Region.lexFrom .any (o0 :: l').toArray l'.length 1 ((Array.replicate (o0 :: l').toArray.size false).setIfInBounds 0 true) = true) (hT : tailB (o0 :: l') t f 1 = true)
    (h : wpQuiet P (o0 :: l').toArray C (fun a' => ∀ w', C w' → wpList P k.toArray Q t a' w') l' (a.put o0.dst v0)) : (Code.region id k.toArray true).wp P Q a w := by
  subst hv0
  have hk : k = (o0 :: l') ++ t := by rw [← hl, ← ht, List.take_append_drop]
  subst hk
  refine wp_region_any hm ?_
  have h1 := wpAnyQ_lex (C := C) (md := .any) (ops := (o0 :: l').toArray) hB1 l' 1 ((Array.replicate (o0 :: l').toArray.size false).setIfInBounds 0 true) _ (fun j => by simp [Nat.add_comm 1 j]) hB h
  have e : (o0 :: l' ++ t).toArray.size = (l'.length + t.length) + 1 := by simp
  have h2 := wpAny_front (t := t) (f := f) (Q := Q) hT (by simp) l'.length ((Array.replicate (o0 :: l' ++ t).toArray.size false).setIfInBounds 0 true) ((Array.replicate (o0 :: l').toArray.size false).setIfInBounds 0 true) _ _ hC (by simp) (by simp) (fun i hi => by
    rw [getD_set, getD_set]
    by_cases hi0 : i = 0
    · rw [if_pos ⟨hi0, by simp⟩, if_pos ⟨hi0, by simp⟩]
    · rw [if_neg (fun h => hi0 h.1), if_neg (fun h => hi0 h.1)]
      have hi1 : i < l'.length + 1 := by simpa using hi
      simp [Array.getD_eq_getD_getElem?, hi1, Nat.lt_of_lt_of_le hi1 (show l'.length + 1 ≤ l'.length + t.length + 1 by omega)]) ((Closed.start _ _).step (by simpa using hr)) (fun i hi1 hi => by
    have hi1' : l'.length + 1 ≤ i := by simpa using hi1
    rw [getD_set, if_neg (fun h => by omega)]
    have hi2 : i < l'.length + t.length + 1 := by simpa [Nat.add_right_comm] using hi
    simp [Array.getD_eq_getD_getElem?, hi2]) (fun i hi => by
    obtain rfl : i = 0 := by omega
    rw [getD_set, if_pos ⟨rfl, by simp⟩]) h1
  rw [e]
  rw [e] at h2
  have hr' := hr
  have hf' := hf
  rw [e] at hr' hf'
  refine wpAny_take (i := 0) (oi := o0) (v := a.eval x) (by simp) hs hf' hr' hQ2 (.inl ⟨by unfold Region.wanted; rw [hg], fun w' => ?_⟩) h2
  unfold execOp
  simp [ho]
/-- The front in the class of worlds that are another but for what lies behind. -/
theorem region_cl_tail {P : Program} {N : Nat} {W : World} {id : Nat} {Q : Exit → Act → World → Prop} {a : Act} {w : World} {k l t : List Oper} (m : Nat) (f : Nat) (hm : P.follows .mixedOrders = true) (hC : Below N W w) (hl : k.take m = l) (ht : k.drop m = t)
    (hB : Region.lexB .any l.toArray = true) (hT : tailB l t f 0 = true)
    (h : wpQuiet P l.toArray (fun w' => ∃ x : Cl N W, w' = x.u) (fun a' => ∀ w', (∃ x : Cl N W, w' = x.u) → wpList P k.toArray Q t a' w') l a) : (Code.region id k.toArray true).wp P Q a w :=
  region_tail (C := fun w' => ∃ x : Cl N W, w' = x.u) m f hm hl ht ⟨⟨_, drawn_below hC⟩, rfl⟩ hB hT h
end Rg
end Go.Proofs.YtcinjdaanhpbjaaGreat
