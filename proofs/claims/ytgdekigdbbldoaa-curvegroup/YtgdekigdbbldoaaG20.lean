/- A region whose front only reads but for variables that are made, in whatever order: the walk. Plain numbers: p is a prime (2 is a root of order p - 1), so every number below p but 0 has its inverse, just the even powers of 2 have a square root, and of a number and its double just one has. -/
import Derived.Test.YtgdekigdbbldoaaG19
import Derived.Test.YtgdekigdbbldoaaG03
import Derived.Test.YtgdekigdbbldoaaG09
namespace Go.Proofs.Ytgdekigdbbldoaa
open Go.RowKit
namespace Rg

theorem Rf.refl (g : Tmp → Nat) (a : Act) : Rf [] g a a := ⟨rfl, rfl, fun _ _ => by simp⟩
section
variable {P : Program} {l t : List Oper} {f : Nat} {ty : TypeId} {al : List Tmp}

theorem float_spec (hF : floatB ty al l = true) {o : Oper} (ho : o ∈ l) : o.guard = none ∧ (isAl ty o = true → ∃ d, o.dst = some d ∧ d ∈ al) ∧ (isAl ty o = false → (∀ d, o.dst = some d → d ∉ al) ∧ ∀ s ∈ o.looksAt l.toArray, s ∉ al) ∧ ∀ cs b, o.op ≠ .select cs b := by
  unfold floatB at hF
  have h := List.all_eq_true.1 hF o ho
  simp only [Bool.and_eq_true, Option.isNone_iff_eq_none] at h
  obtain ⟨⟨h1, h2⟩, h3⟩ := h
  refine ⟨h1, fun hi => ?_, fun hi => ?_, fun cs b hc => ?_⟩
  · rw [if_pos hi] at h2
    cases hd : o.dst with
    | none => rw [hd] at h2; cases h2
    | some d => rw [hd] at h2; exact ⟨d, rfl, by simpa using h2⟩
  · rw [if_neg (by rw [hi]; decide)] at h2
    simp only [Bool.and_eq_true, List.all_eq_true] at h2
    refine ⟨fun d hd => ?_, fun s hs => ?_⟩
    · have := h2.1
      rw [hd] at this
      simpa using this
    · simpa using h2.2 s hs
  · rw [hc] at h3
    cases h3
theorem slots_spec (hS : slotsB al l = true) : (∀ (i j : Nat) (oi oj : Oper) (d : Tmp), l[i]? = some oi → l[j]? = some oj → oi.dst = some d → oj.dst = some d → i = j) ∧ ∀ d ∈ al, ∃ o ∈ l, o.dst = some d := by
  unfold slotsB at hS
  simp only [Bool.and_eq_true, List.all_eq_true, List.mem_range] at hS
  refine ⟨fun i j oi oj d hi hj h1 h2 => ?_, fun d hd => ?_⟩
  · have h := hS.1 i (List.getElem?_eq_some_iff.1 hi).1 j (List.getElem?_eq_some_iff.1 hj).1
    rw [hi, hj] at h
    simp only [Option.bind_some, h1, h2] at h
    simpa using h
  · have h := hS.2 d hd
    obtain ⟨o, ho, hq⟩ := List.any_eq_true.1 h
    exact ⟨o, ho, by simpa using hq⟩
theorem wanted_none {o : Oper} (h : o.guard = none) (y : Nat → Option Bool) : Region.wanted o y = true := by unfold Region.wanted; rw [h]
/-- A slot that no operation still to come writes holds what it holds at the end. -/
theorem q_slot {L : List Oper} {C : World → Prop} {A : Act} {d : Tmp} (hG : ∀ o ∈ L, o.guard = none) : ∀ (fuel : Nat) (ll : Array Bool) (a : Act), (∀ i o, L[i]? = some o → ll.getD i true = false → o.dst ≠ some d) → wpAnyQ P .any L.toArray C (fun a' => a' = A) fuel ll a → a.tmps[d]? = A.tmps[d]?
  | 0, ll, a, _, h => by rw [h.2]
  | fuel + 1, ll, a, hd, h => by
    by_cases hr : Region.ready .any L.toArray ll = []
    · rw [h.1 hr]
    · obtain ⟨i, hi⟩ := List.exists_mem_of_ne_nil _ hr
      have hq := h.2 i hi
      obtain ⟨hn, o, ho, _⟩ := mem_ready.1 hi
      have ho2 : L[i]? = some o := by simpa using ho
      unfold qOp at hq
      rw [ho] at hq
      simp only [wanted_none (hG o (List.mem_of_getElem? ho2)), if_true] at hq
      obtain ⟨v, _, hk⟩ := hq
      have h1 := q_slot hG fuel (ll.setIfInBounds i true) _ (fun j oj hj hun => hd j oj hj (by
        rw [getD_set] at hun
        split at hun
        · cases hun
        · exact hun)) hk
      rw [← h1]
      have hdi := hd i o ho2 hn
      cases hds : o.dst with
      | none => rfl
      | some e =>
        have hne : e ≠ d := fun he => hdi (by rw [hds, he])
        simp [Act.put, Array.getElem?_setIfInBounds_ne hne]
theorem put_same {a : Act} {dst : Option Tmp} {u v : Value} (h : ∀ d, dst = some d → (a.put dst u).tmps[d]? = (a.put dst v).tmps[d]?) : a.put dst u = a.put dst v := by
  cases dst with
  | none => rfl
  | some d =>
    have h1 := h d rfl
    simp only [Act.put, Array.getElem?_setIfInBounds, if_true] at h1 ⊢
    congr 1
    apply Array.ext_getElem?
    intro i
    simp only [Array.getElem?_setIfInBounds]
    by_cases hdi : d = i
    · subst hdi
      simpa using h1
    · rw [if_neg hdi, if_neg hdi]

/-- The front, in whatever order; then the tail. -/
theorem wpAny_float {Q : Exit → Act → World → Prop} {Z : Obj} {n N : Nat} {W : World} {A : Act} (hT : tailB l t f 0 = true) (hF : floatB ty al l = true) (hS : slotsB al l = true)
    (hZ : ∀ (ρ : Operand → Value) (o : Oper) (w : World), isAl ty o = true → (execOp ρ o).run P w = .ok (.value (.pointer (some ⟨w.heap.size, 0, none⟩))) (w.alloc Z))
    (hth : ∀ w : World, (w.alloc Z).there w.heap.size 0 n)
    (hend : ∀ (g : Tmp → Nat) (w' : World), Below N W w' → (∀ d ∈ al, N ≤ g d ∧ g d < w'.heap.size ∧ w'.there (g d) 0 n) → (∀ d ∈ al, ∀ e ∈ al, d ≠ e → g d ≠ g e) → wpList P (l ++ t).toArray Q t (putsT A al g) w') :
    ∀ (fuel : Nat) (listed ll : Array Bool) (a ar : Act) (D : List Tmp) (g : Tmp → Nat) (N' : Nat) (W' w : World), N ≤ N' → N' ≤ W'.heap.size → Below N W W' → Below N' W' w → Rf D g a ar →
    (∀ d ∈ D, d ∈ al ∧ N ≤ g d ∧ g d < N' ∧ W'.there (g d) 0 n) → (∀ d ∈ D, ∀ e ∈ D, d ≠ e → g d ≠ g e) →
    (∀ i o d, l[i]? = some o → isAl ty o = true → o.dst = some d → (d ∈ D ↔ listed.getD i true = true)) →
    listed.size = (l ++ t).length → ll.size = l.length → (∀ i, i < l.length → ll.getD i true = listed.getD i true) → Closed (l ++ t).toArray listed → (∀ i, l.length ≤ i → i < (l ++ t).length → listed.getD i true = false) →
    (∀ (N2 : Nat) (W2 : World), N' ≤ N2 → Below N' W' W2 → N2 ≤ W2.heap.size → wpAnyQ P .any (l.map (hush ty)).toArray (fun w' => ∃ x : Cl N2 W2, w' = x.u) (fun a' => a' = A) fuel ll a) →
    wpAny P .any (l ++ t).toArray Q (fuel + t.length) listed ar w := by
  have hD : ∀ (listed ll : Array Bool), listed.size = (l ++ t).length → ll.size = l.length → (∀ i, i < l.length → ll.getD i true = listed.getD i true) → ∀ i, i < l.length → ll.getD i false = listed.getD i false := fun listed ll h1 h2 h3 i hi => by
    have := h3 i hi
    rw [Array.getD_eq_getD_getElem?, Array.getD_eq_getD_getElem?, Array.getElem?_eq_getElem (by omega), Array.getElem?_eq_getElem (by rw [h1, List.length_append]; omega)] at this ⊢
    simpa using this
  -- where the front has nothing more to do all of it is done
  have hAll : ∀ (listed ll : Array Bool), listed.size = (l ++ t).length → ll.size = l.length → (∀ i, i < l.length → ll.getD i true = listed.getD i true) → Region.ready .any l.toArray ll = [] → ∀ i, i < l.length → listed.getD i false = true := fun listed ll h1 h2 h3 hr i => by
    induction i using Nat.strongRecOn with
    | _ i ih =>
      intro hi
      rcases h : ll.getD i true with _ | _
      · exfalso
        have hm : i ∈ Region.ready .any l.toArray ll := by
          rw [mem_ready]
          refine ⟨h, l[i], by simp [hi], fun e he _ => ?_⟩
          have h4 : (l ++ t)[i]? = some l[i] := by rw [List.getElem?_append_left hi]; exact List.getElem?_eq_getElem hi
          have h5 := tail_earlier hT h4 e he
          rw [hD listed ll h1 h2 h3 e.on (by omega)]
          exact ih e.on h5 (by omega)
        rw [hr] at hm
        cases hm
      · rw [← hD listed ll h1 h2 h3 i hi]
        rw [Array.getD_eq_getD_getElem?, Array.getElem?_eq_getElem (by omega)] at h ⊢
        simpa using h
  -- what of the front is ready there is ready here
  have hRd : ∀ (listed ll : Array Bool), listed.size = (l ++ t).length → ll.size = l.length → (∀ i, i < l.length → ll.getD i true = listed.getD i true) → ∀ i, i < l.length → i ∈ Region.ready .any (l ++ t).toArray listed → i ∈ Region.ready .any l.toArray ll := fun listed ll h1 h2 h3 i hi hr => by
    obtain ⟨hn, o, ho, hall⟩ := mem_ready.1 hr
    have ho2 : (l ++ t)[i]? = some o := by simpa using ho
    have ho3 : l[i]? = some o := by rwa [List.getElem?_append_left hi] at ho2
    refine mem_ready.2 ⟨by rw [h3 i hi]; exact hn, o, by simpa using ho3, fun e he hb => ?_⟩
    rw [hD listed ll h1 h2 h3 e.on (by have := tail_earlier hT ho2 e he; omega)]
    exact hall e he hb
  -- a ready one of the tail means that the front is done
  have hTl : ∀ (listed : Array Bool), listed.size = (l ++ t).length → Closed (l ++ t).toArray listed → ∀ i, l.length ≤ i → i ∈ Region.ready .any (l ++ t).toArray listed → ∀ k, k < l.length → listed.getD k false = true := fun listed h1 hcl i hi hr k hk => by
    obtain ⟨j, rfl⟩ : ∃ j, i = l.length + j := ⟨i - l.length, by omega⟩
    have := ready_lt hr
    rw [List.length_append] at this
    exact tail_ready hT hcl (by omega) hr (fun i hi => absurd hi (Nat.not_lt_zero i)) k (by omega)
  have hGm : ∀ o ∈ l.map (hush ty), o.guard = none := fun o ho => by
    obtain ⟨o', ho', rfl⟩ := List.mem_map.1 ho
    rw [hush_guard]
    exact (float_spec hF ho').1
  have hEnd : ∀ (fuel : Nat) (listed : Array Bool) (ar : Act) (D : List Tmp) (g : Tmp → Nat) (N' : Nat) (W' w : World), N ≤ N' → Below N W W' → Below N' W' w → N' ≤ W'.heap.size → Rf D g A ar →
      (∀ d ∈ D, d ∈ al ∧ N ≤ g d ∧ g d < N' ∧ W'.there (g d) 0 n) → (∀ d ∈ D, ∀ e ∈ D, d ≠ e → g d ≠ g e) →
      (∀ i o d, l[i]? = some o → isAl ty o = true → o.dst = some d → (d ∈ D ↔ listed.getD i true = true)) →
      listed.size = (l ++ t).length → Closed (l ++ t).toArray listed → (∀ i, l.length ≤ i → i < (l ++ t).length → listed.getD i true = false) → (∀ k, k < l.length → listed.getD k false = true) → wpAny P .any (l ++ t).toArray Q (fuel + t.length) listed ar w := fun fuel listed ar D g N' W' w hN hWW hw hsz hR hD1 hD2 hDl h1 hcl hun hdone => by
    have hal : ∀ d ∈ al, d ∈ D := fun d hd => by
      obtain ⟨o, ho, hod⟩ := (slots_spec hS).2 d hd
      have hia : isAl ty o = true := by
        cases hq : isAl ty o with
        | true => rfl
        | false => exact absurd hd (((float_spec hF ho).2.2.1 hq).1 d hod)
      obtain ⟨i, hil, hi⟩ := List.getElem_of_mem ho
      refine (hDl i o d (by rw [List.getElem?_eq_getElem hil, hi]) hia hod).2 ?_
      have := hdone i hil
      rw [Array.getD_eq_getD_getElem?, Array.getElem?_eq_getElem (by rw [h1, List.length_append]; omega)] at this ⊢
      simpa using this
    obtain ⟨D', h3, h4⟩ := puts_rf g al [] A A (Rf.refl g A)
    have e : ar = putsT A al g := Rf.uniq hR h3 (fun i => ⟨fun h => (h4 i).2 (.inr (hD1 i h).1), fun h => by rcases (h4 i).1 h with h | h; cases h; exact hal i h⟩)
    rw [e]
    refine wpAny_tail hT (Nat.zero_le _) t 0 _ listed _ w rfl (Nat.zero_le _) (by omega) h1 hcl (fun i hi => hdone i (by omega)) (fun i hi hi2 => hun i (by omega) hi2) ?_
    refine hend g w (hWW.trans (hw.mono hN)) (fun d hd => ?_) (fun d hd e he hne => hD2 d (hal d hd) e (hal e he) hne)
    obtain ⟨_, h5, h6, h7⟩ := hD1 d (hal d hd)
    exact ⟨h5, Nat.lt_of_lt_of_le h6 (Nat.le_trans hsz hw.size), Fd.there_below hw h7 h6⟩
  intro fuel
  induction fuel with
  | zero =>
    intro listed ll a ar D g N' W' w hN hsz hWW hw hR hD1 hD2 hDl h1 h2 h3 hcl hun h
    have h0 := h N' W' (Nat.le_refl _) (Below.refl _ _) hsz
    obtain rfl := h0.2
    exact hEnd 0 listed ar D g N' W' w hN hWW hw hsz hR hD1 hD2 hDl h1 hcl hun (hAll listed ll h1 h2 h3 (by rw [← ready_hush ty]; exact h0.1))
  | succ fuel ih =>
    intro listed ll a ar D g N' W' w hN hsz hWW hw hR hD1 hD2 hDl h1 h2 h3 hcl hun h
    have h0 := h N' W' (Nat.le_refl _) (Below.refl _ _) hsz
    by_cases hr0 : Region.ready .any l.toArray ll = []
    · obtain rfl := h0.1 (by rw [ready_hush]; exact hr0)
      exact hEnd _ listed ar D g N' W' w hN hWW hw hsz hR hD1 hD2 hDl h1 hcl hun (hAll listed ll h1 h2 h3 hr0)
    · have hnd : ∀ i, i ∈ Region.ready .any (l ++ t).toArray listed → i < l.length := fun i hi => by
        rcases Nat.lt_or_ge i l.length with h' | h'
        · exact h'
        · exfalso
          apply hr0
          refine ready_nil fun k hk => ?_
          have hk2 : k < l.length := by simpa using hk
          have := hTl listed h1 hcl i h' hi k hk2
          rw [h3 k hk2]
          rw [Array.getD_eq_getD_getElem?, Array.getElem?_eq_getElem (by rw [h1, List.length_append]; omega)] at this ⊢
          simpa using this
      rw [Nat.add_right_comm]
      refine ⟨fun h00 => ?_, fun i hi => ?_⟩
      · exfalso
        obtain ⟨i, hi⟩ := List.exists_mem_of_ne_nil _ hr0
        obtain ⟨hn, o, ho, hall⟩ := mem_ready.1 hi
        have ho3 : l[i]? = some o := by simpa using ho
        have hil : i < l.length := (List.getElem?_eq_some_iff.1 ho3).1
        have hm : i ∈ Region.ready .any (l ++ t).toArray listed := by
          refine mem_ready.2 ⟨by rw [← h3 i hil]; exact hn, o, ?_, fun e he hb => ?_⟩
          · have : (l ++ t)[i]? = some o := by rw [List.getElem?_append_left hil]; exact ho3
            simpa using this
          · have h5 : e.on < i := tail_earlier hT (by rw [List.getElem?_append_left hil]; exact ho3) e he
            rw [← hD listed ll h1 h2 h3 e.on (by omega)]
            exact hall e he hb
        rw [h00] at hm
        cases hm
      · have hil := hnd i hi
        have hil2 := hRd listed ll h1 h2 h3 i hil hi
        obtain ⟨hnl, o, ho, _⟩ := mem_ready.1 hil2
        have ho3 : l[i]? = some o := by simpa using ho
        have hol : o ∈ l := List.mem_of_getElem? ho3
        have ho4 : (l ++ t).toArray[i]? = some o := by
          have : (l ++ t)[i]? = some o := by rw [List.getElem?_append_left hil]; exact ho3
          simpa using this
        have ho5 : (l.map (hush ty)).toArray[i]? = some (hush ty o) := by simp [ho3]
        have hrm : i ∈ Region.ready .any (l.map (hush ty)).toArray ll := by rw [ready_hush]; exact hil2
        obtain ⟨hg, hAl, hQt, hsel⟩ := float_spec hF hol
        have h3' : ∀ k, k < l.length → (ll.setIfInBounds i true).getD k true = (listed.setIfInBounds i true).getD k true := fun k hk => by
          rw [getD_set, getD_set]
          by_cases hki : k = i
          · rw [if_pos ⟨hki, by omega⟩, if_pos ⟨hki, by rw [h1, List.length_append]; omega⟩]
          · rw [if_neg (fun h => hki h.1), if_neg (fun h => hki h.1)]
            exact h3 k hk
        have hun' : ∀ k, l.length ≤ k → k < (l ++ t).length → (listed.setIfInBounds i true).getD k true = false := fun k hk hk2 => by
          rw [getD_set, if_neg (fun h => by omega)]
          exact hun k hk hk2
        have hli : listed.getD i true = false := by rw [← h3 i hil]; exact hnl
        unfold wpOp
        rw [ho4]
        simp only [wanted_none hg, if_true]
        refine .inl ?_
        cases hia : isAl ty o with
        | true =>
          obtain ⟨d, hod, hda⟩ := hAl hia
          have hdD : d ∉ D := fun hd => by
            have := (hDl i o d ho3 hia hod).1 hd
            rw [hli] at this
            cases this
          have hDw : ∀ e ∈ D, g e < w.heap.size := fun e he => Nat.lt_of_lt_of_le (hD1 e he).2.2.1 (Nat.le_trans hsz hw.size)
          unfold Oper.wp
          rw [hZ _ o w hia]
          simp only [Oper.upon]
          rw [hod]
          have hBa : Below N' W' (w.alloc Z) := hw.alloc (Nat.le_trans hsz hw.size) _
          refine ih (listed.setIfInBounds i true) (ll.setIfInBounds i true) a _ (d :: D) (fun s => if s = d then w.heap.size else g s) (w.heap.size + 1) (w.alloc Z) (w.alloc Z) (by have := hw.size; omega) (by rw [size_alloc]; omega) (hWW.trans (hBa.mono hN)) (Below.refl _ _) (hR.make d w.heap.size hdD) (fun e he => ?_) (fun e he e' he' hne => ?_) (fun k ok e hk hka hke => ?_) (by simpa using h1) (by simpa using h2) h3' (hcl.step hi) hun' (fun N2 W2 hN2 hB2 hs2 => ?_)
          · by_cases hed : e = d
            · subst hed
              rw [if_pos rfl]
              exact ⟨hda, by have := hw.size; omega, by omega, hth w⟩
            · rw [if_neg hed]
              have he' : e ∈ D := by simpa [hed] using he
              obtain ⟨h5, h6, h7, h8⟩ := hD1 e he'
              exact ⟨h5, h6, by have := hDw e he'; omega, Fd.there_below hBa h8 h7⟩
          · by_cases hed : e = d
            · subst hed
              have he2 : e' ∈ D := by simpa [Ne.symm hne] using he'
              rw [if_pos rfl, if_neg (Ne.symm hne)]
              have := hDw e' he2
              omega
            · have he1 : e ∈ D := by simpa [hed] using he
              rw [if_neg hed]
              by_cases hed' : e' = d
              · rw [if_pos hed']
                have := hDw e he1
                omega
              · rw [if_neg hed']
                exact hD2 e he1 e' (by simpa [hed'] using he') hne
          · rw [getD_set]
            by_cases hki : k = i
            · subst hki
              rw [ho3] at hk
              obtain rfl := Option.some.inj hk
              rw [hod] at hke
              obtain rfl := Option.some.inj hke
              simp [h1, List.length_append, Nat.lt_of_lt_of_le hil (Nat.le_add_right _ _)]
            · rw [if_neg (fun h => hki h.1), ← hDl k ok e hk hka hke]
              have hne : e ≠ d := fun hed => hki ((slots_spec hS).1 k i ok o d hk ho3 (by rw [hke, hed]) hod)
              simp [hne]
          · have hq := (h N2 W2 (by have := hw.size; omega) (hBa.trans (hB2.mono (by have := hw.size; omega))) hs2).2 i hrm
            unfold qOp at hq
            rw [ho5] at hq
            have hgh : (hush ty o).guard = none := by rw [hush_guard]; exact hg
            simp only [wanted_none hgh, if_true] at hq
            obtain ⟨v, _, hk⟩ := hq
            have hdn : (hush ty o).dst = none := by unfold hush; rw [if_pos hia]
            rw [hdn] at hk
            exact hk
        | false =>
          have hho : hush ty o = o := by unfold hush; rw [if_neg (by rw [hia]; decide)]
          obtain ⟨hdst, hlk⟩ := hQt hia
          have hstep : ∀ (N2 : Nat) (W2 : World), N' ≤ N2 → Below N' W' W2 → N2 ≤ W2.heap.size → ∃ v, (∀ w, (∃ x : Cl N2 W2, w = x.u) → o.quietAt P a (fun w' => ∃ x : Cl N2 W2, w' = x.u) w v) ∧ wpAnyQ P .any (l.map (hush ty)).toArray (fun w' => ∃ x : Cl N2 W2, w' = x.u) (fun a' => a' = A) fuel (ll.setIfInBounds i true) (a.put o.dst v) := fun N2 W2 q1 q2 q3 => by
            have hq := (h N2 W2 q1 q2 q3).2 i hrm
            unfold qOp at hq
            rw [ho5, hho] at hq
            simp only [wanted_none hg, if_true] at hq
            exact hq
          obtain ⟨v, hv, hk⟩ := hstep N' W' (Nat.le_refl _) (Below.refl _ _) hsz
          have hslot : ∀ d, o.dst = some d → ∀ k ok, (l.map (hush ty))[k]? = some ok → (ll.setIfInBounds i true).getD k true = false → ok.dst ≠ some d := fun d hd k ok hk hu he => by
            rw [List.getElem?_map] at hk
            cases hlk2 : l[k]? with
            | none => rw [hlk2] at hk; cases hk
            | some o2 =>
              rw [hlk2] at hk
              obtain rfl := Option.some.inj hk
              have : o2.dst = some d := by
                unfold hush at he
                split at he
                · cases he
                · exact he
              have hki := (slots_spec hS).1 k i o2 o d hlk2 ho3 this hd
              subst hki
              rw [getD_set, if_pos ⟨rfl, by omega⟩] at hu
              cases hu
          have hex : execOp ar.eval o = execOp a.eval o := execOp_congr o hsel fun x hx => hR.eval fun s hs => fun hsD => hlk s (List.mem_append_left _ (List.mem_filterMap.2 ⟨x, by simpa using hx, by rw [hs]⟩)) (hD1 s hsD).1
          have hqa : o.quiet P ar (fun w' => ∃ x : Cl N' W', w' = x.u) (fun a' => a' = ar.put o.dst v) := ⟨v, fun w2 hw2 => by
            have := hv w2 hw2
            unfold Oper.quietAt at this ⊢
            rw [hex]
            exact this, rfl⟩
          refine Oper.wp_of_quiet (C := fun w' => ∃ x : Cl N' W', w' = x.u) ⟨⟨w, hw⟩, rfl⟩ ?_ hqa
          rintro _ _ ⟨x, rfl⟩ rfl
          refine ih (listed.setIfInBounds i true) (ll.setIfInBounds i true) (a.put o.dst v) _ D g N' W' x.u hN hsz hWW x.h (hR.put (fun d hd hdD => hdst d hd (hD1 d hdD).1) v) hD1 hD2 (fun k ok e hkk hka hke => ?_) (by simpa using h1) (by simpa using h2) h3' (hcl.step hi) hun' (fun N2 W2 q1 q2 q3 => ?_)
          · rw [hDl k ok e hkk hka hke, getD_set]
            have hki : k ≠ i := fun hki => by
              subst hki
              rw [ho3] at hkk
              obtain rfl := Option.some.inj hkk
              rw [hia] at hka
              cases hka
            rw [if_neg (fun h => hki h.1)]
          · obtain ⟨v2, _, hk2⟩ := hstep N2 W2 q1 q2 q3
            have e : a.put o.dst v2 = a.put o.dst v := put_same fun d hd => by
              rw [q_slot hGm fuel _ _ (hslot d hd) hk2, q_slot hGm fuel _ _ (hslot d hd) hk]
            rw [← e]
            exact hk2
end
end Rg
end Go.Proofs.Ytgdekigdbbldoaa

namespace Go.Proofs.Ytgdekigdbbldoaa
namespace Fd
namespace Pratt
/-- A number that only 1 and itself divide. -/
def Prime (n : Nat) : Prop := 2 ≤ n ∧ ∀ d, d ∣ n → d = 1 ∨ d = n

theorem dvd_part : ∀ (l : List Nat), (∀ q ∈ l, Prime q) → ∀ d, d ∣ l.prod → d ≠ l.prod → ∃ q ∈ l, d ∣ l.prod / q
  | [], _, d, hd, hn => absurd (Nat.dvd_one.1 (by simpa using hd)) (by simpa using hn)
  | q :: l, hp, d, hd, hn => by
    have hq := hp q (by simp)
    have hq0 : 0 < q := by have := hq.1; omega
    rw [List.prod_cons] at hd hn ⊢
    rcases hq.2 (Nat.gcd d q) (Nat.gcd_dvd_right d q) with hg | hg
    · refine ⟨q, by simp, ?_⟩
      rw [Nat.mul_div_cancel_left _ hq0]
      exact Nat.Coprime.dvd_of_dvd_mul_left hg hd
    · obtain ⟨e, he⟩ : q ∣ d := by rw [← hg]; exact Nat.gcd_dvd_left d q
      have h1 : e ∣ l.prod := Nat.dvd_of_mul_dvd_mul_left hq0 (by rw [← he]; exact hd)
      have h2 : e ≠ l.prod := fun h => hn (by rw [he, h])
      obtain ⟨r, hr, hrd⟩ := dvd_part l (fun x hx => hp x (by simp [hx])) e h1 h2
      refine ⟨r, by simp [hr], ?_⟩
      have hrl : r ∣ l.prod := by
        clear hrd h1 h2 hd hn hp hq hg
        induction l with
        | nil => simp at hr
        | cons x l ih =>
          rw [List.prod_cons]
          rcases List.mem_cons.1 hr with h | h
          · rw [h]; exact Nat.dvd_mul_right _ _
          · exact Nat.dvd_trans (ih h) (Nat.dvd_mul_left _ _)
      rw [he, Nat.mul_div_assoc _ hrl]
      exact Nat.mul_dvd_mul_left q hrd

theorem pigeon : ∀ (n : Nat) (f : Nat → Nat), (∀ i, i < n → f i < n) → (∀ i, i < n → ∀ j, j < n → f i = f j → i = j) → ∀ v, v < n → ∃ i, i < n ∧ f i = v
  | 0, _, _, _, v, hv => absurd hv (Nat.not_lt_zero v)
  | n + 1, f, hr, hi, v, hv => by
    have IH := pigeon n (fun i => if f i = n then f n else f i)
      (fun i h => by
        have h1 := hr i (by omega)
        have h2 := hr n (by omega)
        have h3 : f i ≠ f n := fun e => by have := hi i (by omega) n (by omega) e; omega
        show (if f i = n then f n else f i) < n
        split <;> omega)
      (fun i h j hj e => by
        have e' : (if f i = n then f n else f i) = (if f j = n then f n else f j) := e
        have hin : f i ≠ f n := fun e => by have := hi i (by omega) n (by omega) e; omega
        have hjn : f j ≠ f n := fun e => by have := hi j (by omega) n (by omega) e; omega
        apply hi i (by omega) j (by omega)
        split at e' <;> split at e' <;> omega)
    by_cases h1 : v = f n
    · exact ⟨n, by omega, h1.symm⟩
    · by_cases h2 : v = n
      · have hm : f n < n := by have := hr n (by omega); omega
        obtain ⟨i, hl, he⟩ := IH (f n) hm
        have he' : (if f i = n then f n else f i) = f n := he
        refine ⟨i, by omega, ?_⟩
        split at he'
        · omega
        · have := hi i (by omega) n (by omega) he'; omega
      · obtain ⟨i, hl, he⟩ := IH v (by omega)
        have he' : (if f i = n then f n else f i) = v := he
        refine ⟨i, by omega, ?_⟩
        split at he'
        · omega
        · exact he'

theorem pow_one {N g m : Nat} (h2 : 2 ≤ N) (h : g ^ m % N = 1) (k : Nat) : g ^ (m * k) % N = 1 := by
  rw [Nat.pow_mul, Nat.pow_mod, h, Nat.one_pow]
  exact Nat.mod_eq_of_lt (by omega)
theorem pow_add_one {N g m : Nat} (h : g ^ m % N = 1) (k : Nat) : g ^ (m + k) % N = g ^ k % N := by
  rw [Nat.pow_add, Nat.mul_mod, h, Nat.one_mul, Nat.mod_mod]
theorem pow_gcd {N g : Nat} (h2 : 2 ≤ N) (m n : Nat) : g ^ m % N = 1 → g ^ n % N = 1 → g ^ (Nat.gcd m n) % N = 1 := by
  induction m, n using Nat.gcd.induction with
  | H0 n => intro _ h; rw [Nat.gcd_zero_left]; exact h
  | H1 m n hm ih =>
    intro h1 h3
    rw [Nat.gcd_rec]
    refine ih ?_ h1
    have e := Nat.div_add_mod n m
    rw [← e, pow_add_one (pow_one h2 h1 (n / m))] at h3
    exact h3

/-- Where g's order is N - 1, each number below N but 0 is one of its powers. -/
theorem gen {N g n : Nat} (hN : n + 1 = N) (h2 : 2 ≤ N) (h1 : g ^ n % N = 1) (ho : ∀ m, 0 < m → m < n → g ^ m % N ≠ 1) (a : Nat) (h0 : 0 < a) (ha : a < N) : ∃ k, k < n ∧ g ^ k % N = a := by
  have hpos : ∀ i, i < n → 0 < g ^ i % N := fun i hi => by
    rcases Nat.eq_zero_or_pos (g ^ i % N) with h | h
    · have e : i + (n - i) = n := by omega
      rw [← e, Nat.pow_add, Nat.mul_mod, h, Nat.zero_mul, Nat.zero_mod] at h1
      omega
    · exact h
  have hlt : ∀ i, g ^ i % N < N := fun i => Nat.mod_lt _ (by omega)
  have hinj : ∀ i j, i < j → j < n → g ^ i % N ≠ g ^ j % N := fun i j hij hj he => by
    refine ho (j - i) (by omega) (by omega) ?_
    have e1 : n + (j - i) = (n - i) + j := by omega
    have e2 : n = (n - i) + i := by omega
    rw [← pow_add_one h1 (j - i), e1, Nat.pow_add, Nat.mul_mod, ← he, ← Nat.mul_mod, ← Nat.pow_add, ← e2, h1]
  obtain ⟨k, hk, he⟩ := pigeon n (fun i => g ^ i % N - 1) (fun i hi => by have := hpos i hi; have := hlt i; show g ^ i % N - 1 < n; omega)
    (fun i hi j hj e => by
      have e' : g ^ i % N - 1 = g ^ j % N - 1 := e
      have h3 := hpos i hi
      have h4 := hpos j hj
      rcases Nat.lt_trichotomy i j with h | h | h
      · exact absurd (by omega) (hinj i j h hj)
      · exact h
      · exact absurd (by omega) (hinj j i h hi))
    (a - 1) (by omega)
  have he' : g ^ k % N - 1 = a - 1 := he
  have := hpos k hk
  exact ⟨k, hk, by omega⟩
theorem order {N g : Nat} (l : List Nat) (h2 : 2 ≤ N) (hl : ∀ q ∈ l, Prime q) (h1 : g ^ l.prod % N = 1) (hq : ∀ q ∈ l, g ^ (l.prod / q) % N ≠ 1) (m : Nat) (h0 : 0 < m) (hm : m < l.prod) : g ^ m % N ≠ 1 := by
  intro h
  have hg := pow_gcd h2 _ _ h h1
  have hle := Nat.gcd_le_left l.prod h0
  obtain ⟨q, hql, c, hc⟩ := dvd_part l hl (Nat.gcd m l.prod) (Nat.gcd_dvd_right _ _) (by omega)
  exact hq q hql (by rw [hc]; exact pow_one h2 hg c)
theorem prime_of {N g n : Nat} (hN : n + 1 = N) (h2 : 2 ≤ N) (h1 : g ^ n % N = 1) (ho : ∀ m, 0 < m → m < n → g ^ m % N ≠ 1) : Prime N := by
  refine ⟨h2, fun d hd => ?_⟩
  have hd0 : 0 < d := Nat.pos_of_dvd_of_pos hd (by omega)
  have hle := Nat.le_of_dvd (by omega) hd
  rcases Nat.lt_or_ge d N with h | h
  · left
    obtain ⟨k, hk, he⟩ := gen hN h2 h1 ho d hd0 h
    have e : k + (n - k) = n := by omega
    rw [← e, Nat.pow_add, Nat.mul_mod, he] at h1
    have h3 : d ∣ d * (g ^ (n - k) % N) := Nat.dvd_mul_right _ _
    rw [← Nat.div_add_mod (d * (g ^ (n - k) % N)) N, h1] at h3
    exact Nat.dvd_one.1 ((Nat.dvd_add_right (Nat.dvd_trans hd (Nat.dvd_mul_right _ _))).1 h3)
  · right; omega

/-- A power modulo N, by squares. -/
def pm (N : Nat) : Nat → Nat → Nat → Nat
  | 0, _, _ => 1 % N
  | f + 1, b, e => match Nat.beq (e % 2) 1 with
    | true => b * pm N f (b * b % N) (e / 2) % N
    | false => pm N f (b * b % N) (e / 2)
theorem pm_eq (N : Nat) : ∀ (f b e : Nat), e < 2 ^ f → pm N f b e = b ^ e % N
  | 0, b, e, h => by
    have : e = 0 := by simpa using h
    rw [this, Nat.pow_zero]; rfl
  | f + 1, b, e, h => by
    have ih := pm_eq N f (b * b % N) (e / 2) (by rw [Nat.pow_succ] at h; omega)
    have h1 : (b * b % N) ^ (e / 2) % N = (b * b) ^ (e / 2) % N := (Nat.pow_mod _ _ _).symm
    have h2 : (b * b) ^ (e / 2) = b ^ (2 * (e / 2)) := by rw [Nat.pow_mul, Nat.pow_two]
    rw [h1, h2] at ih
    show (match Nat.beq (e % 2) 1 with | true => b * pm N f (b * b % N) (e / 2) % N | false => pm N f (b * b % N) (e / 2)) = _
    rcases Nat.mod_two_eq_zero_or_one e with h0 | h0
    · rw [h0]
      show pm N f (b * b % N) (e / 2) = _
      rw [ih]
      have : 2 * (e / 2) = e := by omega
      rw [this]
    · rw [h0]
      show b * pm N f (b * b % N) (e / 2) % N = _
      rw [ih, Nat.mul_mod, Nat.mod_mod, ← Nat.mul_mod]
      have : b * b ^ (2 * (e / 2)) = b ^ e := by rw [Nat.mul_comm, ← Nat.pow_succ]; congr 1; omega
      rw [this]
/-- What must be reckoned of a number, a root and the primes of the number less 1. -/
def certB (N g : Nat) (l : List Nat) : Bool := Nat.beq (l.prod + 1) N && Nat.ble 2 N && Nat.ble (l.prod + 1) (2 ^ 256) && Nat.beq (pm N 256 g l.prod) 1 && l.all fun q => !Nat.beq (pm N 256 g (l.prod / q)) 1
theorem cert_ord {N g : Nat} {l : List Nat} (h : certB N g l = true) (hl : ∀ q ∈ l, Prime q) : l.prod + 1 = N ∧ 2 ≤ N ∧ g ^ l.prod % N = 1 ∧ ∀ m, 0 < m → m < l.prod → g ^ m % N ≠ 1 := by
  unfold certB at h
  simp only [Bool.and_eq_true, List.all_eq_true] at h
  obtain ⟨⟨⟨⟨h1, h2⟩, h3⟩, h4⟩, h5⟩ := h
  have h3' : l.prod < 2 ^ 256 := Nat.le_of_ble_eq_true h3
  have h1 := Nat.eq_of_beq_eq_true h1
  have h2 := Nat.le_of_ble_eq_true h2
  have h4 := Nat.eq_of_beq_eq_true h4
  rw [pm_eq _ _ _ _ h3'] at h4
  refine ⟨h1, h2, h4, order l h2 hl h4 fun q hq hc => ?_⟩
  have h6 := h5 q hq
  rw [pm_eq _ _ _ _ (Nat.lt_of_le_of_lt (Nat.div_le_self _ _) h3'), hc] at h6
  exact absurd h6 (by decide)
theorem cert_prime {N g : Nat} {l : List Nat} (h : certB N g l = true) (hl : ∀ q ∈ l, Prime q) : Prime N := by
  obtain ⟨h1, h2, h3, h4⟩ := cert_ord h hl
  exact prime_of h1 h2 h3 h4
/-- No number from k on, so many of them, divides n. -/
def noDiv (n : Nat) : Nat → Nat → Bool
  | 0, _ => true
  | f + 1, k => !Nat.beq (n % k) 0 && noDiv n f (k + 1)
theorem noDiv_out (n : Nat) : ∀ (f k : Nat), noDiv n f k = true → ∀ d, k ≤ d → d < k + f → ¬ d ∣ n
  | 0, k, _, d, h1, h2 => by omega
  | f + 1, k, h, d, h1, h2 => by
    have h' : (!Nat.beq (n % k) 0 && noDiv n f (k + 1)) = true := h
    rw [Bool.and_eq_true] at h'
    rcases Nat.eq_or_lt_of_le h1 with e | e
    · intro hd
      rw [← e] at hd
      rw [Nat.mod_eq_zero_of_dvd hd] at h'
      exact absurd h'.1 (by decide)
    · exact noDiv_out n f (k + 1) h'.2 d (by omega) (by omega)
theorem small_prime {n f : Nat} (h2 : 2 ≤ n) (h : noDiv n f 2 = true) (hs : n < (f + 2) * (f + 2)) : Prime n := by
  refine ⟨h2, fun d hd => ?_⟩
  have hd0 : 0 < d := Nat.pos_of_dvd_of_pos hd (by omega)
  obtain ⟨e, he⟩ := hd
  have hout := noDiv_out n f 2 h
  rcases Nat.lt_or_ge d 2 with h3 | h3
  · left; omega
  · right
    rcases Nat.lt_or_ge d (f + 2) with h4 | h4
    · exact absurd ⟨e, he⟩ (hout d h3 (by omega))
    · rcases Nat.lt_or_ge e 2 with h5 | h5
      · have : e = 1 := by
          rcases Nat.eq_zero_or_pos e with h6 | h6
          · rw [h6, Nat.mul_zero] at he; omega
          · omega
        rw [he, this, Nat.mul_one]
      · rcases Nat.lt_or_ge e (f + 2) with h6 | h6
        · exact absurd ⟨d, by rw [he, Nat.mul_comm]⟩ (hout e h5 (by omega))
        · have := Nat.mul_le_mul h4 h6
          omega
theorem all_nil {P : Nat → Prop} : ∀ q ∈ ([] : List Nat), P q := fun _ h => absurd h (by simp)
theorem all_cons {P : Nat → Prop} {x : Nat} {l : List Nat} (h : P x) (hl : ∀ q ∈ l, P q) : ∀ q ∈ x :: l, P q := fun q hq => by
  rcases List.mem_cons.1 hq with e | e
  · rw [e]; exact h
  · exact hl q e
theorem pr0 : Prime 2 := small_prime (f := 0) (by decide) (by decide +kernel) (by decide)
theorem pr1 : Prime 3 := small_prime (f := 0) (by decide) (by decide +kernel) (by decide)
theorem pr2 : Prime 5 := small_prime (f := 1) (by decide) (by decide +kernel) (by decide)
theorem pr3 : Prime 7 := small_prime (f := 1) (by decide) (by decide +kernel) (by decide)
theorem pr4 : Prime 13 := small_prime (f := 2) (by decide) (by decide +kernel) (by decide)
theorem pr5 : Prime 19 := small_prime (f := 3) (by decide) (by decide +kernel) (by decide)
theorem pr6 : Prime 31 := small_prime (f := 4) (by decide) (by decide +kernel) (by decide)
theorem pr7 : Prime 43 := small_prime (f := 5) (by decide) (by decide +kernel) (by decide)
theorem pr8 : Prime 47 := small_prime (f := 5) (by decide) (by decide +kernel) (by decide)
theorem pr9 : Prime 103 := small_prime (f := 9) (by decide) (by decide +kernel) (by decide)
theorem pr10 : Prime 107 := small_prime (f := 9) (by decide) (by decide +kernel) (by decide)
theorem pr11 : Prime 127 := small_prime (f := 10) (by decide) (by decide +kernel) (by decide)
theorem pr12 : Prime 223 := small_prime (f := 13) (by decide) (by decide +kernel) (by decide)
theorem pr13 : Prime 353 := small_prime (f := 17) (by decide) (by decide +kernel) (by decide)
theorem pr14 : Prime 991 := small_prime (f := 30) (by decide) (by decide +kernel) (by decide)
theorem pr15 : Prime 2437 := small_prime (f := 48) (by decide) (by decide +kernel) (by decide)
theorem pr16 : Prime 3727 := small_prime (f := 60) (by decide) (by decide +kernel) (by decide)
theorem pr17 : Prime 4153 := small_prime (f := 63) (by decide) (by decide +kernel) (by decide)
theorem pr18 : Prime 57467 := small_prime (f := 238) (by decide) (by decide +kernel) (by decide)
theorem pr19 : Prime 65147 := small_prime (f := 254) (by decide) (by decide +kernel) (by decide)
theorem pr20 : Prime 75707 := small_prime (f := 274) (by decide) (by decide +kernel) (by decide)
theorem pr21 : Prime 132049 := small_prime (f := 362) (by decide) (by decide +kernel) (by decide)
theorem pr22 : Prime 430751 := small_prime (f := 655) (by decide) (by decide +kernel) (by decide)
theorem pr23 : Prime 569003 := small_prime (f := 753) (by decide) (by decide +kernel) (by decide)
theorem pr24_cert : certB 1923133 2 [2, 2, 3, 43, 3727] = true := by decide +kernel
theorem pr24 : Prime 1923133 := cert_prime pr24_cert (all_cons pr0 (all_cons pr0 (all_cons pr1 (all_cons pr7 (all_cons pr16 all_nil)))))
theorem pr25_cert : certB 8574133 2 [2, 2, 3, 7, 103, 991] = true := by decide +kernel
theorem pr25 : Prime 8574133 := cert_prime pr25_cert (all_cons pr0 (all_cons pr0 (all_cons pr1 (all_cons pr3 (all_cons pr9 (all_cons pr14 all_nil))))))
theorem pr26_cert : certB 2773320623 5 [2, 2437, 569003] = true := by decide +kernel
theorem pr26 : Prime 2773320623 := cert_prime pr26_cert (all_cons pr0 (all_cons pr15 (all_cons pr23 all_nil)))
theorem pr27_cert : certB 72106336199 7 [2, 13, 2773320623] = true := by decide +kernel
theorem pr27 : Prime 72106336199 := cert_prime pr27_cert (all_cons pr0 (all_cons pr4 (all_cons pr26 all_nil)))
theorem pr28_cert : certB 1919519569386763 2 [2, 3, 7, 19, 47, 47, 127, 8574133] = true := by decide +kernel
theorem pr28 : Prime 1919519569386763 := cert_prime pr28_cert (all_cons pr0 (all_cons pr1 (all_cons pr3 (all_cons pr5 (all_cons pr8 (all_cons pr8 (all_cons pr11 (all_cons pr25 all_nil))))))))
theorem pr29_cert : certB 31757755568855353 10 [2, 2, 2, 3, 31, 107, 223, 4153, 430751] = true := by decide +kernel
theorem pr29 : Prime 31757755568855353 := cert_prime pr29_cert (all_cons pr0 (all_cons pr0 (all_cons pr0 (all_cons pr1 (all_cons pr6 (all_cons pr10 (all_cons pr12 (all_cons pr17 (all_cons pr22 all_nil)))))))))
theorem pr30_cert : certB 75445702479781427272750846543864801 7 [2, 2, 2, 2, 2, 3, 3, 5, 5, 75707, 72106336199, 1919519569386763] = true := by decide +kernel
theorem pr30 : Prime 75445702479781427272750846543864801 := cert_prime pr30_cert (all_cons pr0 (all_cons pr0 (all_cons pr0 (all_cons pr0 (all_cons pr0 (all_cons pr1 (all_cons pr1 (all_cons pr2 (all_cons pr2 (all_cons pr20 (all_cons pr27 (all_cons pr28 all_nil))))))))))))
theorem pr31_cert : certB 74058212732561358302231226437062788676166966415465897661863160754340907 2 [2, 3, 353, 57467, 132049, 1923133, 31757755568855353, 75445702479781427272750846543864801] = true := by decide +kernel
theorem pr31 : Prime 74058212732561358302231226437062788676166966415465897661863160754340907 := cert_prime pr31_cert (all_cons pr0 (all_cons pr1 (all_cons pr13 (all_cons pr18 (all_cons pr21 (all_cons pr24 (all_cons pr29 (all_cons pr30 all_nil))))))))
theorem prP_cert : certB 57896044618658097711785492504343953926634992332820282019728792003956564819949 2 [2, 2, 3, 65147, 74058212732561358302231226437062788676166966415465897661863160754340907] = true := by decide +kernel
theorem fermat_of {N g n : Nat} {l : List Nat} (h : certB N g l = true) (hl : ∀ q ∈ l, Prime q) (hn : n + 1 = N) : g ^ n % N = 1 := by
  obtain ⟨h1, _, h3, _⟩ := cert_ord h hl
  have e : l.prod = n := by omega
  rw [← e]
  exact h3
theorem order_of {N g n : Nat} {l : List Nat} (h : certB N g l = true) (hl : ∀ q ∈ l, Prime q) (hn : n + 1 = N) : ∀ m, 0 < m → m < n → g ^ m % N ≠ 1 := by
  obtain ⟨h1, _, _, h4⟩ := cert_ord h hl
  have e : l.prod = n := by omega
  rw [← e]
  exact h4
theorem p_cert : certB p 2 [2, 2, 3, 65147, 74058212732561358302231226437062788676166966415465897661863160754340907] = true := prP_cert
theorem p_pred : (p - 1) + 1 = p := by decide
/-- 2 is a root of the prime's: its order is p - 1. -/
theorem p_order : ∀ m, 0 < m → m < p - 1 → 2 ^ m % p ≠ 1 := order_of p_cert (all_cons pr0 (all_cons pr0 (all_cons pr1 (all_cons pr19 (all_cons pr31 all_nil))))) p_pred
theorem p_fermat : 2 ^ (p - 1) % p = 1 := fermat_of p_cert (all_cons pr0 (all_cons pr0 (all_cons pr1 (all_cons pr19 (all_cons pr31 all_nil))))) p_pred
/-- Each number below p but 0 is a power of 2. -/
theorem p_gen (a : Nat) (h0 : 0 < a) (ha : a < p) : ∃ k, k < p - 1 ∧ 2 ^ k % p = a := gen p_pred (by decide) p_fermat p_order a h0 ha
/-! What is needed of the field's numbers beside that. -/
theorem p_prime : Prime p := prime_of p_pred (by decide) p_fermat p_order
theorem p_pow2 (m k : Nat) : 2 ^ ((p - 1) * m + k) % p = 2 ^ k % p := pow_add_one (pow_one (by decide) p_fermat m) k
theorem coprime (a : Nat) (h0 : 0 < a) (ha : a < p) : Nat.Coprime p a := by
  rcases p_prime.2 (Nat.gcd p a) (Nat.gcd_dvd_left _ _) with h | h
  · exact h
  · have h1 : p ∣ a := by have := Nat.gcd_dvd_right p a; rwa [h] at this
    have := Nat.le_of_dvd h0 h1
    omega
theorem dvd_cancel {a b : Nat} (h0 : 0 < a) (ha : a < p) (h : p ∣ a * b) : p ∣ b := (coprime a h0 ha).dvd_of_dvd_mul_left h
/-- Each number below p but 0, to the p - 1, is 1. -/
theorem fermat (a : Nat) (h0 : 0 < a) (ha : a < p) : a ^ (p - 1) % p = 1 := by
  obtain ⟨k, _, hk⟩ := p_gen a h0 ha
  rw [← hk, ← Nat.pow_mod, ← Nat.pow_mul, Nat.mul_comm]
  exact pow_one (by decide) p_fermat k
theorem inv_mul (a : Nat) (h0 : 0 < a) (ha : a < p) : a * (a ^ (p - 2) % p) % p = 1 := by
  rw [Nat.mul_mod, Nat.mod_mod, ← Nat.mul_mod, Nat.mul_comm, ← Nat.pow_succ]
  exact fermat a h0 ha
theorem mul_cancel {a b c : Nat} (h0 : 0 < a) (ha : a < p) (h : a * b % p = a * c % p) : b % p = c % p := by
  have e : ∀ x, (a ^ (p - 2) % p) * (a * x % p) % p = x % p := fun x => by
    rw [Nat.mul_mod_mod, ← Nat.mul_assoc, Nat.mul_comm _ a, ← Nat.mod_mul_mod, inv_mul a h0 ha, Nat.one_mul]
  rw [← e b, ← e c, h]

/-- The root of -1 that the program has. -/
theorem i_pow : 2 ^ ((p - 1) / 4) % p = rootOfMinusOne := by
  rw [← pm_eq p 256 2 ((p - 1) / 4) (by decide)]
  decide +kernel
theorem i_two : rootOfMinusOne * rootOfMinusOne % p = p - 1 := by decide +kernel
/-- What the power that is taken as a root has for a square: the number times a power of that root of -1. -/
theorem sq_pow (k : Nat) : (((2 ^ k % p) ^ ((p + 3) / 8) % p) * ((2 ^ k % p) ^ ((p + 3) / 8) % p)) % p = (2 ^ k % p) * (rootOfMinusOne ^ k % p) % p := by
  rw [← Nat.mul_mod, ← Nat.pow_add, show (p + 3) / 8 + (p + 3) / 8 = (p - 1) / 4 + 1 by decide, Nat.pow_succ, Nat.mul_comm, ← i_pow, ← Nat.pow_mod, ← Nat.pow_mul, Nat.mul_mod, ← Nat.pow_mod (2 ^ k), ← Nat.pow_mul, Nat.mul_comm k, ← Nat.mul_mod, Nat.mod_mul_mod, Nat.mod_mul_mod, Nat.mul_mod_mod]
theorem i_mod4 (k : Nat) : rootOfMinusOne ^ k % p = rootOfMinusOne ^ (k % 4) % p := by
  have h4 : rootOfMinusOne ^ 4 % p = 1 := by decide +kernel
  have e := Nat.div_add_mod k 4
  rw [← e, pow_add_one (pow_one (by decide) h4 (k / 4)), e]
/-- The power that is a root of a number or of its negative, where one of them is a square. -/
def r0 (x : Nat) : Nat := x ^ rootExponent % p
/-- The root that is tried last. -/
def rt (x : Nat) : Nat := if r0 x * r0 x % p = x then r0 x else r0 x * rootOfMinusOne % p
theorem r0_lt (x : Nat) : r0 x < p := Nat.mod_lt _ (by decide)
theorem rt_lt (x : Nat) : rt x < p := by
  unfold rt
  split
  · exact r0_lt x
  · exact Nat.mod_lt _ (by decide)
theorem r0_sq (k : Nat) : r0 (2 ^ k % p) * r0 (2 ^ k % p) % p = (2 ^ k % p) * (rootOfMinusOne ^ (k % 4) % p) % p := by
  have h := sq_pow k
  rw [i_mod4 k] at h
  have e : rootExponent = (p + 3) / 8 := by decide +kernel
  unfold r0
  rw [e]
  exact h
theorem pos2 (k : Nat) : 0 < 2 ^ k % p := by
  rcases Nat.eq_zero_or_pos (2 ^ k % p) with h | h
  · have hd := Nat.dvd_of_mod_eq_zero h
    exfalso
    clear h
    induction k with
    | zero => exact absurd (Nat.le_of_dvd (by decide) hd) (by decide)
    | succ k ih =>
      rw [Nat.pow_succ, Nat.mul_comm] at hd
      exact ih (dvd_cancel (by decide) (by decide) hd)
  · exact h
theorem eq_one {x c : Nat} (h0 : 0 < x) (hx : x < p) (hc : c < p) (h : x * c % p = x) : c = 1 := by
  have h1 : x * c % p = x * 1 % p := by rw [h, Nat.mul_one, Nat.mod_eq_of_lt hx]
  have h2 := mul_cancel h0 hx h1
  rwa [Nat.mod_eq_of_lt hc] at h2
theorem sq_mul (a b : Nat) : (a * b % p) * (a * b % p) % p = (a * a % p) * (b * b % p) % p := by
  rw [← Nat.mul_mod, ← Nat.mul_mod]
  congr 1
  rw [Nat.mul_assoc, Nat.mul_assoc, Nat.mul_left_comm b]
/-- Just the even powers of 2 have a root. -/
theorem rt_ok (k : Nat) : (rt (2 ^ k % p) * rt (2 ^ k % p) % p = 2 ^ k % p) ↔ k % 2 = 0 := by
  have h0 := pos2 k
  have hx : 2 ^ k % p < p := Nat.mod_lt _ (by decide)
  have hs := r0_sq k
  have hp : 0 < p := by decide
  have hm : (r0 (2 ^ k % p) * rootOfMinusOne % p) * (r0 (2 ^ k % p) * rootOfMinusOne % p) % p = (2 ^ k % p) * ((rootOfMinusOne ^ (k % 4) % p) * (p - 1) % p) % p := by
    rw [sq_mul, hs, i_two, Nat.mod_mul_mod, Nat.mul_assoc, Nat.mul_mod_mod]
  unfold rt
  obtain ⟨x, ex⟩ : ∃ x, 2 ^ k % p = x := ⟨_, rfl⟩
  rw [ex] at h0 hx hs hm ⊢
  obtain ⟨r, er⟩ : ∃ r, r0 x = r := ⟨_, rfl⟩
  rw [er] at hs hm ⊢
  have hk : k % 4 = 0 ∨ k % 4 = 1 ∨ k % 4 = 2 ∨ k % 4 = 3 := by omega
  rcases hk with hk | hk | hk | hk
  · have hc : rootOfMinusOne ^ 0 % p = 1 := by decide +kernel
    rw [hk, hc, Nat.mul_one, Nat.mod_eq_of_lt hx] at hs
    rw [if_pos hs]
    exact ⟨fun _ => by omega, fun _ => hs⟩
  · rw [hk] at hs hm
    have h1 : r * r % p ≠ x := fun h => absurd (eq_one h0 hx (Nat.mod_lt _ hp) (hs.symm.trans h)) (by decide +kernel)
    rw [if_neg h1]
    exact ⟨fun h => absurd (eq_one h0 hx (Nat.mod_lt _ hp) (hm.symm.trans h)) (by decide +kernel), fun h => by omega⟩
  · rw [hk] at hs hm
    have h1 : r * r % p ≠ x := fun h => absurd (eq_one h0 hx (Nat.mod_lt _ hp) (hs.symm.trans h)) (by decide +kernel)
    have hc : rootOfMinusOne ^ 2 % p * (p - 1) % p = 1 := by decide +kernel
    rw [hc, Nat.mul_one, Nat.mod_eq_of_lt hx] at hm
    rw [if_neg h1]
    exact ⟨fun _ => by omega, fun _ => hm⟩
  · rw [hk] at hs hm
    have h1 : r * r % p ≠ x := fun h => absurd (eq_one h0 hx (Nat.mod_lt _ hp) (hs.symm.trans h)) (by decide +kernel)
    rw [if_neg h1]
    exact ⟨fun h => absurd (eq_one h0 hx (Nat.mod_lt _ hp) (hm.symm.trans h)) (by decide +kernel), fun h => by omega⟩
/-- Of a number and its double just one has a root. -/
theorem one_root (x : Nat) (h0 : 0 < x) (hx : x < p) : (rt x * rt x % p = x) ↔ ¬ (rt ((x + x) % p) * rt ((x + x) % p) % p = (x + x) % p) := by
  obtain ⟨k, _, rfl⟩ := p_gen x h0 hx
  have e : (2 ^ k % p + 2 ^ k % p) % p = 2 ^ (k + 1) % p := by
    rw [← Nat.add_mod, Nat.pow_succ, Nat.mul_two]
  rw [e, rt_ok, rt_ok]
  omega
theorem two_roots {r y : Nat} (hr : r < p) (hy : y < p) (h : r * r % p = y * y % p) : r = y ∨ (r + y) % p = 0 := by
  rcases Nat.lt_trichotomy r y with hl | hl | hl
  · right
    have hd : p ∣ (y - r) * (y + r) := by
      have e : (y - r) * (y + r) = y * y - r * r := by rw [Nat.mul_comm, ← Nat.mul_self_sub_mul_self_eq]
      rw [e]
      exact Nat.dvd_of_mod_eq_zero (Nat.sub_mod_eq_zero_of_mod_eq h.symm)
    rw [Nat.add_comm]
    exact Nat.mod_eq_zero_of_dvd (dvd_cancel (by omega) (by omega) hd)
  · exact .inl hl
  · right
    have hd : p ∣ (r - y) * (r + y) := by
      have e : (r - y) * (r + y) = r * r - y * y := by rw [Nat.mul_comm, ← Nat.mul_self_sub_mul_self_eq]
      rw [e]
      exact Nat.dvd_of_mod_eq_zero (Nat.sub_mod_eq_zero_of_mod_eq h)
    exact Nat.mod_eq_zero_of_dvd (dvd_cancel (by omega) (by omega) hd)
theorem zp (x e : Nat) (hx : x = 0) (he : 0 < e) : x ^ e % p = 0 := by
  rw [hx, Nat.zero_pow he]
  rfl
theorem r0_z (x : Nat) (hx : x = 0) : r0 x = 0 := zp x rootExponent hx (by decide)
theorem rt_z (x : Nat) (hx : x = 0) : rt x = 0 := by
  unfold rt
  rw [r0_z x hx, if_pos (by rw [hx]; rfl)]
/-- A square has a root, and that is the number or its negative. -/
theorem root_sq (y : Nat) (hy : y < p) : rt (y * y % p) * rt (y * y % p) % p = y * y % p := by
  rcases Nat.eq_zero_or_pos y with h0 | h0
  · have e : y * y % p = 0 := by rw [h0]; rfl
    obtain ⟨z, hz⟩ : ∃ z, y * y % p = z := ⟨_, rfl⟩
    rw [hz] at e ⊢
    rw [rt_z z e, e]
    rfl
  · obtain ⟨k, _, rfl⟩ := p_gen y h0 hy
    rw [← Nat.mul_mod, ← Nat.pow_add]
    exact (rt_ok (k + k)).2 (by omega)
end Pratt
end Fd
end Go.Proofs.Ytgdekigdbbldoaa
