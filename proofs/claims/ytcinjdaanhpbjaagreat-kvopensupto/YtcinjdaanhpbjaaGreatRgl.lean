/- A region that draws its order, whose operations leave alone what lies below a mark (a class of worlds), but for the last, which waits for all the others: one walk of the text's order serves every order. Nothing of the program. -/
import Derived.Deep.QuietTactic
import Derived.BigQuiet
import Derived.BigCall
import Derived.WalkKit
import Derived.Deep.MidRow
import Derived.Deep.RegionHeld
import Derived.KernelRfl
namespace Go.Proofs.YtcinjdaanhpbjaaGreat
open Go.RowKit
namespace Rg

/-- The same place of a region, but nothing is done. -/
def idle (o : Oper) : Oper := { o with op := .move (.const undef) }
/-- Each operation waits for earlier ones alone, the last for all. -/
def lastB (ops : List Oper) : Bool :=
  ((List.range ops.length).all fun i => ((ops[i]?).map (·.after.all fun e => decide (e.on < i))).getD true) &&
  ((List.range (ops.length - 1)).all fun i => ((ops[ops.length - 1]?).map (·.after.toList.any fun e => Region.binds .any e && e.on == i)).getD false)

section
variable {P : Program} {C : World → Prop} {l : List Oper} {o : Oper}

theorem at_front {j : Nat} (h : j < l.length) (o : Oper) : (l ++ [o]).toArray[j]? = l[j]? := by
  simp [List.getElem?_append_left h]
theorem at_last (o : Oper) : (l ++ [o]).toArray[l.length]? = some o := by simp
theorem at_far {j : Nat} (h : l.length < j) (o : Oper) : (l ++ [o]).toArray[j]? = none := by
  simp only [List.getElem?_toArray]
  rw [List.getElem?_eq_none]
  simp only [List.length_append, List.length_singleton]
  omega
theorem yielded_idle (l : List Oper) (o : Oper) : yielded (l ++ [idle o]).toArray = yielded (l ++ [o]).toArray := by
  funext t j
  unfold yielded
  rcases Nat.lt_trichotomy j l.length with h | rfl | h
  · rw [at_front h, at_front h]
  · rw [at_last, at_last]
    rfl
  · rw [at_far h, at_far h]
theorem ready_idle (l : List Oper) (o : Oper) (listed : Array Bool) : Region.ready .any (l ++ [idle o]).toArray listed = Region.ready .any (l ++ [o]).toArray listed := by
  unfold Region.ready
  have e : (l ++ [idle o]).toArray.size = (l ++ [o]).toArray.size := by simp
  rw [e]
  congr 1
  funext j
  rcases Nat.lt_trichotomy j l.length with h | rfl | h
  · rw [at_front h, at_front h]
  · rw [at_last, at_last]
    rfl
  · rw [at_far h, at_far h]
theorem wpQuiet_idle {T : Act → Prop} : ∀ (k : List Oper) (a : Act), wpQuiet P (l ++ [o]).toArray C T k a → wpQuiet P (l ++ [idle o]).toArray C T k a
  | [], _, h => h
  | p :: k, a, h => by
    unfold wpQuiet at h ⊢
    rw [yielded_idle]
    split
    · rename_i hw
      rw [if_pos hw] at h
      exact Oper.quiet_mono (fun a' ha => wpQuiet_idle k a' ha) h
    · rename_i hw
      rw [if_neg hw] at h
      exact wpQuiet_idle k _ h
theorem wpQuiet_snoc {ops : Array Oper} {T : Act → Prop} (hd : o.dst = none) (hg : o.guard = none) : ∀ (k : List Oper) (a : Act), wpQuiet P ops C T k a → wpQuiet P ops C T (k ++ [idle o]) a
  | [], a, h => by
    have hw : Region.wanted (idle o) (yielded ops a.tmps) = true := by
      unfold Region.wanted
      rw [show (idle o).guard = none from hg]
    show wpQuiet P ops C T [idle o] a
    unfold wpQuiet
    rw [if_pos hw]
    refine BigFrame.quiet_move (.const undef) rfl ?_
    have e : a.put (idle o).dst (a.eval (.const undef)) = a := by
      rw [show (idle o).dst = none from hd]
      rfl
    rw [e]
    exact h
  | p :: k, a, h => by
    show wpQuiet P ops C T (p :: (k ++ [idle o])) a
    unfold wpQuiet at h ⊢
    split
    · rename_i hw
      rw [if_pos hw] at h
      exact Oper.quiet_mono (fun a' ha => wpQuiet_snoc hd hg k a' ha) h
    · rename_i hw
      rw [if_neg hw] at h
      exact wpQuiet_snoc hd hg k _ h

theorem getD_set (listed : Array Bool) (i j : Nat) (d : Bool) : (listed.setIfInBounds i true).getD j d = if j = i ∧ i < listed.size then true else listed.getD j d := by
  simp only [Array.getD_eq_getD_getElem?, Array.getElem?_setIfInBounds]
  by_cases h : i = j
  · subst h
    by_cases h2 : i < listed.size
    · simp [h2]
    · simp [h2]
  · have : ¬ j = i := fun e => h e.symm
    simp [h, this]

/-- Where nothing is ready all is done. -/
theorem all_done {ops : List Oper} (hL : lastB ops = true) {listed : Array Bool} (hr : Region.ready .any ops.toArray listed = []) : ∀ j, j < ops.length → listed.getD j true = true := by
  intro j
  induction j using Nat.strongRecOn with
  | _ j ih =>
    intro hj
    rcases h : listed.getD j true with _ | _
    · exfalso
      have hm : j ∈ Region.ready .any ops.toArray listed := by
        rw [mem_ready]
        refine ⟨h, ops[j], by simp [hj], fun e he hb => ?_⟩
        unfold lastB at hL
        rw [Bool.and_eq_true, List.all_eq_true] at hL
        have h1 := hL.1 j (List.mem_range.2 hj)
        rw [List.getElem?_eq_getElem hj] at h1
        simp only [Option.map_some, Option.getD_some, Array.all_eq_true_iff_forall_mem, decide_eq_true_eq] at h1
        have h2 := h1 e he
        have h3 := ih e.on h2 (by omega)
        have hs : e.on < listed.size := by
          rcases Nat.lt_or_ge e.on listed.size with h' | h'
          · exact h'
          · exfalso
            have : listed.size ≤ j := by omega
            rw [Array.getD_eq_getD_getElem?, Array.getElem?_eq_none this] at h
            simp at h
        rw [Array.getD_eq_getD_getElem?, Array.getElem?_eq_getElem hs] at h3 ⊢
        simpa using h3
      rw [hr] at hm
      cases hm
    · rfl
/-- Where the last is ready all the others are done. -/
theorem others_done (hL : lastB (l ++ [o]) = true) {listed : Array Bool} (hr : l.length ∈ Region.ready .any (l ++ [o]).toArray listed) : ∀ j, j < l.length → listed.getD j false = true := by
  intro j hj
  obtain ⟨_, o', ho', hall⟩ := mem_ready.1 hr
  rw [at_last] at ho'
  obtain rfl := Option.some.inj ho'
  unfold lastB at hL
  rw [Bool.and_eq_true, List.all_eq_true, List.all_eq_true] at hL
  have h1 := hL.2 j (List.mem_range.2 (by simp; exact hj))
  have e : (l ++ [o])[(l ++ [o]).length - 1]? = some o := by simp
  rw [e] at h1
  simp only [Option.map_some, Option.getD_some, List.any_eq_true, Bool.and_eq_true, beq_iff_eq] at h1
  obtain ⟨x, hx, hb, rfl⟩ := h1
  exact hall x (Array.mem_toList_iff.1 hx) hb
theorem ready_nil {ops : Array Oper} {listed : Array Bool} (h : ∀ j, j < ops.size → listed.getD j true = true) : Region.ready .any ops listed = [] := by
  rw [List.eq_nil_iff_forall_not_mem]
  intro j hj
  obtain ⟨h1, o, ho, _⟩ := mem_ready.1 hj
  have : j < ops.size := by
    rcases Nat.lt_or_ge j ops.size with h' | h'
    · exact h'
    · rw [Array.getElem?_eq_none h'] at ho; cases ho
  rw [h j this] at h1
  cases h1

theorem wpAny_last {Q : Exit → Act → World → Prop} (hd : o.dst = none) (hg : o.guard = none) (hL : lastB (l ++ [o]) = true) : ∀ (fuel : Nat) (listed : Array Bool) (a : Act) (w : World), C w → listed.size = (l ++ [o]).length → listed.getD l.length true = false →
    wpAnyQ P .any (l ++ [idle o]).toArray C (fun a' => ∀ w', C w' → o.wp P a' w' (fun a'' w'' => Q .normal a'' w'') Q) fuel listed a → wpAny P .any (l ++ [o]).toArray Q fuel listed a w := by
  intro fuel
  induction fuel with
  | zero =>
    intro listed a w hC hsz hu h
    exfalso
    have h1 := h.1
    rw [ready_idle] at h1
    have := all_done hL h1 l.length (by simp)
    rw [hu] at this
    cases this
  | succ fuel ih =>
    intro listed a w hC hsz hu h
    refine ⟨fun h1 => ?_, fun i hi => ?_⟩
    · exfalso
      have := all_done hL h1 l.length (by simp)
      rw [hu] at this
      cases this
    · have hq := h.2 i (by rw [ready_idle]; exact hi)
      obtain ⟨hin, oi, hoi, _⟩ := mem_ready.1 hi
      by_cases him : i = l.length
      · subst him
        have hall := others_done hL hi
        rw [at_last] at hoi
        obtain rfl := Option.some.inj hoi
        have hnil : ∀ ops : Array Oper, ops.size = (l ++ [o]).length → Region.ready .any ops (listed.setIfInBounds l.length true) = [] := fun ops hs => ready_nil fun j hj => by
          rw [hs] at hj
          simp only [List.length_append, List.length_singleton] at hj
          rw [getD_set]
          by_cases hjl : j = l.length
          · rw [if_pos ⟨hjl, by rw [hsz]; simp⟩]
          · rw [if_neg (fun h => hjl h.1)]
            have h2 := hall j (by omega)
            rw [Array.getD_eq_getD_getElem?, Array.getElem?_eq_getElem (by rw [hsz]; simp; omega)] at h2 ⊢
            simpa using h2
        unfold qOp at hq
        rw [at_last] at hq
        have hw : Region.wanted (idle o) (yielded (l ++ [idle o]).toArray a.tmps) = true := by
          unfold Region.wanted
          rw [show (idle o).guard = none from hg]
        simp only [hw, if_true] at hq
        obtain ⟨v, _, hq⟩ := hq
        rw [show a.put (idle o).dst v = a by rw [show (idle o).dst = none from hd]; rfl] at hq
        have hT : ∀ w', C w' → o.wp P a w' (fun a'' w'' => Q .normal a'' w'') Q := by
          cases fuel with
          | zero => exact hq.2
          | succ n => exact hq.1 (by exact hnil _ (by simp))
        unfold wpOp
        rw [at_last]
        have hw2 : Region.wanted o (yielded (l ++ [o]).toArray a.tmps) = true := by
          unfold Region.wanted
          rw [hg]
        simp only [hw2, if_true]
        refine .inl (Oper.wp_mono (fun a'' w'' hQ => ?_) (hT w hC))
        have hn := hnil (l ++ [o]).toArray (by simp)
        cases fuel with
        | zero => exact ⟨hn, hQ⟩
        | succ n => exact ⟨fun _ => hQ, fun j hj => by rw [hn] at hj; cases hj⟩
      · have hil : i < l.length := by
          have : i < (l ++ [o]).toArray.size := by
            rcases Nat.lt_or_ge i (l ++ [o]).toArray.size with h' | h'
            · exact h'
            · rw [Array.getElem?_eq_none h'] at hoi; cases hoi
          simp at this
          omega
        have hq2 : qOp P (l ++ [o]).toArray C i (wpAnyQ P .any (l ++ [idle o]).toArray C (fun a' => ∀ w', C w' → o.wp P a' w' (fun a'' w'' => Q .normal a'' w'') Q) fuel (listed.setIfInBounds i true)) a := by
          unfold qOp at hq ⊢
          rw [at_front hil] at hq ⊢
          rw [yielded_idle] at hq
          exact hq
        refine wpOp_of_qOp hC (fun a' w' hC' hK => ih (listed.setIfInBounds i true) a' w' hC' (by simpa using hsz) ?_ hK) hq2
        rw [getD_set, if_neg (fun h => him h.1.symm)]
        exact hu

/-- The text's order serves, the last operation waiting for all. -/
theorem region_last {id : Nat} {Q : Exit → Act → World → Prop} {a : Act} {w : World} (hm : P.follows .mixedOrders = true) (hd : o.dst = none) (hg : o.guard = none)
    (hB : Region.lexB .any (l ++ [idle o]).toArray = true) (hL : lastB (l ++ [o]) = true) (hC : C { w with drawn := w.drawn + 1 })
    (h : wpQuiet P (l ++ [o]).toArray C (fun a' => ∀ w', C w' → o.wp P a' w' (fun a'' w'' => Q .normal a'' w'') Q) l a) : (Code.region id (l ++ [o]).toArray true).wp P Q a w := by
  simp only [Region.lexB, Bool.and_eq_true] at hB
  refine wp_region_any hm ?_
  refine wpAny_last hd hg hL _ _ _ _ hC (by simp) (by simp [Array.getD_eq_getD_getElem?]) ?_
  have h2 := wpQuiet_snoc hd hg l a (wpQuiet_idle l a h)
  have := wpAnyQ_lex (C := C) (md := .any) hB.1 (l ++ [idle o]) 0 (Array.replicate (l ++ [o]).toArray.size false) a (by simp) (by simpa using hB.2) h2
  simpa using this
end

theorem wp_noQ {P : Program} {o : Oper} {a : Act} {w : World} {K : Act → World → Prop} {Q Q' : Exit → Act → World → Prop} (hQ : ∀ e a w, Q' e a w → e = .normal) (hh : o.wp P a w K Q') : o.wp P a w K Q := by
  unfold Oper.wp at *
  generalize (execOp a.eval o).run P w = r at *
  cases r with
  | ok n w' =>
    cases n with
    | enter f args =>
      simp only [Oper.upon] at hh ⊢
      refine hh.mono fun e w'' h => ?_
      cases e with
      | returned v => exact h
      | panicked c => exact absurd (hQ _ _ _ h) (by simp)
      | outgrown =>
        obtain ⟨a', w', h⟩ := h
        exact absurd (hQ _ _ _ h) (by simp)
    | _ => exact hh
  | halt x w' =>
    cases x with
    | panic v => exact absurd (hQ _ _ _ hh) (by simp)
    | _ => exact hh
/-- What is asked ahead of the last operation. -/
def ahead (P : Program) (o : Oper) (Q : Exit → Act → World → Prop) : Exit → Act → World → Prop := fun e a w => e = .normal ∧ o.wp P a w (fun a'' w'' => Q .normal a'' w'') Q
theorem wpAny_peel {P : Program} {l : List Oper} {o : Oper} {Q : Exit → Act → World → Prop} (hd : o.dst = none) (hg : o.guard = none) (hL : lastB (l ++ [o]) = true) : ∀ (fuel : Nat) (listed : Array Bool) (a : Act) (w : World), listed.size = (l ++ [o]).length → listed.getD l.length true = false →
    wpAny P .any (l ++ [idle o]).toArray (ahead P o Q) fuel listed a w → wpAny P .any (l ++ [o]).toArray Q fuel listed a w := by
  have hQ : ∀ e a w, ahead P o Q e a w → e = .normal := fun e a w h => h.1
  intro fuel
  induction fuel with
  | zero =>
    intro listed a w hsz hu h
    exfalso
    have h1 := h.1
    rw [ready_idle] at h1
    have := all_done hL h1 l.length (by simp)
    rw [hu] at this
    cases this
  | succ fuel ih =>
    intro listed a w hsz hu h
    refine ⟨fun h1 => ?_, fun i hi => ?_⟩
    · exfalso
      have := all_done hL h1 l.length (by simp)
      rw [hu] at this
      cases this
    · have hq := h.2 i (by rw [ready_idle]; exact hi)
      obtain ⟨hin, oi, hoi, _⟩ := mem_ready.1 hi
      by_cases him : i = l.length
      · subst him
        have hall := others_done hL hi
        rw [at_last] at hoi
        obtain rfl := Option.some.inj hoi
        have hnil : ∀ ops : Array Oper, ops.size = (l ++ [o]).length → Region.ready .any ops (listed.setIfInBounds l.length true) = [] := fun ops hs => ready_nil fun j hj => by
          rw [hs] at hj
          simp only [List.length_append, List.length_singleton] at hj
          rw [getD_set]
          by_cases hjl : j = l.length
          · rw [if_pos ⟨hjl, by rw [hsz]; simp⟩]
          · rw [if_neg (fun h => hjl h.1)]
            have h2 := hall j (by omega)
            rw [Array.getD_eq_getD_getElem?, Array.getElem?_eq_getElem (by rw [hsz]; simp; omega)] at h2 ⊢
            simpa using h2
        unfold wpOp at hq
        rw [at_last] at hq
        have hw : Region.wanted (idle o) (yielded (l ++ [idle o]).toArray a.tmps) = true := by
          unfold Region.wanted
          rw [show (idle o).guard = none from hg]
        simp only [hw, if_true] at hq
        have hK : wpAny P .any (l ++ [idle o]).toArray (ahead P o Q) fuel (listed.setIfInBounds l.length true) a w := by
          rcases hq with hq | ⟨_, a', w', hq⟩
          · unfold Oper.wp at hq
            rw [BigFrame.run_move (.const undef) rfl] at hq
            have e : a.put (idle o).dst (a.eval (.const undef)) = a := by
              rw [show (idle o).dst = none from hd]
              rfl
            have hq2 : wpAny P .any (l ++ [idle o]).toArray (ahead P o Q) fuel (listed.setIfInBounds l.length true) (a.put (idle o).dst (a.eval (.const undef))) w := hq
            rw [e] at hq2
            exact hq2
          · exact absurd (hQ _ _ _ hq) (by simp)
        have hT : ahead P o Q .normal a w := by
          cases fuel with
          | zero => exact hK.2
          | succ n => exact hK.1 (by exact hnil _ (by simp))
        unfold wpOp
        rw [at_last]
        have hw2 : Region.wanted o (yielded (l ++ [o]).toArray a.tmps) = true := by
          unfold Region.wanted
          rw [hg]
        simp only [hw2, if_true]
        refine .inl (Oper.wp_mono (fun a'' w'' hQ2 => ?_) hT.2)
        have hn := hnil (l ++ [o]).toArray (by simp)
        cases fuel with
        | zero => exact ⟨hn, hQ2⟩
        | succ n => exact ⟨fun _ => hQ2, fun j hj => by rw [hn] at hj; cases hj⟩
      · have hil : i < l.length := by
          have : i < (l ++ [o]).toArray.size := by
            rcases Nat.lt_or_ge i (l ++ [o]).toArray.size with h' | h'
            · exact h'
            · rw [Array.getElem?_eq_none h'] at hoi; cases hoi
          simp at this
          omega
        have hst : ∀ a' w', wpAny P .any (l ++ [idle o]).toArray (ahead P o Q) fuel (listed.setIfInBounds i true) a' w' → wpAny P .any (l ++ [o]).toArray Q fuel (listed.setIfInBounds i true) a' w' := fun a' w' hK => ih (listed.setIfInBounds i true) a' w' (by simpa using hsz) (by rw [getD_set, if_neg (fun h => him h.1.symm)]; exact hu) hK
        unfold wpOp at hq ⊢
        rw [at_front hil] at hq ⊢
        rw [yielded_idle] at hq
        split
        · rename_i ho; simp only [ho] at hq; exact hst _ _ hq
        · rename_i o' ho
          simp only [ho] at hq
          split
          · rename_i hw
            simp only [hw, if_true] at hq
            rcases hq with hq | ⟨_, a', w', hq⟩
            · exact .inl (wp_noQ hQ (Oper.wp_mono hst hq))
            · exact absurd (hQ _ _ _ hq) (by simp)
          · rename_i hw
            simp only [hw] at hq
            exact hst _ _ hq
/-- A region whose last operation waits for all the others: the others in whatever order, under a condition that they keep; then the last. -/
theorem region_held_last {P : Program} {S : World → Prop} {id : Nat} {Q : Exit → Act → World → Prop} {a : Act} {w : World} {k l : List Oper} {o : Oper} (hm : P.follows .mixedOrders = true) (hS : S w.drew) (hl : k.dropLast = l) (ho : k.getLast? = some o) (hd : o.dst = none) (hg : o.guard = none) (hL : lastB (l ++ [o]) = true)
    (h : S w.drew → wpAnyH P .any (l ++ [idle o]).toArray (ahead P o Q) S (l ++ [idle o]).toArray.size (Array.replicate (l ++ [idle o]).toArray.size false) a w.drew) : (Code.region id k.toArray true).wp P Q a w := by
  have hk : k = l ++ [o] := by
    obtain ⟨ys, rfl⟩ := List.getLast?_eq_some_iff.1 ho
    rw [← hl]
    simp
  subst hk
  refine wp_region_any hm ?_
  have h1 := wpAny_of_held _ _ _ _ (h hS)
  have h2 := wpAny_peel hd hg hL _ _ _ _ (by simp) (by simp [Array.getD_eq_getD_getElem?]) h1
  simpa using h2

/-- A world that is another but for what lies behind. -/
structure Cl (N : Nat) (W : World) where
  u : World
  h : Below N W u
theorem Cl.ne (N : Nat) (W : World) : Nonempty (Cl N W) := ⟨⟨W, Below.refl _ _⟩⟩
theorem Cl.cell {N : Nat} {W : World} (x : Cl N W) {b o : Nat} {v : Value} (h : W.cell? ⟨b, o, none⟩ = some v) (hb : b < N) : x.u.cell? ⟨b, o, none⟩ = some v := (x.h.cell (p := ⟨b, o, none⟩) hb).trans h
/-- A world behind a draw. -/
theorem drawn_below {N : Nat} {W w : World} (h : Below N W w) : Below N W { w with drawn := w.drawn + 1 } := ⟨h.os, h.tape, h.output, h.size, h.block⟩
theorem region_cl {P : Program} {N : Nat} {W : World} {id : Nat} {Q : Exit → Act → World → Prop} {a : Act} {w : World} {l : List Oper} (hm : P.follows .mixedOrders = true) (hB : Region.lexB .any l.toArray = true) (hC : Below N W w)
    (h : wpQuiet P l.toArray (fun w' => ∃ x : Cl N W, w' = x.u) (fun a' => ∀ w', (∃ x : Cl N W, w' = x.u) → Q .normal a' w') l a) : (Code.region id l.toArray true).wp P Q a w :=
  wp_region_quiet (C := fun w' => ∃ x : Cl N W, w' = x.u) hm hB ⟨⟨_, drawn_below hC⟩, rfl⟩ (by simpa using h)
theorem region_cl_last {P : Program} {N : Nat} {W : World} {id : Nat} {Q : Exit → Act → World → Prop} {a : Act} {w : World} {k l : List Oper} {o : Oper} (hm : P.follows .mixedOrders = true) (hC : Below N W w) (hl : k.dropLast = l) (ho : k.getLast? = some o) (hd : o.dst = none) (hg : o.guard = none)
    (hB : Region.lexB .any (l ++ [idle o]).toArray = true) (hL : lastB (l ++ [o]) = true)
    (h : wpQuiet P k.toArray (fun w' => ∃ x : Cl N W, w' = x.u) (fun a' => ∀ w', (∃ x : Cl N W, w' = x.u) → o.wp P a' w' (fun a'' w'' => Q .normal a'' w'') Q) l a) : (Code.region id k.toArray true).wp P Q a w := by
  have hk : k = l ++ [o] := by
    obtain ⟨ys, rfl⟩ := List.getLast?_eq_some_iff.1 ho
    rw [← hl]
    simp
  subst hk
  exact region_last (C := fun w' => ∃ x : Cl N W, w' = x.u) hm hd hg hB hL ⟨⟨_, drawn_below hC⟩, rfl⟩ h
theorem cell_new (w : World) (cs : Array Value) (t : TypeId) {i : Nat} {v : Value} (h : cs[i]? = some v) : (w.alloc (.cells cs t)).cell? ⟨w.heap.size, i, none⟩ = some v := by
  have : (w.alloc (.cells cs t)).heap[w.heap.size]? = some (.cells cs t (0, 0)) := heap_alloc_new _ _
  simp only [World.cell?, this]
  exact h
theorem cell_old {w : World} {b i : Nat} {v : Value} (o : Obj) (h : w.cell? ⟨b, i, none⟩ = some v) : (w.alloc o).cell? ⟨b, i, none⟩ = some v := by
  rw [World.cell?_alloc_lt _ _ _ (World.block_lt_of_cell? w _ h)]
  exact h
theorem cell_new1 (w : World) (o : Obj) (cs : Array Value) (t : TypeId) {i : Nat} {v : Value} (h : cs[i]? = some v) : ((w.alloc o).alloc (.cells cs t)).cell? ⟨w.heap.size + 1, i, none⟩ = some v := by
  have := cell_new (w.alloc o) cs t h
  simpa using this
theorem range_new (w : World) (cs : List Value) (t : TypeId) : (w.alloc (.cells cs.toArray t)).rangeAt w.heap.size 0 cs := fun j v hv => by
  rw [Nat.zero_add]
  exact cell_new w _ t (by simpa using hv)
/-- What is handed back lies in a variable. -/
theorem results_cell {P : Program} {fn : Func} {tmps : Array Value} {w : World} {a : Tmp} {t : TypeId} {p : Addr} {v : Value} (hf : fn.results = #[.cell a t]) (ha : tmps.getD a undef = .pointer (some p)) (hl : (loadVar t p).run P w = .ok v w) : (results fn tmps).run P w = .ok v w := by
  unfold results
  rw [hf]
  have h1 : (asAddr (tmps.getD a undef)).run P w = .ok p w := by rw [ha]; rfl
  rw [Array.getD_eq_getD_getElem?] at h1
  simp [Sem.run_bind, h1, hl, Array.mapM_eq_mapM_toList]
theorem size_alloc (w : World) (o : Obj) : (w.alloc o).heap.size = w.heap.size + 1 := by simp
theorem there_new (w : World) (cs : Array Value) (t : TypeId) {m : Nat} (h : ∀ j, j < m → (cs[j]?).isSome = true) : (w.alloc (.cells cs t)).there w.heap.size 0 m := fun j hj => by
  obtain ⟨v, hv⟩ := Option.isSome_iff_exists.1 (h j hj)
  rw [Nat.zero_add, cell_new w cs t hv]
  refine ⟨rfl, ?_⟩
  have : (w.alloc (.cells cs t)).heap[w.heap.size]? = some (.cells cs t (0, 0)) := heap_alloc_new _ _
  unfold World.frozen?
  simp only [this]
  simp
theorem range_new1 (w : World) (o : Obj) (cs : List Value) (t : TypeId) : ((w.alloc o).alloc (.cells cs.toArray t)).rangeAt (w.heap.size + 1) 0 cs := by
  have := range_new (w.alloc o) cs t
  simpa using this
/-- A load of many cells, in a class of worlds. -/
theorem quiet_load {P : Program} {C : World → Prop} {K : Act → Prop} {o : Oper} {a : Act} (ty : TypeId) (x : Operand) (ho : o.op = .load ty x) (b f : Nat) (hx : a.eval x = .pointer (some ⟨b, f, none⟩)) (cs : List Value) (d : TypeDesc)
    (hc : ∀ w, C w → w.rangeAt b f cs) (hu : P.underlying ty = some d) (hd : d.isRow = true) (hi : (P.info? ty).map (·.size) = some cs.length) (hk : K (a.put o.dst (.agg cs.toArray))) : o.quiet P a C K :=
  ⟨_, fun w hw => by
    unfold Oper.quietAt execOp
    simp only [ho, hx, Instr.loadAt, Instr.sureAddr, Sem.run_bind, Sem.run_pure, Result.andThen_ok, run_loadVar_mid w b f ty cs d (hc w hw) hu hd hi]
    exact ⟨rfl, rfl⟩, hk⟩
theorem Below.range {N : Nat} {w w' : World} (h : Below N w w') {b o : Nat} {cs : List Value} (hc : w.rangeAt b o cs) (hb : b < N) : w'.rangeAt b o cs := fun j v hv => (h.cell (p := ⟨b, o + j, none⟩) hb).trans (hc j v hv)
theorem Cl.range {N : Nat} {W : World} (x : Cl N W) {b o : Nat} {cs : List Value} (h : W.rangeAt b o cs) (hb : b < N) : x.u.rangeAt b o cs := Below.range x.h h hb
theorem cl_of {P : Program} {f : FuncId} {args : Array Value} {N : Nat} {W : World} {x : Cl N W} {v : Value}
    (h : Calls P f args x.u fun e w' => e = .returned v ∧ Below x.u.heap.size x.u w') (hN : N ≤ W.heap.size) : Calls P f args x.u fun e w'' => e = .returned v ∧ ∃ y : Cl N W, w'' = y.u :=
  h.mono fun _ w' ⟨he, hb⟩ => ⟨he, ⟨w', x.h.trans (hb.mono (Nat.le_trans hN x.h.size))⟩, rfl⟩
end Rg
end Go.Proofs.YtcinjdaanhpbjaaGreat
