/- A region whose last operation waits for all the others, for some by way of one between. Nothing of the program. -/
import Derived.Test.YtcinjdaanhpbjaaGreatRgl
namespace Go.Proofs.YtcinjdaanhpbjaaGreat
open Go.RowKit
namespace Rg

/-- Operation a waits for operation b. -/
def waits (ops : List Oper) (a b : Nat) : Bool := ((ops[a]?).map (·.after.toList.any fun e => Region.binds .any e && e.on == b)).getD false
/-- Each operation waits for earlier ones alone, the last for all, for some by way of one between. -/
def lastB2 (ops : List Oper) : Bool :=
  ((List.range ops.length).all fun i => ((ops[i]?).map (·.after.all fun e => decide (e.on < i))).getD true) &&
  ((List.range (ops.length - 1)).all fun i => waits ops (ops.length - 1) i || (List.range (ops.length - 1)).any fun j => waits ops (ops.length - 1) j && waits ops j i)
/-- What is done has all done that it waits for. -/
def Closed (ops : Array Oper) (listed : Array Bool) : Prop := ∀ i oi, ops[i]? = some oi → listed.getD i false = true → ∀ e ∈ oi.after, Region.binds .any e = true → listed.getD e.on false = true
theorem Closed.start (ops : Array Oper) (n : Nat) : Closed ops (Array.replicate n false) := fun i oi _ h => by
  simp only [Array.getD_eq_getD_getElem?, Array.getElem?_replicate] at h
  split at h <;> simp at h
theorem getD_set_f (listed : Array Bool) (i j : Nat) (h : listed.getD j false = true) : (listed.setIfInBounds i true).getD j false = true := by
  rw [getD_set]
  split
  · rfl
  · exact h
theorem Closed.step {ops : Array Oper} {listed : Array Bool} {i : Nat} (h : Closed ops listed) (hi : i ∈ Region.ready .any ops listed) : Closed ops (listed.setIfInBounds i true) := fun k ok hk hd e he hb => by
  obtain ⟨_, oi, hoi, hall⟩ := mem_ready.1 hi
  refine getD_set_f _ _ _ ?_
  by_cases hki : k = i
  · subst hki
    rw [hoi] at hk
    obtain rfl := Option.some.inj hk
    exact hall e he hb
  · rw [getD_set, if_neg (fun h => hki h.1)] at hd
    exact h k ok hk hd e he hb
theorem waits_spec {ops : List Oper} {a b : Nat} (h : waits ops a b = true) : ∃ oa, ops[a]? = some oa ∧ ∃ e ∈ oa.after, Region.binds .any e = true ∧ e.on = b := by
  unfold waits at h
  cases hq : ops[a]? with
  | none => rw [hq] at h; simp at h
  | some oa =>
    rw [hq] at h
    simp only [Option.map_some, Option.getD_some, List.any_eq_true, Bool.and_eq_true, beq_iff_eq] at h
    obtain ⟨x, hx, hb, rfl⟩ := h
    exact ⟨oa, rfl, x, Array.mem_toList_iff.1 hx, hb, rfl⟩
section
variable {P : Program} {C : World → Prop} {l : List Oper} {o : Oper}
/-- Where nothing is ready all is done. -/
theorem all_done2 {ops : List Oper} (hL : lastB2 ops = true) {listed : Array Bool} (hr : Region.ready .any ops.toArray listed = []) : ∀ j, j < ops.length → listed.getD j true = true := by
  intro j
  induction j using Nat.strongRecOn with
  | _ j ih =>
    intro hj
    rcases h : listed.getD j true with _ | _
    · exfalso
      have hm : j ∈ Region.ready .any ops.toArray listed := by
        rw [mem_ready]
        refine ⟨h, ops[j], by simp [hj], fun e he hb => ?_⟩
        unfold lastB2 at hL
        rw [Bool.and_eq_true, List.all_eq_true] at hL
        have h1 := hL.1 j (List.mem_range.2 hj)
        rw [List.getElem?_eq_getElem hj] at h1
        simp only [Option.map_some, Option.getD_some, Array.all_eq_true_iff_forall_mem, decide_eq_true_eq] at h1
        have h2 := h1 e he
        have h3 := ih e.on h2 (by omega)
        have hs : e.on < listed.size := by
          rcases Nat.lt_or_ge e.on listed.size with h' | h'
          · exact h'
          · exfalso
            have : listed.size ≤ j := by omega
            rw [Array.getD_eq_getD_getElem?, Array.getElem?_eq_none this] at h
            simp at h
        rw [Array.getD_eq_getD_getElem?, Array.getElem?_eq_getElem hs] at h3 ⊢
        simpa using h3
      rw [hr] at hm
      cases hm
    · rfl
theorem others_done2 (hL : lastB2 (l ++ [o]) = true) {listed : Array Bool} (hcl : Closed (l ++ [o]).toArray listed) (hr : l.length ∈ Region.ready .any (l ++ [o]).toArray listed) : ∀ j, j < l.length → listed.getD j false = true := by
  intro j hj
  obtain ⟨_, o', ho', hall⟩ := mem_ready.1 hr
  rw [at_last] at ho'
  obtain rfl := Option.some.inj ho'
  have direct : ∀ k, waits (l ++ [o]) ((l ++ [o]).length - 1) k = true → listed.getD k false = true := fun k hk => by
    obtain ⟨oa, h1, e, he, hb, rfl⟩ := waits_spec hk
    have h2 : (l ++ [o])[(l ++ [o]).length - 1]? = some o := by simp
    rw [h2] at h1
    obtain rfl := Option.some.inj h1
    exact hall e he hb
  unfold lastB2 at hL
  rw [Bool.and_eq_true, List.all_eq_true, List.all_eq_true] at hL
  have h1 := hL.2 j (List.mem_range.2 (by simp; exact hj))
  rcases Bool.or_eq_true _ _ ▸ h1 with h1 | h1
  · exact direct j h1
  · simp only [List.any_eq_true, Bool.and_eq_true] at h1
    obtain ⟨k, _, h2, h3⟩ := h1
    obtain ⟨oa, h4, e, he, hb, rfl⟩ := waits_spec h3
    exact hcl k oa (by simpa using h4) (direct k h2) e he hb
end
theorem wpAny_peel2 {P : Program} {l : List Oper} {o : Oper} {Q : Exit → Act → World → Prop} (hd : o.dst = none) (hg : o.guard = none) (hL : lastB2 (l ++ [o]) = true) : ∀ (fuel : Nat) (listed : Array Bool) (a : Act) (w : World), listed.size = (l ++ [o]).length → listed.getD l.length true = false → Closed (l ++ [o]).toArray listed →
    wpAny P .any (l ++ [idle o]).toArray (ahead P o Q) fuel listed a w → wpAny P .any (l ++ [o]).toArray Q fuel listed a w := by
  have hQ : ∀ e a w, ahead P o Q e a w → e = .normal := fun e a w h => h.1
  intro fuel
  induction fuel with
  | zero =>
    intro listed a w hsz hu hcl h
    exfalso
    have h1 := h.1
    rw [ready_idle] at h1
    have := all_done2 hL h1 l.length (by simp)
    rw [hu] at this
    cases this
  | succ fuel ih =>
    intro listed a w hsz hu hcl h
    refine ⟨fun h1 => ?_, fun i hi => ?_⟩
    · exfalso
      have := all_done2 hL h1 l.length (by simp)
      rw [hu] at this
      cases this
    · have hq := h.2 i (by rw [ready_idle]; exact hi)
      obtain ⟨hin, oi, hoi, _⟩ := mem_ready.1 hi
      by_cases him : i = l.length
      · subst him
        have hall := others_done2 hL hcl hi
        rw [at_last] at hoi
        obtain rfl := Option.some.inj hoi
        have hnil : ∀ ops : Array Oper, ops.size = (l ++ [o]).length → Region.ready .any ops (listed.setIfInBounds l.length true) = [] := fun ops hs => ready_nil fun j hj => by
          rw [hs] at hj
          simp only [List.length_append, List.length_singleton] at hj
          rw [getD_set]
          by_cases hjl : j = l.length
          · rw [if_pos ⟨hjl, by rw [hsz]; simp⟩]
          · rw [if_neg (fun h => hjl h.1)]
            have h2 := hall j (by omega)
            rw [Array.getD_eq_getD_getElem?, Array.getElem?_eq_getElem (by rw [hsz]; simp; omega)] at h2 ⊢
            simpa using h2
        unfold wpOp at hq
        rw [at_last] at hq
        have hw : Region.wanted (idle o) (yielded (l ++ [idle o]).toArray a.tmps) = true := by
          unfold Region.wanted
          rw [show (idle o).guard = none from hg]
        simp only [hw, if_true] at hq
        have hK : wpAny P .any (l ++ [idle o]).toArray (ahead P o Q) fuel (listed.setIfInBounds l.length true) a w := by
          rcases hq with hq | ⟨_, a', w', hq⟩
          · unfold Oper.wp at hq
            rw [BigFrame.run_move (.const undef) rfl] at hq
            have e : a.put (idle o).dst (a.eval (.const undef)) = a := by
              rw [show (idle o).dst = none from hd]
              rfl
            have hq2 : wpAny P .any (l ++ [idle o]).toArray (ahead P o Q) fuel (listed.setIfInBounds l.length true) (a.put (idle o).dst (a.eval (.const undef))) w := hq
            rw [e] at hq2
            exact hq2
          · exact absurd (hQ _ _ _ hq) (by simp)
        have hT : ahead P o Q .normal a w := by
          cases fuel with
          | zero => exact hK.2
          | succ n => exact hK.1 (by exact hnil _ (by simp))
        unfold wpOp
        rw [at_last]
        have hw2 : Region.wanted o (yielded (l ++ [o]).toArray a.tmps) = true := by
          unfold Region.wanted
          rw [hg]
        simp only [hw2, if_true]
        refine .inl (Oper.wp_mono (fun a'' w'' hQ2 => ?_) hT.2)
        have hn := hnil (l ++ [o]).toArray (by simp)
        cases fuel with
        | zero => exact ⟨hn, hQ2⟩
        | succ n => exact ⟨fun _ => hQ2, fun j hj => by rw [hn] at hj; cases hj⟩
      · have hil : i < l.length := by
          have : i < (l ++ [o]).toArray.size := by
            rcases Nat.lt_or_ge i (l ++ [o]).toArray.size with h' | h'
            · exact h'
            · rw [Array.getElem?_eq_none h'] at hoi; cases hoi
          simp at this
          omega
        have hst : ∀ a' w', wpAny P .any (l ++ [idle o]).toArray (ahead P o Q) fuel (listed.setIfInBounds i true) a' w' → wpAny P .any (l ++ [o]).toArray Q fuel (listed.setIfInBounds i true) a' w' := fun a' w' hK => ih (listed.setIfInBounds i true) a' w' (by simpa using hsz) (by rw [getD_set, if_neg (fun h => him h.1.symm)]; exact hu) (hcl.step hi) hK
        unfold wpOp at hq ⊢
        rw [at_front hil] at hq ⊢
        rw [yielded_idle] at hq
        split
        · rename_i ho; simp only [ho] at hq; exact hst _ _ hq
        · rename_i o' ho
          simp only [ho] at hq
          split
          · rename_i hw
            simp only [hw, if_true] at hq
            rcases hq with hq | ⟨_, a', w', hq⟩
            · exact .inl (wp_noQ hQ (Oper.wp_mono hst hq))
            · exact absurd (hQ _ _ _ hq) (by simp)
          · rename_i hw
            simp only [hw] at hq
            exact hst _ _ hq
/-- A region whose last operation waits for all the others: the others in whatever order, under a condition that they keep; then the last. -/
theorem region_held_last2 {P : Program} {S : World → Prop} {id : Nat} {Q : Exit → Act → World → Prop} {a : Act} {w : World} {k l : List Oper} {o : Oper} (hm : P.follows .mixedOrders = true) (hS : S w.drew) (hl : k.dropLast = l) (ho : k.getLast? = some o) (hd : o.dst = none) (hg : o.guard = none) (hL : lastB2 (l ++ [o]) = true)
    (h : S w.drew → wpAnyH P .any (l ++ [idle o]).toArray (ahead P o Q) S (l ++ [idle o]).toArray.size (Array.replicate (l ++ [idle o]).toArray.size false) a w.drew) : (Code.region id k.toArray true).wp P Q a w := by
  have hk : k = l ++ [o] := by
    obtain ⟨ys, rfl⟩ := List.getLast?_eq_some_iff.1 ho
    rw [← hl]
    simp
  subst hk
  refine wp_region_any hm ?_
  have h1 := wpAny_of_held _ _ _ _ (h hS)
  have h2 := wpAny_peel2 hd hg hL _ _ _ _ (by simp) (by simp [Array.getD_eq_getD_getElem?]) (Closed.start _ _) h1
  simpa using h2
end Rg
end Go.Proofs.YtcinjdaanhpbjaaGreat
