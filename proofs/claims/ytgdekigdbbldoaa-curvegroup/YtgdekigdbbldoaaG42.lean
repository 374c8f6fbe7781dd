/- A frame told by what a few of its slots hold: the steps of a walk over such frames. CurveGroup: the walk, over letters. -/
import Derived.Test.YtgdekigdbbldoaaG41
namespace Go.Proofs.Ytgdekigdbbldoaa
open Go.RowKit
namespace Fd
open Rg Cv Bx
namespace Fk

def Kat (a : Act) : List (Nat × Value) → Prop
  | [] => True
  | p :: L => a.tmps[p.1]? = some p.2 ∧ Kat a L
/-- The frame has n slots; some of them hold these values. -/
structure Kn (n : Nat) (a : Act) (L : List (Nat × Value)) : Prop where
  sz : a.tmps.size = n
  df : a.defers = []
  ka : Kat a L
def look : List (Nat × Value) → Nat → Option Value
  | [], _ => none
  | p :: L, i => match Nat.beq p.1 i with
    | true => some p.2
    | false => look L i
def sel : List Nat → List (Nat × Value) → List (Nat × Value)
  | [], _ => []
  | k :: ks, L => match look L k with
    | some v => (k, v) :: sel ks L
    | none => sel ks L

theorem Kat.get {a : Act} {i : Nat} {v : Value} : ∀ {L : List (Nat × Value)}, Kat a L → look L i = some v → a.tmps[i]? = some v
  | [], _, hl => by cases hl
  | p :: L, h, hl => by
    unfold look at hl
    cases e : Nat.beq p.1 i with
    | true =>
      rw [e] at hl
      cases hl
      rw [← Nat.eq_of_beq_eq_true e]
      exact h.1
    | false =>
      rw [e] at hl
      exact Kat.get h.2 hl
theorem Kat.put {a : Act} (k : Nat) (v : Value) : ∀ {L : List (Nat × Value)}, Kat a L → look L k = none → Kat (a.put (some k) v) L
  | [], _, _ => trivial
  | p :: L, h, hf => by
    unfold look at hf
    cases e : Nat.beq p.1 k with
    | true =>
      rw [e] at hf
      cases hf
    | false =>
      rw [e] at hf
      refine ⟨?_, Kat.put k v h.2 hf⟩
      have hne : p.1 ≠ k := Nat.ne_of_beq_eq_false e
      show (a.tmps.setIfInBounds k v)[p.1]? = some p.2
      rw [Array.getElem?_setIfInBounds_ne (Ne.symm hne)]
      exact h.1
theorem Kat.sel {a : Act} {L : List (Nat × Value)} (h : Kat a L) : ∀ ks, Kat a (sel ks L)
  | [] => trivial
  | k :: ks => by
    unfold Fk.sel
    cases e : look L k with
    | none => exact Kat.sel h ks
    | some v => exact ⟨h.get e, Kat.sel h ks⟩

section
variable {n : Nat} {a : Act} {L : List (Nat × Value)}
theorem Kn.get (h : Kn n a L) {i : Nat} {v : Value} (hl : look L i = some v) : a.eval (.tmp i) = v := by
  show a.tmps.getD i undef = v
  rw [Array.getD_eq_getD_getElem?, h.ka.get hl]
  rfl
theorem Kn.put (h : Kn n a L) {k : Nat} (v : Value) (hk : k < n) (hf : look L k = none) : Kn n (a.put (some k) v) ((k, v) :: L) := by
  refine ⟨?_, h.df, ?_, h.ka.put k v hf⟩
  · show (a.tmps.setIfInBounds k v).size = n
    rw [Array.size_setIfInBounds, h.sz]
  · show (a.tmps.setIfInBounds k v)[k]? = some v
    rw [Array.getElem?_setIfInBounds_self_of_lt (by rw [h.sz]; exact hk)]
theorem Kn.sel (h : Kn n a L) (ks : List Nat) : Kn n a (sel ks L) := ⟨h.sz, h.df, h.ka.sel ks⟩
end

section
variable {P : Program} {ops : Array Oper} {rest : List Oper} {o : Oper} {a : Act} {w w' : World} {Q : Exit → Act → World → Prop} {n k i j : Nat} {L : List (Nat × Value)} {v : Value} {K : Act → World → Prop}
theorem kn_gen {c : Code} (h : Kn n a L) (hr : ∀ a', Kn n a' L → c.wp P Q a' w) : c.wp P Q a w := hr _ h
theorem want_none (hg : o.guard = none) : Region.wanted o (yielded ops a.tmps) = true := by
  unfold Region.wanted
  rw [hg]
theorem want_some {b : Bool} {d : Nat} (h : Kn n a L) (hg : o.guard = some (j, b)) (hj : (ops[j]?.bind fun x => x.dst) = some d) (hl : look L d = some (.bool b)) : Region.wanted o (yielded ops a.tmps) = true := by
  have e : yielded ops a.tmps j = some b := by
    unfold yielded
    rw [hj]
    show (match a.tmps[d]? with | some (.bool b) => some b | _ => none) = some b
    rw [h.ka.get hl]
  unfold Region.wanted
  rw [hg]
  show (yielded ops a.tmps j == some b) = true
  rw [e]
  cases b <;> rfl
/-- An operation that yields a value. -/
theorem kop_val (h : Kn n a L) (hw : Region.wanted o (yielded ops a.tmps) = true) (hx : (execOp a.eval o).run P w = .ok (.value v) w') (hd : o.dst = some k) (hk : k < n) (hf : look L k = none) (hr : ∀ a', Kn n a' ((k, v) :: L) → K a' w') :
    if Region.wanted o (yielded ops a.tmps) = true then Oper.wp P o a w K Q else K (a.put o.dst undef) w := by
  rw [if_pos hw]
  unfold Oper.wp
  rw [hx]
  show K (a.put o.dst v) w'
  rw [hd]
  exact hr _ (h.put v hk hf)
/-- A call. -/
theorem kop_enter {f : FuncId} {args : Array Value} {R : Value → World → Prop} (h : Kn n a L) (hw : Region.wanted o (yielded ops a.tmps) = true) (hx : (execOp a.eval o).run P w = .ok (.enter f args) w) (hd : o.dst = some k) (hk : k < n) (hf : look L k = none) (hc : Calls P f args w fun e w' => ∃ v, e = .returned v ∧ R v w') (hr : ∀ a' v w', Kn n a' ((k, v) :: L) → R v w' → K a' w') :
    if Region.wanted o (yielded ops a.tmps) = true then Oper.wp P o a w K Q else K (a.put o.dst undef) w := by
  rw [if_pos hw]
  unfold Oper.wp
  rw [hx]
  refine hc.mono ?_
  rintro e w' ⟨v, rfl, hR⟩
  show K (a.put o.dst v) w'
  rw [hd]
  exact hr _ v w' (h.put v hk hf) hR
/-- A store. -/
theorem kop_store (h : Kn n a L) (hw : Region.wanted o (yielded ops a.tmps) = true) (ty : TypeId) (x y : Nat) (ho : o.op = .store ty (.tmp x) (.tmp y)) (hd : o.dst = none) (b : Nat) (R : List Value) (hx : look L x = some (.pointer (some ⟨b, 0, none⟩))) (hy : look L y = some (.agg R.toArray))
    (ht : w.there b 0 R.toArray.size) (hi : (P.info? ty).map (·.size) = some R.toArray.size) (hc : (R.toArray.all fun x => x.oneCell') = true) (hr : ∀ a', Kn n a' L → K a' (w.setCells b 0 R)) :
    if Region.wanted o (yielded ops a.tmps) = true then Oper.wp P o a w K Q else K (a.put o.dst undef) w := by
  rw [if_pos hw]
  refine wp_store_mid ty (.tmp x) (.tmp y) ho b 0 R.toArray (h.get hx) (h.get hy) ht hi hc ?_
  rw [hd]
  exact hr _ h
theorem kn_step (h : ∀ K : Act → World → Prop, (∀ a w, wpList P ops Q rest a w → K a w) → if Region.wanted o (yielded ops a.tmps) = true then Oper.wp P o a w K Q else K (a.put o.dst undef) w) : wpList P ops Q (o :: rest) a w := wpList_step h
theorem kn_val (h : Kn n a L) (hw : Region.wanted o (yielded ops a.tmps) = true) (hx : (execOp a.eval o).run P w = .ok (.value v) w') (hd : o.dst = some k) (hk : k < n) (hf : look L k = none) (hr : ∀ a', Kn n a' ((k, v) :: L) → wpList P ops Q rest a' w') : wpList P ops Q (o :: rest) a w :=
  wpList_step fun _ hK => kop_val h hw hx hd hk hf fun a' h' => hK _ _ (hr a' h')
theorem kn_enter {f : FuncId} {args : Array Value} {R : Value → World → Prop} (h : Kn n a L) (hw : Region.wanted o (yielded ops a.tmps) = true) (hx : (execOp a.eval o).run P w = .ok (.enter f args) w) (hd : o.dst = some k) (hk : k < n) (hf : look L k = none) (hc : Calls P f args w fun e w' => ∃ v, e = .returned v ∧ R v w') (hr : ∀ a' v w', Kn n a' ((k, v) :: L) → R v w' → wpList P ops Q rest a' w') : wpList P ops Q (o :: rest) a w :=
  wpList_step fun _ hK => kop_enter h hw hx hd hk hf hc fun a' v w' h' hR => hK _ _ (hr a' v w' h' hR)
theorem kn_store (h : Kn n a L) (hw : Region.wanted o (yielded ops a.tmps) = true) (ty : TypeId) (x y : Nat) (ho : o.op = .store ty (.tmp x) (.tmp y)) (hd : o.dst = none) (b : Nat) (R : List Value) (hx : look L x = some (.pointer (some ⟨b, 0, none⟩))) (hy : look L y = some (.agg R.toArray))
    (ht : w.there b 0 R.toArray.size) (hi : (P.info? ty).map (·.size) = some R.toArray.size) (hc : (R.toArray.all fun x => x.oneCell') = true) (hr : ∀ a', Kn n a' L → wpList P ops Q rest a' (w.setCells b 0 R)) : wpList P ops Q (o :: rest) a w :=
  wpList_step fun _ hK => kop_store h hw ty x y ho hd b R hx hy ht hi hc fun a' h' => hK _ _ (hr a' h')
theorem x_move (h : Kn n a L) (ho : o.op = .move (.tmp i)) (hl : look L i = some v) : (execOp a.eval o).run P w = .ok (.value v) w := by
  unfold execOp
  simp only [ho, h.get hl]
  rfl
theorem x_assign (h : Kn n a L) (ho : o.op = .assign (.tmp i)) (hl : look L i = some v) : (execOp a.eval o).run P w = .ok (.value v) w := by
  unfold execOp
  simp only [ho, h.get hl]
  rfl
theorem x_const (ho : o.op = .assign (.const v)) : (execOp a.eval o).run P w = .ok (.value v) w := by
  unfold execOp
  simp only [ho]
  rfl
theorem x_load (h : Kn n a L) (ty : TypeId) (ho : o.op = .load ty (.tmp i)) (b p : Nat) (hl : look L i = some (.pointer (some ⟨b, p, none⟩))) (R : List Value) (d : TypeDesc) (hc : w.rangeAt b p R) (hu : P.underlying ty = some d) (hd : d.isRow = true) (hi : (P.info? ty).map (·.size) = some R.length) :
    (execOp a.eval o).run P w = .ok (.value (.agg R.toArray)) w := by
  rcases (yieldsIf_load_mid (P := P) (ops := #[]) (S := fun x => x = w) (op := { o with guard := none }) (a := a) rfl ty (.tmp i) ho b p (h.get hl) R d (fun x hx => hx ▸ hc) hu hd hi) with h1 | h1
  · exact h1.2 w rfl
  · cases h1.1
end
section
variable {o : Oper} {a : Act} {w : World} {n i j c : Nat} {L : List (Nat × Value)} {v : Value}
theorem x_ex0 {v2 : Value} (h : Kn n a L) (ho : o.op = .extract (.tmp i) 0) (hl : look L i = some (.tuple #[v, v2])) : (execOp a.eval o).run Try.prog w = .ok (.value v) w := by
  have e := h.ka.get hl
  obtain ⟨dst, op, type, pos, after, guard⟩ := o
  replace ho : op = _ := ho
  subst ho
  go_simp
theorem x_ex1 {v2 : Value} (h : Kn n a L) (ho : o.op = .extract (.tmp i) 1) (hl : look L i = some (.tuple #[v2, v])) : (execOp a.eval o).run Try.prog w = .ok (.value v) w := by
  have e := h.ka.get hl
  obtain ⟨dst, op, type, pos, after, guard⟩ := o
  replace ho : op = _ := ho
  subst ho
  go_simp
theorem x_not {b : Bool} (h : Kn n a L) (t : TypeId) (ho : o.op = .unOp .not t (.tmp i)) (hl : look L i = some (.bool b)) : (execOp a.eval o).run Try.prog w = .ok (.value (.bool !b)) w := by
  have e := h.ka.get hl
  obtain ⟨dst, op, type, pos, after, guard⟩ := o
  replace ho : op = _ := ho
  subst ho
  go_simp
theorem x_neqnil (h : Kn n a L) (ho : o.op = .binOp .neq 32 (.tmp i) (.const .nilIface) 32) (hl : look L i = some .nilIface) : (execOp a.eval o).run Try.prog w = .ok (.value (.bool false)) w := by
  have e := h.ka.get hl
  have en := eq_nil
  obtain ⟨dst, op, type, pos, after, guard⟩ := o
  replace ho : op = _ := ho
  subst ho
  go_simp
theorem x_eqlnil (h : Kn n a L) (ho : o.op = .binOp .eql 32 (.tmp i) (.const .nilIface) 32) (hl : look L i = some .nilIface) : (execOp a.eval o).run Try.prog w = .ok (.value (.bool true)) w := by
  have e := h.ka.get hl
  have en := eq_nil
  obtain ⟨dst, op, type, pos, after, guard⟩ := o
  replace ho : op = _ := ho
  subst ho
  go_simp
theorem x_neq43 {A : List Value} (q : ∀ W : World, (Op.equalIn 10000 43 (.agg A.toArray) (.agg A.toArray)).run Try.prog W = .ok true W) (h : Kn n a L) (ho : o.op = .binOp .neq 43 (.tmp i) (.tmp j) 43) (hl : look L i = some (.agg A.toArray)) (hm : look L j = some (.agg A.toArray)) : (execOp a.eval o).run Try.prog w = .ok (.value (.bool false)) w := by
  have e := h.ka.get hl
  have e2 := h.ka.get hm
  obtain ⟨dst, op, type, pos, after, guard⟩ := o
  replace ho : op = _ := ho
  subst ho
  go_simp
theorem x_eql43 {A : List Value} (q : ∀ W : World, (Op.equalIn 10000 43 (.agg A.toArray) (.agg A.toArray)).run Try.prog W = .ok true W) (h : Kn n a L) (ho : o.op = .binOp .eql 43 (.tmp i) (.tmp j) 43) (hl : look L i = some (.agg A.toArray)) (hm : look L j = some (.agg A.toArray)) : (execOp a.eval o).run Try.prog w = .ok (.value (.bool true)) w := by
  have e := h.ka.get hl
  have e2 := h.ka.get hm
  obtain ⟨dst, op, type, pos, after, guard⟩ := o
  replace ho : op = _ := ho
  subst ho
  go_simp
theorem x_neq22 {A : List Value} (q : ∀ W : World, (Op.equalIn 10000 22 (.agg A.toArray) (.agg A.toArray)).run Try.prog W = .ok true W) (h : Kn n a L) (ho : o.op = .binOp .neq 22 (.tmp i) (.tmp j) 22) (hl : look L i = some (.agg A.toArray)) (hm : look L j = some (.agg A.toArray)) : (execOp a.eval o).run Try.prog w = .ok (.value (.bool false)) w := by
  have e := h.ka.get hl
  have e2 := h.ka.get hm
  obtain ⟨dst, op, type, pos, after, guard⟩ := o
  replace ho : op = _ := ho
  subst ho
  go_simp
theorem x_or {b : Bool} (h : Kn n a L) (ho : o.op = .pick (.tmp c) (.const (.bool true)) (.tmp i)) (hl : look L c = some (.bool false)) (hm : look L i = some (.bool b)) : (execOp a.eval o).run Try.prog w = .ok (.value (.bool b)) w := by
  have e := h.ka.get hl
  have e2 := h.ka.get hm
  obtain ⟨dst, op, type, pos, after, guard⟩ := o
  replace ho : op = _ := ho
  subst ho
  go_simp
theorem x_and {b : Bool} (h : Kn n a L) (ho : o.op = .pick (.tmp c) (.tmp i) (.const (.bool false))) (hl : look L c = some (.bool true)) (hm : look L i = some (.bool b)) : (execOp a.eval o).run Try.prog w = .ok (.value (.bool b)) w := by
  have e := h.ka.get hl
  have e2 := h.ka.get hm
  obtain ⟨dst, op, type, pos, after, guard⟩ := o
  replace ho : op = _ := ho
  subst ho
  go_simp
theorem x_alloc43 (ho : o.op = .alloc 43) : (execOp a.eval o).run Try.prog w = .ok (.value (.pointer (some ⟨w.heap.size, 0, none⟩))) (w.alloc (.cells z43 43)) := by
  have hz43 := zero43
  obtain ⟨dst, op, type, pos, after, guard⟩ := o
  replace ho : op = _ := ho
  subst ho
  go_simp
theorem x_alloc22 (ho : o.op = .alloc 22) : (execOp a.eval o).run Try.prog w = .ok (.value (.pointer (some ⟨w.heap.size, 0, none⟩))) (w.alloc (.cells z22 22)) := by
  have hz22 := zero22
  obtain ⟨dst, op, type, pos, after, guard⟩ := o
  replace ho : op = _ := ho
  subst ho
  go_simp
theorem x_box22 {A : List Value} (h : Kn n a L) (ho : o.op = .box 22 (.tmp i)) (hl : look L i = some (.agg A.toArray)) : (execOp a.eval o).run Try.prog w = .ok (.value (.pointer (some ⟨w.heap.size, 0, none⟩))) (w.alloc (.cells A.toArray 22)) := by
  have e := h.ka.get hl
  obtain ⟨dst, op, type, pos, after, guard⟩ := o
  replace ho : op = _ := ho
  subst ho
  go_simp
end
section
variable {o : Oper} {a : Act} {w : World} {n i j k : Nat} {L : List (Nat × Value)} {v v2 v3 : Value} {F : FuncId} {ts : Array TypeId}
/-- The function is one of the program's own. -/
def Own (F : FuncId) : Prop := ∀ (args : Array Value) (w : World), Sem.run Try.prog (callFunc F args) w = .ok (.enter F args) w
theorem x_call0 (hF : Own F) (ho : o.op = .call { callee := .value (.func F), args := #[], argTypes := ts }) : (execOp a.eval o).run Try.prog w = .ok (.enter F #[]) w := by
  have hF := hF #[] w
  obtain ⟨dst, op, type, pos, after, guard⟩ := o
  replace ho : op = _ := ho
  subst ho
  go_simp
theorem x_callc (hF : Own F) (ho : o.op = .call { callee := .value (.func F), args := #[.const v], argTypes := ts }) : (execOp a.eval o).run Try.prog w = .ok (.enter F #[v]) w := by
  have hF := hF #[v] w
  obtain ⟨dst, op, type, pos, after, guard⟩ := o
  replace ho : op = _ := ho
  subst ho
  go_simp
theorem x_call1 (hF : Own F) (h : Kn n a L) (ho : o.op = .call { callee := .value (.func F), args := #[.tmp i], argTypes := ts }) (hl : look L i = some v) : (execOp a.eval o).run Try.prog w = .ok (.enter F #[v]) w := by
  have hF := hF #[v] w
  have e := h.ka.get hl
  obtain ⟨dst, op, type, pos, after, guard⟩ := o
  replace ho : op = _ := ho
  subst ho
  go_simp
theorem x_call2 (hF : Own F) (h : Kn n a L) (ho : o.op = .call { callee := .value (.func F), args := #[.tmp i, .tmp j], argTypes := ts }) (hl : look L i = some v) (hm : look L j = some v2) : (execOp a.eval o).run Try.prog w = .ok (.enter F #[v, v2]) w := by
  have hF := hF #[v, v2] w
  have e := h.ka.get hl
  have e2 := h.ka.get hm
  obtain ⟨dst, op, type, pos, after, guard⟩ := o
  replace ho : op = _ := ho
  subst ho
  go_simp
theorem x_call3 (hF : Own F) (h : Kn n a L) (ho : o.op = .call { callee := .value (.func F), args := #[.tmp i, .tmp j, .tmp k], argTypes := ts }) (hl : look L i = some v) (hm : look L j = some v2) (hn : look L k = some v3) : (execOp a.eval o).run Try.prog w = .ok (.enter F #[v, v2, v3]) w := by
  have hF := hF #[v, v2, v3] w
  have e := h.ka.get hl
  have e2 := h.ka.get hm
  have e3 := h.ka.get hn
  obtain ⟨dst, op, type, pos, after, guard⟩ := o
  replace ho : op = _ := ho
  subst ho
  go_simp
theorem own16 : Own 16 := fun args w => by go_simp
theorem own28 : Own 28 := fun args w => by go_simp
theorem own30 : Own 30 := fun args w => by go_simp
theorem own33 : Own 33 := fun args w => by go_simp
theorem own35 : Own 35 := fun args w => by go_simp
theorem own41 : Own 41 := fun args w => by go_simp
theorem own43 : Own 43 := fun args w => by go_simp
theorem own45 : Own 45 := fun args w => by go_simp
theorem own46 : Own 46 := fun args w => by go_simp
theorem own50 : Own 50 := fun args w => by go_simp
theorem own53 : Own 53 := fun args w => by go_simp
end
section
variable {P : Program} {ops : Array Oper} {rest : List Oper} {o o2 : Oper} {a : Act} {w w' : World} {Q : Exit → Act → World → Prop} {n k i j T S : Nat} {L : List (Nat × Value)} {v : Value} {K : Act → World → Prop} {R : List Value}
/-- A call whose answer is known. -/
theorem kop_call {f : FuncId} {args : Array Value} {B : World → Prop} (h : Kn n a L) (hw : Region.wanted o (yielded ops a.tmps) = true) (hx : (execOp a.eval o).run P w = .ok (.enter f args) w) (hd : o.dst = some k) (hk : k < n) (hf : look L k = none) (hc : Calls P f args w fun e w' => e = .returned v ∧ B w') (hr : ∀ a' w', Kn n a' ((k, v) :: L) → B w' → K a' w') :
    if Region.wanted o (yielded ops a.tmps) = true then Oper.wp P o a w K Q else K (a.put o.dst undef) w :=
  kop_enter (R := fun u w' => u = v ∧ B w') h hw hx hd hk hf (hc.mono fun _ _ ⟨h1, h2⟩ => ⟨v, h1, rfl, h2⟩) fun a' _ w' h' ⟨e, hB⟩ => hr a' w' (e ▸ h') hB
theorem kn_call {f : FuncId} {args : Array Value} {B : World → Prop} (h : Kn n a L) (hw : Region.wanted o (yielded ops a.tmps) = true) (hx : (execOp a.eval o).run P w = .ok (.enter f args) w) (hd : o.dst = some k) (hk : k < n) (hf : look L k = none) (hc : Calls P f args w fun e w' => e = .returned v ∧ B w') (hr : ∀ a' w', Kn n a' ((k, v) :: L) → B w' → wpList P ops Q rest a' w') : wpList P ops Q (o :: rest) a w :=
  wpList_step fun _ hK => kop_call h hw hx hd hk hf hc fun a' w' h' hB => hK _ _ (hr a' w' h' hB)
theorem knh_take {md : Region.Mode} {Sw : World → Prop} {fuel : Nat} {listed : Array Bool} (i : Nat) (h : Kn n a L) (ho : ops[i]? = some o) (c1 : Region.noSelect ops = true) (c2 : Region.free md ops listed i = true) (c3 : (Region.ready md ops listed).contains i = true) (hp : ∀ (c : List PanicEntry) (a : Act) (w : World), Q (.panic c) (a.put o.dst v) w → Q (.panic c) a w)
    (hw : Region.wanted o (yielded ops a.tmps) = true) (hx : ∀ w, Sw w → (execOp a.eval o).run P w = .ok (.value v) w) (hS : Sw w) (hd : o.dst = some k) (hk : k < n) (hf : look L k = none) (hr : ∀ a', Kn n a' ((k, v) :: L) → wpAnyH P md ops Q Sw fuel (listed.setIfInBounds i true) a' w) : wpAnyH P md ops Q Sw (fuel + 1) listed a w :=
  wpAnyH_take ho c1 c2 c3 hp (.inl ⟨hw, hx⟩) hS (by rw [hd]; exact hr _ (h.put v hk hf))
/-- The code is cut: what holds behind its first part. -/
theorem seq_cut {x y : Code} (J : Act → World → Prop) (h1 : ∀ K : Act → World → Prop, (∀ a w, J a w → K a w) → x.wp P (Exit.then K Q) a w) (h2 : ∀ a w, J a w → y.wp P Q a w) : (Code.seq x y).wp P Q a w :=
  wp_seq_k fun K hK => h1 K fun a w hJ => hK _ _ (h2 a w hJ)
theorem kn_ret {fn : Func} {E : Ending → World → Prop} (h : Kn n a L) (hf : fn.results = #[.tmp i]) (hl : look L i = some v) (hR : E (.returned v) w) : Code.ret.wp P (bodyPost P fn E) a w :=
  wp_ret (bodyPost_ret (v := v) (by rw [results_tmp hf, show a.tmps.getD i undef = v from h.get hl]) h.df hR)
end
section
variable {ops : Array Oper} {rest : List Oper} {o o2 : Oper} {a : Act} {w w' : World} {Q : Exit → Act → World → Prop} {n k i j T S : Nat} {L : List (Nat × Value)} {v : Value} {K : Act → World → Prop} {R : List Value}
/-- A new variable of a point, and its value. -/
theorem kn_new43 (h : Kn n a L) (hR : L64 R) (g1 : o.guard = none) (g2 : o2.guard = none) (ho : o.op = .alloc 43) (hd : o.dst = some T) (hT : T < n) (hf : look L T = none) (ho2 : o2.op = .store 43 (.tmp T) (.tmp S)) (hd2 : o2.dst = none) (hS : look L S = some (.agg R.toArray)) (hTS : Nat.beq T S = false)
    (hr : ∀ a' w' g, Kn n a' ((T, .pointer (some ⟨g, 0, none⟩)) :: L) → Below w.heap.size w w' → Rp w' g 0 R → wpList Try.prog ops Q rest a' w') : wpList Try.prog ops Q (o :: o2 :: rest) a w := by
  refine kn_val h (want_none g1) (x_alloc43 ho) hd hT hf fun a' h' => ?_
  have hTT : Nat.beq T T = true := Nat.beq_refl T
  refine kn_store h' (want_none g2) 43 T S ho2 hd2 _ R (by unfold look; rw [hTT]) (by unfold look; rw [hTS]; exact hS) (th43 R hR w) hR.j hR.o fun a'' h'' => ?_
  have hx := box43 R hR w
  exact hr _ _ _ h'' hx.2 hx.1
theorem kn_new22 (h : Kn n a L) (hR : L32 R) (g1 : o.guard = none) (g2 : o2.guard = none) (ho : o.op = .alloc 22) (hd : o.dst = some T) (hT : T < n) (hf : look L T = none) (ho2 : o2.op = .store 22 (.tmp T) (.tmp S)) (hd2 : o2.dst = none) (hS : look L S = some (.agg R.toArray)) (hTS : Nat.beq T S = false)
    (hr : ∀ a' w' g, Kn n a' ((T, .pointer (some ⟨g, 0, none⟩)) :: L) → Below w.heap.size w w' → Rp w' g 0 R → wpList Try.prog ops Q rest a' w') : wpList Try.prog ops Q (o :: o2 :: rest) a w := by
  refine kn_val h (want_none g1) (x_alloc22 ho) hd hT hf fun a' h' => ?_
  have hTT : Nat.beq T T = true := Nat.beq_refl T
  refine kn_store h' (want_none g2) 22 T S ho2 hd2 _ R (by unfold look; rw [hTT]) (by unfold look; rw [hTS]; exact hS) (th22 R hR w) hR.j hR.o fun a'' h'' => ?_
  have hx := box22 R hR w
  exact hr _ _ _ h'' hx.2 hx.1
theorem kop_alloc43 (h : Kn n a L) (hw : Region.wanted o (yielded ops a.tmps) = true) (ho : o.op = .alloc 43) (hd : o.dst = some T) (hT : T < n) (hf : look L T = none) (hr : ∀ a' w' g, Kn n a' ((T, .pointer (some ⟨g, 0, none⟩)) :: L) → Below w.heap.size w w' → w'.there g 0 64 → w.heap.size ≤ g → g < w'.heap.size → K a' w') :
    if Region.wanted o (yielded ops a.tmps) = true then Oper.wp Try.prog o a w K Q else K (a.put o.dst undef) w :=
  kop_val h hw (x_alloc43 ho) hd hT hf fun a' h' => hr a' _ _ h' ((Below.refl _ _).alloc (Nat.le_refl _) _) (there43 w) (Nat.le_refl _) (by rw [size_alloc]; omega)
theorem kop_alloc22 (h : Kn n a L) (hw : Region.wanted o (yielded ops a.tmps) = true) (ho : o.op = .alloc 22) (hd : o.dst = some T) (hT : T < n) (hf : look L T = none) (hr : ∀ a' w' g, Kn n a' ((T, .pointer (some ⟨g, 0, none⟩)) :: L) → Below w.heap.size w w' → w'.there g 0 32 → w.heap.size ≤ g → g < w'.heap.size → K a' w') :
    if Region.wanted o (yielded ops a.tmps) = true then Oper.wp Try.prog o a w K Q else K (a.put o.dst undef) w :=
  kop_val h hw (x_alloc22 ho) hd hT hf fun a' h' => hr a' _ _ h' ((Below.refl _ _).alloc (Nat.le_refl _) _) (there22 w) (Nat.le_refl _) (by rw [size_alloc]; omega)
theorem th_of43 {g : Nat} (hR : L64 R) (h : w.there g 0 64) : w.there g 0 R.toArray.size := by
  have e : R.toArray.size = 64 := (List.size_toArray ..).trans hR.l
  rw [e]
  exact h
theorem th_of22 {g : Nat} (hR : L32 R) (h : w.there g 0 32) : w.there g 0 R.toArray.size := by
  have e : R.toArray.size = 32 := (List.size_toArray ..).trans hR.l
  rw [e]
  exact h
theorem float_box22 {g : Nat} (hR : L32 R) (h1 : w.there g 0 32) (h2 : g < w.heap.size) : Rp (w.setCells g 0 R) g 0 R :=
  ⟨World.rangeAt_setCells_same _ _ _ _ (by rw [hR.l]; exact h1), by rw [size_setCells]; exact h2⟩
theorem x_buildY {X : List Value} (h : Kn n a L) (ho : o.op = .build 43 #[(1, .tmp i)]) (hl : look L i = some (.agg X.toArray)) (hb : Try.prog.built 43 [(1, .agg X.toArray)] = some R.toArray) : (execOp a.eval o).run Try.prog w = .ok (.value (.agg R.toArray)) w := by
  have e : ((#[(1, Operand.tmp i)] : Array (Nat × Operand)).map fun ((i, x) : Nat × Operand) => (i, a.eval x)).toList = [(1, .agg X.toArray)] := by simp [h.get hl]
  rcases yieldsIf_build (P := Try.prog) (ops := #[]) (S := fun _ => True) (op := { o with guard := none }) (a := a) rfl 43 _ ho _ e R hb with h1 | h1
  · exact h1.2 w trivial
  · cases h1.1
end
end Fk
end Fd
end Go.Proofs.Ytgdekigdbbldoaa

namespace Go.Proofs.Ytgdekigdbbldoaa
open Go.RowKit
namespace Fd
open Rg Cv Bx Fk

/-- Three boxes of 32 bytes. -/
theorem start3b (w : World) (X Y Z : List Value) :
    let e := ((w.alloc (.cells X.toArray 22)).alloc (.cells Y.toArray 22)).alloc (.cells Z.toArray 22)
    Rp e w.heap.size 0 X ∧ Rp e (w.heap.size + 1) 0 Y ∧ Rp e (w.heap.size + 1 + 1) 0 Z ∧ Below w.heap.size w e := by
  intro e
  have s2 : ((w.alloc (.cells X.toArray 22)).alloc (.cells Y.toArray 22)).heap.size = w.heap.size + 2 := by rw [size_alloc, size_alloc]
  have s3 : e.heap.size = w.heap.size + 3 := by show (World.alloc _ _).heap.size = _; rw [size_alloc, s2]
  have r3 := Rg.range_new ((w.alloc (.cells X.toArray 22)).alloc (.cells Y.toArray 22)) Z 22
  rw [s2] at r3
  exact ⟨⟨World.rangeAt_alloc (World.rangeAt_alloc (Rg.range_new w X 22) _) _, by omega⟩, ⟨World.rangeAt_alloc (range_new1 w _ Y 22) _, by omega⟩, ⟨r3, by omega⟩, (((Below.refl _ _).alloc (Nat.le_refl _) _).alloc (by simp) _).alloc (by rw [s2]; omega) _⟩
set_option maxHeartbeats 8000000 in
set_option maxRecDepth 8000 in
theorem group_walk (I J Kx M S1 ONE Lo P Q R A C D V0 U V Wn OO : List Value) (cI : ∀ W : World, Calls Try.prog 33 #[.agg I.toArray] W fun e w' => e = .returned (.tuple #[.agg P.toArray, .bool true]) ∧ Below W.heap.size W w') (cJ : ∀ W : World, Calls Try.prog 33 #[.agg J.toArray] W fun e w' => e = .returned (.tuple #[.agg Q.toArray, .bool true]) ∧ Below W.heap.size W w') (cK : ∀ W : World, Calls Try.prog 33 #[.agg Kx.toArray] W fun e w' => e = .returned (.tuple #[.agg R.toArray, .bool true]) ∧ Below W.heap.size W w') (cA : ∀ W : World, Calls Try.prog 35 #[.agg P.toArray, .agg Q.toArray] W fun e w' => e = .returned (.tuple #[.agg A.toArray, .nilIface]) ∧ Below W.heap.size W w') (cB : ∀ W : World, Calls Try.prog 35 #[.agg Q.toArray, .agg P.toArray] W fun e w' => e = .returned (.tuple #[.agg A.toArray, .nilIface]) ∧ Below W.heap.size W w') (cC : ∀ W : World, Calls Try.prog 35 #[.agg A.toArray, .agg R.toArray] W fun e w' => e = .returned (.tuple #[.agg C.toArray, .nilIface]) ∧ Below W.heap.size W w') (cD : ∀ W : World, Calls Try.prog 35 #[.agg Q.toArray, .agg R.toArray] W fun e w' => e = .returned (.tuple #[.agg D.toArray, .nilIface]) ∧ Below W.heap.size W w') (cX : ∀ W : World, Calls Try.prog 35 #[.agg P.toArray, .agg D.toArray] W fun e w' => e = .returned (.tuple #[.agg C.toArray, .nilIface]) ∧ Below W.heap.size W w') (cW : ∀ W : World, Calls Try.prog 35 #[.agg U.toArray, .agg V.toArray] W fun e w' => e = .returned (.tuple #[.agg Wn.toArray, .nilIface]) ∧ Below W.heap.size W w') (cE : ∀ W : World, Calls Try.prog 45 #[.agg P.toArray] W fun e w' => e = .returned (.tuple #[.agg M.toArray, .nilIface]) ∧ Below W.heap.size W w') (cF : ∀ W : World, Calls Try.prog 43 #[.agg M.toArray] W fun e w' => e = .returned (.tuple #[.agg P.toArray, .nilIface]) ∧ Below W.heap.size W w') (c1 : ∀ W : World, Calls Try.prog 46 #[.int .u8 1] W fun e w' => e = .returned (.agg ONE.toArray) ∧ Below W.heap.size W w') (cM : ∀ W : World, Calls Try.prog 50 #[.agg I.toArray, .agg ONE.toArray, .agg J.toArray] W fun e w' => e = .returned (.agg S1.toArray) ∧ Below W.heap.size W w') (cV : ∀ W : World, Calls Try.prog 30 #[] W fun e w' => e = .returned (.agg V0.toArray) ∧ Below W.heap.size W w') (cT : ∀ W : World, Calls Try.prog 41 #[.agg S1.toArray, .agg V0.toArray] W fun e w' => e = .returned (.tuple #[.agg Wn.toArray, .nilIface]) ∧ Below W.heap.size W w') (cU : ∀ W : World, Calls Try.prog 41 #[.agg I.toArray, .agg V0.toArray] W fun e w' => e = .returned (.tuple #[.agg U.toArray, .nilIface]) ∧ Below W.heap.size W w') (cY : ∀ W : World, Calls Try.prog 41 #[.agg J.toArray, .agg V0.toArray] W fun e w' => e = .returned (.tuple #[.agg V.toArray, .nilIface]) ∧ Below W.heap.size W w') (cZ : ∀ W : World, Calls Try.prog 41 #[.agg Lo.toArray, .agg V0.toArray] W fun e w' => e = .returned (.tuple #[.agg OO.toArray, .nilIface]) ∧ Below W.heap.size W w') (qA : ∀ W : World, (Op.equalIn 10000 43 (.agg A.toArray) (.agg A.toArray)).run Try.prog W = .ok true W) (qC : ∀ W : World, (Op.equalIn 10000 43 (.agg C.toArray) (.agg C.toArray)).run Try.prog W = .ok true W) (qP : ∀ W : World, (Op.equalIn 10000 43 (.agg P.toArray) (.agg P.toArray)).run Try.prog W = .ok true W) (qWn : ∀ W : World, (Op.equalIn 10000 43 (.agg Wn.toArray) (.agg Wn.toArray)).run Try.prog W = .ok true W) (qOO : ∀ W : World, (Op.equalIn 10000 43 (.agg OO.toArray) (.agg OO.toArray)).run Try.prog W = .ok true W) (qM : ∀ W : World, (Op.equalIn 10000 22 (.agg M.toArray) (.agg M.toArray)).run Try.prog W = .ok true W) (HBP : Try.prog.built 43 [(1, .agg ONE.toArray)] = some OO.toArray) (CBY : ∀ (W : World) (u : Value), Dt.Num W u ell → Calls Try.prog 16 #[u] W fun e w' => e = .returned (.agg Lo.toArray) ∧ Below W.heap.size W w') (LI : L32 I) (LJ : L32 J) (LKx : L32 Kx) (LM : L32 M) (LS1 : L32 S1) (_LONE : L32 ONE) (LLo : L32 Lo) (LP : L64 P) (LQ : L64 Q) (LR : L64 R) (LA : L64 A) (LC : L64 C) (LD : L64 D) (_LV0 : L64 V0) (LU : L64 U) (LV : L64 V) (LWn : L64 Wn) (LOO : L64 OO) (w : World) :
    Calls Try.prog 12 #[.agg I.toArray, .agg J.toArray, .agg Kx.toArray] w fun e w' => e = .returned (.bool true) ∧ Below w.heap.size w w' := by
  have HS := start3b w I J Kx
  obtain ⟨n0, hn0⟩ : ∃ n, w.heap.size = n := ⟨_, rfl⟩
  go_enter Try.func12, Try.ntmps12
  refine kn_gen (n := 221) (L := [(0, .agg I.toArray), (1, .agg J.toArray), (2, .agg Kx.toArray)]) ⟨rfl, rfl, rfl, rfl, rfl, trivial⟩ fun a0 k0 => ?_
  refine wp_seq_k fun K hK => ?_
  refine wp_region_lit ?_
  refine kn_val k0 (want_none rfl) (x_box22 k0 rfl rfl) rfl (by decide) rfl fun a1 k1 => ?_
  clear k0 a0
  refine kn_val k1 (want_none rfl) (x_box22 k1 rfl rfl) rfl (by decide) rfl fun a2 k2 => ?_
  clear k1 a1
  refine kn_val k2 (want_none rfl) (x_box22 k2 rfl rfl) rfl (by decide) rfl fun a3 k3 => ?_
  clear k2 a2
  refine kn_val k3 (want_none rfl) (x_const rfl) rfl (by decide) rfl fun a4 k4 => ?_
  clear k3 a3
  simp only [size_alloc] at k4
  obtain ⟨we, hwe⟩ : ∃ v, ((w.alloc (.cells I.toArray 22)).alloc (.cells J.toArray 22)).alloc (.cells Kx.toArray 22) = v := ⟨_, rfl⟩
  rw [hwe] at HS ⊢
  obtain ⟨BI, BJ, BK, HB⟩ := HS
  clear hwe
  rw [hn0] at BI BJ BK k4
  replace k4 : Kn 221 a4 [(3, .pointer (some ⟨n0, 0, none⟩)), (4, .pointer (some ⟨(n0 + 1), 0, none⟩)), (5, .pointer (some ⟨(n0 + 1 + 1), 0, none⟩))] := k4.sel [3, 4, 5]
  refine wpList_nil ?_
  refine hK _ _ ?_
  clear hK K
  refine wp_seq_k fun K hK => ?_
  refine wp_region_lit ?_
  refine kn_call k4 (want_none rfl) (x_call0 own28 rfl) rfl (by decide) rfl (shown7_any _) fun a5 w1 k5 hb => ?_
  clear k4 a4
  replace BI := BI.below hb
  replace BJ := BJ.below hb
  replace BK := BK.below hb
  replace HB := HB.trans (hb.mono HB.size)
  clear hb
  refine kn_val k5 (want_none rfl) (x_assign k5 rfl rfl) rfl (by decide) rfl fun a6 k6 => ?_
  clear k5 a5
  replace k6 : Kn 221 a6 [(3, .pointer (some ⟨n0, 0, none⟩)), (4, .pointer (some ⟨(n0 + 1), 0, none⟩)), (5, .pointer (some ⟨(n0 + 1 + 1), 0, none⟩)), (7, .bool true)] := k6.sel [3, 4, 5, 7]
  refine wpList_nil ?_
  refine hK _ _ ?_
  clear hK K
  refine wp_seq_k fun K hK => ?_
  refine wp_region_lit ?_
  refine kn_val k6 (want_none rfl) (x_load k6 22 rfl _ 0 rfl I _ BI.1 Try.underlying22 rfl LI.i) rfl (by decide) rfl fun a7 k7 => ?_
  clear k6 a6
  refine kn_call k7 (want_none rfl) (x_call1 own33 k7 rfl rfl) rfl (by decide) rfl (cI _) fun a8 w2 k8 hb => ?_
  clear k7 a7
  replace BI := BI.below hb
  replace BJ := BJ.below hb
  replace BK := BK.below hb
  replace HB := HB.trans (hb.mono HB.size)
  clear hb
  refine kn_val k8 (want_none rfl) (x_move k8 rfl rfl) rfl (by decide) rfl fun a9 k9 => ?_
  clear k8 a8
  refine kn_val k9 (want_none rfl) (x_ex0 k9 rfl rfl) rfl (by decide) rfl fun a10 k10 => ?_
  clear k9 a9
  refine kn_val k10 (want_none rfl) (x_ex1 k10 rfl rfl) rfl (by decide) rfl fun a11 k11 => ?_
  clear k10 a10
  refine kn_new43 k11 LP rfl rfl rfl rfl (by decide) rfl rfl rfl rfl rfl fun a12 w3 gBP k12 hb hx => ?_
  clear k11 a11
  replace BI := BI.below hb
  replace BJ := BJ.below hb
  replace BK := BK.below hb
  replace HB := HB.trans (hb.mono HB.size)
  have BP := hx
  clear hx hb
  refine kn_val k12 (want_none rfl) (x_assign k12 rfl rfl) rfl (by decide) rfl fun a13 k13 => ?_
  clear k12 a12
  replace k13 : Kn 221 a13 [(3, .pointer (some ⟨n0, 0, none⟩)), (4, .pointer (some ⟨(n0 + 1), 0, none⟩)), (5, .pointer (some ⟨(n0 + 1 + 1), 0, none⟩)), (7, .bool true), (8, .pointer (some ⟨gBP, 0, none⟩)), (9, .bool true)] := k13.sel [3, 4, 5, 7, 8, 9]
  refine wpList_nil ?_
  refine hK _ _ ?_
  clear hK K
  refine wp_seq_k fun K hK => ?_
  refine wp_region_lit ?_
  refine kn_val k13 (want_none rfl) (x_load k13 22 rfl _ 0 rfl J _ BJ.1 Try.underlying22 rfl LJ.i) rfl (by decide) rfl fun a14 k14 => ?_
  clear k13 a13
  refine kn_call k14 (want_none rfl) (x_call1 own33 k14 rfl rfl) rfl (by decide) rfl (cJ _) fun a15 w4 k15 hb => ?_
  clear k14 a14
  replace BI := BI.below hb
  replace BJ := BJ.below hb
  replace BK := BK.below hb
  replace BP := BP.below hb
  replace HB := HB.trans (hb.mono HB.size)
  clear hb
  refine kn_val k15 (want_none rfl) (x_move k15 rfl rfl) rfl (by decide) rfl fun a16 k16 => ?_
  clear k15 a15
  refine kn_val k16 (want_none rfl) (x_ex0 k16 rfl rfl) rfl (by decide) rfl fun a17 k17 => ?_
  clear k16 a16
  refine kn_val k17 (want_none rfl) (x_ex1 k17 rfl rfl) rfl (by decide) rfl fun a18 k18 => ?_
  clear k17 a17
  refine kn_new43 k18 LQ rfl rfl rfl rfl (by decide) rfl rfl rfl rfl rfl fun a19 w5 gBQ k19 hb hx => ?_
  clear k18 a18
  replace BI := BI.below hb
  replace BJ := BJ.below hb
  replace BK := BK.below hb
  replace BP := BP.below hb
  replace HB := HB.trans (hb.mono HB.size)
  have BQ := hx
  clear hx hb
  refine kn_val k19 (want_none rfl) (x_assign k19 rfl rfl) rfl (by decide) rfl fun a20 k20 => ?_
  clear k19 a19
  replace k20 : Kn 221 a20 [(3, .pointer (some ⟨n0, 0, none⟩)), (4, .pointer (some ⟨(n0 + 1), 0, none⟩)), (5, .pointer (some ⟨(n0 + 1 + 1), 0, none⟩)), (7, .bool true), (8, .pointer (some ⟨gBP, 0, none⟩)), (9, .bool true), (10, .pointer (some ⟨gBQ, 0, none⟩)), (11, .bool true)] := k20.sel [3, 4, 5, 7, 8, 9, 10, 11]
  refine wpList_nil ?_
  refine hK _ _ ?_
  clear hK K
  refine wp_seq_k fun K hK => ?_
  refine wp_region_lit ?_
  refine kn_val k20 (want_none rfl) (x_load k20 22 rfl _ 0 rfl Kx _ BK.1 Try.underlying22 rfl LKx.i) rfl (by decide) rfl fun a21 k21 => ?_
  clear k20 a20
  refine kn_call k21 (want_none rfl) (x_call1 own33 k21 rfl rfl) rfl (by decide) rfl (cK _) fun a22 w6 k22 hb => ?_
  clear k21 a21
  replace BI := BI.below hb
  replace BJ := BJ.below hb
  replace BK := BK.below hb
  replace BP := BP.below hb
  replace BQ := BQ.below hb
  replace HB := HB.trans (hb.mono HB.size)
  clear hb
  refine kn_val k22 (want_none rfl) (x_move k22 rfl rfl) rfl (by decide) rfl fun a23 k23 => ?_
  clear k22 a22
  refine kn_val k23 (want_none rfl) (x_ex0 k23 rfl rfl) rfl (by decide) rfl fun a24 k24 => ?_
  clear k23 a23
  refine kn_val k24 (want_none rfl) (x_ex1 k24 rfl rfl) rfl (by decide) rfl fun a25 k25 => ?_
  clear k24 a24
  refine kn_new43 k25 LR rfl rfl rfl rfl (by decide) rfl rfl rfl rfl rfl fun a26 w7 gBR k26 hb hx => ?_
  clear k25 a25
  replace BI := BI.below hb
  replace BJ := BJ.below hb
  replace BK := BK.below hb
  replace BP := BP.below hb
  replace BQ := BQ.below hb
  replace HB := HB.trans (hb.mono HB.size)
  have BR := hx
  clear hx hb
  refine kn_val k26 (want_none rfl) (x_assign k26 rfl rfl) rfl (by decide) rfl fun a27 k27 => ?_
  clear k26 a26
  replace k27 : Kn 221 a27 [(3, .pointer (some ⟨n0, 0, none⟩)), (4, .pointer (some ⟨(n0 + 1), 0, none⟩)), (5, .pointer (some ⟨(n0 + 1 + 1), 0, none⟩)), (7, .bool true), (8, .pointer (some ⟨gBP, 0, none⟩)), (9, .bool true), (10, .pointer (some ⟨gBQ, 0, none⟩)), (11, .bool true), (12, .pointer (some ⟨gBR, 0, none⟩)), (13, .bool true)] := k27.sel [3, 4, 5, 7, 8, 9, 10, 11, 12, 13]
  refine wpList_nil ?_
  refine hK _ _ ?_
  clear hK K
  refine wp_seq_k fun K hK => ?_
  refine wp_seq_k fun K2 hK2 => ?_
  refine wp_region_lit ?_
  refine kn_val k27 (want_none rfl) (x_move k27 rfl rfl) rfl (by decide) rfl fun a28 k28 => ?_
  clear k27 a27
  refine kn_val k28 (want_none rfl) (x_not k28 4 rfl rfl) rfl (by decide) rfl fun a29 k29 => ?_
  clear k28 a28
  refine kn_val k29 (want_none rfl) (x_move k29 rfl rfl) rfl (by decide) rfl fun a30 k30 => ?_
  clear k29 a29
  refine kn_val k30 (want_some (d := 52) k30 rfl (by kernel_rfl) rfl) (x_move k30 rfl rfl) rfl (by decide) rfl fun a31 k31 => ?_
  clear k30 a30
  refine kn_val k31 (want_some (d := 52) k31 rfl (by kernel_rfl) rfl) (x_not k31 4 rfl rfl) rfl (by decide) rfl fun a32 k32 => ?_
  clear k31 a31
  refine kn_val k32 (want_none rfl) (x_or k32 rfl rfl rfl) rfl (by decide) rfl fun a33 k33 => ?_
  clear k32 a32
  refine kn_val k33 (want_none rfl) (x_move k33 rfl rfl) rfl (by decide) rfl fun a34 k34 => ?_
  clear k33 a33
  refine kn_val k34 (want_some (d := 56) k34 rfl (by kernel_rfl) rfl) (x_move k34 rfl rfl) rfl (by decide) rfl fun a35 k35 => ?_
  clear k34 a34
  refine kn_val k35 (want_some (d := 56) k35 rfl (by kernel_rfl) rfl) (x_not k35 4 rfl rfl) rfl (by decide) rfl fun a36 k36 => ?_
  clear k35 a35
  refine kn_val k36 (want_none rfl) (x_or k36 rfl rfl rfl) rfl (by decide) rfl fun a37 k37 => ?_
  clear k36 a36
  refine wpList_nil ?_
  refine hK2 _ _ ?_
  clear hK2 K2
  refine wp_cond_false (k37.get (i := 59) rfl) ?_
  refine wp_skip ?_
  refine hK _ _ ?_
  clear hK K
  replace k37 : Kn 221 a37 [(3, .pointer (some ⟨n0, 0, none⟩)), (4, .pointer (some ⟨(n0 + 1), 0, none⟩)), (7, .bool true), (8, .pointer (some ⟨gBP, 0, none⟩)), (10, .pointer (some ⟨gBQ, 0, none⟩)), (12, .pointer (some ⟨gBR, 0, none⟩))] := k37.sel [3, 4, 7, 8, 10, 12]
  clear BK
  refine wp_seq_k fun K hK => ?_
  refine wp_region_lit ?_
  refine kn_val k37 (want_none rfl) (x_load k37 43 rfl _ 0 rfl P _ BP.1 Try.underlying43 rfl LP.i) rfl (by decide) rfl fun a38 k38 => ?_
  clear k37 a37
  refine kn_val k38 (want_none rfl) (x_load k38 43 rfl _ 0 rfl Q _ BQ.1 Try.underlying43 rfl LQ.i) rfl (by decide) rfl fun a39 k39 => ?_
  clear k38 a38
  refine kn_call k39 (want_none rfl) (x_call2 own35 k39 rfl rfl rfl) rfl (by decide) rfl (cA _) fun a40 w8 k40 hb => ?_
  clear k39 a39
  replace BI := BI.below hb
  replace BJ := BJ.below hb
  replace BP := BP.below hb
  replace BQ := BQ.below hb
  replace BR := BR.below hb
  replace HB := HB.trans (hb.mono HB.size)
  clear hb
  refine kn_val k40 (want_none rfl) (x_move k40 rfl rfl) rfl (by decide) rfl fun a41 k41 => ?_
  clear k40 a40
  refine kn_val k41 (want_none rfl) (x_ex0 k41 rfl rfl) rfl (by decide) rfl fun a42 k42 => ?_
  clear k41 a41
  refine kn_val k42 (want_none rfl) (x_ex1 k42 rfl rfl) rfl (by decide) rfl fun a43 k43 => ?_
  clear k42 a42
  refine kn_new43 k43 LA rfl rfl rfl rfl (by decide) rfl rfl rfl rfl rfl fun a44 w9 gBA k44 hb hx => ?_
  clear k43 a43
  replace BI := BI.below hb
  replace BJ := BJ.below hb
  replace BP := BP.below hb
  replace BQ := BQ.below hb
  replace BR := BR.below hb
  replace HB := HB.trans (hb.mono HB.size)
  have BA := hx
  clear hx hb
  refine kn_val k44 (want_none rfl) (x_assign k44 rfl rfl) rfl (by decide) rfl fun a45 k45 => ?_
  clear k44 a44
  replace k45 : Kn 221 a45 [(3, .pointer (some ⟨n0, 0, none⟩)), (4, .pointer (some ⟨(n0 + 1), 0, none⟩)), (7, .bool true), (8, .pointer (some ⟨gBP, 0, none⟩)), (10, .pointer (some ⟨gBQ, 0, none⟩)), (12, .pointer (some ⟨gBR, 0, none⟩)), (14, .pointer (some ⟨gBA, 0, none⟩)), (15, .nilIface)] := k45.sel [3, 4, 7, 8, 10, 12, 14, 15]
  refine wpList_nil ?_
  refine hK _ _ ?_
  clear hK K
  refine wp_seq_k fun K hK => ?_
  refine wp_region_lit ?_
  refine kn_val k45 (want_none rfl) (x_load k45 43 rfl _ 0 rfl Q _ BQ.1 Try.underlying43 rfl LQ.i) rfl (by decide) rfl fun a46 k46 => ?_
  clear k45 a45
  refine kn_val k46 (want_none rfl) (x_load k46 43 rfl _ 0 rfl P _ BP.1 Try.underlying43 rfl LP.i) rfl (by decide) rfl fun a47 k47 => ?_
  clear k46 a46
  refine kn_call k47 (want_none rfl) (x_call2 own35 k47 rfl rfl rfl) rfl (by decide) rfl (cB _) fun a48 w10 k48 hb => ?_
  clear k47 a47
  replace BI := BI.below hb
  replace BJ := BJ.below hb
  replace BP := BP.below hb
  replace BQ := BQ.below hb
  replace BR := BR.below hb
  replace BA := BA.below hb
  replace HB := HB.trans (hb.mono HB.size)
  clear hb
  refine kn_val k48 (want_none rfl) (x_move k48 rfl rfl) rfl (by decide) rfl fun a49 k49 => ?_
  clear k48 a48
  refine kn_val k49 (want_none rfl) (x_ex0 k49 rfl rfl) rfl (by decide) rfl fun a50 k50 => ?_
  clear k49 a49
  refine kn_val k50 (want_none rfl) (x_ex1 k50 rfl rfl) rfl (by decide) rfl fun a51 k51 => ?_
  clear k50 a50
  refine kn_new43 k51 LA rfl rfl rfl rfl (by decide) rfl rfl rfl rfl rfl fun a52 w11 gBA2 k52 hb hx => ?_
  clear k51 a51
  replace BI := BI.below hb
  replace BJ := BJ.below hb
  replace BP := BP.below hb
  replace BQ := BQ.below hb
  replace BR := BR.below hb
  replace BA := BA.below hb
  replace HB := HB.trans (hb.mono HB.size)
  have BA2 := hx
  clear hx hb
  refine kn_val k52 (want_none rfl) (x_assign k52 rfl rfl) rfl (by decide) rfl fun a53 k53 => ?_
  clear k52 a52
  replace k53 : Kn 221 a53 [(3, .pointer (some ⟨n0, 0, none⟩)), (4, .pointer (some ⟨(n0 + 1), 0, none⟩)), (7, .bool true), (8, .pointer (some ⟨gBP, 0, none⟩)), (10, .pointer (some ⟨gBQ, 0, none⟩)), (12, .pointer (some ⟨gBR, 0, none⟩)), (14, .pointer (some ⟨gBA, 0, none⟩)), (15, .nilIface), (16, .pointer (some ⟨gBA2, 0, none⟩)), (17, .nilIface)] := k53.sel [3, 4, 7, 8, 10, 12, 14, 15, 16, 17]
  refine wpList_nil ?_
  refine hK _ _ ?_
  clear hK K
  refine wp_seq_k fun K hK => ?_
  refine wp_region_lit ?_
  refine kn_val k53 (want_none rfl) (x_load k53 43 rfl _ 0 rfl A _ BA.1 Try.underlying43 rfl LA.i) rfl (by decide) rfl fun a54 k54 => ?_
  clear k53 a53
  refine kn_val k54 (want_none rfl) (x_load k54 43 rfl _ 0 rfl R _ BR.1 Try.underlying43 rfl LR.i) rfl (by decide) rfl fun a55 k55 => ?_
  clear k54 a54
  refine kn_call k55 (want_none rfl) (x_call2 own35 k55 rfl rfl rfl) rfl (by decide) rfl (cC _) fun a56 w12 k56 hb => ?_
  clear k55 a55
  replace BI := BI.below hb
  replace BJ := BJ.below hb
  replace BP := BP.below hb
  replace BQ := BQ.below hb
  replace BR := BR.below hb
  replace BA := BA.below hb
  replace BA2 := BA2.below hb
  replace HB := HB.trans (hb.mono HB.size)
  clear hb
  refine kn_val k56 (want_none rfl) (x_move k56 rfl rfl) rfl (by decide) rfl fun a57 k57 => ?_
  clear k56 a56
  refine kn_val k57 (want_none rfl) (x_ex0 k57 rfl rfl) rfl (by decide) rfl fun a58 k58 => ?_
  clear k57 a57
  refine kn_val k58 (want_none rfl) (x_ex1 k58 rfl rfl) rfl (by decide) rfl fun a59 k59 => ?_
  clear k58 a58
  refine kn_new43 k59 LC rfl rfl rfl rfl (by decide) rfl rfl rfl rfl rfl fun a60 w13 gBC k60 hb hx => ?_
  clear k59 a59
  replace BI := BI.below hb
  replace BJ := BJ.below hb
  replace BP := BP.below hb
  replace BQ := BQ.below hb
  replace BR := BR.below hb
  replace BA := BA.below hb
  replace BA2 := BA2.below hb
  replace HB := HB.trans (hb.mono HB.size)
  have BC := hx
  clear hx hb
  refine kn_val k60 (want_none rfl) (x_assign k60 rfl rfl) rfl (by decide) rfl fun a61 k61 => ?_
  clear k60 a60
  replace k61 : Kn 221 a61 [(3, .pointer (some ⟨n0, 0, none⟩)), (4, .pointer (some ⟨(n0 + 1), 0, none⟩)), (7, .bool true), (8, .pointer (some ⟨gBP, 0, none⟩)), (10, .pointer (some ⟨gBQ, 0, none⟩)), (12, .pointer (some ⟨gBR, 0, none⟩)), (14, .pointer (some ⟨gBA, 0, none⟩)), (15, .nilIface), (16, .pointer (some ⟨gBA2, 0, none⟩)), (17, .nilIface), (18, .pointer (some ⟨gBC, 0, none⟩)), (19, .nilIface)] := k61.sel [3, 4, 7, 8, 10, 12, 14, 15, 16, 17, 18, 19]
  refine wpList_nil ?_
  refine hK _ _ ?_
  clear hK K
  refine wp_seq_k fun K hK => ?_
  refine wp_region_lit ?_
  refine kn_val k61 (want_none rfl) (x_load k61 43 rfl _ 0 rfl Q _ BQ.1 Try.underlying43 rfl LQ.i) rfl (by decide) rfl fun a62 k62 => ?_
  clear k61 a61
  refine kn_val k62 (want_none rfl) (x_load k62 43 rfl _ 0 rfl R _ BR.1 Try.underlying43 rfl LR.i) rfl (by decide) rfl fun a63 k63 => ?_
  clear k62 a62
  refine kn_call k63 (want_none rfl) (x_call2 own35 k63 rfl rfl rfl) rfl (by decide) rfl (cD _) fun a64 w14 k64 hb => ?_
  clear k63 a63
  replace BI := BI.below hb
  replace BJ := BJ.below hb
  replace BP := BP.below hb
  replace BQ := BQ.below hb
  replace BR := BR.below hb
  replace BA := BA.below hb
  replace BA2 := BA2.below hb
  replace BC := BC.below hb
  replace HB := HB.trans (hb.mono HB.size)
  clear hb
  refine kn_val k64 (want_none rfl) (x_move k64 rfl rfl) rfl (by decide) rfl fun a65 k65 => ?_
  clear k64 a64
  refine kn_val k65 (want_none rfl) (x_ex0 k65 rfl rfl) rfl (by decide) rfl fun a66 k66 => ?_
  clear k65 a65
  refine kn_val k66 (want_none rfl) (x_ex1 k66 rfl rfl) rfl (by decide) rfl fun a67 k67 => ?_
  clear k66 a66
  refine kn_new43 k67 LD rfl rfl rfl rfl (by decide) rfl rfl rfl rfl rfl fun a68 w15 gBD k68 hb hx => ?_
  clear k67 a67
  replace BI := BI.below hb
  replace BJ := BJ.below hb
  replace BP := BP.below hb
  replace BQ := BQ.below hb
  replace BR := BR.below hb
  replace BA := BA.below hb
  replace BA2 := BA2.below hb
  replace BC := BC.below hb
  replace HB := HB.trans (hb.mono HB.size)
  have BD := hx
  clear hx hb
  refine kn_val k68 (want_none rfl) (x_assign k68 rfl rfl) rfl (by decide) rfl fun a69 k69 => ?_
  clear k68 a68
  replace k69 : Kn 221 a69 [(3, .pointer (some ⟨n0, 0, none⟩)), (4, .pointer (some ⟨(n0 + 1), 0, none⟩)), (7, .bool true), (8, .pointer (some ⟨gBP, 0, none⟩)), (10, .pointer (some ⟨gBQ, 0, none⟩)), (12, .pointer (some ⟨gBR, 0, none⟩)), (14, .pointer (some ⟨gBA, 0, none⟩)), (15, .nilIface), (16, .pointer (some ⟨gBA2, 0, none⟩)), (17, .nilIface), (18, .pointer (some ⟨gBC, 0, none⟩)), (19, .nilIface), (20, .pointer (some ⟨gBD, 0, none⟩)), (21, .nilIface)] := k69.sel [3, 4, 7, 8, 10, 12, 14, 15, 16, 17, 18, 19, 20, 21]
  refine wpList_nil ?_
  refine hK _ _ ?_
  clear hK K
  refine wp_seq_k fun K hK => ?_
  refine wp_region_lit ?_
  refine kn_val k69 (want_none rfl) (x_load k69 43 rfl _ 0 rfl P _ BP.1 Try.underlying43 rfl LP.i) rfl (by decide) rfl fun a70 k70 => ?_
  clear k69 a69
  refine kn_val k70 (want_none rfl) (x_load k70 43 rfl _ 0 rfl D _ BD.1 Try.underlying43 rfl LD.i) rfl (by decide) rfl fun a71 k71 => ?_
  clear k70 a70
  refine kn_call k71 (want_none rfl) (x_call2 own35 k71 rfl rfl rfl) rfl (by decide) rfl (cX _) fun a72 w16 k72 hb => ?_
  clear k71 a71
  replace BI := BI.below hb
  replace BJ := BJ.below hb
  replace BP := BP.below hb
  replace BQ := BQ.below hb
  replace BR := BR.below hb
  replace BA := BA.below hb
  replace BA2 := BA2.below hb
  replace BC := BC.below hb
  replace BD := BD.below hb
  replace HB := HB.trans (hb.mono HB.size)
  clear hb
  refine kn_val k72 (want_none rfl) (x_move k72 rfl rfl) rfl (by decide) rfl fun a73 k73 => ?_
  clear k72 a72
  refine kn_val k73 (want_none rfl) (x_ex0 k73 rfl rfl) rfl (by decide) rfl fun a74 k74 => ?_
  clear k73 a73
  refine kn_val k74 (want_none rfl) (x_ex1 k74 rfl rfl) rfl (by decide) rfl fun a75 k75 => ?_
  clear k74 a74
  refine kn_new43 k75 LC rfl rfl rfl rfl (by decide) rfl rfl rfl rfl rfl fun a76 w17 gBX k76 hb hx => ?_
  clear k75 a75
  replace BI := BI.below hb
  replace BJ := BJ.below hb
  replace BP := BP.below hb
  replace BQ := BQ.below hb
  replace BR := BR.below hb
  replace BA := BA.below hb
  replace BA2 := BA2.below hb
  replace BC := BC.below hb
  replace BD := BD.below hb
  replace HB := HB.trans (hb.mono HB.size)
  have BX := hx
  clear hx hb
  refine kn_val k76 (want_none rfl) (x_assign k76 rfl rfl) rfl (by decide) rfl fun a77 k77 => ?_
  clear k76 a76
  replace k77 : Kn 221 a77 [(3, .pointer (some ⟨n0, 0, none⟩)), (4, .pointer (some ⟨(n0 + 1), 0, none⟩)), (7, .bool true), (8, .pointer (some ⟨gBP, 0, none⟩)), (10, .pointer (some ⟨gBQ, 0, none⟩)), (12, .pointer (some ⟨gBR, 0, none⟩)), (14, .pointer (some ⟨gBA, 0, none⟩)), (15, .nilIface), (16, .pointer (some ⟨gBA2, 0, none⟩)), (17, .nilIface), (18, .pointer (some ⟨gBC, 0, none⟩)), (19, .nilIface), (20, .pointer (some ⟨gBD, 0, none⟩)), (21, .nilIface), (22, .pointer (some ⟨gBX, 0, none⟩)), (23, .nilIface)] := k77.sel [3, 4, 7, 8, 10, 12, 14, 15, 16, 17, 18, 19, 20, 21, 22, 23]
  refine wpList_nil ?_
  refine hK _ _ ?_
  clear hK K
  refine wp_seq_k fun K hK => ?_
  refine wp_seq_k fun K2 hK2 => ?_
  refine wp_region_lit ?_
  refine kn_val k77 (want_none rfl) (x_move k77 rfl rfl) rfl (by decide) rfl fun a78 k78 => ?_
  clear k77 a77
  refine kn_val k78 (want_none rfl) (x_neqnil k78 rfl rfl) rfl (by decide) rfl fun a79 k79 => ?_
  clear k78 a78
  refine kn_val k79 (want_none rfl) (x_move k79 rfl rfl) rfl (by decide) rfl fun a80 k80 => ?_
  clear k79 a79
  refine kn_val k80 (want_some (d := 92) k80 rfl (by kernel_rfl) rfl) (x_move k80 rfl rfl) rfl (by decide) rfl fun a81 k81 => ?_
  clear k80 a80
  refine kn_val k81 (want_some (d := 92) k81 rfl (by kernel_rfl) rfl) (x_neqnil k81 rfl rfl) rfl (by decide) rfl fun a82 k82 => ?_
  clear k81 a81
  refine kn_val k82 (want_none rfl) (x_or k82 rfl rfl rfl) rfl (by decide) rfl fun a83 k83 => ?_
  clear k82 a82
  refine kn_val k83 (want_none rfl) (x_move k83 rfl rfl) rfl (by decide) rfl fun a84 k84 => ?_
  clear k83 a83
  refine kn_val k84 (want_some (d := 96) k84 rfl (by kernel_rfl) rfl) (x_move k84 rfl rfl) rfl (by decide) rfl fun a85 k85 => ?_
  clear k84 a84
  refine kn_val k85 (want_some (d := 96) k85 rfl (by kernel_rfl) rfl) (x_neqnil k85 rfl rfl) rfl (by decide) rfl fun a86 k86 => ?_
  clear k85 a85
  refine kn_val k86 (want_none rfl) (x_or k86 rfl rfl rfl) rfl (by decide) rfl fun a87 k87 => ?_
  clear k86 a86
  refine kn_val k87 (want_none rfl) (x_move k87 rfl rfl) rfl (by decide) rfl fun a88 k88 => ?_
  clear k87 a87
  refine kn_val k88 (want_some (d := 100) k88 rfl (by kernel_rfl) rfl) (x_move k88 rfl rfl) rfl (by decide) rfl fun a89 k89 => ?_
  clear k88 a88
  refine kn_val k89 (want_some (d := 100) k89 rfl (by kernel_rfl) rfl) (x_neqnil k89 rfl rfl) rfl (by decide) rfl fun a90 k90 => ?_
  clear k89 a89
  refine kn_val k90 (want_none rfl) (x_or k90 rfl rfl rfl) rfl (by decide) rfl fun a91 k91 => ?_
  clear k90 a90
  refine kn_val k91 (want_none rfl) (x_move k91 rfl rfl) rfl (by decide) rfl fun a92 k92 => ?_
  clear k91 a91
  refine kn_val k92 (want_some (d := 104) k92 rfl (by kernel_rfl) rfl) (x_move k92 rfl rfl) rfl (by decide) rfl fun a93 k93 => ?_
  clear k92 a92
  refine kn_val k93 (want_some (d := 104) k93 rfl (by kernel_rfl) rfl) (x_neqnil k93 rfl rfl) rfl (by decide) rfl fun a94 k94 => ?_
  clear k93 a93
  refine kn_val k94 (want_none rfl) (x_or k94 rfl rfl rfl) rfl (by decide) rfl fun a95 k95 => ?_
  clear k94 a94
  refine kn_val k95 (want_none rfl) (x_move k95 rfl rfl) rfl (by decide) rfl fun a96 k96 => ?_
  clear k95 a95
  refine kn_val k96 (want_some (d := 108) k96 rfl (by kernel_rfl) rfl) (x_load k96 43 rfl _ 0 rfl A _ BA.1 Try.underlying43 rfl LA.i) rfl (by decide) rfl fun a97 k97 => ?_
  clear k96 a96
  refine kn_val k97 (want_some (d := 108) k97 rfl (by kernel_rfl) rfl) (x_load k97 43 rfl _ 0 rfl A _ BA2.1 Try.underlying43 rfl LA.i) rfl (by decide) rfl fun a98 k98 => ?_
  clear k97 a97
  refine kn_val k98 (want_some (d := 108) k98 rfl (by kernel_rfl) rfl) (x_neq43 qA k98 rfl rfl rfl) rfl (by decide) rfl fun a99 k99 => ?_
  clear k98 a98
  refine kn_val k99 (want_none rfl) (x_or k99 rfl rfl rfl) rfl (by decide) rfl fun a100 k100 => ?_
  clear k99 a99
  refine kn_val k100 (want_none rfl) (x_move k100 rfl rfl) rfl (by decide) rfl fun a101 k101 => ?_
  clear k100 a100
  refine kn_val k101 (want_some (d := 113) k101 rfl (by kernel_rfl) rfl) (x_load k101 43 rfl _ 0 rfl C _ BC.1 Try.underlying43 rfl LC.i) rfl (by decide) rfl fun a102 k102 => ?_
  clear k101 a101
  refine kn_val k102 (want_some (d := 113) k102 rfl (by kernel_rfl) rfl) (x_load k102 43 rfl _ 0 rfl C _ BX.1 Try.underlying43 rfl LC.i) rfl (by decide) rfl fun a103 k103 => ?_
  clear k102 a102
  refine kn_val k103 (want_some (d := 113) k103 rfl (by kernel_rfl) rfl) (x_neq43 qC k103 rfl rfl rfl) rfl (by decide) rfl fun a104 k104 => ?_
  clear k103 a103
  refine kn_val k104 (want_none rfl) (x_or k104 rfl rfl rfl) rfl (by decide) rfl fun a105 k105 => ?_
  clear k104 a104
  refine wpList_nil ?_
  refine hK2 _ _ ?_
  clear hK2 K2
  refine wp_cond_false (k105.get (i := 117) rfl) ?_
  refine wp_skip ?_
  refine hK _ _ ?_
  clear hK K
  replace k105 : Kn 221 a105 [(3, .pointer (some ⟨n0, 0, none⟩)), (4, .pointer (some ⟨(n0 + 1), 0, none⟩)), (7, .bool true), (8, .pointer (some ⟨gBP, 0, none⟩))] := k105.sel [3, 4, 7, 8]
  clear BQ BR BA BA2 BC BD BX
  refine wp_seq_k fun K hK => ?_
  refine wp_region_lit ?_
  refine kn_val k105 (want_none rfl) (x_load k105 43 rfl _ 0 rfl P _ BP.1 Try.underlying43 rfl LP.i) rfl (by decide) rfl fun a106 k106 => ?_
  clear k105 a105
  refine kn_call k106 (want_none rfl) (x_call1 own45 k106 rfl rfl) rfl (by decide) rfl (cE _) fun a107 w18 k107 hb => ?_
  clear k106 a106
  replace BI := BI.below hb
  replace BJ := BJ.below hb
  replace BP := BP.below hb
  replace HB := HB.trans (hb.mono HB.size)
  clear hb
  refine kn_val k107 (want_none rfl) (x_move k107 rfl rfl) rfl (by decide) rfl fun a108 k108 => ?_
  clear k107 a107
  refine kn_val k108 (want_none rfl) (x_ex0 k108 rfl rfl) rfl (by decide) rfl fun a109 k109 => ?_
  clear k108 a108
  refine kn_val k109 (want_none rfl) (x_ex1 k109 rfl rfl) rfl (by decide) rfl fun a110 k110 => ?_
  clear k109 a109
  refine kn_new22 k110 LM rfl rfl rfl rfl (by decide) rfl rfl rfl rfl rfl fun a111 w19 gBM k111 hb hx => ?_
  clear k110 a110
  replace BI := BI.below hb
  replace BJ := BJ.below hb
  replace BP := BP.below hb
  replace HB := HB.trans (hb.mono HB.size)
  have BM := hx
  clear hx hb
  refine kn_val k111 (want_none rfl) (x_assign k111 rfl rfl) rfl (by decide) rfl fun a112 k112 => ?_
  clear k111 a111
  replace k112 : Kn 221 a112 [(3, .pointer (some ⟨n0, 0, none⟩)), (4, .pointer (some ⟨(n0 + 1), 0, none⟩)), (7, .bool true), (8, .pointer (some ⟨gBP, 0, none⟩)), (24, .pointer (some ⟨gBM, 0, none⟩)), (15, .nilIface)] := k112.sel [3, 4, 7, 8, 24, 15]
  refine wpList_nil ?_
  refine hK _ _ ?_
  clear hK K
  refine wp_seq_k fun K hK => ?_
  refine wp_region_lit ?_
  refine kn_val k112 (want_none rfl) (x_load k112 22 rfl _ 0 rfl M _ BM.1 Try.underlying22 rfl LM.i) rfl (by decide) rfl fun a113 k113 => ?_
  clear k112 a112
  refine kn_call k113 (want_none rfl) (x_call1 own43 k113 rfl rfl) rfl (by decide) rfl (cF _) fun a114 w20 k114 hb => ?_
  clear k113 a113
  replace BI := BI.below hb
  replace BJ := BJ.below hb
  replace BP := BP.below hb
  replace BM := BM.below hb
  replace HB := HB.trans (hb.mono HB.size)
  clear hb
  refine kn_val k114 (want_none rfl) (x_move k114 rfl rfl) rfl (by decide) rfl fun a115 k115 => ?_
  clear k114 a114
  refine kn_val k115 (want_none rfl) (x_ex0 k115 rfl rfl) rfl (by decide) rfl fun a116 k116 => ?_
  clear k115 a115
  refine kn_val k116 (want_none rfl) (x_ex1 k116 rfl rfl) rfl (by decide) rfl fun a117 k117 => ?_
  clear k116 a116
  refine kn_new43 k117 LP rfl rfl rfl rfl (by decide) rfl rfl rfl rfl rfl fun a118 w21 gBB k118 hb hx => ?_
  clear k117 a117
  replace BI := BI.below hb
  replace BJ := BJ.below hb
  replace BP := BP.below hb
  replace BM := BM.below hb
  replace HB := HB.trans (hb.mono HB.size)
  have BB := hx
  clear hx hb
  refine kn_val k118 (want_none rfl) (x_assign k118 rfl rfl) rfl (by decide) rfl fun a119 k119 => ?_
  clear k118 a118
  replace k119 : Kn 221 a119 [(3, .pointer (some ⟨n0, 0, none⟩)), (4, .pointer (some ⟨(n0 + 1), 0, none⟩)), (7, .bool true), (8, .pointer (some ⟨gBP, 0, none⟩)), (24, .pointer (some ⟨gBM, 0, none⟩)), (15, .nilIface), (25, .pointer (some ⟨gBB, 0, none⟩)), (17, .nilIface)] := k119.sel [3, 4, 7, 8, 24, 15, 25, 17]
  refine wpList_nil ?_
  refine hK _ _ ?_
  clear hK K
  refine wp_seq_k fun K hK => ?_
  refine wp_region_lit ?_
  refine kn_val k119 (want_none rfl) (x_load k119 43 rfl _ 0 rfl P _ BB.1 Try.underlying43 rfl LP.i) rfl (by decide) rfl fun a120 k120 => ?_
  clear k119 a119
  refine kn_call k120 (want_none rfl) (x_call1 own45 k120 rfl rfl) rfl (by decide) rfl (cE _) fun a121 w22 k121 hb => ?_
  clear k120 a120
  replace BI := BI.below hb
  replace BJ := BJ.below hb
  replace BP := BP.below hb
  replace BM := BM.below hb
  replace BB := BB.below hb
  replace HB := HB.trans (hb.mono HB.size)
  clear hb
  refine kn_val k121 (want_none rfl) (x_move k121 rfl rfl) rfl (by decide) rfl fun a122 k122 => ?_
  clear k121 a121
  refine kn_val k122 (want_none rfl) (x_ex0 k122 rfl rfl) rfl (by decide) rfl fun a123 k123 => ?_
  clear k122 a122
  refine kn_val k123 (want_none rfl) (x_ex1 k123 rfl rfl) rfl (by decide) rfl fun a124 k124 => ?_
  clear k123 a123
  refine kn_new22 k124 LM rfl rfl rfl rfl (by decide) rfl rfl rfl rfl rfl fun a125 w23 gBN k125 hb hx => ?_
  clear k124 a124
  replace BI := BI.below hb
  replace BJ := BJ.below hb
  replace BP := BP.below hb
  replace BM := BM.below hb
  replace BB := BB.below hb
  replace HB := HB.trans (hb.mono HB.size)
  have BN := hx
  clear hx hb
  refine kn_val k125 (want_none rfl) (x_assign k125 rfl rfl) rfl (by decide) rfl fun a126 k126 => ?_
  clear k125 a125
  replace k126 : Kn 221 a126 [(3, .pointer (some ⟨n0, 0, none⟩)), (4, .pointer (some ⟨(n0 + 1), 0, none⟩)), (7, .bool true), (8, .pointer (some ⟨gBP, 0, none⟩)), (24, .pointer (some ⟨gBM, 0, none⟩)), (15, .nilIface), (25, .pointer (some ⟨gBB, 0, none⟩)), (17, .nilIface), (26, .pointer (some ⟨gBN, 0, none⟩)), (19, .nilIface)] := k126.sel [3, 4, 7, 8, 24, 15, 25, 17, 26, 19]
  refine wpList_nil ?_
  refine hK _ _ ?_
  clear hK K
  refine wp_seq_k fun K hK => ?_
  refine wp_seq_k fun K2 hK2 => ?_
  refine wp_region_lit ?_
  refine kn_val k126 (want_none rfl) (x_move k126 rfl rfl) rfl (by decide) rfl fun a127 k127 => ?_
  clear k126 a126
  refine kn_val k127 (want_none rfl) (x_neqnil k127 rfl rfl) rfl (by decide) rfl fun a128 k128 => ?_
  clear k127 a127
  refine kn_val k128 (want_none rfl) (x_move k128 rfl rfl) rfl (by decide) rfl fun a129 k129 => ?_
  clear k128 a128
  refine kn_val k129 (want_some (d := 135) k129 rfl (by kernel_rfl) rfl) (x_move k129 rfl rfl) rfl (by decide) rfl fun a130 k130 => ?_
  clear k129 a129
  refine kn_val k130 (want_some (d := 135) k130 rfl (by kernel_rfl) rfl) (x_neqnil k130 rfl rfl) rfl (by decide) rfl fun a131 k131 => ?_
  clear k130 a130
  refine kn_val k131 (want_none rfl) (x_or k131 rfl rfl rfl) rfl (by decide) rfl fun a132 k132 => ?_
  clear k131 a131
  refine kn_val k132 (want_none rfl) (x_move k132 rfl rfl) rfl (by decide) rfl fun a133 k133 => ?_
  clear k132 a132
  refine kn_val k133 (want_some (d := 139) k133 rfl (by kernel_rfl) rfl) (x_move k133 rfl rfl) rfl (by decide) rfl fun a134 k134 => ?_
  clear k133 a133
  refine kn_val k134 (want_some (d := 139) k134 rfl (by kernel_rfl) rfl) (x_neqnil k134 rfl rfl) rfl (by decide) rfl fun a135 k135 => ?_
  clear k134 a134
  refine kn_val k135 (want_none rfl) (x_or k135 rfl rfl rfl) rfl (by decide) rfl fun a136 k136 => ?_
  clear k135 a135
  refine kn_val k136 (want_none rfl) (x_move k136 rfl rfl) rfl (by decide) rfl fun a137 k137 => ?_
  clear k136 a136
  refine kn_val k137 (want_some (d := 143) k137 rfl (by kernel_rfl) rfl) (x_load k137 43 rfl _ 0 rfl P _ BB.1 Try.underlying43 rfl LP.i) rfl (by decide) rfl fun a138 k138 => ?_
  clear k137 a137
  refine kn_val k138 (want_some (d := 143) k138 rfl (by kernel_rfl) rfl) (x_load k138 43 rfl _ 0 rfl P _ BP.1 Try.underlying43 rfl LP.i) rfl (by decide) rfl fun a139 k139 => ?_
  clear k138 a138
  refine kn_val k139 (want_some (d := 143) k139 rfl (by kernel_rfl) rfl) (x_neq43 qP k139 rfl rfl rfl) rfl (by decide) rfl fun a140 k140 => ?_
  clear k139 a139
  refine kn_val k140 (want_none rfl) (x_or k140 rfl rfl rfl) rfl (by decide) rfl fun a141 k141 => ?_
  clear k140 a140
  refine kn_val k141 (want_none rfl) (x_move k141 rfl rfl) rfl (by decide) rfl fun a142 k142 => ?_
  clear k141 a141
  refine kn_val k142 (want_some (d := 148) k142 rfl (by kernel_rfl) rfl) (x_load k142 22 rfl _ 0 rfl M _ BN.1 Try.underlying22 rfl LM.i) rfl (by decide) rfl fun a143 k143 => ?_
  clear k142 a142
  refine kn_val k143 (want_some (d := 148) k143 rfl (by kernel_rfl) rfl) (x_load k143 22 rfl _ 0 rfl M _ BM.1 Try.underlying22 rfl LM.i) rfl (by decide) rfl fun a144 k144 => ?_
  clear k143 a143
  refine kn_val k144 (want_some (d := 148) k144 rfl (by kernel_rfl) rfl) (x_neq22 qM k144 rfl rfl rfl) rfl (by decide) rfl fun a145 k145 => ?_
  clear k144 a144
  refine kn_val k145 (want_none rfl) (x_or k145 rfl rfl rfl) rfl (by decide) rfl fun a146 k146 => ?_
  clear k145 a145
  refine wpList_nil ?_
  refine hK2 _ _ ?_
  clear hK2 K2
  refine wp_cond_false (k146.get (i := 152) rfl) ?_
  refine wp_skip ?_
  refine hK _ _ ?_
  clear hK K
  replace k146 : Kn 221 a146 [(3, .pointer (some ⟨n0, 0, none⟩)), (4, .pointer (some ⟨(n0 + 1), 0, none⟩)), (7, .bool true)] := k146.sel [3, 4, 7]
  clear BP BM BB BN
  refine seq_cut (fun a' w' => ∃ gf, Kn 221 a' [(3, .pointer (some ⟨n0, 0, none⟩)), (4, .pointer (some ⟨(n0 + 1), 0, none⟩)), (7, .bool true), (27, .pointer (some ⟨gf, 0, none⟩))] ∧ Below w23.heap.size w23 w' ∧ Rp w' gf 0 S1) (fun K hK => ?_) ?_
  · refine wp_region_held_drew (S := fun w' => Below w23.heap.size w23 w') (by kernel_rfl) (drewB w23) (fun hS => ?_)
    obtain ⟨v0, hv0⟩ : ∃ v, World.drew w23 = v := ⟨_, rfl⟩
    rw [hv0] at hS ⊢
    clear hv0
    refine knh_take 0 k146 rfl (by kernel_rfl) (by kernel_rfl) (by kernel_rfl) (fun _ _ _ h => h) (want_none rfl) (fun wq hq => x_load k146 22 rfl _ 0 rfl I _ (Rg.Below.range hq BI.1 BI.2) Try.underlying22 rfl LI.i) hS rfl (by decide) rfl fun a147 k147 => ?_
    clear k146 a146
    refine knh_take 2 k147 rfl (by kernel_rfl) (by kernel_rfl) (by kernel_rfl) (fun _ _ _ h => h) (want_none rfl) (fun wq hq => x_load k147 22 rfl _ 0 rfl J _ (Rg.Below.range hq BJ.1 BJ.2) Try.underlying22 rfl LJ.i) hS rfl (by decide) rfl fun a148 k148 => ?_
    clear k147 a147
    refine wpAnyH_ready (rs := [1, 4]) (by kernel_rfl) (by simp) ?_
    refine AllReadyH.cons rfl (fun K2 hK2 => ?_) (AllReadyH.cons rfl (fun K2 hK2 => ?_) AllReadyH.nil)
    · refine kop_call k148 (want_none rfl) (x_callc own46 rfl) rfl (by decide) rfl (c1 _) fun a149 v149 k149 hb => ?_
      refine hK2.out _ _ (hS.trans (hb.mono hS.size)) (fun hS => ?_)
      clear hK2 K2 hb k148 a148
      refine wpAnyH_ready (rs := [3, 4]) (by kernel_rfl) (by simp) ?_
      refine AllReadyH.cons rfl (fun K2 hK2 => ?_) (AllReadyH.cons rfl (fun K2 hK2 => ?_) AllReadyH.nil)
      · refine kop_call k149 (want_none rfl) (x_call3 own50 k149 rfl rfl rfl rfl) rfl (by decide) rfl (cM _) fun a150 v150 k150 hb => ?_
        refine hK2.out _ _ (hS.trans (hb.mono hS.size)) (fun hS => ?_)
        clear hK2 K2 hb k149 a149
        refine wpAnyH_ready (rs := [4]) (by kernel_rfl) (by simp) ?_
        refine AllReadyH.cons rfl (fun K2 hK2 => ?_) AllReadyH.nil
        refine kop_alloc22 k150 (want_none rfl) rfl rfl (by decide) rfl fun a151 v151 gf k151 hb HT HL HG => ?_
        replace HL := Nat.le_trans hS.size HL
        refine hK2.out _ _ (hS.trans (hb.mono hS.size)) (fun hS => ?_)
        clear hK2 K2 hb k150 a150
        refine wpAnyH_ready (rs := [5]) (by kernel_rfl) (by simp) ?_
        refine AllReadyH.cons rfl (fun K2 hK2 => ?_) AllReadyH.nil
        refine kop_store k151 (want_none rfl) 22 27 156 rfl rfl gf S1 rfl rfl (th_of22 LS1 HT) LS1.j LS1.o fun a152 k152 => ?_
        refine hK2.out _ _ (below_setCells hS HL) (fun hS => ?_)
        clear hK2 K2 k151 a151
        refine wpAnyH_done (by kernel_rfl) ?_ _
        exact hK _ _ ⟨gf, k152.sel [3, 4, 7, 27], hS, float_box22 LS1 HT HG⟩
      · refine kop_alloc22 k149 (want_none rfl) rfl rfl (by decide) rfl fun a153 v153 gf k153 hb HT HL HG => ?_
        replace HL := Nat.le_trans hS.size HL
        refine hK2.out _ _ (hS.trans (hb.mono hS.size)) (fun hS => ?_)
        clear hK2 K2 hb k149 a149
        refine wpAnyH_ready (rs := [3]) (by kernel_rfl) (by simp) ?_
        refine AllReadyH.cons rfl (fun K2 hK2 => ?_) AllReadyH.nil
        refine kop_call k153 (want_none rfl) (x_call3 own50 k153 rfl rfl rfl rfl) rfl (by decide) rfl (cM _) fun a154 v154 k154 hb => ?_
        replace HT := there_below hb HT HG
        replace HG := Nat.lt_of_lt_of_le HG hb.size
        refine hK2.out _ _ (hS.trans (hb.mono hS.size)) (fun hS => ?_)
        clear hK2 K2 hb k153 a153
        refine wpAnyH_ready (rs := [5]) (by kernel_rfl) (by simp) ?_
        refine AllReadyH.cons rfl (fun K2 hK2 => ?_) AllReadyH.nil
        refine kop_store k154 (want_none rfl) 22 27 156 rfl rfl gf S1 rfl rfl (th_of22 LS1 HT) LS1.j LS1.o fun a155 k155 => ?_
        refine hK2.out _ _ (below_setCells hS HL) (fun hS => ?_)
        clear hK2 K2 k154 a154
        refine wpAnyH_done (by kernel_rfl) ?_ _
        exact hK _ _ ⟨gf, k155.sel [3, 4, 7, 27], hS, float_box22 LS1 HT HG⟩
    · refine kop_alloc22 k148 (want_none rfl) rfl rfl (by decide) rfl fun a156 v156 gf k156 hb HT HL HG => ?_
      replace HL := Nat.le_trans hS.size HL
      refine hK2.out _ _ (hS.trans (hb.mono hS.size)) (fun hS => ?_)
      clear hK2 K2 hb k148 a148
      refine wpAnyH_ready (rs := [1]) (by kernel_rfl) (by simp) ?_
      refine AllReadyH.cons rfl (fun K2 hK2 => ?_) AllReadyH.nil
      refine kop_call k156 (want_none rfl) (x_callc own46 rfl) rfl (by decide) rfl (c1 _) fun a157 v157 k157 hb => ?_
      replace HT := there_below hb HT HG
      replace HG := Nat.lt_of_lt_of_le HG hb.size
      refine hK2.out _ _ (hS.trans (hb.mono hS.size)) (fun hS => ?_)
      clear hK2 K2 hb k156 a156
      refine wpAnyH_ready (rs := [3]) (by kernel_rfl) (by simp) ?_
      refine AllReadyH.cons rfl (fun K2 hK2 => ?_) AllReadyH.nil
      refine kop_call k157 (want_none rfl) (x_call3 own50 k157 rfl rfl rfl rfl) rfl (by decide) rfl (cM _) fun a158 v158 k158 hb => ?_
      replace HT := there_below hb HT HG
      replace HG := Nat.lt_of_lt_of_le HG hb.size
      refine hK2.out _ _ (hS.trans (hb.mono hS.size)) (fun hS => ?_)
      clear hK2 K2 hb k157 a157
      refine wpAnyH_ready (rs := [5]) (by kernel_rfl) (by simp) ?_
      refine AllReadyH.cons rfl (fun K2 hK2 => ?_) AllReadyH.nil
      refine kop_store k158 (want_none rfl) 22 27 156 rfl rfl gf S1 rfl rfl (th_of22 LS1 HT) LS1.j LS1.o fun a159 k159 => ?_
      refine hK2.out _ _ (below_setCells hS HL) (fun hS => ?_)
      clear hK2 K2 k158 a158
      refine wpAnyH_done (by kernel_rfl) ?_ _
      exact hK _ _ ⟨gf, k159.sel [3, 4, 7, 27], hS, float_box22 LS1 HT HG⟩
  rintro a160 w24 ⟨gBS, k160, hb, hx⟩
  clear k146 a146
  replace BI := BI.below hb
  replace BJ := BJ.below hb
  replace HB := HB.trans (hb.mono HB.size)
  have BS := hx
  clear hx hb
  refine seq_cut (fun a' w' => ∃ gf, Kn 221 a' [(3, .pointer (some ⟨n0, 0, none⟩)), (4, .pointer (some ⟨(n0 + 1), 0, none⟩)), (7, .bool true), (28, .pointer (some ⟨gf, 0, none⟩)), (15, .nilIface)] ∧ Below w24.heap.size w24 w' ∧ Rp w' gf 0 Wn) (fun K hK => ?_) ?_
  · refine wp_region_held_drew (S := fun w' => Below w24.heap.size w24 w') (by kernel_rfl) (drewB w24) (fun hS => ?_)
    obtain ⟨v0, hv0⟩ : ∃ v, World.drew w24 = v := ⟨_, rfl⟩
    rw [hv0] at hS ⊢
    clear hv0
    refine knh_take 0 k160 rfl (by kernel_rfl) (by kernel_rfl) (by kernel_rfl) (fun _ _ _ h => h) (want_none rfl) (fun wq hq => x_load k160 22 rfl _ 0 rfl S1 _ (Rg.Below.range hq BS.1 BS.2) Try.underlying22 rfl LS1.i) hS rfl (by decide) rfl fun a161 k161 => ?_
    clear k160 a160
    refine wpAnyH_ready (rs := [1, 6]) (by kernel_rfl) (by simp) ?_
    refine AllReadyH.cons rfl (fun K2 hK2 => ?_) (AllReadyH.cons rfl (fun K2 hK2 => ?_) AllReadyH.nil)
    · refine kop_call k161 (want_none rfl) (x_call0 own30 rfl) rfl (by decide) rfl (cV _) fun a162 v162 k162 hb => ?_
      refine hK2.out _ _ (hS.trans (hb.mono hS.size)) (fun hS => ?_)
      clear hK2 K2 hb k161 a161
      refine wpAnyH_ready (rs := [2, 6]) (by kernel_rfl) (by simp) ?_
      refine AllReadyH.cons rfl (fun K2 hK2 => ?_) (AllReadyH.cons rfl (fun K2 hK2 => ?_) AllReadyH.nil)
      · refine kop_call k162 (want_none rfl) (x_call2 own41 k162 rfl rfl rfl) rfl (by decide) rfl (cT _) fun a163 v163 k163 hb => ?_
        refine hK2.out _ _ (hS.trans (hb.mono hS.size)) (fun hS => ?_)
        clear hK2 K2 hb k162 a162
        refine knh_take 3 k163 rfl (by kernel_rfl) (by kernel_rfl) (by kernel_rfl) (fun _ _ _ h => h) (want_none rfl) (fun wq hq => x_move k163 rfl rfl) hS rfl (by decide) rfl fun a164 k164 => ?_
        clear k163 a163
        refine knh_take 4 k164 rfl (by kernel_rfl) (by kernel_rfl) (by kernel_rfl) (fun _ _ _ h => h) (want_none rfl) (fun wq hq => x_ex0 k164 rfl rfl) hS rfl (by decide) rfl fun a165 k165 => ?_
        clear k164 a164
        refine knh_take 5 k165 rfl (by kernel_rfl) (by kernel_rfl) (by kernel_rfl) (fun _ _ _ h => h) (want_none rfl) (fun wq hq => x_ex1 k165 rfl rfl) hS rfl (by decide) rfl fun a166 k166 => ?_
        clear k165 a165
        refine wpAnyH_ready (rs := [6]) (by kernel_rfl) (by simp) ?_
        refine AllReadyH.cons rfl (fun K2 hK2 => ?_) AllReadyH.nil
        refine kop_alloc43 k166 (want_none rfl) rfl rfl (by decide) rfl fun a167 v167 gf k167 hb HT HL HG => ?_
        replace HL := Nat.le_trans hS.size HL
        refine hK2.out _ _ (hS.trans (hb.mono hS.size)) (fun hS => ?_)
        clear hK2 K2 hb k166 a166
        refine wpAnyH_ready (rs := [7]) (by kernel_rfl) (by simp) ?_
        refine AllReadyH.cons rfl (fun K2 hK2 => ?_) AllReadyH.nil
        refine kop_store k167 (want_none rfl) 43 28 161 rfl rfl gf Wn rfl rfl (th_of43 LWn HT) LWn.j LWn.o fun a168 k168 => ?_
        refine hK2.out _ _ (below_setCells hS HL) (fun hS => ?_)
        clear hK2 K2 k167 a167
        refine wpAnyH_ready (rs := [8]) (by kernel_rfl) (by simp) ?_
        refine AllReadyH.cons rfl (fun K2 hK2 => ?_) AllReadyH.nil
        refine kop_val k168 (want_none rfl) (x_assign k168 rfl rfl) rfl (by decide) rfl fun a169 k169 => ?_
        refine hK2.out _ _ hS (fun hS => ?_)
        clear hK2 K2 k168 a168
        refine wpAnyH_done (by kernel_rfl) ?_ _
        exact hK _ _ ⟨gf, k169.sel [3, 4, 7, 28, 15], hS, float_box43 LWn HT HG⟩
      · refine kop_alloc43 k162 (want_none rfl) rfl rfl (by decide) rfl fun a170 v170 gf k170 hb HT HL HG => ?_
        replace HL := Nat.le_trans hS.size HL
        refine hK2.out _ _ (hS.trans (hb.mono hS.size)) (fun hS => ?_)
        clear hK2 K2 hb k162 a162
        refine wpAnyH_ready (rs := [2]) (by kernel_rfl) (by simp) ?_
        refine AllReadyH.cons rfl (fun K2 hK2 => ?_) AllReadyH.nil
        refine kop_call k170 (want_none rfl) (x_call2 own41 k170 rfl rfl rfl) rfl (by decide) rfl (cT _) fun a171 v171 k171 hb => ?_
        replace HT := there_below hb HT HG
        replace HG := Nat.lt_of_lt_of_le HG hb.size
        refine hK2.out _ _ (hS.trans (hb.mono hS.size)) (fun hS => ?_)
        clear hK2 K2 hb k170 a170
        refine knh_take 3 k171 rfl (by kernel_rfl) (by kernel_rfl) (by kernel_rfl) (fun _ _ _ h => h) (want_none rfl) (fun wq hq => x_move k171 rfl rfl) hS rfl (by decide) rfl fun a172 k172 => ?_
        clear k171 a171
        refine knh_take 4 k172 rfl (by kernel_rfl) (by kernel_rfl) (by kernel_rfl) (fun _ _ _ h => h) (want_none rfl) (fun wq hq => x_ex0 k172 rfl rfl) hS rfl (by decide) rfl fun a173 k173 => ?_
        clear k172 a172
        refine knh_take 5 k173 rfl (by kernel_rfl) (by kernel_rfl) (by kernel_rfl) (fun _ _ _ h => h) (want_none rfl) (fun wq hq => x_ex1 k173 rfl rfl) hS rfl (by decide) rfl fun a174 k174 => ?_
        clear k173 a173
        refine wpAnyH_ready (rs := [7]) (by kernel_rfl) (by simp) ?_
        refine AllReadyH.cons rfl (fun K2 hK2 => ?_) AllReadyH.nil
        refine kop_store k174 (want_none rfl) 43 28 161 rfl rfl gf Wn rfl rfl (th_of43 LWn HT) LWn.j LWn.o fun a175 k175 => ?_
        refine hK2.out _ _ (below_setCells hS HL) (fun hS => ?_)
        clear hK2 K2 k174 a174
        refine wpAnyH_ready (rs := [8]) (by kernel_rfl) (by simp) ?_
        refine AllReadyH.cons rfl (fun K2 hK2 => ?_) AllReadyH.nil
        refine kop_val k175 (want_none rfl) (x_assign k175 rfl rfl) rfl (by decide) rfl fun a176 k176 => ?_
        refine hK2.out _ _ hS (fun hS => ?_)
        clear hK2 K2 k175 a175
        refine wpAnyH_done (by kernel_rfl) ?_ _
        exact hK _ _ ⟨gf, k176.sel [3, 4, 7, 28, 15], hS, float_box43 LWn HT HG⟩
    · refine kop_alloc43 k161 (want_none rfl) rfl rfl (by decide) rfl fun a177 v177 gf k177 hb HT HL HG => ?_
      replace HL := Nat.le_trans hS.size HL
      refine hK2.out _ _ (hS.trans (hb.mono hS.size)) (fun hS => ?_)
      clear hK2 K2 hb k161 a161
      refine wpAnyH_ready (rs := [1]) (by kernel_rfl) (by simp) ?_
      refine AllReadyH.cons rfl (fun K2 hK2 => ?_) AllReadyH.nil
      refine kop_call k177 (want_none rfl) (x_call0 own30 rfl) rfl (by decide) rfl (cV _) fun a178 v178 k178 hb => ?_
      replace HT := there_below hb HT HG
      replace HG := Nat.lt_of_lt_of_le HG hb.size
      refine hK2.out _ _ (hS.trans (hb.mono hS.size)) (fun hS => ?_)
      clear hK2 K2 hb k177 a177
      refine wpAnyH_ready (rs := [2]) (by kernel_rfl) (by simp) ?_
      refine AllReadyH.cons rfl (fun K2 hK2 => ?_) AllReadyH.nil
      refine kop_call k178 (want_none rfl) (x_call2 own41 k178 rfl rfl rfl) rfl (by decide) rfl (cT _) fun a179 v179 k179 hb => ?_
      replace HT := there_below hb HT HG
      replace HG := Nat.lt_of_lt_of_le HG hb.size
      refine hK2.out _ _ (hS.trans (hb.mono hS.size)) (fun hS => ?_)
      clear hK2 K2 hb k178 a178
      refine knh_take 3 k179 rfl (by kernel_rfl) (by kernel_rfl) (by kernel_rfl) (fun _ _ _ h => h) (want_none rfl) (fun wq hq => x_move k179 rfl rfl) hS rfl (by decide) rfl fun a180 k180 => ?_
      clear k179 a179
      refine knh_take 4 k180 rfl (by kernel_rfl) (by kernel_rfl) (by kernel_rfl) (fun _ _ _ h => h) (want_none rfl) (fun wq hq => x_ex0 k180 rfl rfl) hS rfl (by decide) rfl fun a181 k181 => ?_
      clear k180 a180
      refine knh_take 5 k181 rfl (by kernel_rfl) (by kernel_rfl) (by kernel_rfl) (fun _ _ _ h => h) (want_none rfl) (fun wq hq => x_ex1 k181 rfl rfl) hS rfl (by decide) rfl fun a182 k182 => ?_
      clear k181 a181
      refine wpAnyH_ready (rs := [7]) (by kernel_rfl) (by simp) ?_
      refine AllReadyH.cons rfl (fun K2 hK2 => ?_) AllReadyH.nil
      refine kop_store k182 (want_none rfl) 43 28 161 rfl rfl gf Wn rfl rfl (th_of43 LWn HT) LWn.j LWn.o fun a183 k183 => ?_
      refine hK2.out _ _ (below_setCells hS HL) (fun hS => ?_)
      clear hK2 K2 k182 a182
      refine wpAnyH_ready (rs := [8]) (by kernel_rfl) (by simp) ?_
      refine AllReadyH.cons rfl (fun K2 hK2 => ?_) AllReadyH.nil
      refine kop_val k183 (want_none rfl) (x_assign k183 rfl rfl) rfl (by decide) rfl fun a184 k184 => ?_
      refine hK2.out _ _ hS (fun hS => ?_)
      clear hK2 K2 k183 a183
      refine wpAnyH_done (by kernel_rfl) ?_ _
      exact hK _ _ ⟨gf, k184.sel [3, 4, 7, 28, 15], hS, float_box43 LWn HT HG⟩
  rintro a185 w25 ⟨gBT, k185, hb, hx⟩
  clear k160 a160
  clear BS
  replace BI := BI.below hb
  replace BJ := BJ.below hb
  replace HB := HB.trans (hb.mono HB.size)
  have BT := hx
  clear hx hb
  refine seq_cut (fun a' w' => ∃ gf, Kn 221 a' [(4, .pointer (some ⟨(n0 + 1), 0, none⟩)), (7, .bool true), (28, .pointer (some ⟨gBT, 0, none⟩)), (15, .nilIface), (29, .pointer (some ⟨gf, 0, none⟩)), (17, .nilIface)] ∧ Below w25.heap.size w25 w' ∧ Rp w' gf 0 U) (fun K hK => ?_) ?_
  · refine wp_region_held_drew (S := fun w' => Below w25.heap.size w25 w') (by kernel_rfl) (drewB w25) (fun hS => ?_)
    obtain ⟨v0, hv0⟩ : ∃ v, World.drew w25 = v := ⟨_, rfl⟩
    rw [hv0] at hS ⊢
    clear hv0
    refine knh_take 0 k185 rfl (by kernel_rfl) (by kernel_rfl) (by kernel_rfl) (fun _ _ _ h => h) (want_none rfl) (fun wq hq => x_load k185 22 rfl _ 0 rfl I _ (Rg.Below.range hq BI.1 BI.2) Try.underlying22 rfl LI.i) hS rfl (by decide) rfl fun a186 k186 => ?_
    clear k185 a185
    refine wpAnyH_ready (rs := [1, 6]) (by kernel_rfl) (by simp) ?_
    refine AllReadyH.cons rfl (fun K2 hK2 => ?_) (AllReadyH.cons rfl (fun K2 hK2 => ?_) AllReadyH.nil)
    · refine kop_call k186 (want_none rfl) (x_call0 own30 rfl) rfl (by decide) rfl (cV _) fun a187 v187 k187 hb => ?_
      refine hK2.out _ _ (hS.trans (hb.mono hS.size)) (fun hS => ?_)
      clear hK2 K2 hb k186 a186
      refine wpAnyH_ready (rs := [2, 6]) (by kernel_rfl) (by simp) ?_
      refine AllReadyH.cons rfl (fun K2 hK2 => ?_) (AllReadyH.cons rfl (fun K2 hK2 => ?_) AllReadyH.nil)
      · refine kop_call k187 (want_none rfl) (x_call2 own41 k187 rfl rfl rfl) rfl (by decide) rfl (cU _) fun a188 v188 k188 hb => ?_
        refine hK2.out _ _ (hS.trans (hb.mono hS.size)) (fun hS => ?_)
        clear hK2 K2 hb k187 a187
        refine knh_take 3 k188 rfl (by kernel_rfl) (by kernel_rfl) (by kernel_rfl) (fun _ _ _ h => h) (want_none rfl) (fun wq hq => x_move k188 rfl rfl) hS rfl (by decide) rfl fun a189 k189 => ?_
        clear k188 a188
        refine knh_take 4 k189 rfl (by kernel_rfl) (by kernel_rfl) (by kernel_rfl) (fun _ _ _ h => h) (want_none rfl) (fun wq hq => x_ex0 k189 rfl rfl) hS rfl (by decide) rfl fun a190 k190 => ?_
        clear k189 a189
        refine knh_take 5 k190 rfl (by kernel_rfl) (by kernel_rfl) (by kernel_rfl) (fun _ _ _ h => h) (want_none rfl) (fun wq hq => x_ex1 k190 rfl rfl) hS rfl (by decide) rfl fun a191 k191 => ?_
        clear k190 a190
        refine wpAnyH_ready (rs := [6]) (by kernel_rfl) (by simp) ?_
        refine AllReadyH.cons rfl (fun K2 hK2 => ?_) AllReadyH.nil
        refine kop_alloc43 k191 (want_none rfl) rfl rfl (by decide) rfl fun a192 v192 gf k192 hb HT HL HG => ?_
        replace HL := Nat.le_trans hS.size HL
        refine hK2.out _ _ (hS.trans (hb.mono hS.size)) (fun hS => ?_)
        clear hK2 K2 hb k191 a191
        refine wpAnyH_ready (rs := [7]) (by kernel_rfl) (by simp) ?_
        refine AllReadyH.cons rfl (fun K2 hK2 => ?_) AllReadyH.nil
        refine kop_store k192 (want_none rfl) 43 29 167 rfl rfl gf U rfl rfl (th_of43 LU HT) LU.j LU.o fun a193 k193 => ?_
        refine hK2.out _ _ (below_setCells hS HL) (fun hS => ?_)
        clear hK2 K2 k192 a192
        refine wpAnyH_ready (rs := [8]) (by kernel_rfl) (by simp) ?_
        refine AllReadyH.cons rfl (fun K2 hK2 => ?_) AllReadyH.nil
        refine kop_val k193 (want_none rfl) (x_assign k193 rfl rfl) rfl (by decide) rfl fun a194 k194 => ?_
        refine hK2.out _ _ hS (fun hS => ?_)
        clear hK2 K2 k193 a193
        refine wpAnyH_done (by kernel_rfl) ?_ _
        exact hK _ _ ⟨gf, k194.sel [4, 7, 28, 15, 29, 17], hS, float_box43 LU HT HG⟩
      · refine kop_alloc43 k187 (want_none rfl) rfl rfl (by decide) rfl fun a195 v195 gf k195 hb HT HL HG => ?_
        replace HL := Nat.le_trans hS.size HL
        refine hK2.out _ _ (hS.trans (hb.mono hS.size)) (fun hS => ?_)
        clear hK2 K2 hb k187 a187
        refine wpAnyH_ready (rs := [2]) (by kernel_rfl) (by simp) ?_
        refine AllReadyH.cons rfl (fun K2 hK2 => ?_) AllReadyH.nil
        refine kop_call k195 (want_none rfl) (x_call2 own41 k195 rfl rfl rfl) rfl (by decide) rfl (cU _) fun a196 v196 k196 hb => ?_
        replace HT := there_below hb HT HG
        replace HG := Nat.lt_of_lt_of_le HG hb.size
        refine hK2.out _ _ (hS.trans (hb.mono hS.size)) (fun hS => ?_)
        clear hK2 K2 hb k195 a195
        refine knh_take 3 k196 rfl (by kernel_rfl) (by kernel_rfl) (by kernel_rfl) (fun _ _ _ h => h) (want_none rfl) (fun wq hq => x_move k196 rfl rfl) hS rfl (by decide) rfl fun a197 k197 => ?_
        clear k196 a196
        refine knh_take 4 k197 rfl (by kernel_rfl) (by kernel_rfl) (by kernel_rfl) (fun _ _ _ h => h) (want_none rfl) (fun wq hq => x_ex0 k197 rfl rfl) hS rfl (by decide) rfl fun a198 k198 => ?_
        clear k197 a197
        refine knh_take 5 k198 rfl (by kernel_rfl) (by kernel_rfl) (by kernel_rfl) (fun _ _ _ h => h) (want_none rfl) (fun wq hq => x_ex1 k198 rfl rfl) hS rfl (by decide) rfl fun a199 k199 => ?_
        clear k198 a198
        refine wpAnyH_ready (rs := [7]) (by kernel_rfl) (by simp) ?_
        refine AllReadyH.cons rfl (fun K2 hK2 => ?_) AllReadyH.nil
        refine kop_store k199 (want_none rfl) 43 29 167 rfl rfl gf U rfl rfl (th_of43 LU HT) LU.j LU.o fun a200 k200 => ?_
        refine hK2.out _ _ (below_setCells hS HL) (fun hS => ?_)
        clear hK2 K2 k199 a199
        refine wpAnyH_ready (rs := [8]) (by kernel_rfl) (by simp) ?_
        refine AllReadyH.cons rfl (fun K2 hK2 => ?_) AllReadyH.nil
        refine kop_val k200 (want_none rfl) (x_assign k200 rfl rfl) rfl (by decide) rfl fun a201 k201 => ?_
        refine hK2.out _ _ hS (fun hS => ?_)
        clear hK2 K2 k200 a200
        refine wpAnyH_done (by kernel_rfl) ?_ _
        exact hK _ _ ⟨gf, k201.sel [4, 7, 28, 15, 29, 17], hS, float_box43 LU HT HG⟩
    · refine kop_alloc43 k186 (want_none rfl) rfl rfl (by decide) rfl fun a202 v202 gf k202 hb HT HL HG => ?_
      replace HL := Nat.le_trans hS.size HL
      refine hK2.out _ _ (hS.trans (hb.mono hS.size)) (fun hS => ?_)
      clear hK2 K2 hb k186 a186
      refine wpAnyH_ready (rs := [1]) (by kernel_rfl) (by simp) ?_
      refine AllReadyH.cons rfl (fun K2 hK2 => ?_) AllReadyH.nil
      refine kop_call k202 (want_none rfl) (x_call0 own30 rfl) rfl (by decide) rfl (cV _) fun a203 v203 k203 hb => ?_
      replace HT := there_below hb HT HG
      replace HG := Nat.lt_of_lt_of_le HG hb.size
      refine hK2.out _ _ (hS.trans (hb.mono hS.size)) (fun hS => ?_)
      clear hK2 K2 hb k202 a202
      refine wpAnyH_ready (rs := [2]) (by kernel_rfl) (by simp) ?_
      refine AllReadyH.cons rfl (fun K2 hK2 => ?_) AllReadyH.nil
      refine kop_call k203 (want_none rfl) (x_call2 own41 k203 rfl rfl rfl) rfl (by decide) rfl (cU _) fun a204 v204 k204 hb => ?_
      replace HT := there_below hb HT HG
      replace HG := Nat.lt_of_lt_of_le HG hb.size
      refine hK2.out _ _ (hS.trans (hb.mono hS.size)) (fun hS => ?_)
      clear hK2 K2 hb k203 a203
      refine knh_take 3 k204 rfl (by kernel_rfl) (by kernel_rfl) (by kernel_rfl) (fun _ _ _ h => h) (want_none rfl) (fun wq hq => x_move k204 rfl rfl) hS rfl (by decide) rfl fun a205 k205 => ?_
      clear k204 a204
      refine knh_take 4 k205 rfl (by kernel_rfl) (by kernel_rfl) (by kernel_rfl) (fun _ _ _ h => h) (want_none rfl) (fun wq hq => x_ex0 k205 rfl rfl) hS rfl (by decide) rfl fun a206 k206 => ?_
      clear k205 a205
      refine knh_take 5 k206 rfl (by kernel_rfl) (by kernel_rfl) (by kernel_rfl) (fun _ _ _ h => h) (want_none rfl) (fun wq hq => x_ex1 k206 rfl rfl) hS rfl (by decide) rfl fun a207 k207 => ?_
      clear k206 a206
      refine wpAnyH_ready (rs := [7]) (by kernel_rfl) (by simp) ?_
      refine AllReadyH.cons rfl (fun K2 hK2 => ?_) AllReadyH.nil
      refine kop_store k207 (want_none rfl) 43 29 167 rfl rfl gf U rfl rfl (th_of43 LU HT) LU.j LU.o fun a208 k208 => ?_
      refine hK2.out _ _ (below_setCells hS HL) (fun hS => ?_)
      clear hK2 K2 k207 a207
      refine wpAnyH_ready (rs := [8]) (by kernel_rfl) (by simp) ?_
      refine AllReadyH.cons rfl (fun K2 hK2 => ?_) AllReadyH.nil
      refine kop_val k208 (want_none rfl) (x_assign k208 rfl rfl) rfl (by decide) rfl fun a209 k209 => ?_
      refine hK2.out _ _ hS (fun hS => ?_)
      clear hK2 K2 k208 a208
      refine wpAnyH_done (by kernel_rfl) ?_ _
      exact hK _ _ ⟨gf, k209.sel [4, 7, 28, 15, 29, 17], hS, float_box43 LU HT HG⟩
  rintro a210 w26 ⟨gBU, k210, hb, hx⟩
  clear k185 a185
  clear BI
  replace BJ := BJ.below hb
  replace BT := BT.below hb
  replace HB := HB.trans (hb.mono HB.size)
  have BU := hx
  clear hx hb
  refine seq_cut (fun a' w' => ∃ gf, Kn 221 a' [(7, .bool true), (28, .pointer (some ⟨gBT, 0, none⟩)), (15, .nilIface), (29, .pointer (some ⟨gBU, 0, none⟩)), (17, .nilIface), (30, .pointer (some ⟨gf, 0, none⟩)), (19, .nilIface)] ∧ Below w26.heap.size w26 w' ∧ Rp w' gf 0 V) (fun K hK => ?_) ?_
  · refine wp_region_held_drew (S := fun w' => Below w26.heap.size w26 w') (by kernel_rfl) (drewB w26) (fun hS => ?_)
    obtain ⟨v0, hv0⟩ : ∃ v, World.drew w26 = v := ⟨_, rfl⟩
    rw [hv0] at hS ⊢
    clear hv0
    refine knh_take 0 k210 rfl (by kernel_rfl) (by kernel_rfl) (by kernel_rfl) (fun _ _ _ h => h) (want_none rfl) (fun wq hq => x_load k210 22 rfl _ 0 rfl J _ (Rg.Below.range hq BJ.1 BJ.2) Try.underlying22 rfl LJ.i) hS rfl (by decide) rfl fun a211 k211 => ?_
    clear k210 a210
    refine wpAnyH_ready (rs := [1, 6]) (by kernel_rfl) (by simp) ?_
    refine AllReadyH.cons rfl (fun K2 hK2 => ?_) (AllReadyH.cons rfl (fun K2 hK2 => ?_) AllReadyH.nil)
    · refine kop_call k211 (want_none rfl) (x_call0 own30 rfl) rfl (by decide) rfl (cV _) fun a212 v212 k212 hb => ?_
      refine hK2.out _ _ (hS.trans (hb.mono hS.size)) (fun hS => ?_)
      clear hK2 K2 hb k211 a211
      refine wpAnyH_ready (rs := [2, 6]) (by kernel_rfl) (by simp) ?_
      refine AllReadyH.cons rfl (fun K2 hK2 => ?_) (AllReadyH.cons rfl (fun K2 hK2 => ?_) AllReadyH.nil)
      · refine kop_call k212 (want_none rfl) (x_call2 own41 k212 rfl rfl rfl) rfl (by decide) rfl (cY _) fun a213 v213 k213 hb => ?_
        refine hK2.out _ _ (hS.trans (hb.mono hS.size)) (fun hS => ?_)
        clear hK2 K2 hb k212 a212
        refine knh_take 3 k213 rfl (by kernel_rfl) (by kernel_rfl) (by kernel_rfl) (fun _ _ _ h => h) (want_none rfl) (fun wq hq => x_move k213 rfl rfl) hS rfl (by decide) rfl fun a214 k214 => ?_
        clear k213 a213
        refine knh_take 4 k214 rfl (by kernel_rfl) (by kernel_rfl) (by kernel_rfl) (fun _ _ _ h => h) (want_none rfl) (fun wq hq => x_ex0 k214 rfl rfl) hS rfl (by decide) rfl fun a215 k215 => ?_
        clear k214 a214
        refine knh_take 5 k215 rfl (by kernel_rfl) (by kernel_rfl) (by kernel_rfl) (fun _ _ _ h => h) (want_none rfl) (fun wq hq => x_ex1 k215 rfl rfl) hS rfl (by decide) rfl fun a216 k216 => ?_
        clear k215 a215
        refine wpAnyH_ready (rs := [6]) (by kernel_rfl) (by simp) ?_
        refine AllReadyH.cons rfl (fun K2 hK2 => ?_) AllReadyH.nil
        refine kop_alloc43 k216 (want_none rfl) rfl rfl (by decide) rfl fun a217 v217 gf k217 hb HT HL HG => ?_
        replace HL := Nat.le_trans hS.size HL
        refine hK2.out _ _ (hS.trans (hb.mono hS.size)) (fun hS => ?_)
        clear hK2 K2 hb k216 a216
        refine wpAnyH_ready (rs := [7]) (by kernel_rfl) (by simp) ?_
        refine AllReadyH.cons rfl (fun K2 hK2 => ?_) AllReadyH.nil
        refine kop_store k217 (want_none rfl) 43 30 173 rfl rfl gf V rfl rfl (th_of43 LV HT) LV.j LV.o fun a218 k218 => ?_
        refine hK2.out _ _ (below_setCells hS HL) (fun hS => ?_)
        clear hK2 K2 k217 a217
        refine wpAnyH_ready (rs := [8]) (by kernel_rfl) (by simp) ?_
        refine AllReadyH.cons rfl (fun K2 hK2 => ?_) AllReadyH.nil
        refine kop_val k218 (want_none rfl) (x_assign k218 rfl rfl) rfl (by decide) rfl fun a219 k219 => ?_
        refine hK2.out _ _ hS (fun hS => ?_)
        clear hK2 K2 k218 a218
        refine wpAnyH_done (by kernel_rfl) ?_ _
        exact hK _ _ ⟨gf, k219.sel [7, 28, 15, 29, 17, 30, 19], hS, float_box43 LV HT HG⟩
      · refine kop_alloc43 k212 (want_none rfl) rfl rfl (by decide) rfl fun a220 v220 gf k220 hb HT HL HG => ?_
        replace HL := Nat.le_trans hS.size HL
        refine hK2.out _ _ (hS.trans (hb.mono hS.size)) (fun hS => ?_)
        clear hK2 K2 hb k212 a212
        refine wpAnyH_ready (rs := [2]) (by kernel_rfl) (by simp) ?_
        refine AllReadyH.cons rfl (fun K2 hK2 => ?_) AllReadyH.nil
        refine kop_call k220 (want_none rfl) (x_call2 own41 k220 rfl rfl rfl) rfl (by decide) rfl (cY _) fun a221 v221 k221 hb => ?_
        replace HT := there_below hb HT HG
        replace HG := Nat.lt_of_lt_of_le HG hb.size
        refine hK2.out _ _ (hS.trans (hb.mono hS.size)) (fun hS => ?_)
        clear hK2 K2 hb k220 a220
        refine knh_take 3 k221 rfl (by kernel_rfl) (by kernel_rfl) (by kernel_rfl) (fun _ _ _ h => h) (want_none rfl) (fun wq hq => x_move k221 rfl rfl) hS rfl (by decide) rfl fun a222 k222 => ?_
        clear k221 a221
        refine knh_take 4 k222 rfl (by kernel_rfl) (by kernel_rfl) (by kernel_rfl) (fun _ _ _ h => h) (want_none rfl) (fun wq hq => x_ex0 k222 rfl rfl) hS rfl (by decide) rfl fun a223 k223 => ?_
        clear k222 a222
        refine knh_take 5 k223 rfl (by kernel_rfl) (by kernel_rfl) (by kernel_rfl) (fun _ _ _ h => h) (want_none rfl) (fun wq hq => x_ex1 k223 rfl rfl) hS rfl (by decide) rfl fun a224 k224 => ?_
        clear k223 a223
        refine wpAnyH_ready (rs := [7]) (by kernel_rfl) (by simp) ?_
        refine AllReadyH.cons rfl (fun K2 hK2 => ?_) AllReadyH.nil
        refine kop_store k224 (want_none rfl) 43 30 173 rfl rfl gf V rfl rfl (th_of43 LV HT) LV.j LV.o fun a225 k225 => ?_
        refine hK2.out _ _ (below_setCells hS HL) (fun hS => ?_)
        clear hK2 K2 k224 a224
        refine wpAnyH_ready (rs := [8]) (by kernel_rfl) (by simp) ?_
        refine AllReadyH.cons rfl (fun K2 hK2 => ?_) AllReadyH.nil
        refine kop_val k225 (want_none rfl) (x_assign k225 rfl rfl) rfl (by decide) rfl fun a226 k226 => ?_
        refine hK2.out _ _ hS (fun hS => ?_)
        clear hK2 K2 k225 a225
        refine wpAnyH_done (by kernel_rfl) ?_ _
        exact hK _ _ ⟨gf, k226.sel [7, 28, 15, 29, 17, 30, 19], hS, float_box43 LV HT HG⟩
    · refine kop_alloc43 k211 (want_none rfl) rfl rfl (by decide) rfl fun a227 v227 gf k227 hb HT HL HG => ?_
      replace HL := Nat.le_trans hS.size HL
      refine hK2.out _ _ (hS.trans (hb.mono hS.size)) (fun hS => ?_)
      clear hK2 K2 hb k211 a211
      refine wpAnyH_ready (rs := [1]) (by kernel_rfl) (by simp) ?_
      refine AllReadyH.cons rfl (fun K2 hK2 => ?_) AllReadyH.nil
      refine kop_call k227 (want_none rfl) (x_call0 own30 rfl) rfl (by decide) rfl (cV _) fun a228 v228 k228 hb => ?_
      replace HT := there_below hb HT HG
      replace HG := Nat.lt_of_lt_of_le HG hb.size
      refine hK2.out _ _ (hS.trans (hb.mono hS.size)) (fun hS => ?_)
      clear hK2 K2 hb k227 a227
      refine wpAnyH_ready (rs := [2]) (by kernel_rfl) (by simp) ?_
      refine AllReadyH.cons rfl (fun K2 hK2 => ?_) AllReadyH.nil
      refine kop_call k228 (want_none rfl) (x_call2 own41 k228 rfl rfl rfl) rfl (by decide) rfl (cY _) fun a229 v229 k229 hb => ?_
      replace HT := there_below hb HT HG
      replace HG := Nat.lt_of_lt_of_le HG hb.size
      refine hK2.out _ _ (hS.trans (hb.mono hS.size)) (fun hS => ?_)
      clear hK2 K2 hb k228 a228
      refine knh_take 3 k229 rfl (by kernel_rfl) (by kernel_rfl) (by kernel_rfl) (fun _ _ _ h => h) (want_none rfl) (fun wq hq => x_move k229 rfl rfl) hS rfl (by decide) rfl fun a230 k230 => ?_
      clear k229 a229
      refine knh_take 4 k230 rfl (by kernel_rfl) (by kernel_rfl) (by kernel_rfl) (fun _ _ _ h => h) (want_none rfl) (fun wq hq => x_ex0 k230 rfl rfl) hS rfl (by decide) rfl fun a231 k231 => ?_
      clear k230 a230
      refine knh_take 5 k231 rfl (by kernel_rfl) (by kernel_rfl) (by kernel_rfl) (fun _ _ _ h => h) (want_none rfl) (fun wq hq => x_ex1 k231 rfl rfl) hS rfl (by decide) rfl fun a232 k232 => ?_
      clear k231 a231
      refine wpAnyH_ready (rs := [7]) (by kernel_rfl) (by simp) ?_
      refine AllReadyH.cons rfl (fun K2 hK2 => ?_) AllReadyH.nil
      refine kop_store k232 (want_none rfl) 43 30 173 rfl rfl gf V rfl rfl (th_of43 LV HT) LV.j LV.o fun a233 k233 => ?_
      refine hK2.out _ _ (below_setCells hS HL) (fun hS => ?_)
      clear hK2 K2 k232 a232
      refine wpAnyH_ready (rs := [8]) (by kernel_rfl) (by simp) ?_
      refine AllReadyH.cons rfl (fun K2 hK2 => ?_) AllReadyH.nil
      refine kop_val k233 (want_none rfl) (x_assign k233 rfl rfl) rfl (by decide) rfl fun a234 k234 => ?_
      refine hK2.out _ _ hS (fun hS => ?_)
      clear hK2 K2 k233 a233
      refine wpAnyH_done (by kernel_rfl) ?_ _
      exact hK _ _ ⟨gf, k234.sel [7, 28, 15, 29, 17, 30, 19], hS, float_box43 LV HT HG⟩
  rintro a235 w27 ⟨gBV, k235, hb, hx⟩
  clear k210 a210
  clear BJ
  replace BT := BT.below hb
  replace BU := BU.below hb
  replace HB := HB.trans (hb.mono HB.size)
  have BV := hx
  clear hx hb
  refine wp_seq_k fun K hK => ?_
  refine wp_region_lit ?_
  refine kn_val k235 (want_none rfl) (x_load k235 43 rfl _ 0 rfl U _ BU.1 Try.underlying43 rfl LU.i) rfl (by decide) rfl fun a236 k236 => ?_
  clear k235 a235
  refine kn_val k236 (want_none rfl) (x_load k236 43 rfl _ 0 rfl V _ BV.1 Try.underlying43 rfl LV.i) rfl (by decide) rfl fun a237 k237 => ?_
  clear k236 a236
  refine kn_call k237 (want_none rfl) (x_call2 own35 k237 rfl rfl rfl) rfl (by decide) rfl (cW _) fun a238 w28 k238 hb => ?_
  clear k237 a237
  replace BT := BT.below hb
  replace BU := BU.below hb
  replace BV := BV.below hb
  replace HB := HB.trans (hb.mono HB.size)
  clear hb
  refine kn_val k238 (want_none rfl) (x_move k238 rfl rfl) rfl (by decide) rfl fun a239 k239 => ?_
  clear k238 a238
  refine kn_val k239 (want_none rfl) (x_ex0 k239 rfl rfl) rfl (by decide) rfl fun a240 k240 => ?_
  clear k239 a239
  refine kn_val k240 (want_none rfl) (x_ex1 k240 rfl rfl) rfl (by decide) rfl fun a241 k241 => ?_
  clear k240 a240
  refine kn_new43 k241 LWn rfl rfl rfl rfl (by decide) rfl rfl rfl rfl rfl fun a242 w29 gBW k242 hb hx => ?_
  clear k241 a241
  replace BT := BT.below hb
  replace BU := BU.below hb
  replace BV := BV.below hb
  replace HB := HB.trans (hb.mono HB.size)
  have BW := hx
  clear hx hb
  refine kn_val k242 (want_none rfl) (x_assign k242 rfl rfl) rfl (by decide) rfl fun a243 k243 => ?_
  clear k242 a242
  replace k243 : Kn 221 a243 [(7, .bool true), (28, .pointer (some ⟨gBT, 0, none⟩)), (15, .nilIface), (17, .nilIface), (19, .nilIface), (31, .pointer (some ⟨gBW, 0, none⟩)), (21, .nilIface)] := k243.sel [7, 28, 15, 17, 19, 31, 21]
  clear BU BV
  refine wpList_nil ?_
  refine hK _ _ ?_
  clear hK K
  refine wp_seq_k fun K hK => ?_
  refine wp_region_lit ?_
  refine kn_enter (R := fun u w' => Dt.Num w' u ell ∧ Below w29.heap.size w29 w') k243 (want_none rfl) (x_call0 own53 rfl) rfl (by decide) rfl ((Dt.order_num _).mono fun e w' ⟨v, h1, h2, h3⟩ => ⟨v, h1, h2, h3⟩) fun a244 vo w30 k244 hR => ?_
  clear k243 a243
  obtain ⟨NO, hb⟩ := hR
  replace BT := BT.below hb
  replace BW := BW.below hb
  replace HB := HB.trans (hb.mono HB.size)
  clear hb
  refine kn_call k244 (want_none rfl) (x_call1 own16 k244 rfl rfl) rfl (by decide) rfl (CBY _ _ NO) fun a245 w31 k245 hb => ?_
  clear k244 a244
  replace BT := BT.below hb
  replace BW := BW.below hb
  replace HB := HB.trans (hb.mono HB.size)
  clear hb
  clear NO
  refine kn_new22 k245 LLo rfl rfl rfl rfl (by decide) rfl rfl rfl rfl rfl fun a246 w32 gBL k246 hb hx => ?_
  clear k245 a245
  replace BT := BT.below hb
  replace BW := BW.below hb
  replace HB := HB.trans (hb.mono HB.size)
  have BL := hx
  clear hx hb
  replace k246 : Kn 221 a246 [(7, .bool true), (28, .pointer (some ⟨gBT, 0, none⟩)), (15, .nilIface), (17, .nilIface), (19, .nilIface), (31, .pointer (some ⟨gBW, 0, none⟩)), (21, .nilIface), (32, .pointer (some ⟨gBL, 0, none⟩))] := k246.sel [7, 28, 15, 17, 19, 31, 21, 32]
  refine wpList_nil ?_
  refine hK _ _ ?_
  clear hK K
  refine seq_cut (fun a' w' => ∃ gf, Kn 221 a' [(7, .bool true), (28, .pointer (some ⟨gBT, 0, none⟩)), (15, .nilIface), (17, .nilIface), (19, .nilIface), (31, .pointer (some ⟨gBW, 0, none⟩)), (21, .nilIface), (33, .pointer (some ⟨gf, 0, none⟩)), (23, .nilIface)] ∧ Below w32.heap.size w32 w' ∧ Rp w' gf 0 OO) (fun K hK => ?_) ?_
  · refine wp_region_held_drew (S := fun w' => Below w32.heap.size w32 w') (by kernel_rfl) (drewB w32) (fun hS => ?_)
    obtain ⟨v0, hv0⟩ : ∃ v, World.drew w32 = v := ⟨_, rfl⟩
    rw [hv0] at hS ⊢
    clear hv0
    refine knh_take 0 k246 rfl (by kernel_rfl) (by kernel_rfl) (by kernel_rfl) (fun _ _ _ h => h) (want_none rfl) (fun wq hq => x_load k246 22 rfl _ 0 rfl Lo _ (Rg.Below.range hq BL.1 BL.2) Try.underlying22 rfl LLo.i) hS rfl (by decide) rfl fun a247 k247 => ?_
    clear k246 a246
    refine wpAnyH_ready (rs := [1, 6]) (by kernel_rfl) (by simp) ?_
    refine AllReadyH.cons rfl (fun K2 hK2 => ?_) (AllReadyH.cons rfl (fun K2 hK2 => ?_) AllReadyH.nil)
    · refine kop_call k247 (want_none rfl) (x_call0 own30 rfl) rfl (by decide) rfl (cV _) fun a248 v248 k248 hb => ?_
      refine hK2.out _ _ (hS.trans (hb.mono hS.size)) (fun hS => ?_)
      clear hK2 K2 hb k247 a247
      refine wpAnyH_ready (rs := [2, 6]) (by kernel_rfl) (by simp) ?_
      refine AllReadyH.cons rfl (fun K2 hK2 => ?_) (AllReadyH.cons rfl (fun K2 hK2 => ?_) AllReadyH.nil)
      · refine kop_call k248 (want_none rfl) (x_call2 own41 k248 rfl rfl rfl) rfl (by decide) rfl (cZ _) fun a249 v249 k249 hb => ?_
        refine hK2.out _ _ (hS.trans (hb.mono hS.size)) (fun hS => ?_)
        clear hK2 K2 hb k248 a248
        refine knh_take 3 k249 rfl (by kernel_rfl) (by kernel_rfl) (by kernel_rfl) (fun _ _ _ h => h) (want_none rfl) (fun wq hq => x_move k249 rfl rfl) hS rfl (by decide) rfl fun a250 k250 => ?_
        clear k249 a249
        refine knh_take 4 k250 rfl (by kernel_rfl) (by kernel_rfl) (by kernel_rfl) (fun _ _ _ h => h) (want_none rfl) (fun wq hq => x_ex0 k250 rfl rfl) hS rfl (by decide) rfl fun a251 k251 => ?_
        clear k250 a250
        refine knh_take 5 k251 rfl (by kernel_rfl) (by kernel_rfl) (by kernel_rfl) (fun _ _ _ h => h) (want_none rfl) (fun wq hq => x_ex1 k251 rfl rfl) hS rfl (by decide) rfl fun a252 k252 => ?_
        clear k251 a251
        refine wpAnyH_ready (rs := [6]) (by kernel_rfl) (by simp) ?_
        refine AllReadyH.cons rfl (fun K2 hK2 => ?_) AllReadyH.nil
        refine kop_alloc43 k252 (want_none rfl) rfl rfl (by decide) rfl fun a253 v253 gf k253 hb HT HL HG => ?_
        replace HL := Nat.le_trans hS.size HL
        refine hK2.out _ _ (hS.trans (hb.mono hS.size)) (fun hS => ?_)
        clear hK2 K2 hb k252 a252
        refine wpAnyH_ready (rs := [7]) (by kernel_rfl) (by simp) ?_
        refine AllReadyH.cons rfl (fun K2 hK2 => ?_) AllReadyH.nil
        refine kop_store k253 (want_none rfl) 43 33 187 rfl rfl gf OO rfl rfl (th_of43 LOO HT) LOO.j LOO.o fun a254 k254 => ?_
        refine hK2.out _ _ (below_setCells hS HL) (fun hS => ?_)
        clear hK2 K2 k253 a253
        refine wpAnyH_ready (rs := [8]) (by kernel_rfl) (by simp) ?_
        refine AllReadyH.cons rfl (fun K2 hK2 => ?_) AllReadyH.nil
        refine kop_val k254 (want_none rfl) (x_assign k254 rfl rfl) rfl (by decide) rfl fun a255 k255 => ?_
        refine hK2.out _ _ hS (fun hS => ?_)
        clear hK2 K2 k254 a254
        refine wpAnyH_done (by kernel_rfl) ?_ _
        exact hK _ _ ⟨gf, k255.sel [7, 28, 15, 17, 19, 31, 21, 33, 23], hS, float_box43 LOO HT HG⟩
      · refine kop_alloc43 k248 (want_none rfl) rfl rfl (by decide) rfl fun a256 v256 gf k256 hb HT HL HG => ?_
        replace HL := Nat.le_trans hS.size HL
        refine hK2.out _ _ (hS.trans (hb.mono hS.size)) (fun hS => ?_)
        clear hK2 K2 hb k248 a248
        refine wpAnyH_ready (rs := [2]) (by kernel_rfl) (by simp) ?_
        refine AllReadyH.cons rfl (fun K2 hK2 => ?_) AllReadyH.nil
        refine kop_call k256 (want_none rfl) (x_call2 own41 k256 rfl rfl rfl) rfl (by decide) rfl (cZ _) fun a257 v257 k257 hb => ?_
        replace HT := there_below hb HT HG
        replace HG := Nat.lt_of_lt_of_le HG hb.size
        refine hK2.out _ _ (hS.trans (hb.mono hS.size)) (fun hS => ?_)
        clear hK2 K2 hb k256 a256
        refine knh_take 3 k257 rfl (by kernel_rfl) (by kernel_rfl) (by kernel_rfl) (fun _ _ _ h => h) (want_none rfl) (fun wq hq => x_move k257 rfl rfl) hS rfl (by decide) rfl fun a258 k258 => ?_
        clear k257 a257
        refine knh_take 4 k258 rfl (by kernel_rfl) (by kernel_rfl) (by kernel_rfl) (fun _ _ _ h => h) (want_none rfl) (fun wq hq => x_ex0 k258 rfl rfl) hS rfl (by decide) rfl fun a259 k259 => ?_
        clear k258 a258
        refine knh_take 5 k259 rfl (by kernel_rfl) (by kernel_rfl) (by kernel_rfl) (fun _ _ _ h => h) (want_none rfl) (fun wq hq => x_ex1 k259 rfl rfl) hS rfl (by decide) rfl fun a260 k260 => ?_
        clear k259 a259
        refine wpAnyH_ready (rs := [7]) (by kernel_rfl) (by simp) ?_
        refine AllReadyH.cons rfl (fun K2 hK2 => ?_) AllReadyH.nil
        refine kop_store k260 (want_none rfl) 43 33 187 rfl rfl gf OO rfl rfl (th_of43 LOO HT) LOO.j LOO.o fun a261 k261 => ?_
        refine hK2.out _ _ (below_setCells hS HL) (fun hS => ?_)
        clear hK2 K2 k260 a260
        refine wpAnyH_ready (rs := [8]) (by kernel_rfl) (by simp) ?_
        refine AllReadyH.cons rfl (fun K2 hK2 => ?_) AllReadyH.nil
        refine kop_val k261 (want_none rfl) (x_assign k261 rfl rfl) rfl (by decide) rfl fun a262 k262 => ?_
        refine hK2.out _ _ hS (fun hS => ?_)
        clear hK2 K2 k261 a261
        refine wpAnyH_done (by kernel_rfl) ?_ _
        exact hK _ _ ⟨gf, k262.sel [7, 28, 15, 17, 19, 31, 21, 33, 23], hS, float_box43 LOO HT HG⟩
    · refine kop_alloc43 k247 (want_none rfl) rfl rfl (by decide) rfl fun a263 v263 gf k263 hb HT HL HG => ?_
      replace HL := Nat.le_trans hS.size HL
      refine hK2.out _ _ (hS.trans (hb.mono hS.size)) (fun hS => ?_)
      clear hK2 K2 hb k247 a247
      refine wpAnyH_ready (rs := [1]) (by kernel_rfl) (by simp) ?_
      refine AllReadyH.cons rfl (fun K2 hK2 => ?_) AllReadyH.nil
      refine kop_call k263 (want_none rfl) (x_call0 own30 rfl) rfl (by decide) rfl (cV _) fun a264 v264 k264 hb => ?_
      replace HT := there_below hb HT HG
      replace HG := Nat.lt_of_lt_of_le HG hb.size
      refine hK2.out _ _ (hS.trans (hb.mono hS.size)) (fun hS => ?_)
      clear hK2 K2 hb k263 a263
      refine wpAnyH_ready (rs := [2]) (by kernel_rfl) (by simp) ?_
      refine AllReadyH.cons rfl (fun K2 hK2 => ?_) AllReadyH.nil
      refine kop_call k264 (want_none rfl) (x_call2 own41 k264 rfl rfl rfl) rfl (by decide) rfl (cZ _) fun a265 v265 k265 hb => ?_
      replace HT := there_below hb HT HG
      replace HG := Nat.lt_of_lt_of_le HG hb.size
      refine hK2.out _ _ (hS.trans (hb.mono hS.size)) (fun hS => ?_)
      clear hK2 K2 hb k264 a264
      refine knh_take 3 k265 rfl (by kernel_rfl) (by kernel_rfl) (by kernel_rfl) (fun _ _ _ h => h) (want_none rfl) (fun wq hq => x_move k265 rfl rfl) hS rfl (by decide) rfl fun a266 k266 => ?_
      clear k265 a265
      refine knh_take 4 k266 rfl (by kernel_rfl) (by kernel_rfl) (by kernel_rfl) (fun _ _ _ h => h) (want_none rfl) (fun wq hq => x_ex0 k266 rfl rfl) hS rfl (by decide) rfl fun a267 k267 => ?_
      clear k266 a266
      refine knh_take 5 k267 rfl (by kernel_rfl) (by kernel_rfl) (by kernel_rfl) (fun _ _ _ h => h) (want_none rfl) (fun wq hq => x_ex1 k267 rfl rfl) hS rfl (by decide) rfl fun a268 k268 => ?_
      clear k267 a267
      refine wpAnyH_ready (rs := [7]) (by kernel_rfl) (by simp) ?_
      refine AllReadyH.cons rfl (fun K2 hK2 => ?_) AllReadyH.nil
      refine kop_store k268 (want_none rfl) 43 33 187 rfl rfl gf OO rfl rfl (th_of43 LOO HT) LOO.j LOO.o fun a269 k269 => ?_
      refine hK2.out _ _ (below_setCells hS HL) (fun hS => ?_)
      clear hK2 K2 k268 a268
      refine wpAnyH_ready (rs := [8]) (by kernel_rfl) (by simp) ?_
      refine AllReadyH.cons rfl (fun K2 hK2 => ?_) AllReadyH.nil
      refine kop_val k269 (want_none rfl) (x_assign k269 rfl rfl) rfl (by decide) rfl fun a270 k270 => ?_
      refine hK2.out _ _ hS (fun hS => ?_)
      clear hK2 K2 k269 a269
      refine wpAnyH_done (by kernel_rfl) ?_ _
      exact hK _ _ ⟨gf, k270.sel [7, 28, 15, 17, 19, 31, 21, 33, 23], hS, float_box43 LOO HT HG⟩
  rintro a271 w33 ⟨gBO, k271, hb, hx⟩
  clear k246 a246
  clear BL
  replace BT := BT.below hb
  replace BW := BW.below hb
  replace HB := HB.trans (hb.mono HB.size)
  have BO := hx
  clear hx hb
  refine wp_seq_k fun K hK => ?_
  refine wp_region_held_drew (S := fun w' => Below w33.heap.size w33 w') (by kernel_rfl) (drewB w33) (fun hS => ?_)
  obtain ⟨v0, hv0⟩ : ∃ v, World.drew w33 = v := ⟨_, rfl⟩
  rw [hv0] at hS ⊢
  clear hv0
  refine knh_take 0 k271 rfl (by kernel_rfl) (by kernel_rfl) (by kernel_rfl) (fun _ _ _ h => h) (want_none rfl) (fun wq hq => x_move k271 rfl rfl) hS rfl (by decide) rfl fun a272 k272 => ?_
  clear k271 a271
  refine knh_take 1 k272 rfl (by kernel_rfl) (by kernel_rfl) (by kernel_rfl) (fun _ _ _ h => h) (want_none rfl) (fun wq hq => x_move k272 rfl rfl) hS rfl (by decide) rfl fun a273 k273 => ?_
  clear k272 a272
  refine knh_take 2 k273 rfl (by kernel_rfl) (by kernel_rfl) (by kernel_rfl) (fun _ _ _ h => h) (want_some (d := 190) k273 rfl (by kernel_rfl) rfl) (fun wq hq => x_move k273 rfl rfl) hS rfl (by decide) rfl fun a274 k274 => ?_
  clear k273 a273
  refine knh_take 3 k274 rfl (by kernel_rfl) (by kernel_rfl) (by kernel_rfl) (fun _ _ _ h => h) (want_some (d := 190) k274 rfl (by kernel_rfl) rfl) (fun wq hq => x_eqlnil k274 rfl rfl) hS rfl (by decide) rfl fun a275 k275 => ?_
  clear k274 a274
  refine knh_take 4 k275 rfl (by kernel_rfl) (by kernel_rfl) (by kernel_rfl) (fun _ _ _ h => h) (want_none rfl) (fun wq hq => x_and k275 rfl rfl rfl) hS rfl (by decide) rfl fun a276 k276 => ?_
  clear k275 a275
  refine knh_take 5 k276 rfl (by kernel_rfl) (by kernel_rfl) (by kernel_rfl) (fun _ _ _ h => h) (want_none rfl) (fun wq hq => x_move k276 rfl rfl) hS rfl (by decide) rfl fun a277 k277 => ?_
  clear k276 a276
  refine knh_take 6 k277 rfl (by kernel_rfl) (by kernel_rfl) (by kernel_rfl) (fun _ _ _ h => h) (want_some (d := 194) k277 rfl (by kernel_rfl) rfl) (fun wq hq => x_move k277 rfl rfl) hS rfl (by decide) rfl fun a278 k278 => ?_
  clear k277 a277
  refine knh_take 7 k278 rfl (by kernel_rfl) (by kernel_rfl) (by kernel_rfl) (fun _ _ _ h => h) (want_some (d := 194) k278 rfl (by kernel_rfl) rfl) (fun wq hq => x_eqlnil k278 rfl rfl) hS rfl (by decide) rfl fun a279 k279 => ?_
  clear k278 a278
  refine knh_take 8 k279 rfl (by kernel_rfl) (by kernel_rfl) (by kernel_rfl) (fun _ _ _ h => h) (want_none rfl) (fun wq hq => x_and k279 rfl rfl rfl) hS rfl (by decide) rfl fun a280 k280 => ?_
  clear k279 a279
  refine knh_take 9 k280 rfl (by kernel_rfl) (by kernel_rfl) (by kernel_rfl) (fun _ _ _ h => h) (want_none rfl) (fun wq hq => x_move k280 rfl rfl) hS rfl (by decide) rfl fun a281 k281 => ?_
  clear k280 a280
  refine knh_take 10 k281 rfl (by kernel_rfl) (by kernel_rfl) (by kernel_rfl) (fun _ _ _ h => h) (want_some (d := 198) k281 rfl (by kernel_rfl) rfl) (fun wq hq => x_move k281 rfl rfl) hS rfl (by decide) rfl fun a282 k282 => ?_
  clear k281 a281
  refine knh_take 11 k282 rfl (by kernel_rfl) (by kernel_rfl) (by kernel_rfl) (fun _ _ _ h => h) (want_some (d := 198) k282 rfl (by kernel_rfl) rfl) (fun wq hq => x_eqlnil k282 rfl rfl) hS rfl (by decide) rfl fun a283 k283 => ?_
  clear k282 a282
  refine knh_take 12 k283 rfl (by kernel_rfl) (by kernel_rfl) (by kernel_rfl) (fun _ _ _ h => h) (want_none rfl) (fun wq hq => x_and k283 rfl rfl rfl) hS rfl (by decide) rfl fun a284 k284 => ?_
  clear k283 a283
  refine knh_take 13 k284 rfl (by kernel_rfl) (by kernel_rfl) (by kernel_rfl) (fun _ _ _ h => h) (want_none rfl) (fun wq hq => x_move k284 rfl rfl) hS rfl (by decide) rfl fun a285 k285 => ?_
  clear k284 a284
  refine knh_take 14 k285 rfl (by kernel_rfl) (by kernel_rfl) (by kernel_rfl) (fun _ _ _ h => h) (want_some (d := 202) k285 rfl (by kernel_rfl) rfl) (fun wq hq => x_move k285 rfl rfl) hS rfl (by decide) rfl fun a286 k286 => ?_
  clear k285 a285
  refine knh_take 15 k286 rfl (by kernel_rfl) (by kernel_rfl) (by kernel_rfl) (fun _ _ _ h => h) (want_some (d := 202) k286 rfl (by kernel_rfl) rfl) (fun wq hq => x_eqlnil k286 rfl rfl) hS rfl (by decide) rfl fun a287 k287 => ?_
  clear k286 a286
  refine knh_take 16 k287 rfl (by kernel_rfl) (by kernel_rfl) (by kernel_rfl) (fun _ _ _ h => h) (want_none rfl) (fun wq hq => x_and k287 rfl rfl rfl) hS rfl (by decide) rfl fun a288 k288 => ?_
  clear k287 a287
  refine knh_take 17 k288 rfl (by kernel_rfl) (by kernel_rfl) (by kernel_rfl) (fun _ _ _ h => h) (want_none rfl) (fun wq hq => x_move k288 rfl rfl) hS rfl (by decide) rfl fun a289 k289 => ?_
  clear k288 a288
  refine knh_take 18 k289 rfl (by kernel_rfl) (by kernel_rfl) (by kernel_rfl) (fun _ _ _ h => h) (want_some (d := 206) k289 rfl (by kernel_rfl) rfl) (fun wq hq => x_move k289 rfl rfl) hS rfl (by decide) rfl fun a290 k290 => ?_
  clear k289 a289
  refine knh_take 19 k290 rfl (by kernel_rfl) (by kernel_rfl) (by kernel_rfl) (fun _ _ _ h => h) (want_some (d := 206) k290 rfl (by kernel_rfl) rfl) (fun wq hq => x_eqlnil k290 rfl rfl) hS rfl (by decide) rfl fun a291 k291 => ?_
  clear k290 a290
  refine knh_take 20 k291 rfl (by kernel_rfl) (by kernel_rfl) (by kernel_rfl) (fun _ _ _ h => h) (want_none rfl) (fun wq hq => x_and k291 rfl rfl rfl) hS rfl (by decide) rfl fun a292 k292 => ?_
  clear k291 a291
  refine knh_take 21 k292 rfl (by kernel_rfl) (by kernel_rfl) (by kernel_rfl) (fun _ _ _ h => h) (want_none rfl) (fun wq hq => x_move k292 rfl rfl) hS rfl (by decide) rfl fun a293 k293 => ?_
  clear k292 a292
  refine knh_take 22 k293 rfl (by kernel_rfl) (by kernel_rfl) (by kernel_rfl) (fun _ _ _ h => h) (want_some (d := 210) k293 rfl (by kernel_rfl) rfl) (fun wq hq => x_load k293 43 rfl _ 0 rfl Wn _ (Rg.Below.range hq BT.1 BT.2) Try.underlying43 rfl LWn.i) hS rfl (by decide) rfl fun a294 k294 => ?_
  clear k293 a293
  refine knh_take 23 k294 rfl (by kernel_rfl) (by kernel_rfl) (by kernel_rfl) (fun _ _ _ h => h) (want_some (d := 210) k294 rfl (by kernel_rfl) rfl) (fun wq hq => x_load k294 43 rfl _ 0 rfl Wn _ (Rg.Below.range hq BW.1 BW.2) Try.underlying43 rfl LWn.i) hS rfl (by decide) rfl fun a295 k295 => ?_
  clear k294 a294
  refine knh_take 24 k295 rfl (by kernel_rfl) (by kernel_rfl) (by kernel_rfl) (fun _ _ _ h => h) (want_some (d := 210) k295 rfl (by kernel_rfl) rfl) (fun wq hq => x_eql43 qWn k295 rfl rfl rfl) hS rfl (by decide) rfl fun a296 k296 => ?_
  clear k295 a295
  refine knh_take 25 k296 rfl (by kernel_rfl) (by kernel_rfl) (by kernel_rfl) (fun _ _ _ h => h) (want_none rfl) (fun wq hq => x_and k296 rfl rfl rfl) hS rfl (by decide) rfl fun a297 k297 => ?_
  clear k296 a296
  refine knh_take 26 k297 rfl (by kernel_rfl) (by kernel_rfl) (by kernel_rfl) (fun _ _ _ h => h) (want_none rfl) (fun wq hq => x_move k297 rfl rfl) hS rfl (by decide) rfl fun a298 k298 => ?_
  clear k297 a297
  refine knh_take 27 k298 rfl (by kernel_rfl) (by kernel_rfl) (by kernel_rfl) (fun _ _ _ h => h) (want_some (d := 215) k298 rfl (by kernel_rfl) rfl) (fun wq hq => x_load k298 43 rfl _ 0 rfl OO _ (Rg.Below.range hq BO.1 BO.2) Try.underlying43 rfl LOO.i) hS rfl (by decide) rfl fun a299 k299 => ?_
  clear k298 a298
  refine wpAnyH_ready (rs := [28]) (by kernel_rfl) (by simp) ?_
  refine AllReadyH.cons rfl (fun K2 hK2 => ?_) AllReadyH.nil
  refine kop_call k299 (want_some (d := 215) k299 rfl (by kernel_rfl) rfl) (x_callc own46 rfl) rfl (by decide) rfl (c1 _) fun a300 vz k300 hb => ?_
  refine hK2.out _ _ (hS.trans (hb.mono hS.size)) (fun hS => ?_)
  clear hK2 K2 hb k299 a299
  refine knh_take 29 k300 rfl (by kernel_rfl) (by kernel_rfl) (by kernel_rfl) (fun _ _ _ h => h) (want_some (d := 215) k300 rfl (by kernel_rfl) rfl) (fun wq hq => x_buildY k300 rfl rfl HBP) hS rfl (by decide) rfl fun a301 k301 => ?_
  clear k300 a300
  refine knh_take 30 k301 rfl (by kernel_rfl) (by kernel_rfl) (by kernel_rfl) (fun _ _ _ h => h) (want_some (d := 215) k301 rfl (by kernel_rfl) rfl) (fun wq hq => x_eql43 qOO k301 rfl rfl rfl) hS rfl (by decide) rfl fun a302 k302 => ?_
  clear k301 a301
  refine knh_take 31 k302 rfl (by kernel_rfl) (by kernel_rfl) (by kernel_rfl) (fun _ _ _ h => h) (want_none rfl) (fun wq hq => x_and k302 rfl rfl rfl) hS rfl (by decide) rfl fun a303 k303 => ?_
  clear k302 a302
  refine wpAnyH_ready (rs := [32]) (by kernel_rfl) (by simp) ?_
  refine AllReadyH.cons rfl (fun K2 hK2 => ?_) AllReadyH.nil
  refine kop_val k303 (want_none rfl) (x_assign k303 rfl rfl) rfl (by decide) rfl fun a304 k304 => ?_
  refine hK2.out _ _ hS (fun hS => ?_)
  clear hK2 K2 k303 a303
  refine wpAnyH_done (by kernel_rfl) ?_ _
  refine hK _ _ ?_
  exact kn_ret k304 rfl rfl ⟨rfl, HB.trans (hS.mono HB.size)⟩
end Fd
end Go.Proofs.Ytgdekigdbbldoaa
