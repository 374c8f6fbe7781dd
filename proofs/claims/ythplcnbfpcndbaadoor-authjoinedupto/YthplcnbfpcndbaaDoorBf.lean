/- Rows of changes; ranging over a map from names to numbers; what changes in a field: changesIn, walked. -/
import Derived.Test.YthplcnbfpcndbaaDoorBe
import Derived.Test.YthplcnbfpcndbaaDoorAk
namespace Go.Proofs.YthplcnbfpcndbaaDoor
open Go.RowKit Go.Maps

def hE (c : Chg) : List Value := [.string c.1, .int .i64 c.2.1.1, .bool c.2.1.2, .int .i64 c.2.2.1, .bool c.2.2.2]
/-- A row of changes of one's own. -/
def RowH (base : Nat) (w : World) (v : Value) (S : List Chg) : Prop := w.ownsRow base 86 5 v S.length (S.flatMap hE)
theorem info86 : (Tryd.prog.info? 86).map (fun i => (i.zero, i.size, i.bytes)) = some (some (.agg (hC ⟨#[]⟩ (0, false) (0, false))), 5, 48) := by kernel_rfl
theorem flatH_get : ∀ (S : List Chg) (i j : Nat) (h : i < S.length), j < 5 → (S.flatMap hE)[i * 5 + j]? = (hE S[i])[j]?
  | [], i, j, h, _ => by simp at h
  | p :: S, 0, j, h, hj => by
    rw [List.flatMap_cons, List.getElem?_append_left (by simp [hE]; omega)]
    simp
  | p :: S, i + 1, j, h, hj => by
    rw [List.flatMap_cons, List.getElem?_append_right (by simp [hE]; omega)]
    have := flatH_get S i j (by simpa using h) hj
    rw [show (i + 1) * 5 + j - (hE p).length = i * 5 + j by simp [hE]; omega, this]
    simp
/-- Changes in memory. -/
def ChgsAt (w : World) (v : Value) (S : List Chg) : Prop := S.length ≤ 3000000 ∧ ∃ a c, v = .slice a S.length c ∧ ∀ (i : Nat) (h : i < S.length), ∃ b off, a = some ⟨b, off, none⟩ ∧ w.rangeAt b (off + i * 5) (hE S[i])
theorem ChgsAt.below {w w' : World} (hb : Below w.heap.size w w') {v : Value} {S : List Chg} (h : ChgsAt w v S) : ChgsAt w' v S := by
  obtain ⟨h0, a, c, h1, h3⟩ := h
  refine ⟨h0, a, c, h1, fun i hi => ?_⟩
  obtain ⟨b, off, h4, h6⟩ := h3 i hi
  exact ⟨b, off, h4, range_below hb h6⟩
theorem RowH.chgs {base : Nat} {w : World} {v : Value} {S : List Chg} (h : RowH base w v S) (hl : S.length ≤ 3000000) : ChgsAt w v S := by
  rcases h.2 with ⟨rfl, h0⟩ | ⟨g, cap, cur, rfl, hg, -⟩
  · rw [List.length_eq_zero_iff] at h0
    subst h0
    exact ⟨by simp, none, 0, rfl, fun i hi => by simp at hi⟩
  · refine ⟨hl, _, _, rfl, fun i hi => ⟨g, 0, rfl, fun j u hj => ?_⟩⟩
    have hj3 : j < 5 := (List.getElem?_eq_some_iff.1 hj).1
    have := h.cells (g := g) rfl (i * 5 + j) u (by rw [flatH_get S i j hi hj3]; exact hj)
    rw [addx] at this
    rw [Nat.zero_add]
    exact this
theorem RowH.call {base : Nat} {w w' : World} {v : Value} {S : List Chg} (h : RowH base w v S) (hb : Below w.heap.size w w') : RowH base w' v S :=
  World.ownsRow.kept (row := none) h ⟨hb.os, hb.tape, hb.output, hb.size, fun i hi _ => hb.block i hi⟩ (by cases v.ownBlock <;> simp)
theorem RowH.nil (base : Nat) (w : World) : RowH base w (.slice none 0 0) [] := ⟨rfl, .inl ⟨rfl, rfl⟩⟩
/-- The row's block is no map's and no iterator's. -/
theorem RowH.apart {base : Nat} {w : World} {v : Value} {S : List Chg} (h : RowH base w v S) {b : Nat} {o : Obj} (hb : w.heap[b]? = some o) (ho : ∀ cs, o ≠ .cells cs 86 (0, 0)) : some b ≠ v.ownBlock := by
  intro e
  rcases h.2 with ⟨rfl, h0⟩ | ⟨g, cap, cur, rfl, -, hg, -⟩
  · cases e
  · have e' : b = g := by simpa [Value.ownBlock] using e
    rw [← e', hb] at hg
    exact ho cur (Option.some.inj hg)
theorem ranges_iter {P : Program} {k : TypeId} {R : Value → Option (DataW Unit × List MemPlace)} {w : World} {b r n : Nat} {D : DataW Unit} {left : Lit → Bool} {cnt : Nat} (h : w.ranges P k R b r n D left cnt) : ∃ since seen c0, w.heap[r]? = some (.mapIter (some b) since seen c0) := by
  obtain ⟨es, clock, since, seen, c0, _, _, _, _, hr, _⟩ := h
  exact ⟨_, _, _, hr⟩
theorem RowH.noIter {base : Nat} {w : World} {v : Value} {S : List Chg} (h : RowH base w v S) {b r n : Nat} {D : DataW Unit} {left : Lit → Bool} {cnt : Nat} (hr : w.ranges Tryd.prog 9 numElem b r n D left cnt) : some r ≠ v.ownBlock := by
  obtain ⟨_, _, _, h1⟩ := ranges_iter hr
  exact h.apart h1 (fun cs e => by cases e)
theorem RowH.noMap {base : Nat} {w : World} {v : Value} {S : List Chg} (h : RowH base w v S) {b n : Nat} {D : DataW Unit} (hm : w.ownsMap Tryd.prog 9 numElem b n D) : some b ≠ v.ownBlock := by
  obtain ⟨es, clock, h1, _⟩ := hm
  exact h.apart h1 (fun cs e => by cases e)
/-- A map's entry has come: the row is as it was. -/
theorem RowH.step {base : Nat} {w w' : World} {v : Value} {S : List Chg} (h : RowH base w v S) {b r n : Nat} {D : DataW Unit} {left : Lit → Bool} {cnt : Nat} (hr : w.ranges Tryd.prog 9 numElem b r n D left cnt) (hg : w.grownBy w' (some r)) : RowH base w' v S := by
  have hne := h.noIter hr
  refine World.ownsRow.kept (row := some r) h hg ?_
  cases hv : v.ownBlock
  · simp
  · rw [hv] at hne
    first | exact .inr (fun e => hne e.symm) | exact fun e => hne e.symm | exact fun b' hb' e => hne (by rw [hb', e])
section
variable {w : World} {ops : Array Oper} {rest : List Oper} {o : Oper} {a : Act} {Q : Exit → Act → World → Prop}
theorem app_h (hgd : o.guard = none) (s x : Operand) (ho : o.op = .call { callee := .builtin .append, args := #[s, x], argTypes := #[89, 89] }) (base : Nat) (v : Value) (S : List Chg) (hs : a.eval s = v) (hrow : RowH base w v S)
    (b : Nat) (t : Chg) (hx : a.eval x = .slice (some ⟨b, 0, none⟩) 1 1) (hc : w.rangeAt b 0 (hE t)) (hlen : S.length ≤ 3000000) (hbase : base ≤ w.heap.size)
    (h : ∀ v' w', RowH base w' v' (S ++ [t]) → w.grownBy w' v.ownBlock → Below base w w' → wpList Tryd.prog ops Q rest (a.put o.dst v') w') : wpList Tryd.prog ops Q (o :: rest) a w := by
  obtain ⟨i0, hi, hz0, hz1, hz2⟩ := info_parts info86
  refine wpList_append_own _ hgd s x 89 ho base 86 i0 _ 5 48 Tryd.underlying89 hi hz0 hz1 hz2 rfl (by decide) v _ _ hs hrow ⟨b, 0, none⟩ 1 1 (hE t) hx rfl (fun j u hj => ?_) (by simp [hE, Value.oneCell']) (by unfold maxLen; omega) (by omega) hbase ?_
  · rw [addx]
    have := hc j u hj
    rwa [Nat.zero_add] at this
  · intro v' w3 hown hgrow _
    refine h v' w3 ?_ hgrow (own_grown hrow hgrow hbase)
    unfold RowH
    rw [List.length_append, List.flatMap_append]
    simpa using hown
end
theorem chg_range (w : World) (p : Chg) (cs : Array Value) (h : cs.toList = hE p) : (w.alloc (.cells cs 86)).rangeAt w.heap.size 0 (hE p) := fun j v hv => by
  rw [← h] at hv
  have := World.cell?_alloc_mark w cs 86 (0, 0) j
  rw [Nat.zero_add, this]
  simpa using hv
theorem key9_inv {key : Value} {kl : Lit} (h : keyOf Tryd.prog 9 key = some kl) : ∃ s : ByteArray, key = .string s ∧ kl = kS s := by
  cases key <;> simp [keyOf, Tryd.underlying9, mapKey] at h
  obtain ⟨-, rfl⟩ := h
  exact ⟨_, rfl, rfl⟩
/-- A number, as one thing. -/
structure Nb where
  v : Nm
theorem next_num {w : World} {ops : Array Oper} {rest : List Oper} {o : Oper} {a : Act} {Q : Exit → Act → World → Prop} (hg : o.guard = none) (it : Operand) (hop : o.op = Op.next it false) (b r n : Nat) (D : DataW Unit) (left : Lit → Bool) (cnt : Nat)
    (hit : a.eval it = .pointer (some ⟨r, 0, none⟩)) (h : w.ranges Tryd.prog 9 numElem b r n D left cnt)
    (hDone : cnt = 0 → (∀ kl, left kl = false) → wpList Tryd.prog ops Q rest (a.put o.dst (.tuple #[.bool false])) w)
    (hMore : ∀ (x : ByteArray) (c : Nb) (w' : World) (cnt' : Nat), keyOf Tryd.prog 9 (.string x) = some (kS x) → (∀ zd, D.atKey (kS x) zd = dN c.v) → w'.ranges Tryd.prog 9 numElem b r n D (fun z => left z && !z.sameKey (kS x)) cnt' → cnt' < cnt →
      w.grownBy w' (some r) → w'.heap.size = w.heap.size → (Instr.entry (.pointer (some ⟨r, 0, none⟩))).run Tryd.prog w' = .ok (.tuple #[.string x, .agg (nC c.v)]) w' → wpList Tryd.prog ops Q rest (a.put o.dst (.tuple #[.bool true, .string x, .agg (nC c.v)])) w') :
    wpList Tryd.prog ops Q (o :: rest) a w :=
  wpList_next_ranges w hg it hop 9 law9 numElem Value.string (fun c : Nm => Value.agg (nC c)) (fun key kl hk => by obtain ⟨s, rfl, -⟩ := key9_inv hk; exact ⟨s, rfl⟩) (fun v y hv => by obtain ⟨c, rfl, -⟩ := numElem_inv hv; exact ⟨c, rfl⟩)
    b r n D left cnt hit h hDone (fun x c kl y w' cnt' hkey _ hv hat hrg hlt hgr hsz hen => by
      obtain ⟨s, es, rfl⟩ := key9_inv hkey
      cases es
      obtain ⟨q, eq, rfl⟩ := numElem_inv hv
      have hcq : c = q := by
        have : nC c = nC q := Value.agg.inj eq
        obtain ⟨c1, c2⟩ := c
        obtain ⟨q1, q2⟩ := q
        simpa [nC] using this
      subst hcq
      exact hMore x ⟨c⟩ w' cnt' hkey hat hrg hlt hgr hsz hen)
theorem eq63 : EqlAt Tryd.prog 63 (fun p : Nm => .agg (nC p)) (fun p q => decide (p = q)) := by
  refine ⟨fun x y w => ?_, GuardAt.agg _ (by kernel_rfl)⟩
  obtain ⟨a, b⟩ := x
  obtain ⟨c, d⟩ := y
  have hS : Tryd.prog.underlying 63 = some (.struct (Tryd.prog.fieldsOf 63)) := by kernel_rfl
  have hp : Tryd.prog.stoodInHeld 63 = false := by kernel_rfl
  have u2 := Tryd.underlying2
  have a2 := Tryd.isAgg2
  have z2 := Tryd.sizeOf2
  have u4 := Tryd.underlying4
  have a4 := Tryd.isAgg4
  have z4 := Tryd.sizeOf4
  have hd : decide (((a, b) : Nm) = (c, d)) = ((a == c) && (b == d)) := by
    rw [Bool.eq_iff_iff]
    simp
  change (binOp .eql 63 (.agg (nC (a, b))) (.agg (nC (c, d)))).run Tryd.prog w = .ok (.bool (decide (((a, b) : Nm) = (c, d)))) w
  rw [hd]
  rw [run_eql_struct, show (10000 : Nat) = 9999 + 1 from rfl, run_equalIn_agg w 9999 63 _ _ hS hp]
  simp only [Program.fieldsOf, Tryd.underlying63]
  cases he : a == c <;> cases b <;> cases d <;> go_simp
theorem neq63 (p q : Nm) (w : World) : (binOp .neq 63 (.agg (nC p)) (.agg (nC q))).run Tryd.prog w = .ok (.bool (!decide (p = q))) w := by
  have h := eq63.1 p q w
  rw [run_eql_struct] at h
  rw [run_neq_struct]
  change Result.andThen ((Op.equalIn 10000 63 (.agg (nC p)) (.agg (nC q))).run Tryd.prog w) _ = _ at h
  generalize (Op.equalIn 10000 63 (.agg (nC p)) (.agg (nC q))).run Tryd.prog w = R at h
  cases R with
  | ok x w1 =>
    simp only [Result.andThen] at h ⊢
    injection h with h1 h2
    injection h1 with h1
    subst h1 h2
    rfl
  | halt x w1 => simp [Result.andThen] at h
theorem RowH.more {base : Nat} {w : World} {v : Value} {S : List Chg} (h : RowH base w v S) (o : Obj) : RowH base (w.alloc o) v S := World.ownsRow.alloc h o
/-- Behind an append maps and iterators are as they were. -/
theorem app_keep {w wn : World} {base : Nat} {v : Value} {S : List Chg} {o : Obj} (hrow : RowH base w v S) (hg : (w.alloc o).grownBy wn v.ownBlock) :
    (∀ {b r n : Nat} {D : DataW Unit} {left : Lit → Bool} {cnt : Nat}, w.ranges Tryd.prog 9 numElem b r n D left cnt → wn.ranges Tryd.prog 9 numElem b r n D left cnt) ∧
    (∀ {b n : Nat} {D : DataW Unit}, w.ownsMap Tryd.prog 9 numElem b n D → wn.ownsMap Tryd.prog 9 numElem b n D) :=
  ⟨fun h => (h.alloc o).kept hg ((hrow.more o).noMap (h.alloc o).owns) ((hrow.more o).noIter (h.alloc o)), fun h => (h.alloc o).kept hg ((hrow.more o).noMap (h.alloc o))⟩
theorem grown_of {N : Nat} {w w' : World} (h : Below N w w') (hN : w.heap.size ≤ N) : w.grownBy w' none := ⟨h.os, h.tape, h.output, h.size, fun i hi _ => h.block i (Nat.lt_of_lt_of_le hi hN)⟩
end Go.Proofs.YthplcnbfpcndbaaDoor
