/- Rows of changes; ranging over a map from names to numbers; what changes in a field: changesIn, walked. What changes in a field: changesIn, walked. What changes of the seven numbers: changesOfSingles, walked. The three tests of a change, asked of a row of changes: ContainsFunc with the closures of checkLevels. -/
import Derived.Test.YthplcnbfpcndbaaGreatDoorBe
import Derived.Test.YthplcnbfpcndbaaGreatDoorAk
import Derived.Test.YthplcnbfpcndbaaGreatDoorTf
import Derived.Deep.CutRange
namespace Go.Proofs.YthplcnbfpcndbaaGreatDoor
open Go.RowKit Go.Maps

def hE (c : Chg) : List Value := [.string c.1, .int .i64 c.2.1.1, .bool c.2.1.2, .int .i64 c.2.2.1, .bool c.2.2.2]
/-- A row of changes of one's own. -/
def RowH (base : Nat) (w : World) (v : Value) (S : List Chg) : Prop := w.ownsRow base 91 5 v S.length (S.flatMap hE)
theorem info86 : (Tryz.prog.info? 91).map (fun i => (i.zero, i.size, i.bytes)) = some (some (.agg (hC ⟨#[]⟩ (0, false) (0, false))), 5, 48) := by kernel_rfl
theorem flatH_get : ∀ (S : List Chg) (i j : Nat) (h : i < S.length), j < 5 → (S.flatMap hE)[i * 5 + j]? = (hE S[i])[j]?
  | [], i, j, h, _ => by simp at h
  | p :: S, 0, j, h, hj => by
    rw [List.flatMap_cons, List.getElem?_append_left (by simp [hE]; omega)]
    simp
  | p :: S, i + 1, j, h, hj => by
    rw [List.flatMap_cons, List.getElem?_append_right (by simp [hE]; omega)]
    have := flatH_get S i j (by simpa using h) hj
    rw [show (i + 1) * 5 + j - (hE p).length = i * 5 + j by simp [hE]; omega, this]
    simp
/-- Changes in memory. -/
def ChgsAt (w : World) (v : Value) (S : List Chg) : Prop := S.length ≤ 3000000 ∧ ∃ a c, v = .slice a S.length c ∧ ∀ (i : Nat) (h : i < S.length), ∃ b off, a = some ⟨b, off, none⟩ ∧ w.rangeAt b (off + i * 5) (hE S[i])
theorem ChgsAt.below {w w' : World} (hb : Below w.heap.size w w') {v : Value} {S : List Chg} (h : ChgsAt w v S) : ChgsAt w' v S := by
  obtain ⟨h0, a, c, h1, h3⟩ := h
  refine ⟨h0, a, c, h1, fun i hi => ?_⟩
  obtain ⟨b, off, h4, h6⟩ := h3 i hi
  exact ⟨b, off, h4, range_below hb h6⟩
theorem RowH.chgs {base : Nat} {w : World} {v : Value} {S : List Chg} (h : RowH base w v S) (hl : S.length ≤ 3000000) : ChgsAt w v S := by
  rcases h.2 with ⟨rfl, h0⟩ | ⟨g, cap, cur, rfl, hg, -⟩
  · rw [List.length_eq_zero_iff] at h0
    subst h0
    exact ⟨by simp, none, 0, rfl, fun i hi => by simp at hi⟩
  · refine ⟨hl, _, _, rfl, fun i hi => ⟨g, 0, rfl, fun j u hj => ?_⟩⟩
    have hj3 : j < 5 := (List.getElem?_eq_some_iff.1 hj).1
    have := h.cells (g := g) rfl (i * 5 + j) u (by rw [flatH_get S i j hi hj3]; exact hj)
    rw [addx] at this
    rw [Nat.zero_add]
    exact this
theorem RowH.call {base : Nat} {w w' : World} {v : Value} {S : List Chg} (h : RowH base w v S) (hb : Below w.heap.size w w') : RowH base w' v S :=
  World.ownsRow.kept (row := none) h ⟨hb.os, hb.tape, hb.output, hb.size, fun i hi _ => hb.block i hi⟩ (by cases v.ownBlock <;> simp)
theorem RowH.nil (base : Nat) (w : World) : RowH base w (.slice none 0 0) [] := ⟨rfl, .inl ⟨rfl, rfl⟩⟩
/-- The row's block is no map's and no iterator's. -/
theorem RowH.apart {base : Nat} {w : World} {v : Value} {S : List Chg} (h : RowH base w v S) {b : Nat} {o : Obj} (hb : w.heap[b]? = some o) (ho : ∀ cs, o ≠ .cells cs 91 (0, 0)) : some b ≠ v.ownBlock := by
  intro e
  rcases h.2 with ⟨rfl, h0⟩ | ⟨g, cap, cur, rfl, -, hg, -⟩
  · cases e
  · have e' : b = g := by simpa [Value.ownBlock] using e
    rw [← e', hb] at hg
    exact ho cur (Option.some.inj hg)
theorem ranges_iter {P : Program} {k : TypeId} {R : Value → Option (DataW Unit × List MemPlace)} {w : World} {b r n : Nat} {D : DataW Unit} {left : Lit → Bool} {cnt : Nat} (h : w.ranges P k R b r n D left cnt) : ∃ since seen c0, w.heap[r]? = some (.mapIter (some b) since seen c0) := by
  obtain ⟨es, clock, since, seen, c0, _, _, _, _, hr, _⟩ := h
  exact ⟨_, _, _, hr⟩
theorem RowH.noIter {base : Nat} {w : World} {v : Value} {S : List Chg} (h : RowH base w v S) {b r n : Nat} {D : DataW Unit} {left : Lit → Bool} {cnt : Nat} (hr : w.ranges Tryz.prog 9 numElem b r n D left cnt) : some r ≠ v.ownBlock := by
  obtain ⟨_, _, _, h1⟩ := ranges_iter hr
  exact h.apart h1 (fun cs e => by cases e)
theorem RowH.noMap {base : Nat} {w : World} {v : Value} {S : List Chg} (h : RowH base w v S) {b n : Nat} {D : DataW Unit} (hm : w.ownsMap Tryz.prog 9 numElem b n D) : some b ≠ v.ownBlock := by
  obtain ⟨es, clock, h1, _⟩ := hm
  exact h.apart h1 (fun cs e => by cases e)
/-- A map's entry has come: the row is as it was. -/
theorem RowH.step {base : Nat} {w w' : World} {v : Value} {S : List Chg} (h : RowH base w v S) {b r n : Nat} {D : DataW Unit} {left : Lit → Bool} {cnt : Nat} (hr : w.ranges Tryz.prog 9 numElem b r n D left cnt) (hg : w.grownBy w' (some r)) : RowH base w' v S := by
  have hne := h.noIter hr
  refine World.ownsRow.kept (row := some r) h hg ?_
  cases hv : v.ownBlock
  · simp
  · rw [hv] at hne
    first | exact .inr (fun e => hne e.symm) | exact fun e => hne e.symm | exact fun b' hb' e => hne (by rw [hb', e])
section
variable {w : World} {ops : Array Oper} {rest : List Oper} {o : Oper} {a : Act} {Q : Exit → Act → World → Prop}
theorem app_h (hgd : o.guard = none) (s x : Operand) (ho : o.op = .call { callee := .builtin .append, args := #[s, x], argTypes := #[94, 94] }) (base : Nat) (v : Value) (S : List Chg) (hs : a.eval s = v) (hrow : RowH base w v S)
    (b : Nat) (t : Chg) (hx : a.eval x = .slice (some ⟨b, 0, none⟩) 1 1) (hc : w.rangeAt b 0 (hE t)) (hlen : S.length ≤ 3000000) (hbase : base ≤ w.heap.size)
    (h : ∀ v' w', RowH base w' v' (S ++ [t]) → w.grownBy w' v.ownBlock → Below base w w' → wpList Tryz.prog ops Q rest (a.put o.dst v') w') : wpList Tryz.prog ops Q (o :: rest) a w := by
  obtain ⟨i0, hi, hz0, hz1, hz2⟩ := info_parts info86
  refine wpList_append_own _ hgd s x 94 ho base 91 i0 _ 5 48 Tryz.underlying94 hi hz0 hz1 hz2 rfl (by decide) v _ _ hs hrow ⟨b, 0, none⟩ 1 1 (hE t) hx rfl (fun j u hj => ?_) (by simp [hE, Value.oneCell']) (by unfold maxLen; omega) (by omega) hbase ?_
  · rw [addx]
    have := hc j u hj
    rwa [Nat.zero_add] at this
  · intro v' w3 hown hgrow _
    refine h v' w3 ?_ hgrow (own_grown hrow hgrow hbase)
    unfold RowH
    rw [List.length_append, List.flatMap_append]
    simpa using hown
end
theorem chg_range (w : World) (p : Chg) (cs : Array Value) (h : cs.toList = hE p) : (w.alloc (.cells cs 91)).rangeAt w.heap.size 0 (hE p) := fun j v hv => by
  rw [← h] at hv
  have := World.cell?_alloc_mark w cs 91 (0, 0) j
  rw [Nat.zero_add, this]
  simpa using hv
theorem key9_inv {key : Value} {kl : Lit} (h : keyOf Tryz.prog 9 key = some kl) : ∃ s : ByteArray, key = .string s ∧ kl = kS s := by
  cases key <;> simp [keyOf, Tryz.underlying9, mapKey] at h
  obtain ⟨-, rfl⟩ := h
  exact ⟨_, rfl, rfl⟩
/-- A number, as one thing. -/
structure Nb where
  v : Nm
theorem next_num {w : World} {ops : Array Oper} {rest : List Oper} {o : Oper} {a : Act} {Q : Exit → Act → World → Prop} (hg : o.guard = none) (it : Operand) (hop : o.op = Op.next it false) (b r n : Nat) (D : DataW Unit) (left : Lit → Bool) (cnt : Nat)
    (hit : a.eval it = .pointer (some ⟨r, 0, none⟩)) (h : w.ranges Tryz.prog 9 numElem b r n D left cnt)
    (hDone : cnt = 0 → (∀ kl, left kl = false) → wpList Tryz.prog ops Q rest (a.put o.dst (.tuple #[.bool false])) w)
    (hMore : ∀ (x : ByteArray) (c : Nb) (w' : World) (cnt' : Nat), keyOf Tryz.prog 9 (.string x) = some (kS x) → (∀ zd, D.atKey (kS x) zd = dN c.v) → w'.ranges Tryz.prog 9 numElem b r n D (fun z => left z && !z.sameKey (kS x)) cnt' → cnt' < cnt →
      w.grownBy w' (some r) → w'.heap.size = w.heap.size → (Instr.entry (.pointer (some ⟨r, 0, none⟩))).run Tryz.prog w' = .ok (.tuple #[.string x, .agg (nC c.v)]) w' → wpList Tryz.prog ops Q rest (a.put o.dst (.tuple #[.bool true, .string x, .agg (nC c.v)])) w') :
    wpList Tryz.prog ops Q (o :: rest) a w :=
  wpList_next_ranges w hg it hop 9 law9 numElem Value.string (fun c : Nm => Value.agg (nC c)) (fun key kl hk => by obtain ⟨s, rfl, -⟩ := key9_inv hk; exact ⟨s, rfl⟩) (fun v y hv => by obtain ⟨c, rfl, -⟩ := numElem_inv hv; exact ⟨c, rfl⟩)
    b r n D left cnt hit h hDone (fun x c kl y w' cnt' hkey _ hv hat hrg hlt hgr hsz hen => by
      obtain ⟨s, es, rfl⟩ := key9_inv hkey
      cases es
      obtain ⟨q, eq, rfl⟩ := numElem_inv hv
      have hcq : c = q := by
        have : nC c = nC q := Value.agg.inj eq
        obtain ⟨c1, c2⟩ := c
        obtain ⟨q1, q2⟩ := q
        simpa [nC] using this
      subst hcq
      exact hMore x ⟨c⟩ w' cnt' hkey hat hrg hlt hgr hsz hen)
theorem eq63 : EqlAt Tryz.prog 75 (fun p : Nm => .agg (nC p)) (fun p q => decide (p = q)) := by
  refine ⟨fun x y w => ?_, GuardAt.agg _ (by kernel_rfl)⟩
  obtain ⟨a, b⟩ := x
  obtain ⟨c, d⟩ := y
  have hS : Tryz.prog.underlying 75 = some (.struct (Tryz.prog.fieldsOf 75)) := by kernel_rfl
  have hp : Tryz.prog.stoodInHeld 75 = false := by kernel_rfl
  have u2 := Tryz.underlying2
  have a2 := Tryz.isAgg2
  have z2 := Tryz.sizeOf2
  have u4 := Tryz.underlying4
  have a4 := Tryz.isAgg4
  have z4 := Tryz.sizeOf4
  have hd : decide (((a, b) : Nm) = (c, d)) = ((a == c) && (b == d)) := by
    rw [Bool.eq_iff_iff]
    simp
  change (binOp .eql 75 (.agg (nC (a, b))) (.agg (nC (c, d)))).run Tryz.prog w = .ok (.bool (decide (((a, b) : Nm) = (c, d)))) w
  rw [hd]
  rw [run_eql_struct, show (10000 : Nat) = 9999 + 1 from rfl, run_equalIn_agg w 9999 75 _ _ hS hp]
  simp only [Program.fieldsOf, Tryz.underlying75]
  cases he : a == c <;> cases b <;> cases d <;> go_simp
theorem neq63 (p q : Nm) (w : World) : (binOp .neq 75 (.agg (nC p)) (.agg (nC q))).run Tryz.prog w = .ok (.bool (!decide (p = q))) w := by
  have h := eq63.1 p q w
  rw [run_eql_struct] at h
  rw [run_neq_struct]
  change Result.andThen ((Op.equalIn 10000 75 (.agg (nC p)) (.agg (nC q))).run Tryz.prog w) _ = _ at h
  generalize (Op.equalIn 10000 75 (.agg (nC p)) (.agg (nC q))).run Tryz.prog w = R at h
  cases R with
  | ok x w1 =>
    simp only [Result.andThen] at h ⊢
    injection h with h1 h2
    injection h1 with h1
    subst h1 h2
    rfl
  | halt x w1 => simp [Result.andThen] at h
theorem RowH.more {base : Nat} {w : World} {v : Value} {S : List Chg} (h : RowH base w v S) (o : Obj) : RowH base (w.alloc o) v S := World.ownsRow.alloc h o
/-- Behind an append maps and iterators are as they were. -/
theorem app_keep {w wn : World} {base : Nat} {v : Value} {S : List Chg} {o : Obj} (hrow : RowH base w v S) (hg : (w.alloc o).grownBy wn v.ownBlock) :
    (∀ {b r n : Nat} {D : DataW Unit} {left : Lit → Bool} {cnt : Nat}, w.ranges Tryz.prog 9 numElem b r n D left cnt → wn.ranges Tryz.prog 9 numElem b r n D left cnt) ∧
    (∀ {b n : Nat} {D : DataW Unit}, w.ownsMap Tryz.prog 9 numElem b n D → wn.ownsMap Tryz.prog 9 numElem b n D) :=
  ⟨fun h => (h.alloc o).kept hg ((hrow.more o).noMap (h.alloc o).owns) ((hrow.more o).noIter (h.alloc o)), fun h => (h.alloc o).kept hg ((hrow.more o).noMap (h.alloc o))⟩
theorem grown_of {N : Nat} {w w' : World} (h : Below N w w') (hN : w.heap.size ≤ N) : w.grownBy w' none := ⟨h.os, h.tape, h.output, h.size, fun i hi _ => h.block i (Nat.lt_of_lt_of_le hi hN)⟩
end Go.Proofs.YthplcnbfpcndbaaGreatDoor

namespace Go.Proofs.YthplcnbfpcndbaaGreatDoor
open Go.RowKit Go.Maps

/-- How changesIn ends. -/
def ChgOut (T : List Chg) (w : World) (r : Ending) (w' : World) : Prop := ∃ v cs, r = .returned v ∧ ChgsAt w' v cs ∧ (∀ x, x ∈ cs ↔ x ∈ T) ∧ Below w.heap.size w w'

set_option maxRecDepth 100000 in
set_option maxHeartbeats 8000000 in
theorem changesIn_any (ob : ByteArray) (va vb : GV) (D1 D2 : Array Value) (B w : World) (hB : Below B.heap.size B w) (h1 : LaidV B va D1) (h2 : LaidV B vb D2) :
    Calls Tryz.prog 83 #[.string ob, .agg D1, .agg D2] w (ChgOut (chgIn ob va vb) w) := by
  have hc0 := Ctx.start w
  have k1 := fun W h => numbersIn_any va D1 ob B W h h1
  have k2 := fun W h => numbersIn_any vb D2 ob B W h h2
  have d1 := h1.vc.sz
  have d2 := h2.vc.sz
  clear h1 h2
  unfold chgIn
  generalize fldD va ob = a at *
  generalize fldD vb ob = b at *
  have hq := neq63
  have hgd := fun (x y : Operand) (p q : Nm) (W : World) => eq63.2 .neq x y p q W
  go_enter Tryz.func83, Tryz.ntmps83
  go_wp2_with (first
    | (refine v_box rfl 26 (.tmp 1) rfl D1 rfl hc0 ?_; intro w1 N1 hc1 _; clear hc0)
    | (refine v_box rfl 26 (.tmp 2) rfl D2 rfl hc1 ?_; intro w2 N2 hc2 _; clear hc1))
  refine wp_region_held_drew (S := fun w' => Ctx w w' [(N2, 26, D2), (N1, 26, D1)]) (by kernel_rfl) (hc2.call (drewB w2)) (fun hS => ?_)
  obtain ⟨wd, hwd⟩ : ∃ v, World.drew w2 = v := ⟨_, rfl⟩
  rw [hwd] at hS ⊢
  clear hwd hc2
  refine wpAnyH_take (i := 0) (v := .agg D1.toList.toArray) rfl (by kernel_rfl) (by kernel_rfl) (by kernel_rfl) (fun _ _ _ h => h) (yieldsIf_load_mid (by kernel_rfl) 26 (.tmp 4) rfl N1 0 rfl D1.toList _ (fun wq hq => (hq.holds _ (List.mem_cons_of_mem _ (List.mem_cons_self ..))).2.2.1) Tryz.underlying26 rfl (by simpa using sz26 d1)) hS ?_
  try simp only [Act.put, List.setIfInBounds_toArray, List.set_cons_zero, List.set_cons_succ, List.getElem_toArray, List.getElem_cons_zero, Array.toArray_toList]
  refine wpAnyH_take (i := 1) (v := .string ob) rfl (by kernel_rfl) (by kernel_rfl) (by kernel_rfl) (fun _ _ _ h => h) (Or.inl ⟨by kernel_rfl, fun wq hS => by clear hS; go_simp⟩) hS ?_
  try simp only [Act.put, List.setIfInBounds_toArray, List.set_cons_zero, List.set_cons_succ, List.getElem_toArray, List.getElem_cons_succ, List.getElem_cons_zero]
  refine wpAnyH_take (i := 3) (v := .agg D2.toList.toArray) rfl (by kernel_rfl) (by kernel_rfl) (by kernel_rfl) (fun _ _ _ h => h) (yieldsIf_load_mid (by kernel_rfl) 26 (.tmp 5) rfl N2 0 rfl D2.toList _ (fun wq hq => (hq.holds _ (List.mem_cons_self ..)).2.2.1) Tryz.underlying26 rfl (by simpa using sz26 d2)) hS ?_
  try simp only [Act.put, List.setIfInBounds_toArray, List.set_cons_zero, List.set_cons_succ, List.getElem_toArray, List.getElem_cons_succ, List.getElem_cons_zero, Array.toArray_toList]
  refine wpAnyH_take (i := 4) (v := .string ob) rfl (by kernel_rfl) (by kernel_rfl) (by kernel_rfl) (fun _ _ _ h => h) (Or.inl ⟨by kernel_rfl, fun wq hS => by clear hS; go_simp⟩) hS ?_
  try simp only [Act.put, List.setIfInBounds_toArray, List.set_cons_zero, List.set_cons_succ, List.getElem_toArray, List.getElem_cons_succ, List.getElem_cons_zero]
  refine wpAnyH_ready (rs := [2]) (by kernel_rfl) (by simp) ?_
  refine AllReadyH.cons rfl (fun K hK => ?_) AllReadyH.nil
  go_simp
  refine (k1 _ (hB.trans (hS.bel.mono hB.size))).mono ?_
  rintro e w3 ⟨bA, nA, MA, rfl, hbA, hnA, omA, hA, hb3⟩
  refine hK.out _ _ (hS.call hb3) (fun hS => ?_)
  clear hK K k1
  try simp only [Act.put, List.setIfInBounds_toArray, List.set_cons_zero, List.set_cons_succ, List.getElem_toArray, List.getElem_cons_succ, List.getElem_cons_zero]
  refine wpAnyH_ready (rs := [5]) (by kernel_rfl) (by simp) ?_
  refine AllReadyH.cons rfl (fun K hK => ?_) AllReadyH.nil
  go_simp
  refine (k2 _ (hB.trans (hS.bel.mono hB.size))).mono ?_
  rintro e w4 ⟨bB, nB, MB, rfl, hbB, hnB, omB, hBn, hb4⟩
  refine hK.out _ _ (hS.call hb4) (fun hS => ?_)
  clear hK K k2
  try simp only [Act.put, List.setIfInBounds_toArray, List.set_cons_zero, List.set_cons_succ, List.getElem_toArray, List.getElem_cons_succ, List.getElem_cons_zero]
  refine wpAnyH_take (i := 6) (v := .map (some bA)) rfl (by kernel_rfl) (by kernel_rfl) (by kernel_rfl) (fun _ _ _ h => h) (Or.inl ⟨by kernel_rfl, fun wq hS => by clear hS; go_simp⟩) hS ?_
  try simp only [Act.put, List.setIfInBounds_toArray, List.set_cons_zero, List.set_cons_succ, List.getElem_toArray, List.getElem_cons_succ, List.getElem_cons_zero]
  refine wpAnyH_take (i := 7) (v := .map (some bB)) rfl (by kernel_rfl) (by kernel_rfl) (by kernel_rfl) (fun _ _ _ h => h) (Or.inl ⟨by kernel_rfl, fun wq hS => by clear hS; go_simp⟩) hS ?_
  try simp only [Act.put, List.setIfInBounds_toArray, List.set_cons_zero, List.set_cons_succ, List.getElem_toArray, List.getElem_cons_succ, List.getElem_cons_zero]
  refine wpAnyH_done (by kernel_rfl) ?_ _
  replace omA := own_below omA hb4
  have hbw := hS.bel
  clear hS hb3 hb4
  have hrw : w.heap.size ≤ w4.heap.size := hbw.size
  have hBr : bB ≠ w4.heap.size := Nat.ne_of_lt omB.lt
  have hAr : bA ≠ w4.heap.size := Nat.ne_of_lt omA.lt
  have hsA := omA.size_le
  have hsB := omB.size_le
  go_wp2_with (at_range; refine wpList_range_own _ rfl _ 112 rfl 9 75 law9 Tryz.underlying112 _ bA nA _ rfl omA ?_; intro w5 hrg0 hg0 hs0)
  go_frame
  replace omB := omB.kept hg0 (by simp)
  replace hbw := hbw.grown hg0 hbw.size (fun j hj => by cases hj)
  clear hs0 hg0 omA
  obtain ⟨Bs, hBs⟩ : ∃ n, w5.heap.size = n := ⟨_, rfl⟩
  have hBs' : Bs ≤ w5.heap.size := Nat.le_of_eq hBs.symm
  have hwB : w.heap.size ≤ Bs := by rw [← hBs]; exact hbw.size
  clear hBs
  generalize w4.heap.size = r1 at *
  go_loopw [9] (fun v wr => ∃ (left : Lit → Bool) (cnt : Nat) (cs : List Chg), wr.ranges Tryz.prog 9 numElem bA r1 nA MA left cnt ∧ wr.ownsMap Tryz.prog 9 numElem bB nB MB ∧ RowH Bs wr v cs ∧ Hid (One left a b cs) ∧ cs.length + cnt ≤ nA ∧ Bs ≤ wr.heap.size ∧ Below w.heap.size w wr) (fun _ wr => wr.rangeLeft bA r1)
  case atStart => exact ⟨_, _, [], hrg0, omB, RowH.nil _ _, One.start hA, by simpa using hsA, hBs', hbw⟩
  case round =>
    obtain ⟨left, cnt, cs, hrg, om, hrow, HO, hcn, hbs, hnx⟩ := hrel
    clear hrg0 omB hbw hBs'
    go_wp2_with (at_next; refine next_num rfl _ rfl bA r1 nA MA left cnt rfl hrg ?_ ?_)
    · intro hc0 hl0
      clear hrw hBr
      have hom := hrg.owns
      have hrw2 := hnx.size
      have hAr2 : bA ≠ wr.heap.size := Nat.ne_of_lt hom.lt
      have HB0 : Hid (Both (Maps.has MB) a b cs) := Both.start HO.out hl0 hBn
      clear HO hl0
      go_wp2_with (at_range; refine wpList_range_own _ rfl _ 112 rfl 9 75 law9 Tryz.underlying112 _ bB nB _ rfl om ?_; intro w6 hrg0 hg0 hs0)
      go_frame
      replace hom := hom.kept hg0 (by simp)
      replace hrow : RowH Bs w6 u9 cs := World.ownsRow.kept (row := none) hrow hg0 (by cases u9.ownBlock <;> simp)
      replace hnx := hnx.grown hg0 hnx.size (fun j hj => by cases hj)
      replace hbs := Nat.le_trans hbs hg0.size
      clear hs0 hg0 om hrg
      generalize wr.heap.size = r2 at *
      go_loopw [9] (fun v w' => ∃ (left : Lit → Bool) (cnt : Nat) (cs : List Chg), w'.ranges Tryz.prog 9 numElem bB r2 nB MB left cnt ∧ w'.ownsMap Tryz.prog 9 numElem bA nA MA ∧ RowH Bs w' v cs ∧ Hid (Both left a b cs) ∧ cs.length + cnt ≤ nA + nB ∧ Bs ≤ w'.heap.size ∧ Below w.heap.size w w') (fun _ w' => w'.rangeLeft bB r2)
      case atStart => exact ⟨_, _, cs, hrg0, hom, hrow, HB0, by omega, hbs, hnx⟩
      case round =>
        clear hrg0 hom hrow HB0 hbs hnx hcn
        obtain ⟨left, cnt, cs, hrg, om, hrow, HO, hcn, hbs, hnx⟩ := hrel
        go_wp2_with (at_next; refine next_num rfl _ rfl bB r2 nB MB left cnt rfl hrg ?_ ?_)
        · intro hc0 hl0
          have HF : Hid (∀ x, x ∈ cs ↔ x ∈ chgs (nms a ++ nms b) a b) := HO.out.fin hl0
          clear HO hl0
          go_wp2
          go_ret
          exact ⟨_, cs, rfl, hrow.chgs (by omega), HF.out, hnx⟩
        · intro x c w7 cnt1 hkey hat hrg1 hlt hg1 hs1 hen
          obtain ⟨hxm, hxn⟩ := hBn.in hat
          generalize c.v = p at *
          have hat2 := (hA x).2
          have hmeas := hrg.left_eq
          replace hrow := hrow.step hrg hg1
          replace om := om.kept hg1 (fun e => hAr2 (Option.some.inj e))
          replace hnx := hnx.grown hg1 hnx.size (fun j hj => by cases hj; exact hrw2)
          replace hbs := Nat.le_trans hbs hg1.size
          have hc0 := Ctx.start w7
          clear hrg hg1 hs1 hat
          generalize num a x = q at *
          obtain ⟨pn, pb⟩ := p
          cases hI : Maps.has MA (kS x)
          · have HI : Hid (Maps.has MA (kS x) = false) := hI
            have hxa : x ∉ nms a := hA.isLeft.1 hI
            clear hI
            cases pb
            · have hx2 : (num b x).2 = false := by rw [hxn]
              have HS : Hid (Both (fun z => left z && !z.sameKey (kS x)) a b cs) := HO.out.keep (.inr hx2)
              clear HO
              clear hx2 hxn hxa hxm
              go_wp2_with (first
                | (refine v_alloc rfl 75 rfl (nC (0, false)) z63 hc0 ?_; intro w7 N7 hc7 _; clear hc0)
                | (refine v_store rfl 75 (.tmp 13) (.tmp 49) rfl 0 (nC (pn, false)) rfl rfl hc7 rfl rfl n63 (nC_one _) ?_; intro w8 hc8; clear hc7; have omx := own_below om hc8.bel)
                | (at_lookup; refine look_ok rfl _ _ rfl bA nA MA rfl omx x rfl hkey q hat2 ?_; rw [HI.out])
                | (refine v_decl rfl rfl 75 rfl (.tmp 14) (.tmp 54) rfl (nC (0, false)) (nC q) z63 (fun _ => rfl) (fun _ => rfl) rfl n63 (nC_one _) hc8 ?_; intro w9 N9 hc9 _; clear hc8 omx; replace hrow := hrow.call hc9.bel; replace om := own_below om hc9.bel; replace hnx := hnx.trans (hc9.bel.mono hnx.size); have hrg2 := hrg1.kept (grown_of hc9.bel (Nat.le_refl _)) (by simp) (by simp); replace hbs := Nat.le_trans hbs hc9.bel.size; have c1 := hc9.cell 1 rfl 1 rfl; clear hrg1))
              go_roundw
              case rel => exact ⟨_, cnt1, cs, hrg2, om, hrow, HS, by omega, hbs, hnx⟩
              case measure => rw [hrg2.left_eq, hmeas]; exact hlt
            · have HS : Hid (Both (fun z => left z && !z.sameKey (kS x)) a b (cs ++ [(x, (0, false), (pn, true))])) := by
                have := HO.out.add hxm hxa (by rw [hxn])
                rw [hxn] at this
                exact this
              clear HO hxn hxa hxm
              go_wp2_with (first
                | (refine v_alloc rfl 75 rfl (nC (0, false)) z63 hc0 ?_; intro w7 N7 hc7 _; clear hc0)
                | (refine v_store rfl 75 (.tmp 13) (.tmp 49) rfl 0 (nC (pn, true)) rfl rfl hc7 rfl rfl n63 (nC_one _) ?_; intro w8 hc8; clear hc7; have omx := own_below om hc8.bel)
                | (at_lookup; refine look_ok rfl _ _ rfl bA nA MA rfl omx x rfl hkey q hat2 ?_; rw [HI.out])
                | (refine v_decl rfl rfl 75 rfl (.tmp 14) (.tmp 54) rfl (nC (0, false)) (nC q) z63 (fun _ => rfl) (fun _ => rfl) rfl n63 (nC_one _) hc8 ?_; intro w9 N9 hc9 _; clear hc8 omx; replace hrow := hrow.call hc9.bel; replace om := own_below om hc9.bel; replace hnx := hnx.trans (hc9.bel.mono hnx.size); have hrg2 := hrg1.kept (grown_of hc9.bel (Nat.le_refl _)) (by simp) (by simp); replace hbs := Nat.le_trans hbs hc9.bel.size; have c1 := hc9.cell 1 rfl 1 rfl; clear hrg1)
                | (refine Go.Great.wpList_buildTo rfl 75 _ rfl (some 2) rfl (nC (0, false)) (by kernel_rfl) ?_)
                | (refine v_load rfl 75 (.tmp 13) rfl 1 rfl hc9 rfl _ Tryz.underlying75 rfl n63 ?_)
                | (refine app_h rfl (.tmp 62) (.tmp 67) rfl Bs _ _ rfl (hrow.more _) _ (x, (0, false), (pn, true)) rfl (chg_range _ (x, (0, false), (pn, true)) _ rfl) (by omega) (Nat.le_trans hbs (by simp)) ?_; intro vn wn hrn hgn hbn; have hak := app_keep hrow hgn; have hrg3 := hak.1 hrg2; have om3 := hak.2 om; have hbs3 := Nat.le_trans (Nat.le_trans hbs (by simp)) hbn.size; have hnx3 := (hnx.alloc hnx.size _).trans (hbn.mono hwB)))
              go_roundw
              case rel => exact ⟨_, cnt1, _, hrg3, om3, hrn, HS, by rw [List.length_append]; simp; omega, hbs3, hnx3⟩
              case measure => rw [hrg3.left_eq, hmeas]; exact hlt
          · have HI : Hid (Maps.has MA (kS x) = true) := hI
            have hxa : x ∈ nms a := by
              have := (hA x).1
              rw [hI] at this
              exact inN_iff.1 this.symm
            clear hI
            have HS : Hid (Both (fun z => left z && !z.sameKey (kS x)) a b cs) := HO.out.keep (.inl hxa)
            clear HO
            clear hxn hxa hxm
            go_wp2_with (first
              | (refine v_alloc rfl 75 rfl (nC (0, false)) z63 hc0 ?_; intro w7 N7 hc7 _; clear hc0)
              | (refine v_store rfl 75 (.tmp 13) (.tmp 49) rfl 0 (nC (pn, pb)) rfl rfl hc7 rfl rfl n63 (nC_one _) ?_; intro w8 hc8; clear hc7; have omx := own_below om hc8.bel)
              | (at_lookup; refine look_ok rfl _ _ rfl bA nA MA rfl omx x rfl hkey q hat2 ?_; rw [HI.out])
              | (refine v_decl rfl rfl 75 rfl (.tmp 14) (.tmp 54) rfl (nC (0, false)) (nC q) z63 (fun _ => rfl) (fun _ => rfl) rfl n63 (nC_one _) hc8 ?_; intro w9 N9 hc9 _; clear hc8 omx; replace hrow := hrow.call hc9.bel; replace om := own_below om hc9.bel; replace hnx := hnx.trans (hc9.bel.mono hnx.size); have hrg2 := hrg1.kept (grown_of hc9.bel (Nat.le_refl _)) (by simp) (by simp); replace hbs := Nat.le_trans hbs hc9.bel.size; have c1 := hc9.cell 1 rfl 1 rfl; clear hrg1))
            go_roundw
            case rel => exact ⟨_, cnt1, cs, hrg2, om, hrow, HS, by omega, hbs, hnx⟩
            case measure => rw [hrg2.left_eq, hmeas]; exact hlt
    · intro x c w6 cnt1 hkey hat hrg1 hlt hg1 hs1 hen
      obtain ⟨hxm, hxn⟩ := hA.in hat
      generalize c.v = cv at *
      subst hxn
      have hat2 := (hBn x).2
      have hmeas := hrg.left_eq
      replace hrow := hrow.step hrg hg1
      replace om := om.kept hg1 (fun e => hBr (Option.some.inj e))
      replace hnx := hnx.grown hg1 hnx.size (fun j hj => by cases hj; exact hrw)
      replace hbs := Nat.le_trans hbs hg1.size
      have hc0 := Ctx.start w6
      clear hrg hg1 hs1 hat
      by_cases hne : num a x = num b x
      · have HS : Hid (One (fun z => left z && !z.sameKey (kS x)) a b cs) := HO.out.keep hne
        have hd : decide (num a x = num b x) = true := decide_eq_true hne
        clear HO hne
        generalize num a x = p at *
        generalize num b x = q at *
        go_wp2_with (first
          | (refine v_alloc rfl 75 rfl (nC (0, false)) z63 hc0 ?_; intro w7 N7 hc7 _; clear hc0)
          | (refine v_store rfl 75 (.tmp 11) (.tmp 28) rfl 0 (nC p) rfl rfl hc7 rfl rfl n63 (nC_one _) ?_; intro w8 hc8; clear hc7; replace hrow := hrow.call hc8.bel; replace om := own_below om hc8.bel; replace hnx := hnx.trans (hc8.bel.mono hnx.size); have hrg2 := hrg1.kept (grown_of hc8.bel (Nat.le_refl _)) (by simp) (by simp); replace hbs := Nat.le_trans hbs hc8.bel.size; clear hrg1)
          | (refine v_load rfl 75 (.tmp 11) rfl 0 rfl hc8 rfl _ Tryz.underlying75 rfl n63 ?_)
          | (at_lookup; refine look_one rfl _ _ rfl bB nB MB rfl om x rfl hkey q hat2 ?_))
        go_roundw
        case rel => exact ⟨_, cnt1, cs, hrg2, om, hrow, HS, by omega, hbs, hnx⟩
        case measure => rw [hrg2.left_eq, hmeas]; exact hlt
      · have HS : Hid (One (fun z => left z && !z.sameKey (kS x)) a b (cs ++ [(x, num a x, num b x)])) := HO.out.add hxm hne
        have hd : decide (num a x = num b x) = false := decide_eq_false hne
        clear HO hne
        generalize num a x = p at *
        generalize num b x = q at *
        go_wp2_with (first
          | (refine v_alloc rfl 75 rfl (nC (0, false)) z63 hc0 ?_; intro w7 N7 hc7 _; clear hc0)
          | (refine v_store rfl 75 (.tmp 11) (.tmp 28) rfl 0 (nC p) rfl rfl hc7 rfl rfl n63 (nC_one _) ?_; intro w8 hc8; clear hc7; replace hrow := hrow.call hc8.bel; replace om := own_below om hc8.bel; replace hnx := hnx.trans (hc8.bel.mono hnx.size); have hrg2 := hrg1.kept (grown_of hc8.bel (Nat.le_refl _)) (by simp) (by simp); replace hbs := Nat.le_trans hbs hc8.bel.size; clear hrg1)
          | (refine v_load rfl 75 (.tmp 11) rfl 0 rfl hc8 rfl _ Tryz.underlying75 rfl n63 ?_)
          | (at_lookup; refine look_one rfl _ _ rfl bB nB MB rfl om x rfl hkey q hat2 ?_)
          | (refine Go.Great.wpList_buildTo rfl 91 _ rfl (some 5) rfl (hC x p q) (by kernel_rfl) ?_)
          | (refine app_h rfl (.tmp 34) (.tmp 41) rfl Bs _ _ rfl (hrow.more _) _ (x, p, q) rfl (chg_range _ (x, p, q) _ rfl) (by omega) (Nat.le_trans hbs (by simp)) ?_; intro vn wn hrn hgn hbn; have hak := app_keep hrow hgn; have hrg3 := hak.1 hrg2; have om3 := hak.2 om; have hbs3 := Nat.le_trans (Nat.le_trans hbs (by simp)) hbn.size; have hnx3 := (hnx.alloc hnx.size _).trans (hbn.mono hwB)))
        go_roundw
        case rel => exact ⟨_, cnt1, _, hrg3, om3, hrn, HS, by rw [List.length_append]; simp; omega, hbs3, hnx3⟩
        case measure => rw [hrg3.left_eq, hmeas]; exact hlt
end Go.Proofs.YthplcnbfpcndbaaGreatDoor

namespace Go.Proofs.YthplcnbfpcndbaaGreatDoor
open Go.RowKit Go.Maps

theorem z86 (w : World) : (zeroValue 91).run Tryz.prog w = .ok (.agg (hC ⟨#[]⟩ (0, false) (0, false))) w := by kernel_rfl
theorem chgs_keep {l : List ByteArray} {x : ByteArray} {a b : GV} (h : num a x = num b x) : chgs (l ++ [x]) a b = chgs l a b := by
  unfold chgs
  rw [List.filter_append, List.map_append]
  simp [h]
theorem chgs_add {l : List ByteArray} {x : ByteArray} {a b : GV} (h : num a x ≠ num b x) : chgs (l ++ [x]) a b = chgs l a b ++ [(x, num a x, num b x)] := by
  unfold chgs
  rw [List.filter_append, List.map_append]
  simp [h]
theorem in_old (nm : ByteArray) (p q : Nm) : In (nC p) (hC nm p q) 1 := fun j v h => by
  have hj : j < 2 := (Array.getElem?_eq_some_iff.1 h).1
  rcases j with _ | _ | j
  all_goals first | exact h | omega
theorem in_new (nm : ByteArray) (p q : Nm) : In (nC q) (hC nm p q) 3 := fun j v h => by
  have hj : j < 2 := (Array.getElem?_eq_some_iff.1 h).1
  rcases j with _ | _ | j
  all_goals first | exact h | omega

theorem yieldsIf_build {P : Program} {ops : Array Oper} {S : World → Prop} {op : Oper} {a : Act} (hw : Region.wanted op (yielded ops a.tmps) = true) (t : TypeId) (parts : Array (Nat × Operand)) (ho : op.op = .build t parts)
    (L : List (Nat × Value)) (hL : (parts.map fun ((i, x) : Nat × Operand) => (i, a.eval x)).toList = L) (cells : List Value) (hb : P.built t L = some cells.toArray) : YieldsIf P ops S op (.agg cells.toArray) a :=
  .inl ⟨hw, fun w _ => by
    rw [← hL] at hb
    unfold execOp
    simp only [ho, Sem.run_bind, run_build w t _ _ hb, Result.andThen_ok]
    rfl⟩

set_option maxRecDepth 100000 in
set_option maxHeartbeats 8000000 in
theorem singles_any (a b : GV) (D1 D2 : Array Value) (B w : World) (hB : Below B.heap.size B w) (h1 : LaidV B a D1) (h2 : LaidV B b D2) (hg : Sing B) :
    Calls Tryz.prog 85 #[.agg D1, .agg D2] w (ChgOut (chgs seven a b) w) := by
  have hc0 := Ctx.start w
  have k1 := fun nm W h => numberOf_any a D1 nm B W h h1
  have k2 := fun nm W h => numberOf_any b D2 nm B W h h2
  have d1 := h1.vc.sz
  have d2 := h2.vc.sz
  clear h1 h2
  obtain ⟨SC, hr0, hlt0, hix, hn⟩ : ∃ SC : Array Value, w.rangeAt 0 0 SC.toList ∧ 0 < w.heap.size ∧ (∀ i : Nat, i < 7 → ∃ nm, seven[i]? = some nm ∧ ∀ W, (Instr.index 109 (.agg SC) (.int .i64 (i : Int))).run Tryz.prog W = .ok (.string nm) W) ∧ (Tryz.prog.info? 109).map (·.size) = some SC.toList.length := ⟨sevC, (hg.below hB).1, (hg.below hB).2, idx99, n99⟩
  have HIX : Hid (∀ i : Nat, i < 7 → ∃ nm, seven[i]? = some nm ∧ ∀ W, (Instr.index 109 (.agg SC) (.int .i64 (i : Int))).run Tryz.prog W = .ok (.string nm) W) := hix
  clear hix hg
  have hq := neq63
  have hgd := fun (x y : Operand) (p q : Nm) (W : World) => eq63.2 .neq x y p q W
  go_enter Tryz.func85, Tryz.ntmps85
  go_wp2_with (first
    | (refine v_box rfl 26 (.tmp 0) rfl D1 rfl hc0 ?_; intro w1 N1 hc1 _; clear hc0)
    | (refine v_box rfl 26 (.tmp 1) rfl D2 rfl hc1 ?_; intro w2 N2 hc2 _; clear hc1)
    | (refine wpList_load_mid rfl 109 (.global 0) rfl 0 0 rfl SC.toList _ (below_range hc2.bel hr0 hlt0) Tryz.underlying109 rfl hn ?_; clear hn))
  obtain ⟨Bs, hBs⟩ : ∃ n, w2.heap.size = n := ⟨_, rfl⟩
  have hBs' : Bs ≤ w2.heap.size := Nat.le_of_eq hBs.symm
  have hwB : w.heap.size ≤ Bs := by rw [← hBs]; exact hc2.bel.size
  have hL : Hid (∀ x ∈ [(N2, 26, D2), (N1, 26, D1)], x.1 < Bs) := fun x hx => by rw [← hBs]; exact (hc2.holds x hx).2.1
  clear hBs
  go_loopw [5, 10] (fun v u wr => ∃ (i : Nat) (cs : List Chg), u = .int .i64 (i : Int) ∧ i ≤ 7 ∧ RowH Bs wr v cs ∧ Hid (cs = chgs (seven.take i) a b) ∧ cs.length ≤ i ∧ Bs ≤ wr.heap.size ∧ Ctx w wr [(N2, 26, D2), (N1, 26, D1)]) (fun _ u _ => 7 - numOf u)
  case atStart => exact ⟨0, [], rfl, Nat.zero_le _, RowH.nil _ _, rfl, Nat.le_refl _, hBs', hc2⟩
  case round =>
    obtain ⟨i, cs, rfl, hil, hrow, HO, hcl, hbs, hc⟩ := hrel
    clear hc2 hBs'
    by_cases hlt : i < 7
    · have hlt' : (i : Int) < 7 := by omega
      obtain ⟨nm, hnm, hix⟩ := HIX.out i hlt
      have hwr : IntKind.i64.wrap ((i : Int) + 1) = ((i + 1 : Nat) : Int) := by rw [wrap_small _ (by omega) (by omega)]; omega
      have htake : Hid (seven.take (i + 1) = seven.take i ++ [nm]) := by
        obtain ⟨h1, h2⟩ := List.getElem?_eq_some_iff.1 hnm
        show _ = _
        rw [← h2]
        exact List.take_succ_eq_append_getElem h1
      have q1 := k1 nm
      have q2 := k2 nm
      have HK : Hid (num a nm = num b nm → cs = chgs (seven.take (i + 1)) a b) := fun h => by rw [htake.out, chgs_keep h, ← HO.out]
      have HA : Hid (num a nm ≠ num b nm → cs ++ [(nm, num a nm, num b nm)] = chgs (seven.take (i + 1)) a b) := fun h => by rw [htake.out, chgs_add h, ← HO.out]
      clear hnm htake HO
      generalize num a nm = p at *
      generalize num b nm = q at *
      go_wp2
      go_cut [8, 10] from 10 to 30 (fun s c wx => ∃ N, s = .pointer (some ⟨N, 0, none⟩) ∧ c = .int .i64 (i : Int) ∧ Hid (Ctx wr wx [(N, 91, hC nm p q)]))
      case first =>
        have hz := z86
        refine wp_region_held_drew (S := fun w' => Below wr.heap.size wr w') (by kernel_rfl) (drewB wr) (fun hS => ?_)
        obtain ⟨wd, hwd⟩ : ∃ v, World.drew wr = v := ⟨_, rfl⟩
        rw [hwd] at hS ⊢
        clear hwd
        refine wpAnyH_take (i := 0) (v := .string nm) rfl (by kernel_rfl) (by kernel_rfl) (by kernel_rfl) (fun _ _ _ h => h) (Or.inl ⟨by kernel_rfl, fun wq hS => by clear hS; go_simp⟩) hS ?_
        try simp only [Act.put, List.setIfInBounds_toArray, List.set_cons_zero, List.set_cons_succ, List.getElem_toArray, List.getElem_cons_zero]
        refine wpAnyH_take (i := 1) (v := .agg D1.toList.toArray) rfl (by kernel_rfl) (by kernel_rfl) (by kernel_rfl) (fun _ _ _ h => h) (yieldsIf_load_mid (by kernel_rfl) 26 (.tmp 2) rfl N1 0 rfl D1.toList _ (fun wq hq => ((hc.call hq).holds _ (List.mem_cons_of_mem _ (List.mem_cons_self ..))).2.2.1) Tryz.underlying26 rfl (by simpa using sz26 d1)) hS ?_
        try simp only [Act.put, List.setIfInBounds_toArray, List.set_cons_zero, List.set_cons_succ, List.getElem_toArray, List.getElem_cons_succ, List.getElem_cons_zero, Array.toArray_toList]
        refine wpAnyH_take (i := 2) (v := .string nm) rfl (by kernel_rfl) (by kernel_rfl) (by kernel_rfl) (fun _ _ _ h => h) (Or.inl ⟨by kernel_rfl, fun wq hS => by clear hS; go_simp⟩) hS ?_
        try simp only [Act.put, List.setIfInBounds_toArray, List.set_cons_zero, List.set_cons_succ, List.getElem_toArray, List.getElem_cons_succ, List.getElem_cons_zero]
        refine wpAnyH_take (i := 4) (v := .agg D2.toList.toArray) rfl (by kernel_rfl) (by kernel_rfl) (by kernel_rfl) (fun _ _ _ h => h) (yieldsIf_load_mid (by kernel_rfl) 26 (.tmp 3) rfl N2 0 rfl D2.toList _ (fun wq hq => ((hc.call hq).holds _ (List.mem_cons_self ..)).2.2.1) Tryz.underlying26 rfl (by simpa using sz26 d2)) hS ?_
        try simp only [Act.put, List.setIfInBounds_toArray, List.set_cons_zero, List.set_cons_succ, List.getElem_toArray, List.getElem_cons_succ, List.getElem_cons_zero, Array.toArray_toList]
        refine wpAnyH_take (i := 5) (v := .string nm) rfl (by kernel_rfl) (by kernel_rfl) (by kernel_rfl) (fun _ _ _ h => h) (Or.inl ⟨by kernel_rfl, fun wq hS => by clear hS; go_simp⟩) hS ?_
        try simp only [Act.put, List.setIfInBounds_toArray, List.set_cons_zero, List.set_cons_succ, List.getElem_toArray, List.getElem_cons_succ, List.getElem_cons_zero]
        refine wpAnyH_ready (rs := [3, 8]) (by kernel_rfl) (by simp) ?_
        refine AllReadyH.cons rfl (fun K hK => ?_) (AllReadyH.cons rfl (fun K hK => ?_) AllReadyH.nil)
        · go_simp
          refine (q1 _ (hB.trans ((hc.call hS).bel.mono hB.size))).mono ?_
          rintro e wn ⟨rfl, hb⟩
          refine hK.out _ _ (hS.trans (hb.mono hS.size)) (fun hS => ?_)
          clear hK K hb
          try simp only [Act.put, List.setIfInBounds_toArray, List.set_cons_zero, List.set_cons_succ, List.getElem_toArray, List.getElem_cons_succ, List.getElem_cons_zero]
          refine wpAnyH_ready (rs := [6, 8]) (by kernel_rfl) (by simp) ?_
          refine AllReadyH.cons rfl (fun K hK => ?_) (AllReadyH.cons rfl (fun K hK => ?_) AllReadyH.nil)
          · go_simp
            refine (q2 _ (hB.trans ((hc.call hS).bel.mono hB.size))).mono ?_
            rintro e wn ⟨rfl, hb⟩
            refine hK.out _ _ (hS.trans (hb.mono hS.size)) (fun hS => ?_)
            clear hK K hb
            try simp only [Act.put, List.setIfInBounds_toArray, List.set_cons_zero, List.set_cons_succ, List.getElem_toArray, List.getElem_cons_succ, List.getElem_cons_zero]
            refine wpAnyH_take (i := 7) (v := .agg (hC nm p q).toList.toArray) rfl (by kernel_rfl) (by kernel_rfl) (by kernel_rfl) (fun _ _ _ h => h) (yieldsIf_build (by kernel_rfl) 91 _ rfl [(0, .string nm), (1, .agg (nC p)), (2, .agg (nC q))] (by kernel_rfl) (hC nm p q).toList (by kernel_rfl)) hS ?_
            try simp only [Act.put, List.setIfInBounds_toArray, List.set_cons_zero, List.set_cons_succ, List.getElem_toArray, List.getElem_cons_succ, List.getElem_cons_zero]
            refine wpAnyH_ready (rs := [8]) (by kernel_rfl) (by simp) ?_
            refine AllReadyH.cons rfl (fun K hK => ?_) AllReadyH.nil
            go_simp
            have c8 := (Ctx.empty hS).push 91 (hC ⟨#[]⟩ (0, false) (0, false))
            refine hK.out _ _ (hS.alloc hS.size _) (fun hS => ?_)
            clear hK K
            try simp only [Act.put, List.setIfInBounds_toArray, List.set_cons_zero, List.set_cons_succ, List.getElem_toArray, List.getElem_cons_succ, List.getElem_cons_zero]
            obtain ⟨wa, hwa⟩ : ∃ v, World.alloc wn (.cells (hC ⟨#[]⟩ (0, false) (0, false)) 91) = v := ⟨_, rfl⟩
            rw [hwa] at c8 hS ⊢
            clear hwa
            refine wpAnyH_ready (rs := [9]) (by kernel_rfl) (by simp) ?_
            refine AllReadyH.cons rfl (fun K hK => ?_) AllReadyH.nil
            refine want_it (by kernel_rfl) ?_
            refine wp_store_mid 91 (.tmp 8) (.tmp 20) rfl _ 0 (hC nm p q) rfl rfl (c8.holds _ (List.mem_cons_self ..)).2.2.2 (n86 _ _ _) (hC_one _ _ _) ?_
            have c9 := c8.put 0 rfl (hC nm p q) rfl
            refine hK.out _ _ c9.bel (fun hS => ?_)
            clear hK K
            try simp only [Act.put, List.getElem_toArray, List.getElem_cons_succ, List.getElem_cons_zero]
            refine wpAnyH_done (by kernel_rfl) ?_ _
            go_wp2
            go_meet
            case rel => exact ⟨_, rfl, rfl, c9⟩
          · go_simp
            have c8 := (Ctx.empty hS).push 91 (hC ⟨#[]⟩ (0, false) (0, false))
            refine hK.out _ _ (hS.alloc hS.size _) (fun hS => ?_)
            clear hK K
            try simp only [Act.put, List.setIfInBounds_toArray, List.set_cons_zero, List.set_cons_succ, List.getElem_toArray, List.getElem_cons_succ, List.getElem_cons_zero]
            obtain ⟨wa, hwa⟩ : ∃ v, World.alloc wn (.cells (hC ⟨#[]⟩ (0, false) (0, false)) 91) = v := ⟨_, rfl⟩
            rw [hwa] at c8 hS ⊢
            clear hwa
            refine wpAnyH_ready (rs := [6]) (by kernel_rfl) (by simp) ?_
            refine AllReadyH.cons rfl (fun K hK => ?_) AllReadyH.nil
            go_simp
            refine (q2 _ (hB.trans ((hc.call hS).bel.mono hB.size))).mono ?_
            rintro e wn ⟨rfl, hb⟩
            replace c8 := c8.call hb
            refine hK.out _ _ (hS.trans (hb.mono hS.size)) (fun hS => ?_)
            clear hK K hb
            try simp only [Act.put, List.setIfInBounds_toArray, List.set_cons_zero, List.set_cons_succ, List.getElem_toArray, List.getElem_cons_succ, List.getElem_cons_zero]
            refine wpAnyH_take (i := 7) (v := .agg (hC nm p q).toList.toArray) rfl (by kernel_rfl) (by kernel_rfl) (by kernel_rfl) (fun _ _ _ h => h) (yieldsIf_build (by kernel_rfl) 91 _ rfl [(0, .string nm), (1, .agg (nC p)), (2, .agg (nC q))] (by kernel_rfl) (hC nm p q).toList (by kernel_rfl)) hS ?_
            try simp only [Act.put, List.setIfInBounds_toArray, List.set_cons_zero, List.set_cons_succ, List.getElem_toArray, List.getElem_cons_succ, List.getElem_cons_zero]
            refine wpAnyH_ready (rs := [9]) (by kernel_rfl) (by simp) ?_
            refine AllReadyH.cons rfl (fun K hK => ?_) AllReadyH.nil
            refine want_it (by kernel_rfl) ?_
            refine wp_store_mid 91 (.tmp 8) (.tmp 20) rfl _ 0 (hC nm p q) rfl rfl (c8.holds _ (List.mem_cons_self ..)).2.2.2 (n86 _ _ _) (hC_one _ _ _) ?_
            have c9 := c8.put 0 rfl (hC nm p q) rfl
            refine hK.out _ _ c9.bel (fun hS => ?_)
            clear hK K
            try simp only [Act.put, List.getElem_toArray, List.getElem_cons_succ, List.getElem_cons_zero]
            refine wpAnyH_done (by kernel_rfl) ?_ _
            go_wp2
            go_meet
            case rel => exact ⟨_, rfl, rfl, c9⟩
        · go_simp
          have c8 := (Ctx.empty hS).push 91 (hC ⟨#[]⟩ (0, false) (0, false))
          refine hK.out _ _ (hS.alloc hS.size _) (fun hS => ?_)
          clear hK K
          try simp only [Act.put, List.setIfInBounds_toArray, List.set_cons_zero, List.set_cons_succ, List.getElem_toArray, List.getElem_cons_succ, List.getElem_cons_zero]
          obtain ⟨wa, hwa⟩ : ∃ v, World.alloc wd (.cells (hC ⟨#[]⟩ (0, false) (0, false)) 91) = v := ⟨_, rfl⟩
          rw [hwa] at c8 hS ⊢
          clear hwa
          refine wpAnyH_ready (rs := [3]) (by kernel_rfl) (by simp) ?_
          refine AllReadyH.cons rfl (fun K hK => ?_) AllReadyH.nil
          go_simp
          refine (q1 _ (hB.trans ((hc.call hS).bel.mono hB.size))).mono ?_
          rintro e wn ⟨rfl, hb⟩
          replace c8 := c8.call hb
          refine hK.out _ _ (hS.trans (hb.mono hS.size)) (fun hS => ?_)
          clear hK K hb
          try simp only [Act.put, List.setIfInBounds_toArray, List.set_cons_zero, List.set_cons_succ, List.getElem_toArray, List.getElem_cons_succ, List.getElem_cons_zero]
          refine wpAnyH_ready (rs := [6]) (by kernel_rfl) (by simp) ?_
          refine AllReadyH.cons rfl (fun K hK => ?_) AllReadyH.nil
          go_simp
          refine (q2 _ (hB.trans ((hc.call hS).bel.mono hB.size))).mono ?_
          rintro e wn ⟨rfl, hb⟩
          replace c8 := c8.call hb
          refine hK.out _ _ (hS.trans (hb.mono hS.size)) (fun hS => ?_)
          clear hK K hb
          try simp only [Act.put, List.setIfInBounds_toArray, List.set_cons_zero, List.set_cons_succ, List.getElem_toArray, List.getElem_cons_succ, List.getElem_cons_zero]
          refine wpAnyH_take (i := 7) (v := .agg (hC nm p q).toList.toArray) rfl (by kernel_rfl) (by kernel_rfl) (by kernel_rfl) (fun _ _ _ h => h) (yieldsIf_build (by kernel_rfl) 91 _ rfl [(0, .string nm), (1, .agg (nC p)), (2, .agg (nC q))] (by kernel_rfl) (hC nm p q).toList (by kernel_rfl)) hS ?_
          try simp only [Act.put, List.setIfInBounds_toArray, List.set_cons_zero, List.set_cons_succ, List.getElem_toArray, List.getElem_cons_succ, List.getElem_cons_zero]
          refine wpAnyH_ready (rs := [9]) (by kernel_rfl) (by simp) ?_
          refine AllReadyH.cons rfl (fun K hK => ?_) AllReadyH.nil
          refine want_it (by kernel_rfl) ?_
          refine wp_store_mid 91 (.tmp 8) (.tmp 20) rfl _ 0 (hC nm p q) rfl rfl (c8.holds _ (List.mem_cons_self ..)).2.2.2 (n86 _ _ _) (hC_one _ _ _) ?_
          have c9 := c8.put 0 rfl (hC nm p q) rfl
          refine hK.out _ _ c9.bel (fun hS => ?_)
          clear hK K
          try simp only [Act.put, List.getElem_toArray, List.getElem_cons_succ, List.getElem_cons_zero]
          refine wpAnyH_done (by kernel_rfl) ?_ _
          go_wp2
          go_meet
          case rel => exact ⟨_, rfl, rfl, c9⟩
      case rest =>
        obtain ⟨N, rfl, rfl, HX⟩ := hcut
        have hcx := HX.out
        have hc3 := hc.call hcx.bel
        have hrow3 := hrow.call hcx.bel
        have hbs3 := Nat.le_trans hbs hcx.bel.size
        clear HX hrow hc hbs
        by_cases hne : p = q
        · have HS := (show Hid (cs = chgs (seven.take (i + 1)) a b) from HK.out hne)
          have hd : decide (p = q) = true := decide_eq_true hne
          clear HK HA hne
          go_wp2_with (first
            | (refine v_part rfl 75 (.tmp 21) rfl 0 (nC p) rfl hcx rfl (in_old nm p q) _ Tryz.underlying75 rfl n63 ?_)
            | (refine v_part rfl 75 (.tmp 23) rfl 0 (nC q) rfl hcx rfl (in_new nm p q) _ Tryz.underlying75 rfl n63 ?_))
          go_roundw
          case rel => exact ⟨i + 1, cs, by simp, hlt, hrow3, HS, by omega, hbs3, hc3⟩
          case measure => simp [numOf]; omega
        · have HS := (show Hid (cs ++ [(nm, p, q)] = chgs (seven.take (i + 1)) a b) from HA.out hne)
          have hd : decide (p = q) = false := decide_eq_false hne
          clear HK HA hne
          go_wp2_with (first
            | (refine v_part rfl 75 (.tmp 21) rfl 0 (nC p) rfl hcx rfl (in_old nm p q) _ Tryz.underlying75 rfl n63 ?_)
            | (refine v_part rfl 75 (.tmp 23) rfl 0 (nC q) rfl hcx rfl (in_new nm p q) _ Tryz.underlying75 rfl n63 ?_)
            | (refine v_load rfl 91 (.tmp 8) rfl 0 rfl hcx rfl _ Tryz.underlying91 rfl (n86 _ _ _) ?_)
            | (refine app_h rfl (.tmp 26) (.tmp 28) rfl Bs _ _ rfl (hrow3.more _) _ (nm, p, q) rfl (chg_range _ (nm, p, q) _ rfl) (by omega) (Nat.le_trans hbs3 (by simp)) ?_; intro vn wn hrn hgn hbn; have hbs4 := Nat.le_trans (Nat.le_trans hbs3 (by simp)) hbn.size; have hc4 := (hc3.call ((Below.refl _ _).alloc (Nat.le_refl _) _)).low hL.out hwB hbn))
          go_roundw
          case rel => exact ⟨i + 1, _, by simp, hlt, hrn, HS, by rw [List.length_append]; simp; omega, hbs4, hc4⟩
          case measure => simp [numOf]; omega
    · have hlt' : ¬ (i : Int) < 7 := by omega
      have HE : Hid (cs = chgs seven a b) := by
        have := HO.out
        rw [List.take_of_length_le (show seven.length ≤ i from by have : seven.length = 7 := rfl; omega)] at this
        exact this
      clear HO
      go_wp2
      go_ret
      exact ⟨_, cs, rfl, hrow.chgs (by omega), fun x => by rw [HE.out], hc.bel⟩
end Go.Proofs.YthplcnbfpcndbaaGreatDoor

namespace Go.Proofs.YthplcnbfpcndbaaGreatDoor
open Go.RowKit Go.Shelf

theorem enter64 : ∀ (args : Array Value) (w : World), Sem.run Tryz.prog (callFunc 78 args) w = .ok (.enter 78 args) w := enters_of Tryz.func78 (by kernel_rfl) rfl
theorem enter66 : ∀ (args : Array Value) (w : World), Sem.run Tryz.prog (callFunc 80 args) w = .ok (.enter 80 args) w := enters_of Tryz.func80 (by kernel_rfl) rfl
theorem enter67 : ∀ (args : Array Value) (w : World), Sem.run Tryz.prog (callFunc 81 args) w = .ok (.enter 81 args) w := enters_of Tryz.func81 (by kernel_rfl) rfl

set_option maxRecDepth 100000 in
set_option maxHeartbeats 4000000 in
theorem bydF_any (c : Chg) (N : Nat) (l : Int) (w : World) (hc : w.cell? ⟨N, 0, none⟩ = some (.int .i64 l)) :
    Calls Tryz.prog 78 #[.agg (hE c).toArray, .pointer (some ⟨N, 0, none⟩)] w fun r w' => r = .returned (.bool (byd l c)) ∧ Below w.heap.size w w' := by
  obtain ⟨nm, p, q⟩ := c
  have hc0 := Ctx.start w
  have hcN : ∀ W', Below w.heap.size w W' → W'.cell? ⟨N, 0, none⟩ = some (.int .i64 l) := fun W' hb => by
    rw [hb.cell (World.block_lt_of_cell? w _ hc)]
    exact hc
  have kb := fun W => beyond_any nm p q l W
  unfold byd
  show Calls Tryz.prog 78 #[.agg (hC nm p q), .pointer (some ⟨N, 0, none⟩)] w fun r w' => r = .returned (.bool (abv p l || abv q l)) ∧ Below w.heap.size w w'
  generalize (abv p l || abv q l) = A at *
  go_enter Tryz.func78, Tryz.ntmps78
  go_wp2_with (first
    | (refine v_box rfl 91 (.tmp 0) rfl (hC nm p q) rfl hc0 ?_; intro w1 N1 hc1 _; have cN := hcN _ hc1.bel; clear hc0)
    | (refine v_load rfl 91 (.tmp 2) rfl 0 rfl hc1 rfl _ Tryz.underlying91 rfl (n86 _ _ _) ?_)
    | (go_at_call 79; refine (kb _).mono ?_; rintro r wy ⟨rfl, hby⟩; replace hc1 := hc1.call hby))
  go_ret
  exact ⟨rfl, hc1.bel⟩

set_option maxRecDepth 100000 in
set_option maxHeartbeats 4000000 in
theorem highF_any (c : Chg) (N : Nat) (l : Int) (w : World) (hc : w.cell? ⟨N, 0, none⟩ = some (.int .i64 l)) :
    Calls Tryz.prog 81 #[.agg (hE c).toArray, .pointer (some ⟨N, 0, none⟩)] w fun r w' => r = .returned (.bool (high l c)) ∧ Below w.heap.size w w' := by
  obtain ⟨nm, p, q⟩ := c
  have hc0 := Ctx.start w
  have hcN : ∀ W', Below w.heap.size w W' → W'.cell? ⟨N, 0, none⟩ = some (.int .i64 l) := fun W' hb => by
    rw [hb.cell (World.block_lt_of_cell? w _ hc)]
    exact hc
  have kb := fun W => above_any q l W
  unfold high
  show Calls Tryz.prog 81 #[.agg (hC nm p q), .pointer (some ⟨N, 0, none⟩)] w fun r w' => r = .returned (.bool (abv q l)) ∧ Below w.heap.size w w'
  generalize abv q l = A at *
  go_enter Tryz.func81, Tryz.ntmps81
  go_wp2_with (first
    | (refine v_box rfl 91 (.tmp 0) rfl (hC nm p q) rfl hc0 ?_; intro w1 N1 hc1 _; have cN := hcN _ hc1.bel; clear hc0)
    | (refine v_part rfl 75 (.tmp 4) rfl 0 (nC q) rfl hc1 rfl (in_new nm p q) _ Tryz.underlying75 rfl n63 ?_)
    | (go_at_call 82; refine (kb _).mono ?_; rintro r wy ⟨rfl, hby⟩; replace hc1 := hc1.call hby))
  go_ret
  exact ⟨rfl, hc1.bel⟩

set_option maxRecDepth 100000 in
set_option maxHeartbeats 4000000 in
theorem reachF_any (c : Chg) (M N : Nat) (u : ByteArray) (l : Int) (w : World) (hu : w.cell? ⟨M, 3, none⟩ = some (.string u)) (hc : w.cell? ⟨N, 0, none⟩ = some (.int .i64 l)) :
    Calls Tryz.prog 80 #[.agg (hE c).toArray, .pointer (some ⟨M, 0, none⟩), .pointer (some ⟨N, 0, none⟩)] w fun r w' => r = .returned (.bool (reach u l c)) ∧ Below w.heap.size w w' := by
  obtain ⟨nm, ⟨pn, pb⟩, q⟩ := c
  have hc0 := Ctx.start w
  have hcN : ∀ W', Below w.heap.size w W' → W'.cell? ⟨N, 0, none⟩ = some (.int .i64 l) := fun W' hb => by
    rw [hb.cell (World.block_lt_of_cell? w _ hc)]
    exact hc
  have hcM : ∀ W', Below w.heap.size w W' → W'.cell? ⟨M, 3, none⟩ = some (.string u) := fun W' hb => by
    rw [hb.cell (World.block_lt_of_cell? w _ hu)]
    exact hu
  have hq := beq_bytes nm u
  unfold reach
  show Calls Tryz.prog 80 #[.agg (hC nm (pn, pb) q), .pointer (some ⟨M, 0, none⟩), .pointer (some ⟨N, 0, none⟩)] w fun r w' => r = .returned (.bool (!decide (nm = u) && (pb && decide (l ≤ pn)))) ∧ Below w.heap.size w w'
  generalize decide (nm = u) = e at *
  cases e <;> cases pb
  case false.true =>
    by_cases h : l ≤ pn
    · rw [decide_eq_true h]
      go_enter Tryz.func80, Tryz.ntmps80
      go_wp2_with (refine v_box rfl 91 (.tmp 0) rfl (hC nm (pn, true) q) rfl hc0 ?_; intro w1 N1 hc1 _; have cN := hcN _ hc1.bel; have cM := hcM _ hc1.bel; have c0 := hc1.cell 0 rfl 0 rfl; have c1 := hc1.cell 0 rfl 1 rfl; have c2 := hc1.cell 0 rfl 2 rfl; clear hc0)
      go_ret
      exact ⟨rfl, hc1.bel⟩
    · rw [decide_eq_false h]
      go_enter Tryz.func80, Tryz.ntmps80
      go_wp2_with (refine v_box rfl 91 (.tmp 0) rfl (hC nm (pn, true) q) rfl hc0 ?_; intro w1 N1 hc1 _; have cN := hcN _ hc1.bel; have cM := hcM _ hc1.bel; have c0 := hc1.cell 0 rfl 0 rfl; have c1 := hc1.cell 0 rfl 1 rfl; have c2 := hc1.cell 0 rfl 2 rfl; clear hc0)
      go_ret
      exact ⟨rfl, hc1.bel⟩
  all_goals
    go_enter Tryz.func80, Tryz.ntmps80
    go_wp2_with (refine v_box rfl 91 (.tmp 0) rfl (hC nm (pn, _) q) rfl hc0 ?_; intro w1 N1 hc1 _; have cN := hcN _ hc1.bel; have cM := hcM _ hc1.bel; have c0 := hc1.cell 0 rfl 0 rfl; have c1 := hc1.cell 0 rfl 1 rfl; have c2 := hc1.cell 0 rfl 2 rfl; clear hc0)
    go_ret
    exact ⟨rfl, hc1.bel⟩
theorem indexC_nil (a : Option Addr) (c g : Nat) (lb : Array Value) (w : World) : Calls Tryz.prog 101 #[.slice a 0 c, .func (.func g) #[] lb] w fun r w' => r = .returned (.int .i64 (-1)) ∧ w' = w := by
  go_enter Tryz.func101, Tryz.ntmps101
  go_wp2
  go_loopg [5, 8] 0 (fun _ _ s8 wr => s8 = .int .i64 0 ∧ wr = w)
  case atStart => exact ⟨rfl, rfl⟩
  case round =>
    obtain ⟨rfl, rfl⟩ := hrel
    go_wp2
    go_ret
    exact ⟨rfl, rfl⟩
/-- slices.ContainsFunc of a row of changes. -/
theorem containsC_any (cs : List Chg) (v : Value) (w : World) (hl : ChgsAt w v cs) (p : Chg → Bool) (g : Nat) (lb : Array Value) (eg : ∀ args w, (callFunc g args).run Tryz.prog w = .ok (.enter g args) w)
    (hp : ∀ W c, Below w.heap.size w W → Calls Tryz.prog g (#[.agg (hE c).toArray] ++ lb) W fun r w' => r = .returned (.bool (p c)) ∧ Below W.heap.size W w') :
    Calls Tryz.prog 84 #[v, .func (.func g) #[] lb] w fun r w' => r = .returned (.bool (cs.any p)) ∧ Below w.heap.size w w' := by
  obtain ⟨hlen, a, c, rfl, hev⟩ := hl
  cases hcs : cs with
  | nil =>
    subst hcs
    have h := fun W => indexC_nil a c g lb W
    go_enter Tryz.func84, Tryz.ntmps84
    go_wp2_with (go_at_call 101; refine (h _).mono ?_; rintro r w1 ⟨rfl, rfl⟩)
    go_ret
    exact ⟨rfl, Below.refl _ _⟩
  | cons e r =>
    rw [← hcs]
    have h0 : 0 < cs.length := by rw [hcs]; simp
    obtain ⟨b, off, rfl, hr0⟩ := hev 0 h0
    have hb : b < w.heap.size := block_lt hr0 (by simp [hE])
    have h := AnyQ.slices_ContainsFunc cfC 5 (fun w => Tryz.isAgg91 w) (fun w => Tryz.sizeOf91 w) (fun z : Chg => hE z) (fun _ => rfl) p g lb eg b off cs.length c cs w
      (fun W x hW => (hp W x hW).mono fun _ _ ⟨h, hb⟩ => ⟨h, hW.trans (hb.mono hW.size)⟩) (by omega) (by omega) hb (fun j hj i v hv => by
        obtain ⟨b', off', e, hr⟩ := hev j hj
        cases e
        exact hr i v (by simpa [getElem!_pos cs j hj] using hv))
    change Calls Tryz.prog 84 _ _ _ at h
    rw [List.take_of_length_le (by omega)] at h
    exact h
theorem any_byd {T cs : List Chg} {v : Value} {N : Nat} {l : Int} {A : Bool} {W : World} (hT : T.any (byd l) = A) (hs : ChgsAt W v cs) (hm : ∀ x, x ∈ cs ↔ x ∈ T) (hc : W.cell? ⟨N, 0, none⟩ = some (.int .i64 l)) :
    Calls Tryz.prog 84 #[v, .func (.func 78) #[] #[.pointer (some ⟨N, 0, none⟩)]] W fun r w' => r = .returned (.bool A) ∧ Below W.heap.size W w' := by
  rw [← hT, ← any_same hm]
  exact containsC_any cs v W hs (byd l) 78 _ enter64 (fun W' c hW => bydF_any c N l W' (by rw [hW.cell (World.block_lt_of_cell? W _ hc)]; exact hc))
theorem any_high {T cs : List Chg} {v : Value} {N : Nat} {l : Int} {A : Bool} {W : World} (hT : T.any (high l) = A) (hs : ChgsAt W v cs) (hm : ∀ x, x ∈ cs ↔ x ∈ T) (hc : W.cell? ⟨N, 0, none⟩ = some (.int .i64 l)) :
    Calls Tryz.prog 84 #[v, .func (.func 81) #[] #[.pointer (some ⟨N, 0, none⟩)]] W fun r w' => r = .returned (.bool A) ∧ Below W.heap.size W w' := by
  rw [← hT, ← any_same hm]
  exact containsC_any cs v W hs (high l) 81 _ enter67 (fun W' c hW => highF_any c N l W' (by rw [hW.cell (World.block_lt_of_cell? W _ hc)]; exact hc))
theorem any_reach {T cs : List Chg} {v : Value} {M N : Nat} {u : ByteArray} {l : Int} {A : Bool} {W : World} (hT : T.any (reach u l) = A) (hs : ChgsAt W v cs) (hm : ∀ x, x ∈ cs ↔ x ∈ T) (hu : W.cell? ⟨M, 3, none⟩ = some (.string u)) (hc : W.cell? ⟨N, 0, none⟩ = some (.int .i64 l)) :
    Calls Tryz.prog 84 #[v, .func (.func 80) #[] #[.pointer (some ⟨M, 0, none⟩), .pointer (some ⟨N, 0, none⟩)]] W fun r w' => r = .returned (.bool A) ∧ Below W.heap.size W w' := by
  rw [← hT, ← any_same hm]
  exact containsC_any cs v W hs (reach u l) 80 _ enter66 (fun W' c hW => reachF_any c M N u l W' (by rw [hW.cell (World.block_lt_of_cell? W _ hu)]; exact hu) (by rw [hW.cell (World.block_lt_of_cell? W _ hc)]; exact hc))
/-- A new variable of the type int64 that is given a value at once. -/
theorem v_level {P : Program} {ops : Array Oper} {rest : List Oper} {o o2 : Oper} {a : Act} {w w0 : World} {Q : Exit → Act → World → Prop} {L : List Var} (hg : o.guard = none) (hg2 : o2.guard = none) (ho : o.op = .alloc 2) (x y : Operand) (ho2 : o2.op = .store 2 x y) (n : Int)
    (hz : ∀ w, (zeroValue 2).run P w = .ok (.int .i64 0) w) (hs : ∀ (_v : Value) (b : Nat) (w : World), (w.there b 0 1) → (Instr.storeAt 2 (.pointer (some ⟨b, 0, none⟩)) (.int .i64 n)).run P w = .ok () (w.setCell ⟨b, 0, none⟩ (.int .i64 n)))
    (hx : ∀ N, (a.put o.dst (.pointer (some ⟨N, 0, none⟩))).eval x = .pointer (some ⟨N, 0, none⟩)) (hy : ∀ N, (a.put o.dst (.pointer (some ⟨N, 0, none⟩))).eval y = .int .i64 n) (hc : Ctx w0 w L)
    (h : ∀ w1 N, Ctx w0 w1 ((N, 2, #[.int .i64 n]) :: L) → Below w.heap.size w w1 → wpList P ops Q rest ((a.put o.dst (.pointer (some ⟨N, 0, none⟩))).put o2.dst undef) w1) : wpList P ops Q (o :: o2 :: rest) a w :=
  wpList_plain hg fun K hK => by
    unfold Oper.wp execOp
    simp only [ho, Sem.run_bind, Instr.alloc, newVar, newRow, hz, Value.cells, run_newObj_alloc, Sem.run_pure, Result.andThen_ok]
    have hp := hc.push 2 #[.int .i64 0]
    refine hK _ _ (wpList_plain hg2 fun K2 hK2 => ?_)
    unfold Oper.wp execOp
    simp only [ho2, hx, hy, Sem.run_bind, hs undef w.heap.size _ (hp.holds _ (List.mem_cons_self ..)).2.2.2, Sem.run_pure, Result.andThen_ok]
    refine hK2 _ _ (h _ _ (hp.put 0 rfl #[.int .i64 n] rfl) ?_)
    exact ((Below.refl w.heap.size w).alloc (Nat.le_refl _) _).trans (setCells_below _ [.int .i64 n] 0 _ _ (Nat.le_refl _))
theorem z2 (w : World) : (zeroValue 2).run Tryz.prog w = .ok (.int .i64 0) w := by kernel_rfl
theorem s2 (n : Int) (_v : Value) (b : Nat) (w : World) (ht : w.there b 0 1) : (Instr.storeAt 2 (.pointer (some ⟨b, 0, none⟩)) (.int .i64 n)).run Tryz.prog w = .ok () (w.setCell ⟨b, 0, none⟩ (.int .i64 n)) := by
  have h := ht 0 (by omega)
  obtain ⟨u, hu⟩ := Option.isSome_iff_exists.1 h.1
  have hf := h.2
  simp only [Nat.add_zero] at hu hf
  have a2 := Tryz.isAgg2
  have z2 := Tryz.sizeOf2
  go_simp
end Go.Proofs.YthplcnbfpcndbaaGreatDoor
