/- The three tests of a change, asked of a row of changes: ContainsFunc with the closures of checkLevels. -/
import Derived.Test.YthplcnbfpcndbaaDoorBi
namespace Go.Proofs.YthplcnbfpcndbaaDoor
open Go.RowKit Go.Shelf

theorem enter64 : ∀ (args : Array Value) (w : World), Sem.run Tryd.prog (callFunc 64 args) w = .ok (.enter 64 args) w := enters_of Tryd.func64 (by kernel_rfl) rfl
theorem enter66 : ∀ (args : Array Value) (w : World), Sem.run Tryd.prog (callFunc 66 args) w = .ok (.enter 66 args) w := enters_of Tryd.func66 (by kernel_rfl) rfl
theorem enter67 : ∀ (args : Array Value) (w : World), Sem.run Tryd.prog (callFunc 67 args) w = .ok (.enter 67 args) w := enters_of Tryd.func67 (by kernel_rfl) rfl

set_option maxRecDepth 100000 in
set_option maxHeartbeats 4000000 in
theorem bydF_any (c : Chg) (N : Nat) (l : Int) (w : World) (hc : w.cell? ⟨N, 0, none⟩ = some (.int .i64 l)) :
    Calls Tryd.prog 64 #[.agg (hE c).toArray, .pointer (some ⟨N, 0, none⟩)] w fun r w' => r = .returned (.bool (byd l c)) ∧ Below w.heap.size w w' := by
  obtain ⟨nm, p, q⟩ := c
  have hc0 := Ctx.start w
  have hcN : ∀ W', Below w.heap.size w W' → W'.cell? ⟨N, 0, none⟩ = some (.int .i64 l) := fun W' hb => by
    rw [hb.cell (World.block_lt_of_cell? w _ hc)]
    exact hc
  have kb := fun W => beyond_any nm p q l W
  unfold byd
  show Calls Tryd.prog 64 #[.agg (hC nm p q), .pointer (some ⟨N, 0, none⟩)] w fun r w' => r = .returned (.bool (abv p l || abv q l)) ∧ Below w.heap.size w w'
  generalize (abv p l || abv q l) = A at *
  go_enter Tryd.func64, Tryd.ntmps64
  go_wp2_with (first
    | (refine v_box rfl 86 (.tmp 0) rfl (hC nm p q) rfl hc0 ?_; intro w1 N1 hc1 _; have cN := hcN _ hc1.bel; clear hc0)
    | (refine v_load rfl 86 (.tmp 2) rfl 0 rfl hc1 rfl _ Tryd.underlying86 rfl (n86 _ _ _) ?_)
    | (go_at_call 65; refine (kb _).mono ?_; rintro r wy ⟨rfl, hby⟩; replace hc1 := hc1.call hby))
  go_ret
  exact ⟨rfl, hc1.bel⟩

set_option maxRecDepth 100000 in
set_option maxHeartbeats 4000000 in
theorem highF_any (c : Chg) (N : Nat) (l : Int) (w : World) (hc : w.cell? ⟨N, 0, none⟩ = some (.int .i64 l)) :
    Calls Tryd.prog 67 #[.agg (hE c).toArray, .pointer (some ⟨N, 0, none⟩)] w fun r w' => r = .returned (.bool (high l c)) ∧ Below w.heap.size w w' := by
  obtain ⟨nm, p, q⟩ := c
  have hc0 := Ctx.start w
  have hcN : ∀ W', Below w.heap.size w W' → W'.cell? ⟨N, 0, none⟩ = some (.int .i64 l) := fun W' hb => by
    rw [hb.cell (World.block_lt_of_cell? w _ hc)]
    exact hc
  have kb := fun W => above_any q l W
  unfold high
  show Calls Tryd.prog 67 #[.agg (hC nm p q), .pointer (some ⟨N, 0, none⟩)] w fun r w' => r = .returned (.bool (abv q l)) ∧ Below w.heap.size w w'
  generalize abv q l = A at *
  go_enter Tryd.func67, Tryd.ntmps67
  go_wp2_with (first
    | (refine v_box rfl 86 (.tmp 0) rfl (hC nm p q) rfl hc0 ?_; intro w1 N1 hc1 _; have cN := hcN _ hc1.bel; clear hc0)
    | (refine v_part rfl 63 (.tmp 4) rfl 0 (nC q) rfl hc1 rfl (in_new nm p q) _ Tryd.underlying63 rfl n63 ?_)
    | (go_at_call 68; refine (kb _).mono ?_; rintro r wy ⟨rfl, hby⟩; replace hc1 := hc1.call hby))
  go_ret
  exact ⟨rfl, hc1.bel⟩

set_option maxRecDepth 100000 in
set_option maxHeartbeats 4000000 in
theorem reachF_any (c : Chg) (M N : Nat) (u : ByteArray) (l : Int) (w : World) (hu : w.cell? ⟨M, 3, none⟩ = some (.string u)) (hc : w.cell? ⟨N, 0, none⟩ = some (.int .i64 l)) :
    Calls Tryd.prog 66 #[.agg (hE c).toArray, .pointer (some ⟨M, 0, none⟩), .pointer (some ⟨N, 0, none⟩)] w fun r w' => r = .returned (.bool (reach u l c)) ∧ Below w.heap.size w w' := by
  obtain ⟨nm, ⟨pn, pb⟩, q⟩ := c
  have hc0 := Ctx.start w
  have hcN : ∀ W', Below w.heap.size w W' → W'.cell? ⟨N, 0, none⟩ = some (.int .i64 l) := fun W' hb => by
    rw [hb.cell (World.block_lt_of_cell? w _ hc)]
    exact hc
  have hcM : ∀ W', Below w.heap.size w W' → W'.cell? ⟨M, 3, none⟩ = some (.string u) := fun W' hb => by
    rw [hb.cell (World.block_lt_of_cell? w _ hu)]
    exact hu
  have hq := beq_bytes nm u
  unfold reach
  show Calls Tryd.prog 66 #[.agg (hC nm (pn, pb) q), .pointer (some ⟨M, 0, none⟩), .pointer (some ⟨N, 0, none⟩)] w fun r w' => r = .returned (.bool (!decide (nm = u) && (pb && decide (l ≤ pn)))) ∧ Below w.heap.size w w'
  generalize decide (nm = u) = e at *
  cases e <;> cases pb
  case false.true =>
    by_cases h : l ≤ pn
    · rw [decide_eq_true h]
      go_enter Tryd.func66, Tryd.ntmps66
      go_wp2_with (refine v_box rfl 86 (.tmp 0) rfl (hC nm (pn, true) q) rfl hc0 ?_; intro w1 N1 hc1 _; have cN := hcN _ hc1.bel; have cM := hcM _ hc1.bel; have c0 := hc1.cell 0 rfl 0 rfl; have c1 := hc1.cell 0 rfl 1 rfl; have c2 := hc1.cell 0 rfl 2 rfl; clear hc0)
      go_ret
      exact ⟨rfl, hc1.bel⟩
    · rw [decide_eq_false h]
      go_enter Tryd.func66, Tryd.ntmps66
      go_wp2_with (refine v_box rfl 86 (.tmp 0) rfl (hC nm (pn, true) q) rfl hc0 ?_; intro w1 N1 hc1 _; have cN := hcN _ hc1.bel; have cM := hcM _ hc1.bel; have c0 := hc1.cell 0 rfl 0 rfl; have c1 := hc1.cell 0 rfl 1 rfl; have c2 := hc1.cell 0 rfl 2 rfl; clear hc0)
      go_ret
      exact ⟨rfl, hc1.bel⟩
  all_goals
    go_enter Tryd.func66, Tryd.ntmps66
    go_wp2_with (refine v_box rfl 86 (.tmp 0) rfl (hC nm (pn, _) q) rfl hc0 ?_; intro w1 N1 hc1 _; have cN := hcN _ hc1.bel; have cM := hcM _ hc1.bel; have c0 := hc1.cell 0 rfl 0 rfl; have c1 := hc1.cell 0 rfl 1 rfl; have c2 := hc1.cell 0 rfl 2 rfl; clear hc0)
    go_ret
    exact ⟨rfl, hc1.bel⟩
theorem indexC_nil (a : Option Addr) (c g : Nat) (lb : Array Value) (w : World) : Calls Tryd.prog 82 #[.slice a 0 c, .func (.func g) #[] lb] w fun r w' => r = .returned (.int .i64 (-1)) ∧ w' = w := by
  go_enter Tryd.func82, Tryd.ntmps82
  go_wp2
  go_loopg [5, 8] 0 (fun _ _ s8 wr => s8 = .int .i64 0 ∧ wr = w)
  case atStart => exact ⟨rfl, rfl⟩
  case round =>
    obtain ⟨rfl, rfl⟩ := hrel
    go_wp2
    go_ret
    exact ⟨rfl, rfl⟩
/-- slices.ContainsFunc of a row of changes. -/
theorem containsC_any (cs : List Chg) (v : Value) (w : World) (hl : ChgsAt w v cs) (p : Chg → Bool) (g : Nat) (lb : Array Value) (eg : ∀ args w, (callFunc g args).run Tryd.prog w = .ok (.enter g args) w)
    (hp : ∀ W c, Below w.heap.size w W → Calls Tryd.prog g (#[.agg (hE c).toArray] ++ lb) W fun r w' => r = .returned (.bool (p c)) ∧ Below W.heap.size W w') :
    Calls Tryd.prog 70 #[v, .func (.func g) #[] lb] w fun r w' => r = .returned (.bool (cs.any p)) ∧ Below w.heap.size w w' := by
  obtain ⟨hlen, a, c, rfl, hev⟩ := hl
  cases hcs : cs with
  | nil =>
    subst hcs
    have h := fun W => indexC_nil a c g lb W
    go_enter Tryd.func70, Tryd.ntmps70
    go_wp2_with (go_at_call 82; refine (h _).mono ?_; rintro r w1 ⟨rfl, rfl⟩)
    go_ret
    exact ⟨rfl, Below.refl _ _⟩
  | cons e r =>
    rw [← hcs]
    have h0 : 0 < cs.length := by rw [hcs]; simp
    obtain ⟨b, off, rfl, hr0⟩ := hev 0 h0
    have hb : b < w.heap.size := block_lt hr0 (by simp [hE])
    have h := AnyQ.slices_ContainsFunc cfC 5 (fun w => Tryd.isAgg86 w) (fun w => Tryd.sizeOf86 w) (fun z : Chg => hE z) (fun _ => rfl) p g lb eg b off cs.length c cs w
      (fun W x hW => (hp W x hW).mono fun _ _ ⟨h, hb⟩ => ⟨h, hW.trans (hb.mono hW.size)⟩) (by omega) (by omega) hb (fun j hj i v hv => by
        obtain ⟨b', off', e, hr⟩ := hev j hj
        cases e
        exact hr i v (by simpa [getElem!_pos cs j hj] using hv))
    change Calls Tryd.prog 70 _ _ _ at h
    rw [List.take_of_length_le (by omega)] at h
    exact h
theorem any_byd {T cs : List Chg} {v : Value} {N : Nat} {l : Int} {A : Bool} {W : World} (hT : T.any (byd l) = A) (hs : ChgsAt W v cs) (hm : ∀ x, x ∈ cs ↔ x ∈ T) (hc : W.cell? ⟨N, 0, none⟩ = some (.int .i64 l)) :
    Calls Tryd.prog 70 #[v, .func (.func 64) #[] #[.pointer (some ⟨N, 0, none⟩)]] W fun r w' => r = .returned (.bool A) ∧ Below W.heap.size W w' := by
  rw [← hT, ← any_same hm]
  exact containsC_any cs v W hs (byd l) 64 _ enter64 (fun W' c hW => bydF_any c N l W' (by rw [hW.cell (World.block_lt_of_cell? W _ hc)]; exact hc))
theorem any_high {T cs : List Chg} {v : Value} {N : Nat} {l : Int} {A : Bool} {W : World} (hT : T.any (high l) = A) (hs : ChgsAt W v cs) (hm : ∀ x, x ∈ cs ↔ x ∈ T) (hc : W.cell? ⟨N, 0, none⟩ = some (.int .i64 l)) :
    Calls Tryd.prog 70 #[v, .func (.func 67) #[] #[.pointer (some ⟨N, 0, none⟩)]] W fun r w' => r = .returned (.bool A) ∧ Below W.heap.size W w' := by
  rw [← hT, ← any_same hm]
  exact containsC_any cs v W hs (high l) 67 _ enter67 (fun W' c hW => highF_any c N l W' (by rw [hW.cell (World.block_lt_of_cell? W _ hc)]; exact hc))
theorem any_reach {T cs : List Chg} {v : Value} {M N : Nat} {u : ByteArray} {l : Int} {A : Bool} {W : World} (hT : T.any (reach u l) = A) (hs : ChgsAt W v cs) (hm : ∀ x, x ∈ cs ↔ x ∈ T) (hu : W.cell? ⟨M, 3, none⟩ = some (.string u)) (hc : W.cell? ⟨N, 0, none⟩ = some (.int .i64 l)) :
    Calls Tryd.prog 70 #[v, .func (.func 66) #[] #[.pointer (some ⟨M, 0, none⟩), .pointer (some ⟨N, 0, none⟩)]] W fun r w' => r = .returned (.bool A) ∧ Below W.heap.size W w' := by
  rw [← hT, ← any_same hm]
  exact containsC_any cs v W hs (reach u l) 66 _ enter66 (fun W' c hW => reachF_any c M N u l W' (by rw [hW.cell (World.block_lt_of_cell? W _ hu)]; exact hu) (by rw [hW.cell (World.block_lt_of_cell? W _ hc)]; exact hc))
/-- A new variable of the type int64 that is given a value at once. -/
theorem v_level {P : Program} {ops : Array Oper} {rest : List Oper} {o o2 : Oper} {a : Act} {w w0 : World} {Q : Exit → Act → World → Prop} {L : List Var} (hg : o.guard = none) (hg2 : o2.guard = none) (ho : o.op = .alloc 2) (x y : Operand) (ho2 : o2.op = .store 2 x y) (n : Int)
    (hz : ∀ w, (zeroValue 2).run P w = .ok (.int .i64 0) w) (hs : ∀ (_v : Value) (b : Nat) (w : World), (w.there b 0 1) → (Instr.storeAt 2 (.pointer (some ⟨b, 0, none⟩)) (.int .i64 n)).run P w = .ok () (w.setCell ⟨b, 0, none⟩ (.int .i64 n)))
    (hx : ∀ N, (a.put o.dst (.pointer (some ⟨N, 0, none⟩))).eval x = .pointer (some ⟨N, 0, none⟩)) (hy : ∀ N, (a.put o.dst (.pointer (some ⟨N, 0, none⟩))).eval y = .int .i64 n) (hc : Ctx w0 w L)
    (h : ∀ w1 N, Ctx w0 w1 ((N, 2, #[.int .i64 n]) :: L) → Below w.heap.size w w1 → wpList P ops Q rest ((a.put o.dst (.pointer (some ⟨N, 0, none⟩))).put o2.dst undef) w1) : wpList P ops Q (o :: o2 :: rest) a w :=
  wpList_plain hg fun K hK => by
    unfold Oper.wp execOp
    simp only [ho, Sem.run_bind, Instr.alloc, newVar, newRow, hz, Value.cells, run_newObj_alloc, Sem.run_pure, Result.andThen_ok]
    have hp := hc.push 2 #[.int .i64 0]
    refine hK _ _ (wpList_plain hg2 fun K2 hK2 => ?_)
    unfold Oper.wp execOp
    simp only [ho2, hx, hy, Sem.run_bind, hs undef w.heap.size _ (hp.holds _ (List.mem_cons_self ..)).2.2.2, Sem.run_pure, Result.andThen_ok]
    refine hK2 _ _ (h _ _ (hp.put 0 rfl #[.int .i64 n] rfl) ?_)
    exact ((Below.refl w.heap.size w).alloc (Nat.le_refl _) _).trans (setCells_below _ [.int .i64 n] 0 _ _ (Nat.le_refl _))
theorem z2 (w : World) : (zeroValue 2).run Tryd.prog w = .ok (.int .i64 0) w := by kernel_rfl
theorem s2 (n : Int) (_v : Value) (b : Nat) (w : World) (ht : w.there b 0 1) : (Instr.storeAt 2 (.pointer (some ⟨b, 0, none⟩)) (.int .i64 n)).run Tryd.prog w = .ok () (w.setCell ⟨b, 0, none⟩ (.int .i64 n)) := by
  have h := ht 0 (by omega)
  obtain ⟨u, hu⟩ := Option.isSome_iff_exists.1 h.1
  have hf := h.2
  simp only [Nat.add_zero] at hu hf
  have a2 := Tryd.isAgg2
  have z2 := Tryd.sizeOf2
  go_simp
end Go.Proofs.YthplcnbfpcndbaaDoor
