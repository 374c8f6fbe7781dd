/- Numbers above a level; changes; is a value an object of numbers, its names once each? Contracts, by walking their text. -/
import Derived.Test.YthplcnbfpcndbaaGreatDoorAj
import Derived.Test.YthplcnbfpcndbaaGreatDoorAn
import Derived.Test.YthplcnbfpcndbaaGreatDoorMl
namespace Go.Proofs.YthplcnbfpcndbaaGreatDoor
open Go.RowKit Go.Maps

/-- A struct within one, read behind a guard that lets it. -/
theorem v_partg {P : Program} {ops : Array Oper} {rest : List Oper} {o : Oper} {a : Act} {w w0 : World} {Q : Exit → Act → World → Prop} {L : List Var} (hw : Region.wanted o (yielded ops a.tmps) = true) (t : TypeId) (x : Operand) (ho : o.op = .load t x) (k : Nat) {N f : Nat} {T : TypeId} {C : Array Value} (D : Array Value) (hx : a.eval x = .pointer (some ⟨N, f, none⟩)) (hc : Ctx w0 w L) (hk : L[k]? = some (N, T, C))
    (hD : In D C f) (d : TypeDesc) (hu : P.underlying t = some d) (hd : d.isRow = true) (hi : (P.info? t).map (·.size) = some D.size)
    (h : wpList P ops Q rest (a.put o.dst (.agg D)) w) : wpList P ops Q (o :: rest) a w :=
  wpList_want hw fun K hK => by
    have hr : w.rangeAt N f D.toList := fun j v hv => hc.cell k hk (f + j) (hD j v (by simpa using hv))
    unfold Oper.wp execOp
    simp only [ho, hx, Instr.loadAt, Instr.sureAddr, Sem.run_bind, Sem.run_pure, Result.andThen_ok, run_loadVar_mid w N f t D.toList d hr hu hd (by simpa using hi)]
    simp only [Array.toArray_toList]
    exact hK _ _ h
/-- The cells of a change. -/
abbrev hC (nm : ByteArray) (p q : Int × Bool) : Array Value := #[.string nm, .int .i64 p.1, .bool p.2, .int .i64 q.1, .bool q.2]
theorem n86 (nm : ByteArray) (p q : Int × Bool) : (Tryz.prog.info? 91).map (·.size) = some (hC nm p q).size := by
  show _ = some 5
  kernel_rfl
theorem hC_one (nm : ByteArray) (p q : Int × Bool) : (hC nm p q).all (·.oneCell') = true := all_oneCell_toArray (cs := [.string nm, .int .i64 p.1, .bool p.2, .int .i64 q.1, .bool q.2]) (fun v hv => by
  simp only [List.mem_cons, List.mem_nil_iff, or_false] at hv
  rcases hv with rfl | rfl | rfl | rfl | rfl <;> rfl)

set_option maxRecDepth 100000 in
set_option maxHeartbeats 4000000 in
theorem above_any (p : Int × Bool) (l : Int) (w : World) : Calls Tryz.prog 82 #[.agg (nC p), .int .i64 l] w fun r w' => r = .returned (.bool (abv p l)) ∧ Below w.heap.size w w' := by
  have hc0 := Ctx.start w
  obtain ⟨n, b⟩ := p
  unfold abv
  cases b
  · show Calls Tryz.prog 82 #[.agg (nC (n, false)), .int .i64 l] w fun r w' => r = .returned (.bool false) ∧ Below w.heap.size w w'
    go_enter Tryz.func82, Tryz.ntmps82
    go_wp2_with (refine v_box rfl 75 (.tmp 0) rfl (nC (n, false)) rfl hc0 ?_; intro w1 N1 hc1 _; have c0 := hc1.cell 0 rfl 0 rfl; have c1 := hc1.cell 0 rfl 1 rfl)
    go_ret
    exact ⟨rfl, hc1.bel⟩
  · by_cases h : l < n
    · rw [decide_eq_true h]
      go_enter Tryz.func82, Tryz.ntmps82
      go_wp2_with (refine v_box rfl 75 (.tmp 0) rfl (nC (n, true)) rfl hc0 ?_; intro w1 N1 hc1 _; have c0 := hc1.cell 0 rfl 0 rfl; have c1 := hc1.cell 0 rfl 1 rfl)
      go_ret
      exact ⟨rfl, hc1.bel⟩
    · rw [decide_eq_false h]
      go_enter Tryz.func82, Tryz.ntmps82
      go_wp2_with (refine v_box rfl 75 (.tmp 0) rfl (nC (n, true)) rfl hc0 ?_; intro w1 N1 hc1 _; have c0 := hc1.cell 0 rfl 0 rfl; have c1 := hc1.cell 0 rfl 1 rfl)
      go_ret
      exact ⟨rfl, hc1.bel⟩

set_option maxRecDepth 100000 in
set_option maxHeartbeats 4000000 in
theorem beyond_any (nm : ByteArray) (p q : Int × Bool) (l : Int) (w : World) : Calls Tryz.prog 79 #[.agg (hC nm p q), .int .i64 l] w fun r w' => r = .returned (.bool (abv p l || abv q l)) ∧ Below w.heap.size w w' := by
  have hc0 := Ctx.start w
  have kp := fun W => above_any p l W
  have kq := fun W => above_any q l W
  have i1 : In (nC p) (hC nm p q) 1 := fun j v hv => by
    have hj : j < 2 := (Array.getElem?_eq_some_iff.1 hv).1
    rcases j with _ | _ | j
    all_goals first | exact hv | omega
  have i2 : In (nC q) (hC nm p q) 3 := fun j v hv => by
    have hj : j < 2 := (Array.getElem?_eq_some_iff.1 hv).1
    rcases j with _ | _ | j
    all_goals first | exact hv | omega
  have f0 : True := trivial
  generalize abv p l = a at *
  generalize abv q l = b at *
  cases a
  all_goals
    show Calls Tryz.prog 79 #[.agg (hC nm p q), .int .i64 l] w fun r w' => r = .returned (.bool (_ || b)) ∧ Below w.heap.size w w'
    go_enter Tryz.func79, Tryz.ntmps79
    go_wp2_with (first
      | (refine v_box rfl 91 (.tmp 0) rfl (hC nm p q) rfl hc0 ?_; intro w1 N1 hc1 _; clear hc0)
      | (refine v_part rfl 75 (.tmp 5) rfl 0 (nC p) rfl hc1 rfl i1 _ Tryz.underlying75 rfl (sz63 p) ?_)
      | (have hq := f0; clear hq; go_at_call 82; refine (kp _).mono ?_; rintro r wc ⟨rfl, hbc⟩; replace hc1 := hc1.call hbc; clear hbc kp f0)
      | (refine v_partg rfl 75 (.tmp 10) rfl 0 (nC q) rfl hc1 rfl i2 _ Tryz.underlying75 rfl (sz63 q) ?_)
      | (go_at_call 82; refine (kq _).mono ?_; rintro r wc ⟨rfl, hbc⟩; replace hc1 := hc1.call hbc; clear hbc kq))
    go_ret
    exact ⟨by simp, hc1.bel⟩

theorem str_inj {a b : ByteArray} (h : Lit.string a.data.toList = .string b.data.toList) : a = b := by
  injection h with h
  cases a
  cases b
  simp at h
  rw [h]
/-- A map may be turned: it is on the list without cells. -/
theorem Ctx.grown {w0 w w' : World} {L : List Var} (h : Ctx w0 w L) {b : Nat} (hg : w.grownBy w' (some b)) (h0 : w0.heap.size ≤ b) (hL : ∀ x ∈ L, x.1 = b → x.2.2 = #[]) : Ctx w0 w' L :=
  ⟨h.bel.grown hg h.bel.size (fun j hj => by cases hj; exact h0), h.nd, fun x hx => by
    obtain ⟨h1, h2, h3, h4⟩ := h.holds x hx
    refine ⟨h1, Nat.lt_of_lt_of_le h2 hg.size, ?_⟩
    by_cases he : x.1 = b
    · rw [hL x hx he]
      exact ⟨fun j v hv => by simp at hv, fun j hj => by simp at hj⟩
    · have hb : w'.heap[x.1]? = w.heap[x.1]? := hg.block x.1 h2 (fun e => he (Option.some.inj e))
      refine ⟨fun j v hv => ?_, fun j hj => ?_⟩
      · rw [World.cell?_of_block (a := ⟨x.1, 0 + j, none⟩) hb]
        exact h3 j v hv
      · have := h4 j hj
        simp only [World.cell?, World.frozen?] at this ⊢
        rw [hb]
        exact this⟩
theorem Ctx.map {w0 w : World} {L : List Var} (h : Ctx w0 w L) (T : TypeId) : Ctx w0 (w.alloc (.map #[] 0)) ((w.heap.size, T, #[]) :: L) :=
  h.add ((Below.refl _ _).alloc (Nat.le_refl _) _) ⟨Nat.le_refl _, by simp, fun j v hv => by simp at hv, fun j hj => by simp at hj⟩
theorem map_only : ∀ {L : List Var} {b : Nat} {T : TypeId}, (L.map (·.1)).Nodup → (b, T, #[]) ∈ L → ∀ x ∈ L, x.1 = b → x.2.2 = #[]
  | y :: L, b, T, hn, hm, x, hx, he => by
    rw [List.map_cons, List.nodup_cons] at hn
    rcases List.mem_cons.1 hm with h | h
    · rcases List.mem_cons.1 hx with g | g
      · rw [g, ← h]
      · exact absurd (List.mem_map.2 ⟨x, g, by rw [he, ← h]⟩) hn.1
    · rcases List.mem_cons.1 hx with g | g
      · exact absurd (List.mem_map.2 ⟨_, h, by rw [← g, he]⟩) hn.1
      · exact map_only hn.2 h x g he
/-- The names in a map are those of the list. -/
def Names (D : DataW Unit) (S : List ByteArray) : Prop := ∀ a : ByteArray, Maps.has D (.string a.data.toList) = S.any (fun y => decide (y = a))
theorem Names.put {D : DataW Unit} {S : List ByteArray} (h : Names D S) (hD : IsMap D) (a : ByteArray) (d : DataW Unit) : Names (D.put (.string a.data.toList) d) (a :: S) := by
  intro x
  by_cases he : x = a
  · subst he
    rw [has_put_same hD (show WideAt.IsKeyLit (.string x.data.toList) from trivial)]
    simp
  · rw [has_put_other (fun e => he (str_inj e)), h x, List.any_cons, decide_eq_false (fun e => he e.symm), Bool.false_or]

set_option maxRecDepth 100000 in
set_option maxHeartbeats 8000000 in
theorem areNumbers_any (v : GV) (D : Array Value) (B w : World) (hB : Below B.heap.size B w) (hv : LaidV B v D) :
    Calls Tryz.prog 97 #[.agg D] w fun r w' => r = .returned (.bool (numsB v)) ∧ Below w.heap.size w w' := by
  have hc0 := Ctx.start w
  obtain ⟨hsz, hone, i0, i2, i3, hwf, hts, hfs, a, c, i5, hfl⟩ := hv.vc
  have hFL : Hid (LaidF B a 0 v.f) := hfl
  clear hv hfl
  by_cases hk : v.k = 5
  · have HN : Hid (numsB v = (v.f.all (fun x => decide (x.2.k = 2)) && decide (nw [] v.f = v.f.length))) := by show _ = _; rw [numsB, decide_eq_true hk]; rfl
    have hk' : (v.k != 5) = false := by simp [hk]
    clear hk
    generalize v.f = f at *
    obtain ⟨R, hR⟩ : ∃ R, numsB v = R := ⟨_, rfl⟩
    rw [hR]
    rw [hR] at HN
    clear hR
    have hmm := @run_makeMap Tryz.prog
    go_enter Tryz.func97, Tryz.ntmps97
    go_wp2_with (refine v_box rfl 26 (.tmp 0) rfl D rfl hc0 ?_; intro w1 N1 hc1 _; have c0 := hc1.cell 0 rfl 0 i0; have hcm := hc1.map 119; have c5 := hcm.cell 1 rfl 5 i5; clear hc0)
    clear c0 c5
    go_loopw [13] (fun u w' => ∃ (i n : Nat) (M : DataW Unit) (S : List ByteArray), u = .int .i64 (i : Int) ∧ i ≤ f.length ∧ n ≤ i ∧ w'.ownsMap Tryz.prog 9 unitElem w1.heap.size n M ∧ Hid (Names M S ∧ Maps.size M + nw S (f.drop i) = nw [] f ∧ f.all (fun x => decide (x.2.k = 2)) = (f.drop i).all (fun x => decide (x.2.k = 2))) ∧ Ctx w w' [(w1.heap.size, 119, #[]), (N1, 26, D)]) (fun u _ => f.length - numOf u)
    case atStart => exact ⟨0, 0, .map [], [], rfl, Nat.zero_le _, Nat.le_refl _, World.ownsMap_made _ _ _ _, ⟨fun _ => rfl, by simp [Maps.size], rfl⟩, hcm⟩
    case round =>
      obtain ⟨i, n, M, S, rfl, hil, hni, om, HG, hc⟩ := hrel
      clear hmm
      have hlt0 := om.lt
      by_cases hlt : i < f.length
      · have hlt' : (i : Int) < (f.length : Int) := by omega
        have hp := hFL.out.get i hlt
        have hdrop : Hid (f.drop i = f[i] :: f.drop (i + 1)) := List.drop_eq_getElem_cons hlt
        obtain ⟨⟨n0, x0⟩, hX⟩ : ∃ X, f[i] = X := ⟨_, rfl⟩
        rw [hX] at hp hdrop
        clear hX
        rw [Nat.zero_add] at hp
        unfold LaidP at hp
        obtain ⟨b, off, E, rfl, hE7, hE1, hrng, hE0, hns, D0, hD0, hin⟩ := hp
        have z0 := hin 0 _ hD0.vc.i0
        replace hrng := range_below (hB.trans (hc.bel.mono hB.size)) hrng
        have hwr : IntKind.i64.wrap ((i : Int) + 1) = ((i + 1 : Nat) : Int) := by rw [wrap_small _ (by omega) (by omega)]; omega
        have hkey : keyOf Tryz.prog 9 (.string n0) = some (.string n0.data.toList) := Go.WideMaps.keyOf_string_mk Tryz.underlying9 (by unfold maxLen; omega)
        have HS : Hid (Names (M.put (.string n0.data.toList) (.agg [])) (n0 :: S) ∧ Maps.size (M.put (.string n0.data.toList) (.agg [])) + nw (n0 :: S) (f.drop (i + 1)) = nw [] f) := by
          refine ⟨HG.out.1.put om.isMap n0 _, ?_⟩
          have h1 := HG.out.2.1
          rw [hdrop.out, nw] at h1
          rw [size_put (om.tidy (string_keyed Tryz.underlying9)), HG.out.1 n0]
          cases hh : S.any (fun y => decide (y = n0))
          · rw [hh] at h1
            simp only [Bool.false_eq_true, if_false] at h1 ⊢
            omega
          · rw [hh] at h1
            simp only [if_true] at h1 ⊢
            omega
        by_cases hk2 : x0.k = 2
        · have HA : Hid (f.all (fun x => decide (x.2.k = 2)) = (f.drop (i + 1)).all (fun x => decide (x.2.k = 2))) := by show _ = _; rw [HG.out.2.2, hdrop.out, List.all_cons, decide_eq_true hk2, Bool.true_and]
          have hk2' : (x0.k != 2) = false := by simp [hk2]
          clear HG hdrop hk2 hD0
          go_wp2_with (first
            | (refine wpList_load_mid rfl 49 (.tmp 15) rfl b (off + i * 7) rfl E.toList _ hrng Tryz.underlying49 rfl (by simpa using sz59 hE7) ?_)
            | (refine v_decl rfl rfl 49 rfl (.tmp 5) (.tmp 16) rfl zF E z59 (fun _ => rfl) (fun _ => rfl) (by rw [hE7]; rfl) (sz59 hE7) hE1 hc ?_; intro w3 N3 hc3 hb3; replace om := own_below om hb3; have y0 := hc3.cell 0 rfl 0 hE0)
            | (at_mapUpdate; refine wpList_mapUpdate_own _ rfl _ _ _ 119 rfl 9 83 (string_keyed Tryz.underlying9) Tryz.underlying119 unitElem w1.heap.size n M rfl om (by unfold maxLen; omega) _ _ _ rfl rfl hkey _ [] unitElem_mk ?_; intro w6 om6 hg6; have hc6 := hc3.grown hg6 hc1.bel.size (map_only hc3.nd (List.mem_cons_of_mem _ (List.mem_cons_self ..))); have y1 := hc6.cell 0 rfl 1 z0))
          go_roundw
          case rel => exact ⟨i + 1, n + 1, _, _, by simp, hlt, by omega, om6, ⟨HS.out.1, HS.out.2, HA.out⟩, hc6.sub (List.sublist_cons_self _ _)⟩
          case measure => simp [numOf]; omega
        · have HR : Hid (R = false) := by
            show _ = _
            rw [HN.out, HG.out.2.2, hdrop.out, List.all_cons, decide_eq_false hk2]
            rfl
          have hk2' : (x0.k != 2) = true := by simp [hk2]
          clear HG hdrop hk2 hD0 HS
          go_wp2_with (first
            | (refine wpList_load_mid rfl 49 (.tmp 15) rfl b (off + i * 7) rfl E.toList _ hrng Tryz.underlying49 rfl (by simpa using sz59 hE7) ?_)
            | (refine v_decl rfl rfl 49 rfl (.tmp 5) (.tmp 16) rfl zF E z59 (fun _ => rfl) (fun _ => rfl) (by rw [hE7]; rfl) (sz59 hE7) hE1 hc ?_; intro w3 N3 hc3 hb3; replace om := own_below om hb3; have y0 := hc3.cell 0 rfl 0 hE0)
            | (at_mapUpdate; refine wpList_mapUpdate_own _ rfl _ _ _ 119 rfl 9 83 (string_keyed Tryz.underlying9) Tryz.underlying119 unitElem w1.heap.size n M rfl om (by unfold maxLen; omega) _ _ _ rfl rfl hkey _ [] unitElem_mk ?_; intro w6 om6 hg6; have hc6 := hc3.grown hg6 hc1.bel.size (map_only hc3.nd (List.mem_cons_of_mem _ (List.mem_cons_self ..))); have y1 := hc6.cell 0 rfl 1 z0))
          go_ret
          exact ⟨by rw [HR.out]; rfl, hc6.bel⟩
      · have hlt' : ¬ (i : Int) < (f.length : Int) := by omega
        have HR : Hid (R = (((Maps.size M : Nat) : Int) == (f.length : Int))) := by
          show _ = _
          have h1 := HG.out.2.1
          rw [List.drop_eq_nil_of_le (by omega), nw] at h1
          rw [HN.out, HG.out.2.2, List.drop_eq_nil_of_le (by omega), ← h1]
          rw [Bool.eq_iff_iff]
          simp
          omega
        clear HG
        have c5 := hc.cell 1 rfl 5 i5
        go_wp2_with (at_len; refine wpList_len_own _ rfl _ 119 rfl 9 83 Tryz.underlying119 _ w1.heap.size n M rfl om ?_)
        go_ret
        exact ⟨by rw [HR.out]; rfl, hc.bel⟩
  · have HN : Hid (numsB v = false) := by show _ = _; rw [numsB, decide_eq_false hk]; rfl
    have hk' : (v.k != 5) = true := by simp [hk]
    clear hk
    go_enter Tryz.func97, Tryz.ntmps97
    go_wp2_with (refine v_box rfl 26 (.tmp 0) rfl D rfl hc0 ?_; intro w1 N1 hc1 _; have c0 := hc1.cell 0 rfl 0 i0; clear hc0)
    go_ret
    exact ⟨by rw [HN.out]; rfl, hc1.bel⟩
end Go.Proofs.YthplcnbfpcndbaaGreatDoor
