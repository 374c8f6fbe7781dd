/- The reference's seven names; is a value an object of numbers, its names once each: walked. Rows of texts; the names of two objects' fields: walked. The reference's rules on what new levels change: walked. -/
import Derived.Test.YthplcnbfpcndbaaGreatDoorCc
import Derived.Test.YthplcnbfpcndbaaGreatDoorAk
namespace Go.Proofs.YthplcnbfpcndbaaGreatDoor
open Go.RowKit

theorem nw_le : ∀ (f : List (ByteArray × GV)) (S : List ByteArray), nw S f ≤ f.length
  | [], _ => Nat.le_refl _
  | x :: f, S => by
    have := nw_le f (x.1 :: S)
    rw [nw, List.length_cons]
    split <;> omega
theorem nw_append : ∀ (f g : List (ByteArray × GV)) (S : List ByteArray), nw S (f ++ g) ≤ nw S f + g.length
  | [], g, S => by
    rw [List.nil_append, nw, Nat.zero_add]
    exact nw_le g S
  | x :: f, g, S => by
    have := nw_append f g (x.1 :: S)
    rw [List.cons_append, nw, nw]
    omega
theorem nw_snoc (x : ByteArray × GV) : ∀ (f : List (ByteArray × GV)) (S : List ByteArray), nw S (f ++ [x]) = nw S f + (if (S.any (fun y => decide (y = x.1)) || f.any (fun y => decide (y.1 = x.1))) then 0 else 1)
  | [], S => by
    rw [List.any_nil, Bool.or_false, List.nil_append, nw, nw, nw, Nat.zero_add, Nat.add_zero]
  | z :: f, S => by
    rw [List.cons_append, nw, nw, nw_snoc x f, List.any_cons, List.any_cons]
    cases S.any (fun y => decide (y = x.1)) <;> cases decide (z.1 = x.1) <;> cases f.any (fun y => decide (y.1 = x.1)) <;> simp <;> omega
theorem nums_bad {v : GV} {i : Nat} (h : nw [] (v.f.take i) < (v.f.take i).length) : numsB v = false := by
  have h1 := nw_append (v.f.take i) (v.f.drop i) []
  rw [List.take_append_drop] at h1
  have h2 : (v.f.take i).length + (v.f.drop i).length = v.f.length := by
    rw [← List.length_append, List.take_append_drop]
  unfold numsB
  rw [decide_eq_false (show nw [] v.f ≠ v.f.length by omega)]
  simp
theorem nums_kind {v : GV} {x : ByteArray × GV} (h : x ∈ v.f) (hk : x.2.k ≠ 2) : numsB v = false := by
  unfold numsB
  have : v.f.all (fun x => decide (x.2.k = 2)) = false := by
    rw [List.all_eq_false]
    exact ⟨x, h, by simpa using hk⟩
  rw [this]
  simp
theorem fl_cell {B W : World} {a : Option Addr} {f : List (ByteArray × GV)} (hB : Below B.heap.size B W) (h : LaidF B a 0 f) (i : Nat) (hi : i < f.length) :
    ∃ b off, a = some ⟨b, off, none⟩ ∧ W.cell? ⟨b, off + i * 7, none⟩ = some (.string f[i].1) ∧ W.cell? ⟨b, off + i * 7 + 1, none⟩ = some (.int .i64 f[i].2.k) ∧ f[i].1.size ≤ 1048576 := by
  have hp := h.get i hi
  obtain ⟨⟨n0, x0⟩, hX⟩ : ∃ X, f[i] = X := ⟨_, rfl⟩
  rw [hX] at hp ⊢
  rw [Nat.zero_add] at hp
  unfold LaidP at hp
  obtain ⟨b, off, E, ha, hE7, hE1, hrng, hE0, hns, D0, hD0, hin⟩ := hp
  refine ⟨b, off, ha, ?_, ev_cell hB hrng (hin 0 _ hD0.vc.i0), hns⟩
  have := ev_cell hB hrng hE0
  rwa [Nat.add_zero] at this

set_option maxRecDepth 100000 in
set_option maxHeartbeats 8000000 in
theorem rseven_any (w : World) : Calls Tryz.prog 55 #[] w fun r w' => ∃ v, r = .returned v ∧ TxAt w' v seven ∧ Below w.heap.size w w' := by
  go_enter Tryz.func55, Tryz.ntmps55
  go_wp2
  go_ret
  refine ⟨_, rfl, ⟨some ⟨w.heap.size, 0, none⟩, 7, rfl, Nat.le_refl _, fun i hi => ⟨_, _, rfl, ?_⟩⟩, (Below.refl _ _).alloc (Nat.le_refl _) _⟩
  rw [World.cell?_alloc_mark]
  have hi' : i < 7 := hi
  rcases i with _ | _ | _ | _ | _ | _ | _ | i
  all_goals first | rfl | omega

set_option maxRecDepth 100000 in
set_option maxHeartbeats 8000000 in
theorem rints_any (v : GV) (D : Array Value) (B w : World) (hB : Below B.heap.size B w) (hv : LaidV B v D) :
    Calls Tryz.prog 56 #[.agg D] w fun r w' => r = .returned (.bool (numsB v)) ∧ Below w.heap.size w w' := by
  have hc0 := Ctx.start w
  obtain ⟨hsz, hone, i0, i2, i3, hwf, hts, hfs, a, c, i5, hfl⟩ := hv.vc
  have HFL : Hid (LaidF B a 0 v.f) := hfl
  clear hv hfl
  obtain ⟨R, hR⟩ : ∃ R, numsB v = R := ⟨_, rfl⟩
  rw [hR]
  by_cases hk : v.k = 5
  · have hk' : (v.k != 5) = false := by simp [hk]
    have HB : Hid (∀ i, nw [] (v.f.take i) < (v.f.take i).length → R = false) := fun i h => by rw [← hR]; exact nums_bad h
    have HK : Hid (∀ x ∈ v.f, x.2.k ≠ 2 → R = false) := fun x hx h => by rw [← hR]; exact nums_kind hx h
    have HT : Hid (nw [] v.f = v.f.length → v.f.all (fun x => decide (x.2.k = 2)) = true → R = true) := fun h1 h2 => by
      rw [← hR]
      unfold numsB
      rw [decide_eq_true hk, h2, decide_eq_true h1]
      rfl
    clear hk hR
    go_enter Tryz.func56, Tryz.ntmps56
    go_wp2_with (refine v_box rfl 26 (.tmp 0) rfl D rfl hc0 ?_; intro w1 N1 hc1 _; have c0 := hc1.cell 0 rfl 0 i0; clear hc0)
    clear c0
    generalize v.f = f at *
    go_loopw [3] (fun u w' => ∃ i : Nat, u = .int .i64 (i : Int) ∧ i ≤ f.length ∧ Hid (nw [] (f.take i) = i ∧ (f.take i).all (fun x => decide (x.2.k = 2)) = true) ∧ Ctx w w' [(N1, 26, D)]) (fun u _ => f.length - numOf u)
    case atStart => exact ⟨0, rfl, Nat.zero_le _, ⟨rfl, rfl⟩, hc1⟩
    case round =>
      obtain ⟨i, rfl, hil, HG, hc⟩ := hrel
      clear hc1
      have c5 := hc.cell 0 rfl 5 i5
      by_cases hlt : i < f.length
      · have hlt' : (i : Int) < (f.length : Int) := by omega
        have hwr : IntKind.i64.wrap ((i : Int) + 1) = ((i + 1 : Nat) : Int) := by rw [wrap_small _ (by omega) (by omega)]; omega
        obtain ⟨b, off, rfl, g0, g1, -⟩ := fl_cell (hB.trans (hc.bel.mono hB.size)) HFL.out i hlt
        by_cases hk2 : f[i].2.k = 2
        · have hk2' : (f[i].2.k != 2) = false := by simp [hk2]
          go_wp2
          clear g0 g1 c5
          go_loopw [4] (fun u w' => ∃ k : Nat, u = .int .i64 (k : Int) ∧ k ≤ i ∧ Hid ((f.take k).any (fun y => decide (y.1 = f[i].1)) = false) ∧ Ctx w w' [(N1, 26, D)]) (fun u _ => i - numOf u)
          case atStart => exact ⟨0, rfl, Nat.zero_le _, rfl, hc⟩
          case round =>
            obtain ⟨k, rfl, hki, HI, hc⟩ := hrel
            by_cases hkt : k < i
            · have hkt' : (k : Int) < (i : Int) := by omega
              have hkl' : (k : Int) < (f.length : Int) := by omega
              have hwr2 : IntKind.i64.wrap ((k : Int) + 1) = ((k + 1 : Nat) : Int) := by rw [wrap_small _ (by omega) (by omega)]; omega
              have hkl : k < f.length := by omega
              have c5 := hc.cell 0 rfl 5 i5
              obtain ⟨b1, off1, e1, g0, -, -⟩ := fl_cell (hB.trans (hc.bel.mono hB.size)) HFL.out i hlt
              cases e1
              obtain ⟨b2, off2, e2, h0, -, -⟩ := fl_cell (hB.trans (hc.bel.mono hB.size)) HFL.out k hkl
              cases e2
              have HS : Hid (∀ q, decide (f[k].1 = f[i].1) = q → (f.take (k + 1)).any (fun y => decide (y.1 = f[i].1)) = q) := fun q hq => by
                rw [take_snoc f k hkl, List.any_append, HI.out]
                simp [hq]
              have HF : Hid (decide (f[k].1 = f[i].1) = true → R = false) := fun hq => by
                refine HB.out (i + 1) ?_
                have h3 : (f.take i).any (fun y => decide (y.1 = f[i].1)) = true := by
                  rw [List.any_eq_true]
                  refine ⟨f[k], ?_, hq⟩
                  rw [List.mem_take_iff_getElem]
                  exact ⟨k, by omega, rfl⟩
                rw [take_snoc f i hlt, nw_snoc, h3, HG.out.1]
                simp
                omega
              have qn := beq_bytes f[k].1 f[i].1
              clear HI
              generalize f[k].1 = nk at *
              generalize hni : f[i].1 = ni at *
              generalize decide (nk = ni) = q at *
              cases q
              · have HE := HS.out false rfl
                have HE' : Hid ((f.take (k + 1)).any (fun y => decide (y.1 = ni)) = false) := HE
                clear HS HF HE
                go_wp2
                go_quiet (fail)
                go_wp2
                go_roundw
                case rel => exact ⟨k + 1, by simp, hkt, by first | exact HE' | (rw [hni]; exact HE'), hc.drew _⟩
                case measure => simp [numOf]; omega
              · have HE : Hid (R = false) := HF.out rfl
                clear HS HF
                go_wp2
                go_quiet (fail)
                go_wp2
                go_ret
                exact ⟨by rw [HE.out]; rfl, (hc.drew _).bel⟩
            · have hkt' : ¬ (k : Int) < (i : Int) := by omega
              have HN : Hid (nw [] (f.take (i + 1)) = i + 1 ∧ (f.take (i + 1)).all (fun x => decide (x.2.k = 2)) = true) := by
                have hk : k = i := by omega
                have h3 := HI.out
                rw [hk] at h3
                refine ⟨?_, ?_⟩
                · rw [take_snoc f i hlt, nw_snoc, h3, HG.out.1]
                  simp
                · rw [take_snoc f i hlt, List.all_append, HG.out.2]
                  simp [hk2]
              clear HI HG
              go_wp2
              go_roundw
              case rel => exact ⟨i + 1, by simp, hlt, HN, hc⟩
              case measure => simp [numOf]; omega
        · have hk2' : (f[i].2.k != 2) = true := by simp [hk2]
          have HE : Hid (R = false) := HK.out f[i] (List.getElem_mem hlt) hk2
          go_wp2
          go_ret
          exact ⟨by rw [HE.out]; rfl, hc.bel⟩
      · have hlt' : ¬ (i : Int) < (f.length : Int) := by omega
        have HE : Hid (R = true) := by
          have h1 := HG.out
          rw [List.take_of_length_le (by omega)] at h1
          exact HT.out (by omega) h1.2
        clear HG
        go_wp2
        go_ret
        exact ⟨by rw [HE.out]; rfl, hc.bel⟩
  · have hk' : (v.k != 5) = true := by simp [hk]
    have HE : Hid (R = false) := by
      show _ = _
      rw [← hR]
      unfold numsB
      rw [decide_eq_false hk]
      rfl
    clear hk hR
    go_enter Tryz.func56, Tryz.ntmps56
    go_wp2_with (refine v_box rfl 26 (.tmp 0) rfl D rfl hc0 ?_; intro w1 N1 hc1 _; have c0 := hc1.cell 0 rfl 0 i0; clear hc0)
    go_ret
    exact ⟨by rw [HE.out]; rfl, hc1.bel⟩
end Go.Proofs.YthplcnbfpcndbaaGreatDoor

namespace Go.Proofs.YthplcnbfpcndbaaGreatDoor
open Go.RowKit

/-- A row of texts of one's own. -/
def RowX (base : Nat) (w : World) (v : Value) (S : List ByteArray) : Prop := w.ownsRow base 9 1 v S.length (S.map Value.string)
theorem info9 : (Tryz.prog.info? 9).map (fun i => (i.zero, i.size, i.bytes)) = some (some (.string ⟨#[]⟩), 1, 16) := by kernel_rfl
theorem RowX.nil (base : Nat) (w : World) : RowX base w (.slice none 0 0) [] := ⟨rfl, .inl ⟨rfl, rfl⟩⟩
theorem RowX.more {base : Nat} {w : World} {v : Value} {S : List ByteArray} (h : RowX base w v S) (o : Obj) : RowX base (w.alloc o) v S := World.ownsRow.alloc h o
theorem RowX.tx {base : Nat} {w : World} {v : Value} {S : List ByteArray} (h : RowX base w v S) : TxAt w v S := by
  rcases h.2 with ⟨rfl, h0⟩ | ⟨g, cap, cur, rfl, hg, hh, hn, -⟩
  · rw [List.length_eq_zero_iff] at h0
    subst h0
    exact ⟨none, 0, rfl, Nat.le_refl _, fun i hi => by simp at hi⟩
  · refine ⟨_, _, rfl, hn, fun i hi => ⟨g, 0, rfl, ?_⟩⟩
    have := h.cells (g := g) rfl i (.string S[i]) (by simp [hi])
    rw [addx] at this
    rw [Nat.zero_add]
    exact this
theorem app_x {w : World} {ops : Array Oper} {rest : List Oper} {o : Oper} {a : Act} {Q : Exit → Act → World → Prop} (hgd : o.guard = none) (s x : Operand) (ho : o.op = .call { callee := .builtin .append, args := #[s, x], argTypes := #[22, 22] }) (base : Nat) (v : Value) (S : List ByteArray) (hs : a.eval s = v) (hrow : RowX base w v S)
    (b : Nat) (t : ByteArray) (hx : a.eval x = .slice (some ⟨b, 0, none⟩) 1 1) (hc : w.cell? ⟨b, 0, none⟩ = some (.string t)) (hlen : S.length ≤ 3000000) (hbase : base ≤ w.heap.size)
    (h : ∀ v' w', RowX base w' v' (S ++ [t]) → Below base w w' → wpList Tryz.prog ops Q rest (a.put o.dst v') w') : wpList Tryz.prog ops Q (o :: rest) a w := by
  obtain ⟨i0, hi, hz0, hz1, hz2⟩ := info_parts info9
  refine wpList_append_own _ hgd s x 22 ho base 9 i0 _ 1 16 Tryz.underlying22 hi hz0 hz1 hz2 rfl (by decide) v _ _ hs hrow ⟨b, 0, none⟩ 1 1 [.string t] hx rfl (fun j u hj => ?_) (by simp [Value.oneCell']) (by unfold maxLen; omega) (by omega) hbase ?_
  · have hj0 : j = 0 := by
      have := (List.getElem?_eq_some_iff.1 hj).1
      simp at this
      exact this
    subst hj0
    rw [addx]
    cases hj
    exact hc
  · intro v' w3 hown hgrow _
    refine h v' w3 ?_ (own_grown hrow hgrow hbase)
    unfold RowX
    rw [List.length_append, List.map_append]
    simpa using hown
theorem tx_new (w : World) (s : ByteArray) : (w.alloc (.cells #[.string s] 9)).cell? ⟨w.heap.size, 0, none⟩ = some (.string s) := by
  rw [World.cell?_alloc_mark]
  rfl

set_option maxRecDepth 100000 in
set_option maxHeartbeats 8000000 in
theorem rnamed_any (a b : GV) (D1 D2 : Array Value) (B w : World) (hB : Below B.heap.size B w) (h1 : LaidV B a D1) (h2 : LaidV B b D2) :
    Calls Tryz.prog 58 #[.agg D1, .agg D2] w fun r w' => ∃ v, r = .returned v ∧ TxAt w' v (a.f.map (·.1) ++ b.f.map (·.1)) ∧ Below w.heap.size w w' := by
  have hc0 := Ctx.start w
  obtain ⟨-, -, -, -, -, -, -, f1, a1, c1, i1, L1⟩ := h1.vc
  obtain ⟨-, -, -, -, -, -, -, f2, a2, c2, i2, L2⟩ := h2.vc
  have H1 : Hid (LaidF B a1 0 a.f) := L1
  have H2 : Hid (LaidF B a2 0 b.f) := L2
  clear h1 h2 L1 L2
  generalize a.f = f at *
  generalize b.f = g at *
  go_enter Tryz.func58, Tryz.ntmps58
  go_wp2_with (first
    | (refine v_box rfl 26 (.tmp 0) rfl D1 rfl hc0 ?_; intro w1 N1 hc1 _; clear hc0)
    | (refine v_box rfl 26 (.tmp 1) rfl D2 rfl hc1 ?_; intro w2 N2 hc2 _; clear hc1))
  obtain ⟨Bs, hBs⟩ : ∃ n, w2.heap.size = n := ⟨_, rfl⟩
  have hBs' : Bs ≤ w2.heap.size := Nat.le_of_eq hBs.symm
  have hwB : w.heap.size ≤ Bs := by rw [← hBs]; exact hc2.bel.size
  have hL : Hid (∀ x ∈ [(N2, 26, D2), (N1, 26, D1)], x.1 < Bs) := fun x hx => by rw [← hBs]; exact (hc2.holds x hx).2.1
  clear hBs
  go_loopw [5, 6] (fun v u wr => ∃ (i : Nat), u = .int .i64 (i : Int) ∧ i ≤ f.length ∧ RowX Bs wr v ((f.take i).map (·.1)) ∧ Bs ≤ wr.heap.size ∧ Ctx w wr [(N2, 26, D2), (N1, 26, D1)]) (fun _ u _ => f.length - numOf u)
  case atStart => exact ⟨0, rfl, Nat.zero_le _, RowX.nil _ _, hBs', hc2⟩
  case round =>
    obtain ⟨i, rfl, hil, hrow, hbs, hc⟩ := hrel
    clear hc2 hBs'
    have k5 := hc.cell 1 rfl 5 i1
    by_cases hlt : i < f.length
    · have hlt' : (i : Int) < (f.length : Int) := by omega
      have hwr : IntKind.i64.wrap ((i : Int) + 1) = ((i + 1 : Nat) : Int) := by rw [wrap_small _ (by omega) (by omega)]; omega
      obtain ⟨b1, off, rfl, g0, -, -⟩ := fl_cell (hB.trans (hc.bel.mono hB.size)) H1.out i hlt
      have HT : Hid ((f.take (i + 1)).map (·.1) = (f.take i).map (·.1) ++ [f[i].1]) := by
        show _ = _
        rw [take_snoc f i hlt, List.map_append]
        rfl
      have hln : ((f.take i).map (·.1)).length ≤ 3000000 := by simp; omega
      generalize f[i].1 = nm at *
      generalize (f.take i).map (·.1) = S at *
      go_wp2_with (refine app_x rfl (.tmp 15) (.tmp 22) rfl Bs _ _ rfl (hrow.more _) _ nm rfl (tx_new _ nm) hln (Nat.le_trans hbs (by simp)) ?_; intro vn wn hrn hbn; have hbs4 := Nat.le_trans (Nat.le_trans hbs (by simp)) hbn.size; have hc4 := (hc.call ((Below.refl _ _).alloc (Nat.le_refl _) _)).low hL.out hwB hbn)
      go_roundw
      case rel => exact ⟨i + 1, by simp, hlt, by rw [HT.out]; exact hrn, hbs4, hc4⟩
      case measure => simp [numOf]; omega
    · have hlt' : ¬ (i : Int) < (f.length : Int) := by omega
      have hrow2 : RowX Bs wr u5 (f.map (·.1)) := by
        rw [List.take_of_length_le (by omega)] at hrow
        exact hrow
      clear hrow
      go_wp2
      clear k5
      go_loopw [5, 7] (fun v u wr => ∃ (i : Nat), u = .int .i64 (i : Int) ∧ i ≤ g.length ∧ RowX Bs wr v (f.map (·.1) ++ (g.take i).map (·.1)) ∧ Bs ≤ wr.heap.size ∧ Ctx w wr [(N2, 26, D2), (N1, 26, D1)]) (fun _ u _ => g.length - numOf u)
      case atStart => exact ⟨0, rfl, Nat.zero_le _, by simpa using hrow2, hbs, hc⟩
      case round =>
        clear hrow2 hbs hc hlt hlt' hil
        obtain ⟨i, rfl, hil, hrow, hbs, hc⟩ := hrel
        have k5 := hc.cell 0 rfl 5 i2
        by_cases hlt : i < g.length
        · have hlt' : (i : Int) < (g.length : Int) := by omega
          have hwr : IntKind.i64.wrap ((i : Int) + 1) = ((i + 1 : Nat) : Int) := by rw [wrap_small _ (by omega) (by omega)]; omega
          obtain ⟨b1, off, rfl, g0, -, -⟩ := fl_cell (hB.trans (hc.bel.mono hB.size)) H2.out i hlt
          have HT : Hid (f.map (·.1) ++ (g.take (i + 1)).map (·.1) = (f.map (·.1) ++ (g.take i).map (·.1)) ++ [g[i].1]) := by
            show _ = _
            rw [take_snoc g i hlt, List.map_append, List.append_assoc]
            rfl
          have hln : (f.map (·.1) ++ (g.take i).map (·.1)).length ≤ 3000000 := by simp; omega
          generalize g[i].1 = nm at *
          generalize f.map (·.1) ++ (g.take i).map (·.1) = S at *
          go_wp2_with (refine app_x rfl (.tmp 31) (.tmp 38) rfl Bs _ _ rfl (hrow.more _) _ nm rfl (tx_new _ nm) hln (Nat.le_trans hbs (by simp)) ?_; intro vn wn hrn hbn; have hbs4 := Nat.le_trans (Nat.le_trans hbs (by simp)) hbn.size; have hc4 := (hc.call ((Below.refl _ _).alloc (Nat.le_refl _) _)).low hL.out hwB hbn)
          go_roundw
          case rel => exact ⟨i + 1, by simp, hlt, by rw [HT.out]; exact hrn, hbs4, hc4⟩
          case measure => simp [numOf]; omega
        · have hlt' : ¬ (i : Int) < (g.length : Int) := by omega
          have hrow2 : RowX Bs wr u5 (f.map (·.1) ++ g.map (·.1)) := by
            rw [List.take_of_length_le (by omega)] at hrow
            exact hrow
          clear hrow
          go_wp2
          go_ret
          exact ⟨_, rfl, hrow2.tx, hc.bel⟩
end Go.Proofs.YthplcnbfpcndbaaGreatDoor

namespace Go.Proofs.YthplcnbfpcndbaaGreatDoor
open Go.RowKit

theorem any_chgs (N : List ByteArray) (a b : GV) (P : Chg → Bool) : (chgs N a b).any P = N.any (fun nm => !decide (num a nm = num b nm) && P (nm, num a nm, num b nm)) := by
  unfold chgs
  rw [List.any_map, List.any_filter]
  rfl
theorem any_full (a b : GV) (P : Chg → Bool) : (chgs (nms a ++ nms b) a b).any P = (chgs (a.f.map (·.1) ++ b.f.map (·.1)) a b).any P := by
  refine any_same (fun x => ?_) P
  rw [mem_chgs, mem_chgs]
  have hs : ∀ (v : GV) nm, nm ∈ nms v → nm ∈ v.f.map (·.1) := fun v nm h => by
    unfold nms at h
    split at h
    · exact h
    · cases h
  constructor
  · rintro ⟨h1, h2⟩
    refine ⟨?_, h2⟩
    rcases List.mem_append.1 h1 with h | h
    · exact List.mem_append.2 (.inl (hs _ _ h))
    · exact List.mem_append.2 (.inr (hs _ _ h))
  · rintro ⟨-, h2, h3⟩
    refine ⟨?_, h2, h3⟩
    rw [List.mem_append]
    apply Classical.byContradiction
    intro h
    rw [not_or] at h
    exact h2 (by rw [num_none h.1, num_none h.2])
def p1 (lev : Int) (a b : GV) (nm : ByteArray) : Bool := byR lev (num a nm) (num b nm)
def p3 (u : ByteArray) (lev : Int) (a b : GV) (nm : ByteArray) : Bool := !decide (num a nm = num b nm) && reach u lev (nm, num a nm, num b nm)
def p4 (lev : Int) (a b : GV) (nm : ByteArray) : Bool := !decide (num a nm = num b nm) && high lev (nm, num a nm, num b nm)
/-- The rules on what new levels change. -/
def rV (e : EV) (vo : GV) (lev : Int) : Int :=
  if (chgs seven vo e.con).any (byd lev) then 44 else if (chgIn sEvents vo e.con).any (byd lev) then 45
  else if (chgIn sUsers vo e.con).any (reach e.snd lev) then 46 else if (chgIn sUsers vo e.con).any (high lev) then 47 else 0
theorem rV_eq (e : EV) (vo : GV) (lev : Int) : rV e vo lev = if seven.any (p1 lev vo e.con) then 44
    else if ((fldD vo sEvents).f.map (·.1) ++ (fldD e.con sEvents).f.map (·.1)).any (p1 lev (fldD vo sEvents) (fldD e.con sEvents)) then 45
    else if ((fldD vo sUsers).f.map (·.1) ++ (fldD e.con sUsers).f.map (·.1)).any (p3 e.snd lev (fldD vo sUsers) (fldD e.con sUsers)) then 46
    else if ((fldD vo sUsers).f.map (·.1) ++ (fldD e.con sUsers).f.map (·.1)).any (p4 lev (fldD vo sUsers) (fldD e.con sUsers)) then 47 else 0 := by
  unfold rV chgIn
  rw [any_full, any_full, any_full, any_chgs, any_chgs, any_chgs, any_chgs]
  rfl
theorem pair_dec (x y : Int) (h k : Bool) : decide (((x, h) : Int × Bool) = (y, k)) = (decide (x = y) && decide (h = k)) := by
  rw [Bool.eq_iff_iff]
  simp
theorem p3_cases (u nm : ByteArray) (lev x y : Int) (h k : Bool) : (!decide (((x, h) : Int × Bool) = (y, k)) && reach u lev (nm, (x, h), (y, k))) = (h && (!decide (nm = u) && ((!k || !decide (x = y)) && decide (lev ≤ x)))) := by
  rw [pair_dec]
  unfold reach
  cases h <;> cases k <;> cases decide (nm = u) <;> cases decide (x = y) <;> cases decide (lev ≤ x) <;> rfl
theorem p4_cases (nm : ByteArray) (lev x y : Int) (h k : Bool) : (!decide (((x, h) : Int × Bool) = (y, k)) && high lev (nm, (x, h), (y, k))) = (k && ((!h || !decide (x = y)) && decide (lev < y))) := by
  rw [pair_dec]
  unfold high abv
  cases h <;> cases k <;> cases decide (x = y) <;> cases decide (lev < y) <;> rfl

theorem tx_get {w : World} {v : Value} {S : List ByteArray} (h : TxAt w v S) : ∃ a c, v = .slice a S.length c ∧ Hid (∀ (i : Nat) (h : i < S.length), ∃ b off, a = some ⟨b, off, none⟩ ∧ w.cell? ⟨b, off + i, none⟩ = some (.string S[i])) := by
  obtain ⟨a, c, h1, -, h3⟩ := h
  exact ⟨a, c, h1, h3⟩
theorem tx_at {w W : World} {a : Option Addr} {S : List ByteArray} (h : ∀ (i : Nat) (h : i < S.length), ∃ b off, a = some ⟨b, off, none⟩ ∧ w.cell? ⟨b, off + i, none⟩ = some (.string S[i])) (hm : Below w.heap.size w W) (i : Nat) (hi : i < S.length) :
    ∃ b off, a = some ⟨b, off, none⟩ ∧ W.cell? ⟨b, off + i, none⟩ = some (.string S[i]) := by
  obtain ⟨b, off, h1, h2⟩ := h i hi
  refine ⟨b, off, h1, ?_⟩
  rw [hm.cell (World.block_lt_of_cell? w _ h2)]
  exact h2
theorem cl_cell {W : World} {b o : Nat} {v : Value} (h : W.cell? ⟨b, o, none⟩ = some v) : ∀ x : Cl W.heap.size W, x.u.cell? ⟨b, o, none⟩ = some v := fun x => x.cell h (World.block_lt_of_cell? W _ h)

set_option maxRecDepth 100000 in
set_option maxHeartbeats 8000000 in
theorem rchanges_any (e : EV) (vo : GV) (lev : Int) (C Do : Array Value) (B w : World) (hB : Below B.heap.size B w) (he : EC B e C) (hvo : LaidV B vo Do) :
    Calls Tryz.prog 26 #[.agg C, .agg Do, .int .i64 lev] w fun r w' => r = .returned (.int .i64 (rV e vo lev)) ∧ Below w.heap.size w w' := by
  have hc := Ctx.start w
  have hE := he.sz
  have e3 := he.i3
  obtain ⟨Dc, hDc, hin⟩ := he.con
  have c6 := hDc.vc.sz
  have o6 := hvo.vc.sz
  have k7 : ∀ W, Calls Tryz.prog 55 #[] W fun r w' => ∃ v, r = .returned v ∧ TxAt w' v seven ∧ Below W.heap.size W w' := fun W => rseven_any W
  have hs7 : seven.length ≤ 3000000 := by decide
  have kb : ∀ nm W, Below B.heap.size B W → Calls Tryz.prog 57 #[.agg Do, .agg Dc, .string nm, .int .i64 lev] W fun r w' => r = .returned (.bool (p1 lev vo e.con nm)) ∧ Below W.heap.size W w' := fun nm W h => rbeyond_any vo e.con Do Dc nm lev B W h hvo hDc
  have kfe : ∀ W, Below B.heap.size B W → Calls Tryz.prog 53 #[.agg Do, .string sEvents] W fun e w' => ∃ E, e = .returned (.tuple #[.agg E, .bool (fld vo sEvents).isSome]) ∧ LaidV B (fldD vo sEvents) E ∧ Below W.heap.size W w' := fun W h => rfield_any vo Do sEvents B W h hvo
  have kge : ∀ W, Below B.heap.size B W → Calls Tryz.prog 53 #[.agg Dc, .string sEvents] W fun r w' => ∃ E, r = .returned (.tuple #[.agg E, .bool (fld e.con sEvents).isSome]) ∧ LaidV B (fldD e.con sEvents) E ∧ Below W.heap.size W w' := fun W h => rfield_any e.con Dc sEvents B W h hDc
  have kfu : ∀ W, Below B.heap.size B W → Calls Tryz.prog 53 #[.agg Do, .string sUsers] W fun e w' => ∃ E, e = .returned (.tuple #[.agg E, .bool (fld vo sUsers).isSome]) ∧ LaidV B (fldD vo sUsers) E ∧ Below W.heap.size W w' := fun W h => rfield_any vo Do sUsers B W h hvo
  have kgu : ∀ W, Below B.heap.size B W → Calls Tryz.prog 53 #[.agg Dc, .string sUsers] W fun r w' => ∃ E, r = .returned (.tuple #[.agg E, .bool (fld e.con sUsers).isSome]) ∧ LaidV B (fldD e.con sUsers) E ∧ Below W.heap.size W w' := fun W h => rfield_any e.con Dc sUsers B W h hDc
  have HR := rV_eq e vo lev
  obtain ⟨R, hR⟩ : ∃ R, rV e vo lev = R := ⟨_, rfl⟩
  rw [hR] at HR ⊢
  clear he hvo hDc hR
  generalize hfe : fldD vo sEvents = fe at *
  generalize hge : fldD e.con sEvents = ge at *
  generalize hfu : fldD vo sUsers = fu at *
  generalize hgu : fldD e.con sUsers = gu at *
  generalize (fld vo sEvents).isSome = fe' at *
  generalize (fld e.con sEvents).isSome = ge' at *
  generalize (fld vo sUsers).isSome = fu' at *
  generalize (fld e.con sUsers).isSome = gu' at *
  clear hfe hge hfu hgu
  generalize e.snd = sn at *
  obtain ⟨NE, hNE⟩ : ∃ N, fe.f.map (·.1) ++ ge.f.map (·.1) = N := ⟨_, rfl⟩
  obtain ⟨NU, hNU⟩ : ∃ N, fu.f.map (·.1) ++ gu.f.map (·.1) = N := ⟨_, rfl⟩
  rw [hNE, hNU] at HR
  have KN : Hid (∀ (a b : GV) (D1 D2 : Array Value) W, Below B.heap.size B W → LaidV B a D1 → LaidV B b D2 → Calls Tryz.prog 58 #[.agg D1, .agg D2] W fun r w' => ∃ v, r = .returned v ∧ TxAt w' v (a.f.map (·.1) ++ b.f.map (·.1)) ∧ Below W.heap.size W w') := fun a b D1 D2 W h h1 h2 => rnamed_any a b D1 D2 B W h h1 h2
  have KB : Hid (∀ (a b : GV) (D1 D2 : Array Value) nm W, Below B.heap.size B W → LaidV B a D1 → LaidV B b D2 → Calls Tryz.prog 57 #[.agg D1, .agg D2, .string nm, .int .i64 lev] W fun r w' => r = .returned (.bool (p1 lev a b nm)) ∧ Below W.heap.size W w') := fun a b D1 D2 nm W h h1 h2 => rbeyond_any a b D1 D2 nm lev B W h h1 h2
  have KM : Hid (∀ (a : GV) (D : Array Value) nm W, Below B.heap.size B W → LaidV B a D → Calls Tryz.prog 54 #[.agg D, .string nm] W fun r w' => r = .returned (.tuple #[.int .i64 (num a nm).1, .bool (num a nm).2]) ∧ Below W.heap.size W w') := fun a D nm W h h1 => rnumber_any a D nm B W h h1
  generalize e.con = vn at *
  have HR1 : Hid (R = if seven.any (p1 lev vo vn) then 44 else (if NE.any (p1 lev fe ge) then 45 else if NU.any (p3 sn lev fu gu) then 46 else if NU.any (p4 lev fu gu) then 47 else 0)) := HR
  clear HR
  generalize seven = S at *
  have z0 : True := trivial
  go_enter Tryz.func26, Tryz.ntmps26
  go_wp2_with (first
    | (have hq := z2; clear hq; go_at_call 55; refine (k7 _).mono ?_; rintro r wS ⟨v7, rfl, hS7, hbq⟩; replace hc := hc.call hbq; obtain ⟨sa, sc, rfl, HTX⟩ := tx_get hS7; clear hbq k7 hS7; clear z2)
    | (have hq := z1; clear hq; refine v_box rfl 26 (.tmp 1) rfl Do rfl hc ?_; intro wq N4 hcq _; replace hc := hcq; clear hcq; clear z1; have z2 : True := trivial)
    | (have hq := z0; clear hq; refine v_box rfl 28 (.tmp 0) rfl C rfl hc ?_; intro wq N3 hcq _; replace hc := hcq; clear hcq; clear z0; have z1 : True := trivial))
  have hcS := hc
  go_loopw [8] (fun u w' => ∃ i : Nat, u = .int .i64 (i : Int) ∧ i ≤ S.length ∧ Hid ((S.take i).any (p1 lev vo vn) = false) ∧ Ctx w w' [(N4, 26, Do), (N3, 28, C)] ∧ Below wS.heap.size wS w') (fun u _ => S.length - numOf u)
  case atStart => exact ⟨0, rfl, Nat.zero_le _, rfl, hcS, Below.refl _ _⟩
  case round =>
    clear hc hcS
    obtain ⟨i, rfl, hil, HG, hc, hm⟩ := hrel
    by_cases hlt : i < S.length
    · have hlt' : (i : Int) < (S.length : Int) := by omega
      have hwr : IntKind.i64.wrap ((i : Int) + 1) = ((i + 1 : Nat) : Int) := by rw [wrap_small _ (by omega) (by omega)]; omega
      obtain ⟨b, off, rfl, hcw⟩ := tx_at HTX.out hm i hlt
      have HS : Hid (∀ q, p1 lev vo vn S[i] = q → (S.take (i + 1)).any (p1 lev vo vn) = q) := fun q hq => by
        rw [take_snoc S i hlt, List.any_append, HG.out]
        simp [hq]
      have HF : Hid ((S.take (i + 1)).any (p1 lev vo vn) = true → R = 44) := fun h => by
        rw [HR1.out, any_take h]
        rfl
      clear HG
      generalize S[i] = nm at *
      have kq := fun W h => kb nm W h
      have HQ0 := (show Hid _ from hc.clr 0 rfl)
      have HQC := (show Hid (∀ w', (∃ x : Cl wr.heap.size wr, w' = x.u) → w'.rangeAt N3 10 Dc.toList) from fun w' hw j v hv => by
        have := hc.clr 1 rfl w' hw (10 + j) v (by simpa using hin j v (by simpa using hv))
        rwa [Nat.zero_add] at this)
      have HT := (show Hid _ from hc.to hB)
      have QN := cl_cell hcw
      obtain ⟨q, hq⟩ : ∃ q, p1 lev vo vn nm = q := ⟨_, rfl⟩
      rw [hq] at kq
      have HS2 := HS.out q hq
      clear hq HS hcw
      go_wp2
      have hne := Cl.ne wr.heap.size wr
      cases q
      · skip
        refine region_cl (N := wr.heap.size) (W := wr) (by kernel_rfl) (by kernel_rfl) (Below.refl _ _) ?_
        go_big_quiet_want
        refine quiet_load 26 _ rfl _ 0 rfl Do.toList _ HQ0.out Tryz.underlying26 rfl (by simpa using sz26 o6) ?_
        simp only [Act.put, List.setIfInBounds_toArray, List.set_cons_zero, List.set_cons_succ, Array.toArray_toList]
        go_big_quiet_on
        go_big_quiet_step (fail)
        go_big_quiet_want
        refine quiet_load 26 _ rfl _ 10 rfl Dc.toList _ HQC.out Tryz.underlying26 rfl (by simpa using sz26 c6) ?_
        simp only [Act.put, List.setIfInBounds_toArray, List.set_cons_zero, List.set_cons_succ, Array.toArray_toList]
        go_big_quiet_on
        repeat (go_big_quiet_step ((go_at_call 57; exact cl_of (kq _ (HT.out _)) (Nat.le_refl _))))
        refine wpQuiet_nil ?_
        rintro wz ⟨x, hwx⟩
        have hx : Below wr.heap.size wr wz := hwx ▸ x.h
        clear hwx x
        replace hc := hc.call hx
        clear QN HQ0 HQC HT hne kq
        have HE : Hid ((S.take (i + 1)).any (p1 lev vo vn) = false) := HS2
        clear HF HS2
        go_wp2
        go_roundw
        case rel => exact ⟨i + 1, by simp, hlt, HE, hc, hm.trans (hx.mono hm.size)⟩
        case measure => simp [numOf]; omega
      · skip
        refine region_cl (N := wr.heap.size) (W := wr) (by kernel_rfl) (by kernel_rfl) (Below.refl _ _) ?_
        go_big_quiet_want
        refine quiet_load 26 _ rfl _ 0 rfl Do.toList _ HQ0.out Tryz.underlying26 rfl (by simpa using sz26 o6) ?_
        simp only [Act.put, List.setIfInBounds_toArray, List.set_cons_zero, List.set_cons_succ, Array.toArray_toList]
        go_big_quiet_on
        go_big_quiet_step (fail)
        go_big_quiet_want
        refine quiet_load 26 _ rfl _ 10 rfl Dc.toList _ HQC.out Tryz.underlying26 rfl (by simpa using sz26 c6) ?_
        simp only [Act.put, List.setIfInBounds_toArray, List.set_cons_zero, List.set_cons_succ, Array.toArray_toList]
        go_big_quiet_on
        repeat (go_big_quiet_step ((go_at_call 57; exact cl_of (kq _ (HT.out _)) (Nat.le_refl _))))
        refine wpQuiet_nil ?_
        rintro wz ⟨x, hwx⟩
        have hx : Below wr.heap.size wr wz := hwx ▸ x.h
        clear hwx x
        replace hc := hc.call hx
        clear QN HQ0 HQC HT hne kq
        have HE : Hid (R = 44) := HF.out HS2
        clear HF HS2
        go_wp2
        go_ret
        exact ⟨by rw [HE.out]; rfl, hc.bel⟩
    · have hlt' : ¬ (i : Int) < (S.length : Int) := by omega
      have HR2 : Hid (R = (if NE.any (p1 lev fe ge) then 45 else if NU.any (p3 sn lev fu gu) then 46 else if NU.any (p4 lev fu gu) then 47 else 0)) := by
        have h1 := HG.out
        rw [List.take_of_length_le (by omega)] at h1
        rw [HR1.out, h1]
        rfl
      clear HG HR1 HTX
      have z0 : True := trivial
      go_wp2_with (first
        | (have hq := z8; clear hq; go_at_call 58; refine (KN.out fe ge Fe Ge _ (hB.trans (hc.bel.mono hB.size)) hFe hGe).mono ?_; rintro r wT ⟨vE, rfl, hSE, hbq⟩; replace hc := hc.call hbq; rw [hNE] at hSE; have hlE : NE.length ≤ 3000000 := (by rw [← hNE]; have q1 := hFe.vc.fs; have q2 := hGe.vc.fs; simp only [List.length_append, List.length_map]; omega); obtain ⟨ea, ec, rfl, HTE⟩ := tx_get hSE; clear hbq hSE hNE hs7; clear z8)
        | (have hq := z7; clear hq; refine v_load rfl 26 (.tmp 12) rfl 0 rfl hc rfl _ Tryz.underlying26 rfl (sz26 g6) ?_; clear z7; have z8 : True := trivial)
        | (have hq := z6; clear hq; refine v_load rfl 26 (.tmp 10) rfl 1 rfl hc rfl _ Tryz.underlying26 rfl (sz26 f6) ?_; clear z6; have z7 : True := trivial)
        | (have hq := z5; clear hq; refine v_decl rfl rfl 26 rfl (.tmp 12) (.tmp 56) rfl zV Ge z26 (fun _ => rfl) (fun _ => rfl) (by rw [g6]; rfl) (sz26 g6) g1 hc ?_; intro wq N12 hcq _; replace hc := hcq; clear hcq; clear z5; have z6 : True := trivial)
        | (have hq := z4; clear hq; go_at_call 53; refine (kge _ (hB.trans (hc.bel.mono hB.size))).mono ?_; rintro r wq ⟨Ge, rfl, hGe, hbq⟩; replace hc := hc.call hbq; have g6 := hGe.vc.sz; have g1 := hGe.vc.one; clear kge; clear hbq; clear z4; have z5 : True := trivial)
        | (have hq := z3; clear hq; refine v_part rfl 26 (.tmp 53) rfl 2 Dc rfl hc rfl hin _ Tryz.underlying26 rfl (sz26 c6) ?_; clear z3; have z4 : True := trivial)
        | (have hq := z2; clear hq; refine v_decl rfl rfl 26 rfl (.tmp 10) (.tmp 50) rfl zV Fe z26 (fun _ => rfl) (fun _ => rfl) (by rw [f6]; rfl) (sz26 f6) f1 hc ?_; intro wq N10 hcq _; replace hc := hcq; clear hcq; clear z2; have z3 : True := trivial)
        | (have hq := z1; clear hq; go_at_call 53; refine (kfe _ (hB.trans (hc.bel.mono hB.size))).mono ?_; rintro r wq ⟨Fe, rfl, hFe, hbq⟩; replace hc := hc.call hbq; have f6 := hFe.vc.sz; have f1 := hFe.vc.one; clear kfe; clear hbq; clear z1; have z2 : True := trivial)
        | (have hq := z0; clear hq; refine v_load rfl 26 (.tmp 4) rfl 0 rfl hc rfl _ Tryz.underlying26 rfl (sz26 o6) ?_; clear z0; have z1 : True := trivial))
      clear hm hlt hlt' hil
      clear kb
      generalize hNS : NE = S2 at *
      have hcS := hc
      go_loopw [14] (fun u w' => ∃ i : Nat, u = .int .i64 (i : Int) ∧ i ≤ S2.length ∧ Hid ((S2.take i).any (p1 lev fe ge) = false) ∧ Ctx w w' [(N12, 26, Ge), (N10, 26, Fe), (N4, 26, Do), (N3, 28, C)] ∧ Below wT.heap.size wT w') (fun u _ => S2.length - numOf u)
      case atStart => exact ⟨0, rfl, Nat.zero_le _, rfl, hcS, Below.refl _ _⟩
      case round =>
        clear hc hcS
        obtain ⟨i, rfl, hil, HG, hc, hm⟩ := hrel
        by_cases hlt : i < S2.length
        · have hlt' : (i : Int) < (S2.length : Int) := by omega
          have hwr : IntKind.i64.wrap ((i : Int) + 1) = ((i + 1 : Nat) : Int) := by rw [wrap_small _ (by omega) (by omega)]; omega
          obtain ⟨b, off, rfl, hcw⟩ := tx_at HTE.out hm i hlt
          have HS : Hid (∀ q, p1 lev fe ge S2[i] = q → (S2.take (i + 1)).any (p1 lev fe ge) = q) := fun q hq => by
            rw [take_snoc S2 i hlt, List.any_append, HG.out]
            simp [hq]
          have HF : Hid ((S2.take (i + 1)).any (p1 lev fe ge) = true → R = 45) := fun h => by
            rw [HR2.out, any_take h]
            rfl
          clear HG
          generalize S2[i] = nm at *
          have kq := fun W h => KB.out fe ge Fe Ge nm W h hFe hGe
          have HQ0 := (show Hid _ from hc.clr 1 rfl)
          have HQ1 := (show Hid _ from hc.clr 0 rfl)
          have HT := (show Hid _ from hc.to hB)
          have QN := cl_cell hcw
          obtain ⟨q, hq⟩ : ∃ q, p1 lev fe ge nm = q := ⟨_, rfl⟩
          rw [hq] at kq
          have HS2 := HS.out q hq
          clear hq HS hcw
          go_wp2
          have hne := Cl.ne wr.heap.size wr
          cases q
          · skip
            refine region_cl (N := wr.heap.size) (W := wr) (by kernel_rfl) (by kernel_rfl) (Below.refl _ _) ?_
            go_big_quiet_want
            refine quiet_load 26 _ rfl _ 0 rfl Fe.toList _ HQ0.out Tryz.underlying26 rfl (by simpa using sz26 f6) ?_
            simp only [Act.put, List.setIfInBounds_toArray, List.set_cons_zero, List.set_cons_succ, Array.toArray_toList]
            go_big_quiet_on
            go_big_quiet_want
            refine quiet_load 26 _ rfl _ 0 rfl Ge.toList _ HQ1.out Tryz.underlying26 rfl (by simpa using sz26 g6) ?_
            simp only [Act.put, List.setIfInBounds_toArray, List.set_cons_zero, List.set_cons_succ, Array.toArray_toList]
            go_big_quiet_on
            repeat (go_big_quiet_step ((go_at_call 57; exact cl_of (kq _ (HT.out _)) (Nat.le_refl _))))
            refine wpQuiet_nil ?_
            rintro wz ⟨x, hwx⟩
            have hx : Below wr.heap.size wr wz := hwx ▸ x.h
            clear hwx x
            replace hc := hc.call hx
            clear QN HQ0 HQ1 HT hne kq
            have HE : Hid ((S2.take (i + 1)).any (p1 lev fe ge) = false) := HS2
            clear HF HS2
            go_wp2
            go_roundw
            case rel => exact ⟨i + 1, by simp, hlt, HE, hc, hm.trans (hx.mono hm.size)⟩
            case measure => simp [numOf]; omega
          · skip
            refine region_cl (N := wr.heap.size) (W := wr) (by kernel_rfl) (by kernel_rfl) (Below.refl _ _) ?_
            go_big_quiet_want
            refine quiet_load 26 _ rfl _ 0 rfl Fe.toList _ HQ0.out Tryz.underlying26 rfl (by simpa using sz26 f6) ?_
            simp only [Act.put, List.setIfInBounds_toArray, List.set_cons_zero, List.set_cons_succ, Array.toArray_toList]
            go_big_quiet_on
            go_big_quiet_want
            refine quiet_load 26 _ rfl _ 0 rfl Ge.toList _ HQ1.out Tryz.underlying26 rfl (by simpa using sz26 g6) ?_
            simp only [Act.put, List.setIfInBounds_toArray, List.set_cons_zero, List.set_cons_succ, Array.toArray_toList]
            go_big_quiet_on
            repeat (go_big_quiet_step ((go_at_call 57; exact cl_of (kq _ (HT.out _)) (Nat.le_refl _))))
            refine wpQuiet_nil ?_
            rintro wz ⟨x, hwx⟩
            have hx : Below wr.heap.size wr wz := hwx ▸ x.h
            clear hwx x
            replace hc := hc.call hx
            clear QN HQ0 HQ1 HT hne kq
            have HE : Hid (R = 45) := HF.out HS2
            clear HF HS2
            go_wp2
            go_ret
            exact ⟨by rw [HE.out]; rfl, hc.bel⟩
        · have hlt' : ¬ (i : Int) < (S2.length : Int) := by omega
          have HR3 : Hid (R = (if NU.any (p3 sn lev fu gu) then 46 else if NU.any (p4 lev fu gu) then 47 else 0)) := by
            have h1 := HG.out
            rw [List.take_of_length_le (by omega)] at h1
            rw [HR2.out, h1]
            rfl
          clear HG HR2 HTE
          have z0 : True := trivial
          go_wp2_with (first
            | (have hq := z8; clear hq; go_at_call 58; refine (KN.out fu gu Fu Gu _ (hB.trans (hc.bel.mono hB.size)) hFu hGu).mono ?_; rintro r wU ⟨vU, rfl, hSU, hbq⟩; replace hc := hc.call hbq; rw [hNU] at hSU; have hlU : NU.length ≤ 3000000 := (by rw [← hNU]; have q1 := hFu.vc.fs; have q2 := hGu.vc.fs; simp only [List.length_append, List.length_map]; omega); obtain ⟨ua, uc, rfl, HTU⟩ := tx_get hSU; clear hbq hSU hNU; clear z8)
            | (have hq := z7; clear hq; refine v_load rfl 26 (.tmp 18) rfl 0 rfl hc rfl _ Tryz.underlying26 rfl (sz26 gu6) ?_; clear z7; have z8 : True := trivial)
            | (have hq := z6; clear hq; refine v_load rfl 26 (.tmp 16) rfl 1 rfl hc rfl _ Tryz.underlying26 rfl (sz26 fu6) ?_; clear z6; have z7 : True := trivial)
            | (have hq := z5; clear hq; refine v_decl rfl rfl 26 rfl (.tmp 18) (.tmp 85) rfl zV Gu z26 (fun _ => rfl) (fun _ => rfl) (by rw [gu6]; rfl) (sz26 gu6) gu1 hc ?_; intro wq N18 hcq _; replace hc := hcq; clear hcq; clear z5; have z6 : True := trivial)
            | (have hq := z4; clear hq; go_at_call 53; refine (kgu _ (hB.trans (hc.bel.mono hB.size))).mono ?_; rintro r wq ⟨Gu, rfl, hGu, hbq⟩; replace hc := hc.call hbq; have gu6 := hGu.vc.sz; have gu1 := hGu.vc.one; clear kgu; clear hbq; clear z4; have z5 : True := trivial)
            | (have hq := z3; clear hq; refine v_part rfl 26 (.tmp 82) rfl 4 Dc rfl hc rfl hin _ Tryz.underlying26 rfl (sz26 c6) ?_; clear z3; have z4 : True := trivial)
            | (have hq := z2; clear hq; refine v_decl rfl rfl 26 rfl (.tmp 16) (.tmp 79) rfl zV Fu z26 (fun _ => rfl) (fun _ => rfl) (by rw [fu6]; rfl) (sz26 fu6) fu1 hc ?_; intro wq N16 hcq _; replace hc := hcq; clear hcq; clear z2; have z3 : True := trivial)
            | (have hq := z1; clear hq; go_at_call 53; refine (kfu _ (hB.trans (hc.bel.mono hB.size))).mono ?_; rintro r wq ⟨Fu, rfl, hFu, hbq⟩; replace hc := hc.call hbq; have fu6 := hFu.vc.sz; have fu1 := hFu.vc.one; clear kfu; clear hbq; clear z1; have z2 : True := trivial)
            | (have hq := z0; clear hq; refine v_load rfl 26 (.tmp 4) rfl 2 rfl hc rfl _ Tryz.underlying26 rfl (sz26 o6) ?_; clear z0; have z1 : True := trivial))
          clear hm hlt hlt' hil
          have hcS := hc
          go_loopw [20] (fun u w' => ∃ i : Nat, u = .int .i64 (i : Int) ∧ i ≤ NU.length ∧ Hid ((NU.take i).any (p3 sn lev fu gu) = false) ∧ Ctx w w' [(N18, 26, Gu), (N16, 26, Fu), (N12, 26, Ge), (N10, 26, Fe), (N4, 26, Do), (N3, 28, C)] ∧ Below wU.heap.size wU w') (fun u _ => NU.length - numOf u)
          case atStart => exact ⟨0, rfl, Nat.zero_le _, rfl, hcS, Below.refl _ _⟩
          case round =>
            clear hc hcS
            obtain ⟨i, rfl, hil, HG, hc, hm⟩ := hrel
            by_cases hlt : i < NU.length
            · have hlt' : (i : Int) < (NU.length : Int) := by omega
              have hwr : IntKind.i64.wrap ((i : Int) + 1) = ((i + 1 : Nat) : Int) := by rw [wrap_small _ (by omega) (by omega)]; omega
              obtain ⟨b, off, rfl, hcw⟩ := tx_at HTU.out hm i hlt
              have HS : Hid (∀ q, p3 sn lev fu gu NU[i] = q → (NU.take (i + 1)).any (p3 sn lev fu gu) = q) := fun q hq => by
                rw [take_snoc NU i hlt, List.any_append, HG.out]
                simp [hq]
              have HF : Hid ((NU.take (i + 1)).any (p3 sn lev fu gu) = true → R = 46) := fun h => by
                rw [HR3.out, any_take h]
                rfl
              clear HG
              generalize NU[i] = nm at *
              have kq1 := fun W h => KM.out fu Fu nm W h hFu
              have kq2 := fun W h => KM.out gu Gu nm W h hGu
              obtain ⟨⟨x, hd⟩, hp⟩ : ∃ p, num fu nm = p := ⟨_, rfl⟩
              obtain ⟨⟨y, hs⟩, hq⟩ : ∃ p, num gu nm = p := ⟨_, rfl⟩
              rw [hp] at kq1
              rw [hq] at kq2
              have HS2 := HS.out _ rfl
              unfold p3 at HS2 HF
              rw [hp, hq] at HS2
              rw [p3_cases] at HS2
              have HS3 := (show Hid _ from HS2)
              have HF2 := (show Hid _ from HF.out)
              clear HS HS2 HF hp hq
              go_wp2
              have HQ0 := (show Hid _ from hc.clr 1 rfl)
              have HT := (show Hid _ from hc.to hB)
              have QN := cl_cell hcw
              have hne := Cl.ne wr.heap.size wr
              refine region_cl (N := wr.heap.size) (W := wr) (by kernel_rfl) (by kernel_rfl) (Below.refl _ _) ?_
              go_big_quiet_want
              refine quiet_load 26 _ rfl _ 0 rfl Fu.toList _ HQ0.out Tryz.underlying26 rfl (by simpa using sz26 fu6) ?_
              simp only [Act.put, List.setIfInBounds_toArray, List.set_cons_zero, List.set_cons_succ, Array.toArray_toList]
              go_big_quiet_on
              repeat (go_big_quiet_step ((go_at_call 54; exact cl_of (kq1 _ (HT.out _)) (Nat.le_refl _))))
              refine wpQuiet_nil ?_
              rintro wz ⟨x9, hwx⟩
              have hx : Below wr.heap.size wr wz := hwx ▸ x9.h
              replace hcw := (hx.cell (World.block_lt_of_cell? wr _ hcw)).trans hcw
              clear hwx x9 QN HQ0 HT hne kq1
              replace hc := hc.call hx
              replace hm := hm.trans (hx.mono hm.size)
              clear hx
              go_wp2
              have HQ0 := (show Hid _ from hc.clr 0 rfl)
              have HT := (show Hid _ from hc.to hB)
              have QN := cl_cell hcw
              have hne := Cl.ne wz.heap.size wz
              refine region_cl (N := wz.heap.size) (W := wz) (by kernel_rfl) (by kernel_rfl) (Below.refl _ _) ?_
              go_big_quiet_want
              refine quiet_load 26 _ rfl _ 0 rfl Gu.toList _ HQ0.out Tryz.underlying26 rfl (by simpa using sz26 gu6) ?_
              simp only [Act.put, List.setIfInBounds_toArray, List.set_cons_zero, List.set_cons_succ, Array.toArray_toList]
              go_big_quiet_on
              repeat (go_big_quiet_step ((go_at_call 54; exact cl_of (kq2 _ (HT.out _)) (Nat.le_refl _))))
              refine wpQuiet_nil ?_
              rintro wy ⟨x9, hwx⟩
              have hx : Below wz.heap.size wz wy := hwx ▸ x9.h
              replace hcw := (hx.cell (World.block_lt_of_cell? wz _ hcw)).trans hcw
              clear hwx x9 QN HQ0 HT hne kq2
              replace hc := hc.call hx
              replace hm := hm.trans (hx.mono hm.size)
              clear hx
              have c3 := hc.cell 5 rfl 3 e3
              have qk := beq_bytes nm sn
              obtain ⟨b0, h0⟩ : ∃ b, decide (x = y) = b := ⟨_, rfl⟩
              obtain ⟨b1, h1⟩ : ∃ b, decide (lev ≤ x) = b := ⟨_, rfl⟩
              have h0' : (x != y) = !b0 := by rw [← h0]; rfl
              rw [h0, h1] at HS3
              generalize decide (nm = sn) = k at *
              clear h0
              cases hd
              · skip
                have HE : Hid ((NU.take (i + 1)).any (p3 sn lev fu gu) = false) := HS3.out
                clear HS3 HF2
                go_wp2
                go_quiet (fail)
                go_wp2
                go_roundw
                case rel => exact ⟨i + 1, by simp, hlt, HE, hc.drew _, below_drewN hm _⟩
                case measure => simp [numOf]; omega
              · cases k
                · cases hs
                  · cases b1
                    · skip
                      have HE : Hid ((NU.take (i + 1)).any (p3 sn lev fu gu) = false) := HS3.out
                      clear HS3 HF2
                      go_wp2
                      go_quiet (fail)
                      go_wp2
                      go_roundw
                      case rel => exact ⟨i + 1, by simp, hlt, HE, hc.drew _, below_drewN hm _⟩
                      case measure => simp [numOf]; omega
                    · skip
                      have HE : Hid (R = 46) := HF2.out HS3.out
                      clear HS3 HF2
                      go_wp2
                      go_quiet (fail)
                      go_wp2
                      go_ret
                      exact ⟨by rw [HE.out]; rfl, (hc.drew _).bel⟩
                  · cases b0
                    · cases b1
                      · skip
                        have HE : Hid ((NU.take (i + 1)).any (p3 sn lev fu gu) = false) := HS3.out
                        clear HS3 HF2
                        go_wp2
                        go_quiet (fail)
                        go_wp2
                        go_roundw
                        case rel => exact ⟨i + 1, by simp, hlt, HE, hc.drew _, below_drewN hm _⟩
                        case measure => simp [numOf]; omega
                      · skip
                        have HE : Hid (R = 46) := HF2.out HS3.out
                        clear HS3 HF2
                        go_wp2
                        go_quiet (fail)
                        go_wp2
                        go_ret
                        exact ⟨by rw [HE.out]; rfl, (hc.drew _).bel⟩
                    · skip
                      have HE : Hid ((NU.take (i + 1)).any (p3 sn lev fu gu) = false) := HS3.out
                      clear HS3 HF2
                      go_wp2
                      go_quiet (fail)
                      go_wp2
                      go_roundw
                      case rel => exact ⟨i + 1, by simp, hlt, HE, hc.drew _, below_drewN hm _⟩
                      case measure => simp [numOf]; omega
                · skip
                  have HE : Hid ((NU.take (i + 1)).any (p3 sn lev fu gu) = false) := HS3.out
                  clear HS3 HF2
                  go_wp2
                  go_quiet (fail)
                  go_wp2
                  go_roundw
                  case rel => exact ⟨i + 1, by simp, hlt, HE, hc.drew _, below_drewN hm _⟩
                  case measure => simp [numOf]; omega
            · have hlt' : ¬ (i : Int) < (NU.length : Int) := by omega
              have HR4 : Hid (R = (if NU.any (p4 lev fu gu) then 47 else 0)) := by
                have h1 := HG.out
                rw [List.take_of_length_le (by omega)] at h1
                rw [HR3.out, h1]
                rfl
              clear HG HR3
              go_wp2
              have hcS := hc
              go_loopw [25] (fun u w' => ∃ i : Nat, u = .int .i64 (i : Int) ∧ i ≤ NU.length ∧ Hid ((NU.take i).any (p4 lev fu gu) = false) ∧ Ctx w w' [(N18, 26, Gu), (N16, 26, Fu), (N12, 26, Ge), (N10, 26, Fe), (N4, 26, Do), (N3, 28, C)] ∧ Below wU.heap.size wU w') (fun u _ => NU.length - numOf u)
              case atStart => exact ⟨0, rfl, Nat.zero_le _, rfl, hcS, hm⟩
              case round =>
                clear hc hcS hm hlt hlt' hil
                obtain ⟨i, rfl, hil, HG, hc, hm⟩ := hrel
                by_cases hlt : i < NU.length
                · have hlt' : (i : Int) < (NU.length : Int) := by omega
                  have hwr : IntKind.i64.wrap ((i : Int) + 1) = ((i + 1 : Nat) : Int) := by rw [wrap_small _ (by omega) (by omega)]; omega
                  obtain ⟨b, off, rfl, hcw⟩ := tx_at HTU.out hm i hlt
                  have HS : Hid (∀ q, p4 lev fu gu NU[i] = q → (NU.take (i + 1)).any (p4 lev fu gu) = q) := fun q hq => by
                    rw [take_snoc NU i hlt, List.any_append, HG.out]
                    simp [hq]
                  have HF : Hid ((NU.take (i + 1)).any (p4 lev fu gu) = true → R = 47) := fun h => by
                    rw [HR4.out, any_take h]
                    rfl
                  clear HG
                  generalize NU[i] = nm at *
                  have kq1 := fun W h => KM.out fu Fu nm W h hFu
                  have kq2 := fun W h => KM.out gu Gu nm W h hGu
                  obtain ⟨⟨x, hd⟩, hp⟩ : ∃ p, num fu nm = p := ⟨_, rfl⟩
                  obtain ⟨⟨y, hs⟩, hq⟩ : ∃ p, num gu nm = p := ⟨_, rfl⟩
                  rw [hp] at kq1
                  rw [hq] at kq2
                  have HS2 := HS.out _ rfl
                  unfold p4 at HS2 HF
                  rw [hp, hq] at HS2
                  rw [p4_cases] at HS2
                  have HS3 := (show Hid _ from HS2)
                  have HF2 := (show Hid _ from HF.out)
                  clear HS HS2 HF hp hq
                  go_wp2
                  have HQ0 := (show Hid _ from hc.clr 1 rfl)
                  have HT := (show Hid _ from hc.to hB)
                  have QN := cl_cell hcw
                  have hne := Cl.ne wr.heap.size wr
                  refine region_cl (N := wr.heap.size) (W := wr) (by kernel_rfl) (by kernel_rfl) (Below.refl _ _) ?_
                  go_big_quiet_want
                  refine quiet_load 26 _ rfl _ 0 rfl Fu.toList _ HQ0.out Tryz.underlying26 rfl (by simpa using sz26 fu6) ?_
                  simp only [Act.put, List.setIfInBounds_toArray, List.set_cons_zero, List.set_cons_succ, Array.toArray_toList]
                  go_big_quiet_on
                  repeat (go_big_quiet_step ((go_at_call 54; exact cl_of (kq1 _ (HT.out _)) (Nat.le_refl _))))
                  refine wpQuiet_nil ?_
                  rintro wz ⟨x9, hwx⟩
                  have hx : Below wr.heap.size wr wz := hwx ▸ x9.h
                  replace hcw := (hx.cell (World.block_lt_of_cell? wr _ hcw)).trans hcw
                  clear hwx x9 QN HQ0 HT hne kq1
                  replace hc := hc.call hx
                  replace hm := hm.trans (hx.mono hm.size)
                  clear hx
                  go_wp2
                  have HQ0 := (show Hid _ from hc.clr 0 rfl)
                  have HT := (show Hid _ from hc.to hB)
                  have QN := cl_cell hcw
                  have hne := Cl.ne wz.heap.size wz
                  refine region_cl (N := wz.heap.size) (W := wz) (by kernel_rfl) (by kernel_rfl) (Below.refl _ _) ?_
                  go_big_quiet_want
                  refine quiet_load 26 _ rfl _ 0 rfl Gu.toList _ HQ0.out Tryz.underlying26 rfl (by simpa using sz26 gu6) ?_
                  simp only [Act.put, List.setIfInBounds_toArray, List.set_cons_zero, List.set_cons_succ, Array.toArray_toList]
                  go_big_quiet_on
                  repeat (go_big_quiet_step ((go_at_call 54; exact cl_of (kq2 _ (HT.out _)) (Nat.le_refl _))))
                  refine wpQuiet_nil ?_
                  rintro wy ⟨x9, hwx⟩
                  have hx : Below wz.heap.size wz wy := hwx ▸ x9.h
                  replace hcw := (hx.cell (World.block_lt_of_cell? wz _ hcw)).trans hcw
                  clear hwx x9 QN HQ0 HT hne kq2
                  replace hc := hc.call hx
                  replace hm := hm.trans (hx.mono hm.size)
                  clear hx
                  have c3 := hc.cell 5 rfl 3 e3
                  obtain ⟨b0, h0⟩ : ∃ b, decide (x = y) = b := ⟨_, rfl⟩
                  obtain ⟨b1, h1⟩ : ∃ b, decide (lev < y) = b := ⟨_, rfl⟩
                  have h0' : (x != y) = !b0 := by rw [← h0]; rfl
                  rw [h0, h1] at HS3
                  clear h0
                  cases hs
                  · skip
                    have HE : Hid ((NU.take (i + 1)).any (p4 lev fu gu) = false) := HS3.out
                    clear HS3 HF2
                    go_wp2
                    go_roundw
                    case rel => exact ⟨i + 1, by simp, hlt, HE, hc, hm⟩
                    case measure => simp [numOf]; omega
                  · cases hd
                    · cases b1
                      · skip
                        have HE : Hid ((NU.take (i + 1)).any (p4 lev fu gu) = false) := HS3.out
                        clear HS3 HF2
                        go_wp2
                        go_roundw
                        case rel => exact ⟨i + 1, by simp, hlt, HE, hc, hm⟩
                        case measure => simp [numOf]; omega
                      · skip
                        have HE : Hid (R = 47) := HF2.out HS3.out
                        clear HS3 HF2
                        go_wp2
                        go_ret
                        exact ⟨by rw [HE.out]; rfl, hc.bel⟩
                    · cases b0
                      · cases b1
                        · skip
                          have HE : Hid ((NU.take (i + 1)).any (p4 lev fu gu) = false) := HS3.out
                          clear HS3 HF2
                          go_wp2
                          go_roundw
                          case rel => exact ⟨i + 1, by simp, hlt, HE, hc, hm⟩
                          case measure => simp [numOf]; omega
                        · skip
                          have HE : Hid (R = 47) := HF2.out HS3.out
                          clear HS3 HF2
                          go_wp2
                          go_ret
                          exact ⟨by rw [HE.out]; rfl, hc.bel⟩
                      · skip
                        have HE : Hid ((NU.take (i + 1)).any (p4 lev fu gu) = false) := HS3.out
                        clear HS3 HF2
                        go_wp2
                        go_roundw
                        case rel => exact ⟨i + 1, by simp, hlt, HE, hc, hm⟩
                        case measure => simp [numOf]; omega
                · have hlt' : ¬ (i : Int) < (NU.length : Int) := by omega
                  have HR5 : Hid (R = 0) := by
                    have h1 := HG.out
                    rw [List.take_of_length_le (by omega)] at h1
                    rw [HR4.out, h1]
                    rfl
                  clear HG HR4 HTU
                  go_wp2
                  go_ret
                  exact ⟨by rw [HR5.out]; rfl, hc.bel⟩
end Go.Proofs.YthplcnbfpcndbaaGreatDoor
