/- The reference's rules on a list of events: walked. -/
import Derived.Test.YthplcnbfpcndbaaGreatDoorCa
import Derived.Test.YthplcnbfpcndbaaGreatDoorAs
namespace Go.Proofs.YthplcnbfpcndbaaGreatDoor
open Go.RowKit

/-- Do two events stand for one pair? -/
def eqv (a b : EV) : Bool := a.hk && (b.hk && (decide (a.ty = b.ty) && decide (a.key = b.key)))
theorem two_snoc (e : EV) : ∀ (l : List EV) (S : List Pr), two S (l ++ [e]) = (two S l || ((e.hk && inP S e.ty e.key) || l.any (fun x => eqv e x)))
  | [], S => by
    simp only [List.nil_append, two, List.any_nil, Bool.or_false, Bool.false_or]
    cases e.hk <;> simp
  | x :: l, S => by
    rw [List.cons_append, two, two, two_snoc e l, two_snoc e l, List.any_cons]
    have h1 : inP ((x.ty, x.key) :: S) e.ty e.key = ((decide (x.ty = e.ty) && decide (x.key = e.key)) || inP S e.ty e.key) := rfl
    have h2 : eqv e x = (e.hk && (x.hk && (decide (x.ty = e.ty) && decide (x.key = e.key)))) := by
      unfold eqv
      rw [decide_eq_decide.2 (@eq_comm _ e.ty x.ty), decide_eq_decide.2 (@eq_comm _ e.key x.key)]
    rw [h1, h2]
    generalize x.hk = a
    generalize e.hk = b
    generalize decide (x.ty = e.ty) = c
    generalize decide (x.key = e.key) = d
    generalize inP S x.ty x.key = f
    generalize two ((x.ty, x.key) :: S) l = g
    generalize two S l = h
    generalize inP S e.ty e.key = i
    generalize (l.any fun x => eqv e x) = j
    cases a <;> cases b <;> cases c <;> cases d <;> cases f <;> cases g <;> cases h <;> cases i <;> cases j <;> rfl
theorem two_more : ∀ (m l : List EV) (S : List Pr), two S l = true → two S (l ++ m) = true
  | [], l, S, h => by rw [List.append_nil]; exact h
  | x :: m, l, S, h => by
    rw [show l ++ x :: m = (l ++ [x]) ++ m by simp]
    refine two_more m _ S ?_
    rw [two_snoc, h]
    rfl
theorem two_take {l : List EV} {i : Nat} (h : two [] (l.take i) = true) : two [] l = true := by
  have := two_more (l.drop i) _ _ h
  rwa [List.take_append_drop] at this
theorem take_snoc {α : Type} (l : List α) (i : Nat) (h : i < l.length) : l.take (i + 1) = l.take i ++ [l[i]] := List.take_succ_eq_append_getElem h
theorem any_take {α : Type} {p : α → Bool} {l : List α} {i : Nat} (h : (l.take i).any p = true) : l.any p = true := by
  rw [List.any_eq_true] at h ⊢
  obtain ⟨x, hx, hp⟩ := h
  exact ⟨x, List.mem_of_mem_take hx, hp⟩
theorem ev_cell {B W : World} (hB : Below B.heap.size B W) {b o : Nat} {E : Array Value} (hr : B.rangeAt b o E.toList) {f : Nat} {u : Value} (h : E[f]? = some u) : W.cell? ⟨b, o + f, none⟩ = some u := by
  have h2 := hr f u (by simpa using h)
  rw [hB.cell (World.block_lt_of_cell? B _ h2)]
  exact h2
theorem inP_snoc (S : List Pr) (k : Nat) (h : k < S.length) (a b : ByteArray) : inP (S.take (k + 1)) a b = (inP (S.take k) a b || (decide (S[k].1 = a) && decide (S[k].2 = b))) := by
  unfold inP
  rw [take_snoc S k h, List.any_append]
  simp

set_option maxRecDepth 100000 in
set_option maxHeartbeats 8000000 in
theorem rlists_any (e : EV) (l : List EV) (C : Array Value) (v : Value) (B w : World) (hB : Below B.heap.size B w) (he : EC B e C) (hl : EvsAt B v l) :
    Calls Tryz.prog 18 #[.agg C, v] w fun r w' => r = .returned (.int .i64 (chkL e l)) ∧ Below w.heap.size w w' := by
  have hc0 := Ctx.start w
  have hE := he.sz
  have e2 := he.i2
  have ks := fun W h => rselect_any e C B W h he
  have kS : ∀ W, Below B.heap.size B W → Calls Tryz.prog 25 #[v, .string tC, .string s0] W fun r w' => ∃ X, r = .returned (.tuple #[.agg X, .bool (std tC s0 l).isSome]) ∧ EC B (stdD l tC s0) X ∧ Below W.heap.size W w' := fun W h => stands_any l v tC s0 B W h hl
  have hS : ∀ W, Below B.heap.size B W → Calls Tryz.prog 50 #[.agg C] W fun r w' => ∃ u, r = .returned u ∧ EntsAt w' u (sel e) ∧ Below W.heap.size W w' := ks
  clear ks he
  obtain ⟨hlen, a, c, rfl, hev⟩ := hl
  have HEV : Hid (∀ (i : Nat) (h : i < l.length), ∃ b off C, a = some ⟨b, off, none⟩ ∧ EC B l[i] C ∧ B.rangeAt b (off + i * 22) C.toList) := hev
  have HK : Hid (∀ W, Below B.heap.size B W → Calls Tryz.prog 25 #[.slice a l.length c, .string tC, .string s0] W fun r w' => ∃ X, r = .returned (.tuple #[.agg X, .bool (std tC s0 l).isSome]) ∧ EC B (stdD l tC s0) X ∧ Below W.heap.size W w') := kS
  clear hev kS
  obtain ⟨R, hR⟩ : ∃ R, chkL e l = R := ⟨_, rfl⟩
  rw [hR]
  have HR : Hid (chkL e l = R) := hR
  clear hR
  have HS : Hid (∀ W, Below B.heap.size B W → Calls Tryz.prog 50 #[.agg C] W fun r w' => ∃ u, r = .returned u ∧ EntsAt w' u (sel e) ∧ Below W.heap.size W w') := hS
  clear hS
  go_enter Tryz.func18, Tryz.ntmps18
  go_wp2_with (refine v_box rfl 28 (.tmp 0) rfl C rfl hc0 ?_; intro w1 N1 hc1 _; clear hc0)
  go_loopw [5] (fun u w' => ∃ i : Nat, u = .int .i64 (i : Int) ∧ i ≤ l.length ∧ Hid (two [] (l.take i) = false) ∧ Ctx w w' [(N1, 28, C)]) (fun u _ => l.length - numOf u)
  case atStart => exact ⟨0, rfl, Nat.zero_le _, rfl, hc1⟩
  case round =>
    obtain ⟨i, rfl, hil, HG, hc⟩ := hrel
    clear hc1
    by_cases hlt : i < l.length
    · have hlt' : (i : Int) < (l.length : Int) := by omega
      have hwr : IntKind.i64.wrap ((i : Int) + 1) = ((i + 1 : Nat) : Int) := by rw [wrap_small _ (by omega) (by omega)]; omega
      obtain ⟨b, off, E, rfl, hx, hrx⟩ := HEV.out i hlt
      go_wp2
      go_loopw [6] (fun u w' => ∃ k : Nat, u = .int .i64 (k : Int) ∧ k ≤ i ∧ Hid ((l.take k).any (fun y => eqv l[i] y) = false) ∧ Ctx w w' [(N1, 28, C)]) (fun u _ => i - numOf u)
      case atStart => exact ⟨0, rfl, Nat.zero_le _, rfl, hc⟩
      case round =>
        obtain ⟨k, rfl, hki, HI, hc⟩ := hrel
        by_cases hkt : k < i
        · have hkt' : (k : Int) < (i : Int) := by omega
          have hkl' : (k : Int) < (l.length : Int) := by omega
          have hwr2 : IntKind.i64.wrap ((k : Int) + 1) = ((k + 1 : Nat) : Int) := by rw [wrap_small _ (by omega) (by omega)]; omega
          have hkl : k < l.length := by omega
          obtain ⟨b', off', F, hab, hy, hry⟩ := HEV.out k hkl
          cases hab
          have HT : Hid (∀ q, (l[i].hk && (l[k].hk && (decide (l[i].ty = l[k].ty) && decide (l[i].key = l[k].key)))) = q → (l.take (k + 1)).any (fun y => eqv l[i] y) = q) := fun q hq => by
            rw [take_snoc l k hkl, List.any_append, HI.out]
            have hq' : eqv l[i] l[k] = q := hq
            simp [hq']
          have HF : Hid ((l[i].hk && (l[k].hk && (decide (l[i].ty = l[k].ty) && decide (l[i].key = l[k].key)))) = true → R = 10) := fun hq => by
            have h1 : two [] (l.take (i + 1)) = true := by
              rw [take_snoc l i hlt, two_snoc]
              have : (l.take i).any (fun x => eqv l[i] x) = true := by
                rw [List.any_eq_true]
                refine ⟨l[k], ?_, hq⟩
                rw [List.mem_take_iff_getElem]
                exact ⟨k, by omega, rfl⟩
              rw [this]
              simp
            have := HR.out
            unfold chkL at this
            rw [two_take h1] at this
            exact this.symm
          have c4 := ev_cell (hB.trans (hc.bel.mono hB.size)) hrx hx.i4
          have c1 := ev_cell (hB.trans (hc.bel.mono hB.size)) hrx hx.i1
          have c5 := ev_cell (hB.trans (hc.bel.mono hB.size)) hrx hx.i5
          have g4 := ev_cell (hB.trans (hc.bel.mono hB.size)) hry hy.i4
          have g1 := ev_cell (hB.trans (hc.bel.mono hB.size)) hry hy.i1
          have g5 := ev_cell (hB.trans (hc.bel.mono hB.size)) hry hy.i5
          clear hx hy hrx hry HI
          generalize l[i] = x at *
          generalize l[k] = y at *
          have qT := beq_bytes x.ty y.ty
          have qK := beq_bytes x.key y.key
          generalize decide (x.ty = y.ty) = T at *
          generalize decide (x.key = y.key) = K at *
          generalize x.ty = xt at *
          generalize y.ty = yt at *
          generalize x.key = xk at *
          generalize y.key = yk at *
          generalize x.hk = xh at *
          generalize y.hk = yh at *
          cases xh
          · simp only [Bool.false_and] at HT HF
            have HE := (show Hid _ from HT.out false rfl)
            clear HT HF
            go_wp2
            go_quiet (fail)
            go_wp2
            go_roundw
            case rel => exact ⟨k + 1, by simp, hkt, HE, hc.drew _⟩
            case measure => simp [numOf]; omega
          · cases yh
            · simp only [Bool.false_and, Bool.and_false] at HT HF
              have HE := (show Hid _ from HT.out false rfl)
              clear HT HF
              go_wp2
              go_quiet (fail)
              go_wp2
              go_roundw
              case rel => exact ⟨k + 1, by simp, hkt, HE, hc.drew _⟩
              case measure => simp [numOf]; omega
            · cases T
              · simp only [Bool.false_and, Bool.and_false] at HT HF
                have HE := (show Hid _ from HT.out false rfl)
                clear HT HF
                go_wp2
                go_quiet (fail)
                go_wp2
                go_roundw
                case rel => exact ⟨k + 1, by simp, hkt, HE, hc.drew _⟩
                case measure => simp [numOf]; omega
              · cases K
                · simp only [Bool.and_false] at HT HF
                  have HE := (show Hid _ from HT.out false rfl)
                  clear HT HF
                  go_wp2
                  go_quiet (fail)
                  go_wp2
                  go_roundw
                  case rel => exact ⟨k + 1, by simp, hkt, HE, hc.drew _⟩
                  case measure => simp [numOf]; omega
                · skip
                  have HE : Hid (R = 10) := HF.out rfl
                  clear HT HF
                  go_wp2
                  go_quiet (fail)
                  go_wp2
                  go_ret
                  exact ⟨by rw [HE.out]; rfl, (hc.drew _).bel⟩
        · have hkt' : ¬ (k : Int) < (i : Int) := by omega
          have HN : Hid (two [] (l.take (i + 1)) = false) := by
            show _ = _
            have hk : k = i := by omega
            have := HI.out
            rw [hk] at this
            rw [take_snoc l i hlt, two_snoc, HG.out, this]
            simp [inP]
          clear HI HG
          go_wp2
          go_roundw
          case rel => exact ⟨i + 1, by simp, hlt, HN, hc⟩
          case measure => simp [numOf]; omega
    · have hlt' : ¬ (i : Int) < (l.length : Int) := by omega
      have HN : Hid (two [] l = false) := by
        have := HG.out
        rw [List.take_of_length_le (by omega)] at this
        exact this
      clear HG
      have hR1 : Hid (R = if goes (sel e) l then 11 else if leaves e.room l then 12 else if (std tC s0 l).isSome then 0 else 13) := by
        show _ = _
        rw [← HR.out]
        unfold chkL
        rw [HN.out]
        simp
      clear HR HN
      have hS := HS.out
      have c2 := hc.cell 0 rfl 2 e2
      have hlenS : True := trivial
      generalize sel e = S at *
      go_wp2_with (first
        | (refine v_load rfl 28 (.tmp 2) rfl 0 rfl hc rfl _ Tryz.underlying28 rfl (sz28 hE) ?_)
        | (go_at_call 50; refine (hS _ (hB.trans (hc.bel.mono hB.size))).mono ?_; rintro r w2 ⟨sv, rfl, hsv, hb2⟩; replace hc := hc.call hb2; obtain ⟨hsl, sa, sc, rfl, hse⟩ := hsv; have HSE : Hid (∀ (i : Nat) (h : i < S.length), ∃ b off, sa = some ⟨b, off, none⟩ ∧ w2.rangeAt b (off + i * 3) (eC S[i].1 S[i].2).toList) := hse; clear hse hb2 hS c2))
      have hc2 := hc
      go_loopw [8] (fun u w' => ∃ i : Nat, u = .int .i64 (i : Int) ∧ i ≤ l.length ∧ Hid (goes S (l.take i) = false) ∧ Ctx w w' [(N1, 28, C)] ∧ Below w2.heap.size w2 w') (fun u _ => l.length - numOf u)
      case atStart => exact ⟨0, rfl, Nat.zero_le _, rfl, hc2, Below.refl _ _⟩
      case round =>
        clear hlt hlt' hil hc
        obtain ⟨i, rfl, hil, HG, hc, hm⟩ := hrel
        by_cases hlt : i < l.length
        · have hlt' : (i : Int) < (l.length : Int) := by omega
          have hwr : IntKind.i64.wrap ((i : Int) + 1) = ((i + 1 : Nat) : Int) := by rw [wrap_small _ (by omega) (by omega)]; omega
          obtain ⟨b, off, E, rfl, hx, hrx⟩ := HEV.out i hlt
          go_wp2
          go_loopw [9, 10] (fun t u w' => ∃ (k : Nat) (tb : Bool), t = .bool tb ∧ u = .int .i64 (k : Int) ∧ k ≤ S.length ∧ Hid (tb = (l[i].hk && inP (S.take k) l[i].ty l[i].key)) ∧ Ctx w w' [(N1, 28, C)] ∧ Below w2.heap.size w2 w') (fun _ u _ => S.length - numOf u)
          case atStart => exact ⟨0, false, rfl, rfl, Nat.zero_le _, by show _ = _; simp [inP], hc, hm⟩
          case round =>
            clear hc hm
            obtain ⟨k, tb, rfl, rfl, hks, HI, hc, hm⟩ := hrel
            by_cases hkt : k < S.length
            · have hkt' : (k : Int) < (S.length : Int) := by omega
              have hwr2 : IntKind.i64.wrap ((k : Int) + 1) = ((k + 1 : Nat) : Int) := by rw [wrap_small _ (by omega) (by omega)]; omega
              obtain ⟨b', off', hab, hry⟩ := HSE.out k hkt
              subst hab
              have HT : Hid ((tb || (l[i].hk && (decide (S[k].1 = l[i].ty) && decide (S[k].2 = l[i].key)))) = (l[i].hk && inP (S.take (k + 1)) l[i].ty l[i].key)) := by
                show _ = _
                rw [inP_snoc S k hkt, HI.out]
                cases l[i].hk <;> simp
              have c4 := ev_cell (hB.trans (hc.bel.mono hB.size)) hrx hx.i4
              have c1 := ev_cell (hB.trans (hc.bel.mono hB.size)) hrx hx.i1
              have c5 := ev_cell (hB.trans (hc.bel.mono hB.size)) hrx hx.i5
              have hry' : wr.rangeAt b' (off' + k * 3) (eC S[k].1 S[k].2).toList := range_below hm hry
              have g0 : wr.cell? ⟨b', off' + k * 3, none⟩ = some (.string S[k].1) := by have := hry' 0 _ rfl; rwa [Nat.add_zero] at this
              have g1 : wr.cell? ⟨b', off' + k * 3 + 1, none⟩ = some (.string S[k].2) := hry' 1 _ rfl
              clear hry hry' HI
              generalize l[i] = x at *
              generalize S[k] = p at *
              have qT := beq_bytes p.1 x.ty
              have qK := beq_bytes p.2 x.key
              generalize decide (p.1 = x.ty) = T at *
              generalize decide (p.2 = x.key) = K at *
              generalize p.1 = pt at *
              generalize p.2 = pk at *
              obtain ⟨nt, hnt⟩ : ∃ nt, (x.hk && inP (S.take (k + 1)) x.ty x.key) = nt := ⟨_, rfl⟩
              rw [hnt] at HT
              have HNT : Hid (nt = (x.hk && inP (S.take (k + 1)) x.ty x.key)) := hnt.symm
              clear hnt
              obtain ⟨xh, hxh⟩ : ∃ q, x.hk = q := ⟨_, rfl⟩
              rw [hxh] at c4 HT
              clear hxh
              obtain ⟨xt, hxt⟩ : ∃ q, x.ty = q := ⟨_, rfl⟩
              rw [hxt] at c1 qT
              clear hxt
              obtain ⟨xk, hxk⟩ : ∃ q, x.key = q := ⟨_, rfl⟩
              rw [hxk] at c5 qK
              clear hxk
              cases tb
              · cases xh
                · simp only [Bool.false_and, Bool.or_false] at HT
                  have HE := (show Hid (false = nt) from HT.out)
                  clear HT
                  go_wp2
                  go_quiet (fail)
                  go_wp2
                  go_roundw
                  case rel => exact ⟨k + 1, nt, by rw [← HE.out], by simp, hkt, HNT, hc.drew _, below_drewN hm _⟩
                  case measure => simp [numOf]; omega
                · cases T
                  · simp only [Bool.false_and, Bool.and_false, Bool.or_false] at HT
                    have HE := (show Hid (false = nt) from HT.out)
                    clear HT
                    go_wp2
                    go_quiet (fail)
                    go_wp2
                    go_roundw
                    case rel => exact ⟨k + 1, nt, by rw [← HE.out], by simp, hkt, HNT, hc.drew _, below_drewN hm _⟩
                    case measure => simp [numOf]; omega
                  · cases K
                    · simp only [Bool.and_false, Bool.or_false] at HT
                      have HE := (show Hid (false = nt) from HT.out)
                      clear HT
                      go_wp2
                      go_quiet (fail)
                      go_wp2
                      go_roundw
                      case rel => exact ⟨k + 1, nt, by rw [← HE.out], by simp, hkt, HNT, hc.drew _, below_drewN hm _⟩
                      case measure => simp [numOf]; omega
                    · skip
                      have HE := (show Hid (true = nt) from HT.out)
                      clear HT
                      go_wp2
                      go_quiet (fail)
                      go_wp2
                      go_roundw
                      case rel => exact ⟨k + 1, nt, by rw [← HE.out], by simp, hkt, HNT, hc.drew _, below_drewN hm _⟩
                      case measure => simp [numOf]; omega
              · simp only [Bool.true_or] at HT
                have HE := (show Hid (true = nt) from HT.out)
                clear HT
                go_wp2
                go_quiet (fail)
                go_wp2
                go_roundw
                case rel => exact ⟨k + 1, nt, by rw [← HE.out], by simp, hkt, HNT, hc.drew _, below_drewN hm _⟩
                case measure => simp [numOf]; omega
            · have hkt' : ¬ (k : Int) < (S.length : Int) := by omega
              have HP : Hid ((!l[i].hk || !inP S l[i].ty l[i].key) = !tb) := by
                show _ = _
                rw [HI.out, List.take_of_length_le (by omega)]
                cases l[i].hk <;> cases inP S l[i].ty l[i].key <;> rfl
              have HN : Hid (goes S (l.take (i + 1)) = !tb) := by
                show _ = _
                have h1 := HG.out
                unfold goes at h1 ⊢
                rw [take_snoc l i hlt, List.any_append, h1]
                simpa using HP.out
              clear HI HP HG
              cases tb
              · have HF : Hid (R = 11) := by
                  show _ = _
                  have h1 : goes S l = true := by
                    have := HN.out
                    unfold goes at this ⊢
                    exact any_take this
                  rw [hR1.out, h1]
                  rfl
                clear HN
                go_wp2
                go_ret
                exact ⟨by rw [HF.out]; rfl, hc.bel⟩
              · go_wp2
                go_roundw
                case rel => exact ⟨i + 1, by simp, hlt, HN, hc, hm⟩
                case measure => simp [numOf]; omega
        · have hlt' : ¬ (i : Int) < (l.length : Int) := by omega
          have hR2 : Hid (R = if leaves e.room l then 12 else if (std tC s0 l).isSome then 0 else 13) := by
            show _ = _
            have h1 := HG.out
            rw [List.take_of_length_le (by omega)] at h1
            rw [hR1.out, h1]
            rfl
          clear HG hR1 HSE
          go_wp2
          go_loopw [11] (fun u w' => ∃ i : Nat, u = .int .i64 (i : Int) ∧ i ≤ l.length ∧ Hid (leaves e.room (l.take i) = false) ∧ Ctx w w' [(N1, 28, C)]) (fun u _ => l.length - numOf u)
          case atStart => exact ⟨0, rfl, Nat.zero_le _, rfl, hc⟩
          case round =>
            clear hc hm hlt hlt' hil
            obtain ⟨i, rfl, hil, HG, hc⟩ := hrel
            by_cases hlt : i < l.length
            · have hlt' : (i : Int) < (l.length : Int) := by omega
              have hwr : IntKind.i64.wrap ((i : Int) + 1) = ((i + 1 : Nat) : Int) := by rw [wrap_small _ (by omega) (by omega)]; omega
              obtain ⟨b, off, E, rfl, hx, hrx⟩ := HEV.out i hlt
              have c2 := ev_cell (hB.trans (hc.bel.mono hB.size)) hrx hx.i2
              have g2 := hc.cell 0 rfl 2 e2
              have HN : Hid (leaves e.room (l.take (i + 1)) = !decide (l[i].room = e.room)) := by
                show _ = _
                have h1 := HG.out
                unfold leaves at h1 ⊢
                rw [take_snoc l i hlt, List.any_append, h1]
                simp
              have HF : Hid (leaves e.room (l.take (i + 1)) = true → R = 12) := fun h => by
                have h1 : leaves e.room l = true := by
                  unfold leaves at h ⊢
                  exact any_take h
                rw [hR2.out, h1]
                rfl
              have qr := beq_bytes l[i].room e.room
              clear hx hrx HG
              generalize l[i].room = xr at *
              generalize decide (xr = e.room) = q at *
              cases q
              · have HE : Hid (R = 12) := HF.out HN.out
                clear HF HN
                go_wp2
                go_quiet (fail)
                go_wp2
                go_ret
                exact ⟨by rw [HE.out]; rfl, (hc.drew _).bel⟩
              · clear HF
                go_wp2
                go_quiet (fail)
                go_wp2
                go_roundw
                case rel => exact ⟨i + 1, by simp, hlt, HN, hc.drew _⟩
                case measure => simp [numOf]; omega
            · have hlt' : ¬ (i : Int) < (l.length : Int) := by omega
              have hR3 : Hid (R = if (std tC s0 l).isSome then 0 else 13) := by
                show _ = _
                have h1 := HG.out
                rw [List.take_of_length_le (by omega)] at h1
                rw [hR2.out, h1]
                rfl
              clear HG hR2
              have kS := HK.out
              clear HK
              generalize (std tC s0 l).isSome = q at *
              generalize stdD l tC s0 = y at *
              cases q
              all_goals
                go_wp2_with (first
                  | (go_at_call 25; refine (kS _ (hB.trans (hc.bel.mono hB.size))).mono ?_; rintro r w3 ⟨X, rfl, hX, hb3⟩; replace hc := hc.call hb3; have x28 := hX.sz; have x1 := hX.one; clear hX hb3 kS)
                  | (refine v_decl rfl rfl 28 rfl (.tmp 12) (.tmp 130) rfl zE X z28 (fun _ => rfl) (fun _ => rfl) (by rw [x28]; rfl) (sz28 x28) x1 hc ?_; intro w4 N4 hc4 _))
                go_ret
                exact ⟨by rw [hR3.out]; rfl, hc4.bel⟩
end Go.Proofs.YthplcnbfpcndbaaGreatDoor
