/- A block of digits that is written; what the reference's Product does: a contract, by walking its text. What the reference's Bytes does: a contract, by walking its text. -/
import Derived.Test.YtgdekigdbbldoaaG15
import Derived.Laws.MakeOwn
namespace Go.Proofs.Ytgdekigdbbldoaa
open Go.RowKit
namespace Dt
open Rg

/-- A block of digits that the call made, and nothing old turned. -/
structure Bk (N : Nat) (w wr : World) (g : Nat) (L : List Nat) : Prop where
  b : Below N w wr
  r : wr.rangeAt g 0 (ic L)
  t : wr.there g 0 L.length
  l : g < wr.heap.size
  n : N ≤ g
theorem Bk.below {N : Nat} {w wr w' : World} {g : Nat} {L : List Nat} (h : Bk N w wr g L) (hb : Below wr.heap.size wr w') : Bk N w w' g L := by
  have h1 := h.l
  have h2 := h.n
  exact ⟨h.b.trans (hb.mono (by omega)), Rg.Below.range hb h.r h1, Fd.there_below hb h.t h1, Nat.lt_of_lt_of_le h1 hb.size, h2⟩
theorem Bk.cell {N : Nat} {w wr : World} {g : Nat} {L : List Nat} (h : Bk N w wr g L) (j : Nat) (hj : j < L.length) : wr.cell? ⟨g, j, none⟩ = some (.int .i64 ((L.getD j 0 : Nat) : Int)) := by
  have := cell_i h.r j hj
  rwa [Nat.zero_add] at this
theorem Bk.free {N : Nat} {w wr : World} {g : Nat} {L : List Nat} (h : Bk N w wr g L) (j : Nat) (hj : j < L.length) : wr.frozen? ⟨g, j, none⟩ = false := by
  have := (h.t j hj).2
  rwa [Nat.zero_add] at this
theorem Bk.set {N : Nat} {w wr : World} {g : Nat} {L : List Nat} (h : Bk N w wr g L) (j x : Nat) (hj : j < L.length) : Bk N w (wr.setCell ⟨g, j, none⟩ (.int .i64 (x : Int))) g (L.set j x) := by
  have hc := h.cell j hj
  refine ⟨h.b.setCell h.n _, fun i v hv => ?_, fun i hi => ?_, by simpa using h.l, h.n⟩
  · have hi : i < L.length := by
      have := (List.getElem?_eq_some_iff.1 hv).1
      rwa [ic_len, List.length_set] at this
    rw [ic_at (by rw [List.length_set]; exact hi), get_set L j x i hj] at hv
    rw [Nat.zero_add]
    by_cases e : i = j
    · subst e
      rw [if_pos rfl] at hv
      rw [World.cell?_setCell_same _ _ _ hc]
      exact hv
    · rw [if_neg e] at hv
      rw [World.cell?_setCell_other _ _ _ _ (fun e2 => e (by cases e2; rfl)), h.cell i hi]
      exact hv
  · rw [List.length_set] at hi
    obtain ⟨h1, h2⟩ := h.t i hi
    refine ⟨?_, by rw [World.frozen?_setCell]; exact h2⟩
    rw [Nat.zero_add]
    by_cases e : i = j
    · subst e
      rw [World.cell?_setCell_same _ _ _ hc]; rfl
    · rw [World.cell?_setCell_other _ _ _ _ (fun e2 => e (by cases e2; rfl)), h.cell i hi]; rfl
theorem Bk.dg {N : Nat} {w wr : World} {g : Nat} {L : List Nat} (h : Bk N w wr g L) : Dg wr (some ⟨g, 0, none⟩) L := .inr ⟨g, 0, rfl, h.l, h.r⟩
theorem ic_zero (n : Nat) : (ic (List.replicate n 0)).toArray = madeCells (Value.int .i64 0).cells (n * 1) := by
  refine Array.ext (by rw [size_madeCells, List.size_toArray, ic_len, List.length_replicate, Nat.mul_one]) fun i h1 h2 => ?_
  simp only [ic, madeCells, List.getElem_toArray, List.getElem_map, List.getElem_replicate, Array.getElem_map]
  have : ∀ k : Nat, (Value.int .i64 0).cells[k % (Value.int .i64 0).cells.size]! = Value.int .i64 0 := fun k => by
    have e : (Value.int .i64 0).cells = #[Value.int .i64 0] := rfl
    rw [e]
    have : k % #[Value.int .i64 0].size = 0 := Nat.mod_one k
    rw [this]
    rfl
  exact (this _).symm
/-- A list of noughts that is made. -/
theorem made (W : World) (n : Nat) (hn : n ≤ 1048576) :
    (Instr.makeSlice 24 (.int .i64 (n : Int)) (.int .i64 (n : Int))).run Try.prog W = .ok (.slice (some ⟨W.heap.size, 0, none⟩) n n) (W.alloc (.cells (ic (List.replicate n 0)).toArray 3)) := by
  obtain ⟨i0, hi, hz0, hz1, hz2⟩ := info_parts info3
  have h := run_make (P := Try.prog) W 24 3 i0 (.int .i64 0) Try.underlying24 hi hz0 .i64 .i64 (n : Int) (n : Int) (by omega) (by omega) (by rw [hz2]; omega) (by omega)
  simp only [Int.toNat_natCast, hz1] at h
  rw [ic_zero]
  exact h
theorem Bk.start (w : World) (L : List Nat) : Bk w.heap.size w (w.alloc (.cells (ic L).toArray 3)) w.heap.size L :=
  ⟨(Below.refl _ _).alloc (Nat.le_refl _) _, range_new _ _ _, there_new w _ 3 fun j hj => by simp [ic, hj], by rw [size_alloc]; omega, Nat.le_refl _⟩
theorem get_rep (n j : Nat) : (List.replicate n 0).getD j 0 = 0 := by
  rw [List.getD_eq_getElem?_getD, List.getElem?_replicate]
  split <;> rfl
theorem ofD_rep (n : Nat) : ofD (List.replicate n 0) = 0 := by
  induction n with
  | zero => rfl
  | succ n ih => rw [List.replicate_succ, ofD_cons, ih]
theorem sm_rep (n : Nat) : Sm (List.replicate n 0) := fun i => by rw [get_rep]; decide

/-! What a product of digits is. -/
structure PrO (a b O : List Nat) (i : Nat) : Prop where
  l : O.length = a.length + b.length
  s : Sm O
  e : ofD O = ofD (a.take i) * ofD b
  z : ∀ j, i + b.length ≤ j → O.getD j 0 = 0
structure PrI (a b O : List Nat) (i k c : Nat) : Prop where
  l : O.length = a.length + b.length
  s : Sm O
  cl : c < 16777216
  e : ofD O + 16777216 ^ (i + k) * c = ofD (a.take i) * ofD b + 16777216 ^ i * (a.getD i 0 * ofD (b.take k))
  z : ∀ j, i + b.length ≤ j → O.getD j 0 = 0
theorem PrO.start (a b : List Nat) : PrO a b (List.replicate (a.length + b.length) 0) 0 :=
  ⟨by simp, sm_rep _, by rw [ofD_rep]; simp [ofD], fun j _ => get_rep _ _⟩
theorem PrO.inner {a b O : List Nat} {i : Nat} (h : PrO a b O i) : PrI a b O i 0 0 := ⟨h.l, h.s, by decide, by simp [h.e, ofD], h.z⟩
theorem tot_lt {o x y c : Nat} (ho : o < 16777216) (hx : x < 16777216) (hy : y < 16777216) (hc : c < 16777216) : o + x * y + c < 281474976710656 := by
  have h1 : x * y ≤ 16777215 * 16777215 := Nat.mul_le_mul (by omega) (by omega)
  omega
theorem PrI.step {a b O : List Nat} {i k c : Nat} (h : PrI a b O i k c) (ha : Sm a) (hb : Sm b) (hi : i < a.length) (hk : k < b.length) :
    PrI a b (O.set (i + k) ((O.getD (i + k) 0 + a.getD i 0 * b.getD k 0 + c) % 16777216)) i (k + 1) ((O.getD (i + k) 0 + a.getD i 0 * b.getD k 0 + c) / 16777216) := by
  have hl : i + k < O.length := by rw [h.l]; omega
  have h1 := tot_lt (h.s (i + k)) (ha i) (hb k) h.cl
  have h2 := ofD_set O (i + k) ((O.getD (i + k) 0 + a.getD i 0 * b.getD k 0 + c) % 16777216) hl
  refine ⟨by rw [List.length_set]; exact h.l, h.s.set (Nat.mod_lt _ (by decide)) hl, by omega, ?_, fun j hj => ?_⟩
  · have e := h.e
    rw [take_step b k, Nat.mul_add, Nat.mul_add]
    have e3 : 16777216 ^ i * (a.getD i 0 * (16777216 ^ k * b.getD k 0)) = 16777216 ^ (i + k) * (a.getD i 0 * b.getD k 0) := by
      rw [Nat.pow_add, Nat.mul_left_comm (a.getD i 0), Nat.mul_assoc]
    rw [e3, show i + (k + 1) = i + k + 1 by omega, pow_s, Nat.mul_comm 16777216, Nat.mul_assoc]
    obtain ⟨P, hP⟩ : ∃ P, 16777216 ^ (i + k) = P := ⟨_, rfl⟩
    obtain ⟨T, hT⟩ : ∃ T, O.getD (i + k) 0 + a.getD i 0 * b.getD k 0 + c = T := ⟨_, rfl⟩
    rw [hT] at h2 ⊢
    rw [hP] at h2 e ⊢
    have e4 : P * (T % 16777216 + 16777216 * (T / 16777216)) = P * (O.getD (i + k) 0 + a.getD i 0 * b.getD k 0 + c) := by rw [hT, Nat.mod_add_div]
    rw [Nat.mul_add, Nat.mul_add, Nat.mul_add] at e4
    omega
  · rw [get_set O _ _ j hl, if_neg (by omega)]
    exact h.z j hj
theorem PrI.outer {a b O : List Nat} {i c : Nat} (h : PrI a b O i b.length c) (hi : i < a.length) : PrO a b (O.set (i + b.length) c) (i + 1) := by
  have hl : i + b.length < O.length := by rw [h.l]; omega
  have h2 := ofD_set O (i + b.length) c hl
  rw [h.z _ (Nat.le_refl _), Nat.mul_zero, Nat.add_zero] at h2
  refine ⟨by rw [List.length_set]; exact h.l, h.s.set h.cl hl, ?_, fun j hj => ?_⟩
  · rw [h2, h.e, take_step a i, List.take_length, Nat.add_mul, Nat.mul_assoc]
  · rw [get_set O _ _ j hl]
    split
    · omega
    · exact h.z j (by omega)

set_option maxHeartbeats 4000000 in
set_option maxRecDepth 4000 in
theorem product_any (A A' : Option Addr) (a b : List Nat) (cap cap' : Nat) (w : World) (hA : Dg w A a) (hB : Dg w A' b) (ha : Sm a) (hb : Sm b) (hlim : a.length + b.length ≤ 65536) :
    Calls Try.prog 93 #[.slice A a.length cap, .slice A' b.length cap'] w fun e w' => ∃ v, e = .returned v ∧ Num w' v (ofD a * ofD b) ∧ Below w.heap.size w w' := by
  have HA : Hid (Dg w A a) := hA
  have HB : Hid (Dg w A' b) := hB
  have HSA : Hid (Sm a) := ha
  have HSB : Hid (Sm b) := hb
  have HST : Hid (PrO a b (List.replicate (a.length + b.length) 0) 0) := PrO.start a b
  obtain ⟨na, hna⟩ : ∃ n, a.length = n := ⟨_, rfl⟩
  obtain ⟨nb, hnb⟩ : ∃ n, b.length = n := ⟨_, rfl⟩
  obtain ⟨nn, hnn⟩ : ∃ n, na + nb = n := ⟨_, rfl⟩
  have HNA : Hid (a.length = na) := hna
  have HNB : Hid (b.length = nb) := hnb
  have HNN : Hid (na + nb = nn) := hnn
  rw [hna, hnb] at hlim HST ⊢
  rw [hnn] at hlim HST
  have hmk := made w nn (by omega)
  have HK0 : Hid (Bk w.heap.size w _ w.heap.size (List.replicate nn 0)) := Bk.start w _
  obtain ⟨M, hM⟩ : ∃ M, (ic (List.replicate nn 0)).toArray = M := ⟨_, rfl⟩
  rw [hM] at hmk HK0
  have e0 : IntKind.i64.wrap ((na : Int) + (nb : Int)) = (nn : Int) := by rw [IntKind.wrap_i64]; omega
  obtain ⟨g, hg⟩ : ∃ g, w.heap.size = g := ⟨_, rfl⟩
  have HG : Hid (w.heap.size = g) := hg
  rw [hg] at hmk HK0
  clear hna hnb hnn hM hA hB ha hb hg
  go_enter Try.func93, Try.ntmps93
  go_wp2
  clear hmk
  go_loopw [6] (fun y wr => ∃ (O : List Nat) (i : Nat), y = .int .i64 (i : Int) ∧ i ≤ na ∧ Hid (PrO a b O i) ∧ Hid (Bk g w wr g O)) (fun y _ => na - numOf y)
  case atStart => exact ⟨_, 0, rfl, Nat.zero_le _, HST, HK0⟩
  case round =>
    obtain ⟨O, i, rfl, hi, HP, HK⟩ := hrel
    clear HK0 HST
    by_cases hc : i < na
    · have h1 : (i : Int) < (na : Int) := by omega
      have h0 : (0 : Int) ≤ (i : Int) := by omega
      have HI : Hid (PrI a b O i 0 0) := HP.out.inner
      obtain ⟨ga, oa, rfl, hga, hra⟩ := HA.out.some (by have := HNA.out; omega)
      have hca := cell_i hra i (by have := HNA.out; omega)
      obtain ⟨xa, hxa⟩ : ∃ d, a.getD i 0 = d := ⟨_, rfl⟩
      have hxl : xa < 16777216 := by rw [← hxa]; exact HSA.out i
      rw [hxa] at hca
      have HCA : Hid (w.cell? ⟨ga, oa + i, none⟩ = some (.int .i64 (xa : Int))) := hca
      have HXA : Hid (a.getD i 0 = xa) := hxa
      have HGA : Hid (ga < w.heap.size) := hga
      clear hca hxa hra hga HP
      go_wp2
      go_loopw [7, 8] (fun u y wr => ∃ (O : List Nat) (k c : Nat), u = .int .i64 (c : Int) ∧ y = .int .i64 (k : Int) ∧ k ≤ nb ∧ Hid (PrI a b O i k c) ∧ Hid (Bk g w wr g O)) (fun _ y _ => nb - numOf y)
      case atStart => exact ⟨O, 0, 0, rfl, rfl, Nat.zero_le _, HI, HK⟩
      case round =>
        clear HI HK
        obtain ⟨O, k, c, rfl, rfl, hk, HP, HK⟩ := hrel
        have hcl := HP.out.cl
        have HOL : Hid (O.length = nn) := by show _ = _; rw [HP.out.l, HNA.out, HNB.out, HNN.out]
        by_cases hcb : k < nb
        · have h2 : (k : Int) < (nb : Int) := by omega
          have h3 : (0 : Int) ≤ (k : Int) := by omega
          obtain ⟨gb, ob, rfl, hgb, hrb⟩ := HB.out.some (by have := HNB.out; omega)
          have hcb2 := cell_i hrb k (by have := HNB.out; omega)
          have hbl := HK.out.b
          have hcb2 := (hbl.cell (p := ⟨gb, ob + k, none⟩) (by rw [← HG.out]; exact hgb)).trans hcb2
          have hca2 := (hbl.cell (p := ⟨ga, oa + i, none⟩) (by rw [← HG.out]; exact HGA.out)).trans HCA.out
          obtain ⟨ik, hik⟩ : ∃ r, i + k = r := ⟨_, rfl⟩
          have hikn : ik < nn := by rw [← HNN.out]; omega
          have hco := HK.out.cell ik (by rw [HOL.out]; exact hikn)
          have hfo := HK.out.free ik (by rw [HOL.out]; exact hikn)
          have HN := (show Hid (PrI a b _ i (k + 1) _) from HP.out.step HSA.out HSB.out (by rw [HNA.out]; exact hc) (by rw [HNB.out]; exact hcb))
          have htl := tot_lt (HP.out.s ik) hxl (HSB.out k) hcl
          rw [hik, HXA.out] at HN
          obtain ⟨xb, hxb⟩ : ∃ d, b.getD k 0 = d := ⟨_, rfl⟩
          obtain ⟨xo, hxo⟩ : ∃ d, O.getD ik 0 = d := ⟨_, rfl⟩
          rw [hxb] at hcb2 HN htl
          rw [hxo] at hco HN htl
          obtain ⟨PP, hPP⟩ : ∃ d, xa * xb = d := ⟨_, rfl⟩
          obtain ⟨S, hS⟩ : ∃ d, xo + PP = d := ⟨_, rfl⟩
          obtain ⟨T, hT⟩ : ∃ d, S + c = d := ⟨_, rfl⟩
          rw [hPP, hS, hT] at HN htl
          obtain ⟨r, hr⟩ : ∃ r, T % 16777216 = r := ⟨_, rfl⟩
          obtain ⟨c', hc'⟩ : ∃ r, T / 16777216 = r := ⟨_, rfl⟩
          obtain ⟨k', hk'⟩ : ∃ r, k + 1 = r := ⟨_, rfl⟩
          rw [hr, hc', hk'] at HN
          have f0 : IntKind.i64.wrap ((i : Int) + (k : Int)) = (ik : Int) := by rw [IntKind.wrap_i64]; omega
          have f1 : IntKind.i64.wrap ((xa : Int) * (xb : Int)) = (PP : Int) := by
            have : (xa : Int) * (xb : Int) = (PP : Int) := by rw [← hPP]; norm_cast
            rw [this, IntKind.wrap_i64]; omega
          have f2 : IntKind.i64.wrap ((xo : Int) + (PP : Int)) = (S : Int) := by rw [IntKind.wrap_i64]; omega
          have f3 : IntKind.i64.wrap ((S : Int) + (c : Int)) = (T : Int) := by rw [IntKind.wrap_i64]; omega
          have hT0 : (0 : Int) ≤ (T : Int) := by omega
          have f4 : Int.tmod (T : Int) 16777216 = (r : Int) := by rw [Int.tmod_eq_emod_of_nonneg hT0]; omega
          have f5 : Int.tdiv (T : Int) 16777216 = (c' : Int) := by rw [Int.tdiv_eq_ediv_of_nonneg hT0]; omega
          have f6 : IntKind.i64.wrap (r : Int) = (r : Int) := by rw [IntKind.wrap_i64]; omega
          have f7 : IntKind.i64.wrap (c' : Int) = (c' : Int) := by rw [IntKind.wrap_i64]; omega
          have f8 : IntKind.i64.wrap ((k : Int) + 1) = (k' : Int) := by rw [IntKind.wrap_i64]; omega
          have g1 : (ik : Int) < (nn : Int) := by omega
          have g0 : (0 : Int) ≤ (ik : Int) := by omega
          have HMs : Hid (nb - k' < nb - k ∧ k' ≤ nb) := by show _ ∧ _; omega
          have HIL : Hid (ik < O.length) := by show _ < _; rw [HOL.out]; exact hikn
          clear hxb hxo hPP hS hT hr hc' hk' hT0 htl hik hikn hrb hgb hbl HP hcb HOL
          go_wp2
          go_quiet (fail)
          obtain ⟨w2, hw2⟩ : ∃ v, wr.drewN nq = v := ⟨_, rfl⟩
          have hco2 : w2.cell? ⟨g, ik, none⟩ = some (.int .i64 (xo : Int)) := by rw [← hw2]; exact hco
          have hfo2 : w2.frozen? ⟨g, ik, none⟩ = false := by rw [← hw2]; exact hfo
          have HK2 : Hid (Bk g w w2 g O) := by show Bk _ _ _ _ _; rw [← hw2]; exact HK.out.below (below_drewN (Below.refl _ _) _)
          rw [hw2]
          clear hw2 HK hco hfo hca2 hcb2
          go_wp2
          go_roundw
          case rel => exact ⟨_, k', c', rfl, rfl, HMs.out.2, HN, HK2.out.set ik r HIL.out⟩
          case measure => simp only [numOf, Int.toNat_natCast]; exact HMs.out.1
        · have hkb : k = nb := by omega
          subst hkb
          have h2 : ¬ (k : Int) < (k : Int) := by omega
          have HO2 : Hid (PrO a b (O.set (i + k) c) (i + 1)) := by
            have := (show PrI a b O i b.length c by rw [HNB.out]; exact HP.out).outer (by rw [HNA.out]; exact hc)
            rwa [HNB.out] at this
          obtain ⟨ik, hik⟩ : ∃ r, i + k = r := ⟨_, rfl⟩
          obtain ⟨i', hi'⟩ : ∃ r, i + 1 = r := ⟨_, rfl⟩
          rw [hik, hi'] at HO2
          have hikn : ik < nn := by rw [← HNN.out]; omega
          have hco := HK.out.cell ik (by rw [HOL.out]; exact hikn)
          have hfo := HK.out.free ik (by rw [HOL.out]; exact hikn)
          have f0 : IntKind.i64.wrap ((i : Int) + (k : Int)) = (ik : Int) := by rw [IntKind.wrap_i64]; omega
          have f8 : IntKind.i64.wrap ((i : Int) + 1) = (i' : Int) := by rw [IntKind.wrap_i64]; omega
          have g1 : (ik : Int) < (nn : Int) := by omega
          have g0 : (0 : Int) ≤ (ik : Int) := by omega
          have HMs : Hid (na - i' < na - i ∧ i' ≤ na) := by show _ ∧ _; omega
          have HIL : Hid (ik < O.length) := by show _ < _; rw [HOL.out]; exact hikn
          clear hik hi' hikn HP HOL hcb
          go_wp2
          go_roundw
          case rel => exact ⟨_, i', rfl, HMs.out.2, HO2, HK.out.set ik c HIL.out⟩
          case measure => simp only [numOf, Int.toNat_natCast]; exact HMs.out.1
    · have hin : i = na := by omega
      have h1 : ¬ (i : Int) < (na : Int) := by omega
      have HOL : Hid (O.length = nn) := by show _ = _; rw [HP.out.l, HNA.out, HNB.out, HNN.out]
      have HE : Hid (ofD O = ofD a * ofD b) := by
        have := HP.out.e
        rw [hin, ← HNA.out, List.take_length] at this
        exact this
      have HSM : Hid (Sm O) := HP.out.s
      have q3 := cut_any (some ⟨g, 0, none⟩) O nn wr (by rw [HOL.out]; exact Nat.le_refl _) (by rw [HOL.out]; omega) HK.out.dg
      rw [HOL.out] at q3
      clear hin hc
      go_wp2_with (go_at_call 92; refine q3.mono ?_; rintro e w2 ⟨⟨A2, n2, rfl, hq1, hq2, hq3, hq4⟩, hw2⟩; subst w2)
      go_ret
      have hl : (O.take n2).length = n2 := by rw [List.length_take, HOL.out]; omega
      refine ⟨_, rfl, ⟨A2, O.take n2, nn, by rw [hl]; rfl, by rw [hl]; exact hq1, hq4, ?_⟩, by rw [HG.out]; exact HK.out.b⟩
      rw [← HE.out]
      exact cut_is HSM.out (by rw [HOL.out]; exact hq1) hq2 hq3
end Dt
end Go.Proofs.Ytgdekigdbbldoaa

namespace Go.Proofs.Ytgdekigdbbldoaa
open Go.RowKit
namespace Dt
open Rg Go.Proofs.Ytgdekigdbbldoaa.Fd

theorem by_digit (x i : Nat) : x / 16777216 ^ (i / 3) % 16777216 / 256 ^ (i % 3) % 256 = by_ x i := by
  have h1 : x / 2 ^ (8 * i) = x / 16777216 ^ (i / 3) / 2 ^ (8 * (i % 3)) := by
    rw [show (16777216 : Nat) = 2 ^ 24 from rfl, ← Nat.pow_mul, Nat.div_div_eq_div_mul, ← Nat.pow_add]
    congr 2
    omega
  unfold by_
  rw [h1]
  generalize x / 16777216 ^ (i / 3) = y
  have h2 : i % 3 = 0 ∨ i % 3 = 1 ∨ i % 3 = 2 := by omega
  rcases h2 with h2 | h2 | h2 <;> rw [h2]
  · show y % 16777216 / 1 % 256 = y / 1 % 256
    omega
  · show y % 16777216 / 256 % 256 = y / 256 % 256
    omega
  · show y % 16777216 / 65536 % 256 = y / 65536 % 256
    omega
/-- The answer's box, and the bytes so far. -/
structure B2 (w wr : World) (n : Nat) (M : Nat → Nat) : Prop where
  b : Below n w wr
  u : wr.there n 0 32
  c : ∀ j, j < 32 → wr.cell? ⟨n + 1, j, none⟩ = some (.int .u8 ((M j : Nat) : Int))
  t : wr.there (n + 1) 0 32
  l : n + 1 < wr.heap.size
theorem B2.start (w : World) (Z : Array Value) (hZ : ∀ j, j < 32 → Z[j]? = some (.int .u8 0)) : B2 w ((w.alloc (.cells Z 22)).alloc (.cells Z 22)) w.heap.size (fun _ => 0) := by
  have e1 : (w.alloc (.cells Z 22)).heap.size = w.heap.size + 1 := size_alloc _ _
  refine ⟨((Below.refl _ _).alloc (Nat.le_refl _) _).alloc (by simp) _, World.there_alloc (there_new w Z 22 (m := 32) fun j hj => by rw [hZ j hj]; rfl) _, fun j hj => ?_, ?_, by rw [size_alloc, size_alloc]; omega⟩
  · have h2 := cell_new (w.alloc (.cells Z 22)) Z 22 (i := j) (hZ j hj)
    rw [e1] at h2
    rw [h2]
    rfl
  · have h2 := there_new (w.alloc (.cells Z 22)) Z 22 (m := 32) fun j hj => by rw [hZ j hj]; rfl
    rw [e1] at h2
    exact h2
def upTo (x k : Nat) : Nat → Nat := fun j => if j < k then by_ x j else 0
theorem B2.set {w wr : World} {n x i : Nat} (h : B2 w wr n (upTo x i)) (hi : i < 32) : B2 w (wr.setCell ⟨n + 1, i, none⟩ (.int .u8 ((by_ x i : Nat) : Int))) n (upTo x (i + 1)) := by
  have hc := h.c i hi
  have ho : ∀ (b o : Nat), (b, o) ≠ (n + 1, i) → (wr.setCell ⟨n + 1, i, none⟩ (.int .u8 ((by_ x i : Nat) : Int))).cell? ⟨b, o, none⟩ = wr.cell? ⟨b, o, none⟩ := fun b o hb => World.cell?_setCell_other _ _ _ _ (fun e => hb (by cases e; rfl))
  refine ⟨h.b.setCell (by simp) _, fun j hj => ?_, fun j hj => ?_, fun j hj => ?_, by simpa using h.l⟩
  · obtain ⟨h1, h2⟩ := h.u j hj
    exact ⟨by rw [ho _ _ (by simp)]; exact h1, by rw [World.frozen?_setCell]; exact h2⟩
  · unfold upTo
    by_cases e : j = i
    · subst e
      rw [World.cell?_setCell_same _ _ _ hc, if_pos (by omega)]
    · rw [ho _ _ (by simpa using e), h.c j hj]
      unfold upTo
      congr 3
      by_cases h2 : j < i
      · rw [if_pos h2, if_pos (by omega)]
      · rw [if_neg h2, if_neg (by omega)]
  · obtain ⟨h1, h2⟩ := h.t j hj
    refine ⟨?_, by rw [World.frozen?_setCell]; exact h2⟩
    rw [Nat.zero_add]
    by_cases e : j = i
    · subst e
      rw [World.cell?_setCell_same _ _ _ hc]; rfl
    · rw [ho _ _ (by simpa using e), h.c j hj]; rfl
theorem B2.all {w wr : World} {n x : Nat} (h : B2 w wr n (upTo x 32)) : wr.rangeAt (n + 1) 0 (bvc x) := fun j v hv => by
  rw [Nat.zero_add]
  have hj : j < 32 := by
    have := (List.getElem?_eq_some_iff.1 hv).1
    rwa [bvc_len] at this
  rw [bvc_at x j hj] at hv
  rw [h.c j hj, ← hv]
  unfold upTo
  rw [if_pos hj]

set_option maxHeartbeats 4000000 in
set_option maxRecDepth 4000 in
theorem bytes_any (A : Option Addr) (a : List Nat) (cap x : Nat) (w : World) (hA : Dg w A a) (ha : IsD a x) :
    Calls Try.prog 16 #[.slice A a.length cap] w fun e w' => e = .returned (bv x) ∧ Below w.heap.size w w' := by
  have c1 : ∀ (k : Nat) (W : World), Below w.heap.size w W → Calls Try.prog 62 #[.slice A a.length cap, .int .i64 (k : Int)] W fun e w' => e = .returned (.int .i64 ((a.getD k 0 : Nat) : Int)) ∧ w' = W := fun k W hW => digit_any A a cap k W (hA.below hW)
  have HD : Hid (∀ i, a.getD (i / 3) 0 / 256 ^ (i % 3) % 256 = by_ x i) := fun i => by rw [ha.pos, by_digit]
  have HSM : Hid (∀ k, a.getD k 0 < 16777216) := ha.s
  have hS := B2.start w (Array.replicate 32 (.int .u8 0)) (fun j hj => by simp [hj])
  obtain ⟨n, hn⟩ : ∃ n, w.heap.size = n := ⟨_, rfl⟩
  rw [hn] at hS c1
  have h0 : (fun _ => 0) = upTo x 0 := by funext j; unfold upTo; simp
  rw [h0] at hS
  have HS : Hid (B2 w _ n (upTo x 0)) := hS
  have HBN : Hid (∀ j, by_ x j < 256) := by_lt x
  unfold bv
  have H32 : Hid ((bvc x).toArray.all (·.oneCell') = true) := one32 x
  have HLN : Hid ((bvc x).length = 32) := bvc_len x
  obtain ⟨R, hR⟩ : ∃ R, bvc x = R := ⟨_, rfl⟩
  have HRR : Hid (bvc x = R) := hR
  rw [hR] at H32 HLN ⊢
  obtain ⟨na, hna⟩ : ∃ m, a.length = m := ⟨_, rfl⟩
  rw [hna] at c1 ⊢
  clear h0 hS hR hA ha hna
  go_enter Try.func16, Try.ntmps16
  go_wp2
  go_loopw [4] (fun y wr => ∃ i : Nat, y = .int .i64 (i : Int) ∧ i ≤ 32 ∧ Hid (B2 w wr n (upTo x i))) (fun y _ => 32 - numOf y)
  case atStart => exact ⟨0, rfl, Nat.zero_le _, HS.out⟩
  case round =>
    clear HS
    obtain ⟨i, rfl, hi, HR⟩ := hrel
    by_cases hlt : i < 32
    · have hlt' : (i : Int) < 32 := by omega
      have hlt0 : (0 : Int) ≤ (i : Int) := by omega
      obtain ⟨q, hq⟩ : ∃ q, i / 3 = q := ⟨_, rfl⟩
      obtain ⟨r, hr⟩ : ∃ q, i % 3 = q := ⟨_, rfl⟩
      have e1 : Int.tdiv (i : Int) 3 = (q : Int) := by rw [Int.tdiv_eq_ediv_of_nonneg hlt0]; omega
      have e2 : Int.tmod (i : Int) 3 = (r : Int) := by rw [Int.tmod_eq_emod_of_nonneg hlt0]; omega
      have e3 : IntKind.i64.wrap (q : Int) = (q : Int) := by rw [IntKind.wrap_i64]; omega
      have e4 : IntKind.i64.wrap (r : Int) = (r : Int) := by rw [IntKind.wrap_i64]; omega
      have q1 := c1 q wr (by rw [← hn]; exact hn ▸ HR.out.b)
      have hd := HD.out i
      have hsm := HSM.out q
      rw [hq, hr] at hd
      obtain ⟨D, hD⟩ : ∃ D, a.getD q 0 = D := ⟨_, rfl⟩
      rw [hD] at q1 hd hsm
      have HDD : Hid (D / 256 ^ r % 256 = by_ x i) := hd
      have hr3 : r < 3 := by omega
      clear hq hr hD hd
      go_wp2_with (go_at_call 62; refine q1.mono ?_; rintro e w1 ⟨rfl, hw1⟩; subst w1)
      clear q1
      go_loopw [5, 6] (fun u y wr2 => ∃ k d : Nat, u = .int .i64 (d : Int) ∧ y = .int .i64 (k : Int) ∧ k ≤ r ∧ Hid (D / 256 ^ k = d) ∧ wr2 = wr) (fun _ y _ => r - numOf y)
      case atStart => exact ⟨0, D, rfl, rfl, Nat.zero_le _, by show _ = _; rw [Nat.pow_zero, Nat.div_one], rfl⟩
      case round =>
        obtain ⟨k, d, rfl, rfl, hk, HE, hw2⟩ := hrel
        replace hw2 := hw2.symm
        subst hw2
        have hd0 : d ≤ D := by rw [← HE.out]; exact Nat.div_le_self _ _
        by_cases hkr : k < r
        · have h1 : (k : Int) < (r : Int) := by omega
          obtain ⟨d', hd'⟩ : ∃ q, d / 256 = q := ⟨_, rfl⟩
          obtain ⟨k', hk'⟩ : ∃ q, k + 1 = q := ⟨_, rfl⟩
          have f1 : Int.tdiv (d : Int) 256 = (d' : Int) := by rw [Int.tdiv_eq_ediv_of_nonneg (by omega)]; omega
          have f2 : IntKind.i64.wrap (d' : Int) = (d' : Int) := by rw [IntKind.wrap_i64]; omega
          have f3 : IntKind.i64.wrap ((k : Int) + 1) = (k' : Int) := by rw [IntKind.wrap_i64]; omega
          have HE2 : Hid (D / 256 ^ k' = d') := by show _ = _; rw [← hk', Nat.pow_succ, ← Nat.div_div_eq_div_mul, HE.out, hd']
          have HMs : Hid (k' ≤ r ∧ r - k' < r - k) := by show _ ∧ _; omega
          clear hd' hk' HE hd0
          go_wp2
          go_roundw
          case rel => exact ⟨k', d', rfl, rfl, HMs.out.1, HE2, trivial⟩
          case measure => simp only [numOf, Int.toNat_natCast]; exact HMs.out.2
        · have hkk : k = r := by omega
          have h1 : ¬ (k : Int) < (r : Int) := by omega
          obtain ⟨y, hy⟩ : ∃ y, by_ x i = y := ⟨_, rfl⟩
          have hyd : d % 256 = y := by rw [← hy, ← HDD.out, ← hkk, HE.out]
          have hyl := HBN.out i
          rw [hy] at hyl
          have f1 : Int.tmod (d : Int) 256 = (y : Int) := by rw [Int.tmod_eq_emod_of_nonneg (by omega)]; omega
          have f2 : IntKind.i64.wrap (y : Int) = (y : Int) := by rw [IntKind.wrap_i64]; omega
          have f4 : IntKind.u8.wrap (y : Int) = (y : Int) := by rw [IntKind.wrap_u8]; omega
          obtain ⟨i', hi'⟩ : ∃ q, i + 1 = q := ⟨_, rfl⟩
          have f3 : IntKind.i64.wrap ((i : Int) + 1) = (i' : Int) := by rw [IntKind.wrap_i64]; omega
          have HN : Hid (B2 w (wr.setCell ⟨n + 1, i, none⟩ (.int .u8 (y : Int))) n (upTo x i')) := by
            show B2 _ _ _ _
            rw [← hi', ← hy]
            exact HR.out.set hlt
          have hco := HR.out.c i hlt
          have hfo := (HR.out.t i hlt).2
          rw [Nat.zero_add] at hfo
          have HMs : Hid (i' ≤ 32 ∧ 32 - i' < 32 - i) := by show _ ∧ _; omega
          clear hkk hy hyd hyl hi' HE hd0 hlt hkr
          go_wp2
          go_roundw
          case rel => exact ⟨i', rfl, HMs.out.1, HN⟩
          case measure => simp only [numOf, Int.toNat_natCast]; exact HMs.out.2
    · have hk4 : i = 32 := by omega
      subst hk4
      have hlt' : ¬ ((32 : Nat) : Int) < 32 := by omega
      have hA := HR.out.all
      rw [HRR.out] at hA
      have HA : Hid (wr.rangeAt (n + 1) 0 R) := hA
      have HT : Hid (wr.there n 0 R.length) := by show wr.there _ _ _; rw [HLN.out]; exact HR.out.u
      have HBB : Hid (Below n w wr) := HR.out.b
      have HI : Hid ((Try.prog.info? 22).map (·.size) = some R.length) := by show _ = _; rw [HLN.out]; exact info22
      have HI2 : Hid ((Try.prog.info? 22).map (·.size) = some R.toArray.size) := by show _ = _; rw [List.size_toArray, HLN.out]; exact info22
      clear hA HR HRR HLN HD c1
      go_wp2_with (first
        | (refine wpList_load_mid rfl 22 (.tmp 3) rfl (n + 1) 0 rfl R _ HA.out Try.underlying22 rfl HI.out ?_)
        | (refine wpList_store_mid rfl 22 (.tmp 2) (.tmp 28) rfl n 0 R.toArray rfl rfl HT.out HI2.out H32.out ?_; simp only))
      exact bodyPost_ret (results_cell Try.results16 rfl (run_loadVar_mid (P := Try.prog) _ n 0 22 R _ (World.rangeAt_setCells_same _ _ _ _ HT.out) Try.underlying22 rfl HI.out)) rfl ⟨rfl, by first | exact below_setCells HBB.out (by omega) | (rw [hn]; exact below_setCells HBB.out (by omega))⟩
end Dt
end Go.Proofs.Ytgdekigdbbldoaa
