/- What manyOf does: a contract, by walking its text. What Low, MulAdd and Scalar do: contracts, by walking their texts. -/
import Derived.Test.YtgdekigdbbldoaaG33
import Derived.Test.YtgdekigdbbldoaaG17
import Derived.Test.YtgdekigdbbldoaaG19
import Derived.Test.YtgdekigdbbldoaaG29
import Derived.Test.YtgdekigdbbldoaaG18
namespace Go.Proofs.Ytgdekigdbbldoaa
open Go.RowKit
namespace Fd
open Rg

/-- What lies where: the number that is taken, and the answer so far. -/
structure MoAt (w wr : World) (n : Nat) (A cs : List Value) : Prop where
  b : Below n w wr
  ra : wr.rangeAt n 0 A
  rn : wr.rangeAt (n + 1) 0 cs
  tn : wr.there (n + 1) 0 4
  l : n + 1 < wr.heap.size
theorem MoAt.below {w wr w' : World} {n : Nat} {A cs : List Value} (h : MoAt w wr n A cs) (hb : Below wr.heap.size wr w') : MoAt w w' n A cs := by
  have hl := h.l
  exact ⟨h.b.trans (hb.mono (by omega)), Rg.Below.range hb h.ra (by omega), Rg.Below.range hb h.rn hl, there_below hb h.tn hl, Nat.lt_of_lt_of_le hl hb.size⟩
theorem MoAt.set {w wr : World} {n : Nat} {A cs : List Value} (h : MoAt w wr n A cs) (ds : List Value) (hd : ds.length = 4) : MoAt w (wr.setCells (n + 1) 0 ds) n A ds :=
  ⟨below_setCells h.b (by omega), fun j v hv => (cell_setCells_other (by omega) _ _ _).trans (h.ra j v hv), World.rangeAt_setCells_same _ _ _ _ (by rw [hd]; exact h.tn), World.there_setCells h.tn _ _ _, by rw [size_setCells]; exact h.l⟩
theorem MoAt.start (w : World) (A : List Value) : MoAt w ((w.alloc (.cells A.toArray 91)).alloc (.cells (w4 0 0 0 0).toArray 91)) w.heap.size A (w4 0 0 0 0) := by
  have e1 : (w.alloc (.cells A.toArray 91)).heap.size = w.heap.size + 1 := size_alloc _ _
  have h2 := there_new (w.alloc (.cells A.toArray 91)) (w4 0 0 0 0).toArray 91 (m := 4) fun j hj => by simp [w4, hj]
  rw [e1] at h2
  exact ⟨((Below.refl _ _).alloc (Nat.le_refl _) _).alloc (by simp) _, World.rangeAt_alloc (range_new _ _ _) _, range_new1 _ _ _ _, h2, by rw [size_alloc, e1]; omega⟩
/-- As many times as the bits above tell. -/
def mo (a e j : Nat) : Nat := e / 2 ^ j * a % ell
theorem mo_lt (a e j : Nat) : mo a e j < ell := Nat.mod_lt _ (by decide)
theorem mo_step (a e j : Nat) : (e / 2 ^ j % 2 = 1 → mo a e j = ((mo a e (j + 1) + mo a e (j + 1)) % ell + a) % ell) ∧ (¬ e / 2 ^ j % 2 = 1 → mo a e j = (mo a e (j + 1) + mo a e (j + 1)) % ell) := by
  have h1 : e / 2 ^ (j + 1) = e / 2 ^ j / 2 := by rw [Nat.pow_succ, Nat.div_div_eq_div_mul]
  unfold mo
  rw [h1]
  obtain ⟨y, hy⟩ : ∃ y, e / 2 ^ j = y := ⟨_, rfl⟩
  rw [hy]
  have h2 : (y / 2 * a % ell + y / 2 * a % ell) % ell = (y / 2 + y / 2) * a % ell := by rw [← Nat.add_mod, Nat.add_mul]
  rw [h2]
  refine ⟨fun h => ?_, fun h => ?_⟩
  · rw [Nat.mod_add_mod]
    congr 1
    have e3 : y = y / 2 + y / 2 + 1 := by omega
    conv => lhs; rw [e3]
    rw [Nat.add_mul _ 1, Nat.one_mul]
  · rw [show y / 2 + y / 2 = y by omega]
theorem and1b (x : Nat) (h : x < 256) : bits .and .u8 (x : Int) 1 = ((x % 2 : Nat) : Int) := by
  have e1 := Nat.and_two_pow_sub_one_eq_mod x 1
  have e0 : 2 ^ 1 - 1 = 1 := by decide
  rw [e0] at e1
  have e2 : x % 2 ^ 1 = x % 2 := rfl
  rw [← e2, ← e1]
  exact u8_and_nat x 1 h (by decide)
theorem by_bit (e j : Nat) : by_ e (j / 8) / 2 ^ (j % 8) % 2 = e / 2 ^ j % 2 := by
  unfold by_
  have h1 := Nat.testBit_mod_two_pow (e / 2 ^ (8 * (j / 8))) 8 (j % 8)
  rw [Nat.testBit_div_two_pow] at h1
  simp only [Nat.mod_lt j (show 0 < 8 by decide), decide_true, Bool.true_and] at h1
  rw [Nat.testBit_eq_decide_div_mod_eq, Nat.testBit_eq_decide_div_mod_eq] at h1
  have h5 := decide_eq_decide.1 h1
  rw [show j % 8 + 8 * (j / 8) = j by omega] at h5
  have e8 : (2 : Nat) ^ 8 = 256 := rfl
  rw [e8] at h5
  omega
theorem db_cell {w wr : World} {A : Option Addr} {L : List Nat} (h : Dt.Db w A L) (hb : Below w.heap.size w wr) (hne : 0 < L.length) : ∃ g o, A = some ⟨g, o, none⟩ ∧ g < w.heap.size ∧ ∀ j, j < L.length → wr.cell? ⟨g, o + j, none⟩ = some (.int .u8 ((L.getD j 0 : Nat) : Int)) := by
  rcases h with rfl | ⟨g, o, rfl, hg, hr⟩
  · simp at hne
  · refine ⟨g, o, rfl, hg, fun j hj => (hb.cell (p := ⟨g, o + j, none⟩) hg).trans (hr j _ ?_)⟩
    unfold Dt.bc
    rw [List.getElem?_map, List.getElem?_eq_getElem hj]
    simp [List.getD_eq_getElem?_getD, List.getElem?_eq_getElem hj]

set_option maxHeartbeats 2000000 in
set_option maxRecDepth 4000 in
theorem manyOf_any (A : Option Addr) (L : List Nat) (cap a : Nat) (w : World) (hA : Dt.Db w A L) (hL : ∀ b ∈ L, b < 256) (hlim : L.length ≤ 65536) (ha : a < ell) :
    Calls Try.prog 88 #[.slice A L.length cap, nv a] w fun e w' => e = .returned (nv (Dt.ofB L * a % ell)) ∧ Below w.heap.size w w' := by
  obtain ⟨e, he⟩ : ∃ e, Dt.ofB L = e := ⟨_, rfl⟩
  have hend : mo a e 0 = e * a % ell := by unfold mo; rw [Nat.pow_zero, Nat.div_one]
  have hbeg : mo a e (8 * L.length) = 0 := by
    unfold mo
    rw [Nat.div_eq_of_lt, Nat.zero_mul, Nat.zero_mod]
    rw [← he, show 2 ^ (8 * L.length) = 256 ^ L.length by rw [Nat.pow_mul]]
    exact Wit.ofB_lt L hL
  have hby : ∀ j, by_ e j = L.getD j 0 := by rw [← he]; exact Wit.by_ofB L hL
  have hll : ∀ j, L.getD j 0 < 256 := fun j => by rw [← hby]; exact Nat.mod_lt _ (by decide)
  rw [he, ← hend]
  have HA : Hid (Dt.Db w A L) := hA
  have HBY : Hid (∀ j, by_ e j = L.getD j 0) := hby
  have HLL : Hid (∀ j, L.getD j 0 < 256) := hll
  have Ha : Hid (a < ell) := ha
  have HBG : Hid (nv (mo a e (8 * L.length)) = .agg (w4 0 0 0 0).toArray) := by show _ = _; rw [hbeg]; rfl
  obtain ⟨m, hm⟩ : ∃ m, L.length = m := ⟨_, rfl⟩
  have HM : Hid (L.length = m) := hm
  rw [hm] at HBG hlim ⊢
  obtain ⟨n, hn⟩ : ∃ n, w.heap.size = n := ⟨_, rfl⟩
  have HN : Hid (w.heap.size = n) := hn
  have hS := MoAt.start w (w4 (l0 a) (l1 a) (l2 a) (l3 a))
  rw [hn] at hS
  have HS : Hid (MoAt w _ n (w4 (l0 a) (l1 a) (l2 a) (l3 a)) (w4 0 0 0 0)) := hS
  have HAV : Hid (nv a = .agg (w4 (l0 a) (l1 a) (l2 a) (l3 a)).toArray) := nv_w4 a
  rw [nv_w4 a]
  obtain ⟨a0, ha0⟩ : ∃ x, l0 a = x := ⟨_, rfl⟩
  obtain ⟨a1, ha1⟩ : ∃ x, l1 a = x := ⟨_, rfl⟩
  obtain ⟨a2, ha2⟩ : ∃ x, l2 a = x := ⟨_, rfl⟩
  obtain ⟨a3, ha3⟩ : ∃ x, l3 a = x := ⟨_, rfl⟩
  rw [ha0, ha1, ha2, ha3] at HS HAV ⊢
  obtain ⟨R, hR⟩ : ∃ R, nv (mo a e 0) = R := ⟨_, rfl⟩
  have HRR : Hid (nv (mo a e 0) = R) := hR
  rw [hR]
  clear hS hR hend hbeg hby hll hA hL ha ha0 ha1 ha2 ha3 he hm
  have hlim' : (m : Int) ≤ 65536 := by omega
  unfold w4
  go_enter Try.func88, Try.ntmps88
  go_wp2
  go_loopw [5] (fun y wr => ∃ k c0 c1 c2 c3 : Nat, y = .int .i64 ((k : Int) - 1) ∧ k ≤ 8 * m ∧ Hid (nv (mo a e k) = .agg (w4 c0 c1 c2 c3).toArray) ∧ Hid (MoAt w wr n (w4 a0 a1 a2 a3) (w4 c0 c1 c2 c3))) (fun y _ => numOf1 y)
  case atStart => exact ⟨8 * m, 0, 0, 0, 0, by congr 1, Nat.le_refl _, HBG.out, HS.out⟩
  case round =>
    clear HS HBG
    obtain ⟨k, c0, c1, c2, c3, rfl, hk, HC, HW⟩ := hrel
    cases k with
    | zero =>
      have z1 : ((0 : Nat) : Int) - 1 = -1 := rfl
      rw [z1]
      have HRX := HRR
      rw [HC.out] at HRX
      clear HC HA HBY HLL Ha HAV HRR
      go_wp2_with (first
        | (refine wpList_load_mid rfl 91 (.tmp 4) rfl (n + 1) 0 rfl (w4 c0 c1 c2 c3) _ HW.out.rn Try.underlying91 rfl info91 ?_; simp only [w4])
        | (refine wpList_store_mid rfl 91 (.tmp 4) (.tmp 30) rfl (n + 1) 0 (w4 c0 c1 c2 c3).toArray rfl rfl HW.out.tn info91 (one4 _ _ _ _) ?_; simp only))
      exact bodyPost_ret (results_cell Try.results88 rfl (run_loadVar_mid (P := Try.prog) _ (n + 1) 0 91 (w4 c0 c1 c2 c3) _ (World.rangeAt_setCells_same _ _ _ _ HW.out.tn) Try.underlying91 rfl info91)) rfl ⟨by rw [← HRX.out], by rw [HN.out]; exact below_setCells HW.out.b (by omega)⟩
    | succ j =>
      have z1 : ((j + 1 : Nat) : Int) - 1 = (j : Int) := by omega
      rw [z1]
      have z2 : (0 : Int) ≤ (j : Int) := by omega
      have hbt := by_bit e j
      obtain ⟨q, hq⟩ : ∃ q, j / 8 = q := ⟨_, rfl⟩
      obtain ⟨s, hs⟩ : ∃ s, j % 8 = s := ⟨_, rfl⟩
      rw [hq, hs] at hbt
      have z3 : Int.tdiv (j : Int) 8 = (q : Int) := by rw [Int.tdiv_eq_ediv_of_nonneg z2]; omega
      have z4 : Int.tmod (j : Int) 8 = (s : Int) := by rw [Int.tmod_eq_emod_of_nonneg z2]; omega
      have hqm : q < m := by omega
      have z5 : (q : Int) < (m : Int) := by omega
      have z6 : (s : Int) < 8 := by omega
      have z7 : IntKind.i64.wrap ((j : Int) - 1) = (j : Int) - 1 := by rw [IntKind.wrap_i64]; omega
      have z8 : IntKind.i64.wrap (q : Int) = (q : Int) := by rw [IntKind.wrap_i64]; omega
      have z9 : IntKind.i64.wrap (s : Int) = (s : Int) := by rw [IntKind.wrap_i64]; omega
      have hbW : Below w.heap.size w wr := by rw [HN.out]; exact HW.out.b
      obtain ⟨g, o, rfl, hg, hcell⟩ := db_cell HA.out hbW (by rw [HM.out]; omega)
      rw [HN.out] at hg
      have hlu := HLL.out q
      rw [HBY.out q] at hbt
      have HCE : Hid (∀ w5, Below n w w5 → w5.cell? ⟨g, o + q, none⟩ = some (.int .u8 ((L.getD q 0 : Nat) : Int))) := fun w5 h5 => by
        have h := db_cell HA.out (wr := w5) (by rw [HN.out]; exact h5) (by rw [HM.out]; omega)
        obtain ⟨g', o', he', _, hc'⟩ := h
        cases he'
        exact hc' q (by rw [HM.out]; exact hqm)
      obtain ⟨u, hu⟩ : ∃ u, L.getD q 0 = u := ⟨_, rfl⟩
      rw [hu] at hbt hlu HCE
      obtain ⟨t, ht⟩ : ∃ t, u / 2 ^ s = t := ⟨_, rfl⟩
      have x1 : (u : Int) / 2 ^ s = (t : Int) := by rw [← ht]; norm_cast
      have x2 := and1b t (by rw [← ht]; exact Nat.lt_of_le_of_lt (Nat.div_le_self _ _) hlu)
      rw [ht] at hbt
      have p1 := fun W => together_any (mo a e (j + 1)) (mo a e (j + 1)) W (mo_lt _ _ _) (mo_lt _ _ _)
      have p2 := fun W => together_any ((mo a e (j + 1) + mo a e (j + 1)) % ell) a W (Nat.mod_lt _ (by decide)) Ha.out
      obtain ⟨d0, d1, d2, d3, ed⟩ := nv_w ((mo a e (j + 1) + mo a e (j + 1)) % ell)
      obtain ⟨g0, g1, g2, g3, eg⟩ := nv_w (((mo a e (j + 1) + mo a e (j + 1)) % ell + a) % ell)
      rw [HC.out, ed] at p1
      rw [ed, HAV.out, eg] at p2
      unfold w4 at p1 p2
      have HFST : Hid (True) := trivial
      clear HC HAV HRR Ha hq hs hu ht hlu hcell HBY HLL HA hbW
      by_cases hb1 : e / 2 ^ j % 2 = 1
      · rw [hbt, hb1] at x2
        have x3 : ((1 : Nat) : Int) = 1 := rfl
        rw [x3] at x2
        clear x3 hbt
        have HQ4 : Hid (nv (mo a e j) = .agg (w4 g0 g1 g2 g3).toArray) := by show _ = _; rw [(mo_step a e j).1 hb1]; exact eg
        go_wp2_with (first
          | (have hz := HFST; refine wpList_load_mid rfl 91 (.tmp 4) rfl (n + 1) 0 rfl (w4 c0 c1 c2 c3) _ HW.out.rn Try.underlying91 rfl info91 ?_; simp only [w4])
          | (have hz := HFST; go_at_call 91; refine (p1 _).mono ?_; rintro r w2 ⟨rfl, hb2⟩; have HW2 := (show Hid (MoAt w w2 n (w4 a0 a1 a2 a3) (w4 c0 c1 c2 c3)) from HW.out.below hb2); clear hz hb2 p1 HW HFST)
          | (refine wpList_store_mid rfl 91 (.tmp 4) (.tmp 16) rfl (n + 1) 0 (w4 d0 d1 d2 d3).toArray rfl rfl HW2.out.tn info91 (one4 _ _ _ _) ?_; simp only; obtain ⟨w3, hw3⟩ : ∃ v, w2.setCells (n + 1) 0 (w4 d0 d1 d2 d3) = v := ⟨_, rfl⟩; have HW3 := (show Hid (MoAt w w3 n (w4 a0 a1 a2 a3) (w4 d0 d1 d2 d3)) from (by rw [← hw3]; exact HW2.out.set _ rfl)); rw [hw3]; clear hw3 HW2; have r0 := HCE.out w3 HW3.out.b)
          | (refine wpList_load_mid rfl 91 (.tmp 4) rfl (n + 1) 0 rfl (w4 d0 d1 d2 d3) _ HW3.out.rn Try.underlying91 rfl info91 ?_; simp only [w4])
          | (refine wpList_load_mid rfl 91 (.tmp 3) rfl n 0 rfl (w4 a0 a1 a2 a3) _ HW3.out.ra Try.underlying91 rfl info91 ?_; simp only [w4])
          | (go_at_call 91; refine (p2 _).mono ?_; rintro r w4' ⟨rfl, hb4⟩; have HW4 := (show Hid (MoAt w w4' n (w4 a0 a1 a2 a3) (w4 d0 d1 d2 d3)) from HW3.out.below hb4); clear hb4 p2 HW3 r0)
          | (refine wpList_store_mid rfl 91 (.tmp 4) (.tmp 29) rfl (n + 1) 0 (w4 g0 g1 g2 g3).toArray rfl rfl HW4.out.tn info91 (one4 _ _ _ _) ?_; simp only; obtain ⟨w5, hw5⟩ : ∃ v, w4'.setCells (n + 1) 0 (w4 g0 g1 g2 g3) = v := ⟨_, rfl⟩; have HW5 := (show Hid (MoAt w w5 n (w4 a0 a1 a2 a3) (w4 g0 g1 g2 g3)) from (by rw [← hw5]; exact HW4.out.set _ rfl)); rw [hw5]; clear hw5 HW4))
        go_roundw
        case rel => exact ⟨j, g0, g1, g2, g3, rfl, by omega, HQ4, HW5⟩
        case measure => simp [numOf1]
      · have hb0 : e / 2 ^ j % 2 = 0 := by omega
        rw [hbt, hb0] at x2
        have x3 : ((0 : Nat) : Int) = 0 := rfl
        rw [x3] at x2
        clear x3 hbt p2
        have HQ4 : Hid (nv (mo a e j) = .agg (w4 d0 d1 d2 d3).toArray) := by show _ = _; rw [(mo_step a e j).2 hb1]; exact ed
        go_wp2_with (first
          | (have hz := HFST; refine wpList_load_mid rfl 91 (.tmp 4) rfl (n + 1) 0 rfl (w4 c0 c1 c2 c3) _ HW.out.rn Try.underlying91 rfl info91 ?_; simp only [w4])
          | (have hz := HFST; go_at_call 91; refine (p1 _).mono ?_; rintro r w2 ⟨rfl, hb2⟩; have HW2 := (show Hid (MoAt w w2 n (w4 a0 a1 a2 a3) (w4 c0 c1 c2 c3)) from HW.out.below hb2); clear hz hb2 p1 HW HFST)
          | (refine wpList_store_mid rfl 91 (.tmp 4) (.tmp 16) rfl (n + 1) 0 (w4 d0 d1 d2 d3).toArray rfl rfl HW2.out.tn info91 (one4 _ _ _ _) ?_; simp only; obtain ⟨w3, hw3⟩ : ∃ v, w2.setCells (n + 1) 0 (w4 d0 d1 d2 d3) = v := ⟨_, rfl⟩; have HW3 := (show Hid (MoAt w w3 n (w4 a0 a1 a2 a3) (w4 d0 d1 d2 d3)) from (by rw [← hw3]; exact HW2.out.set _ rfl)); rw [hw3]; clear hw3 HW2; have r0 := HCE.out w3 HW3.out.b))
        go_roundw
        case rel => exact ⟨j, d0, d1, d2, d3, rfl, by omega, HQ4, HW3⟩
        case measure => simp [numOf1]
end Fd
end Go.Proofs.Ytgdekigdbbldoaa

namespace Go.Proofs.Ytgdekigdbbldoaa
open Go.RowKit
namespace Fd
open Rg

theorem L32.s {R : List Value} (h : L32 R) {N : Nat} {w : World} {b : Nat} (ha : Ao N w b 32) : w.there b 0 R.toArray.size := by rw [List.size_toArray, h.l]; exact ha.2.2
/-- The answer is read from its box. -/
theorem end22 {N : Nat} {w : World} {b : Nat} {R : List Value} (h : L32 R) (ha : Ao N w b 32) : (loadVar 22 ⟨b, 0, none⟩).run Try.prog (w.setCells b 0 R) = .ok (.agg R.toArray) (w.setCells b 0 R) :=
  run_loadVar_mid (P := Try.prog) _ b 0 22 R _ (World.rangeAt_setCells_same _ _ _ _ (by have := h.s ha; rwa [List.size_toArray] at this)) Try.underlying22 rfl h.i

set_option maxHeartbeats 400000 in
set_option maxRecDepth 4000 in
theorem low_any (x : Nat) (w : World) (hx : x < 115792089237316195423570985008687907853269984665640564039457584007913129639936) : Calls Try.prog 49 #[bv x] w fun e w' => e = .returned (.bool (decide (x < ell))) ∧ Below w.heap.size w w' := by
  have c1 := fun W => cwordsOf_any x W hx
  have c2 := fun W => lessOrder_any x W hx
  obtain ⟨d, hd⟩ : ∃ d, decide (x < ell) = d := ⟨_, rfl⟩
  obtain ⟨g0, g1, g2, g3, eg⟩ := nv_w ((x + 115792089237316195423570985008687907853269984665640564039457584007913129639936 - ell) % 115792089237316195423570985008687907853269984665640564039457584007913129639936)
  rw [hd, eg] at c2
  rw [hd]
  obtain ⟨v, hv⟩ : ∃ v, nv x = v := ⟨_, rfl⟩
  rw [hv] at c1 c2
  unfold w4 at c2
  unfold bv at c1 ⊢
  have HI : Hid ((Try.prog.info? 22).map (·.size) = some (bvc x).length) := info22l x
  have HS : Hid ((w.alloc (.cells (bvc x).toArray 22)).rangeAt w.heap.size 0 (bvc x)) := range_new _ _ _
  obtain ⟨R, hR⟩ : ∃ R, bvc x = R := ⟨_, rfl⟩
  rw [hR] at c1 HI HS ⊢
  clear hd hv hR hx eg
  have HB0 : Hid (Below w.heap.size w (w.alloc (.cells R.toArray 22))) := (Below.refl _ _).alloc (Nat.le_refl _) _
  go_enter Try.func49, Try.ntmps49
  go_wp2_with (first
    | (refine wpList_load_mid rfl 22 (.tmp 1) rfl w.heap.size 0 rfl R _ HS.out Try.underlying22 rfl HI.out ?_)
    | (go_at_call 90; refine (c1 _).mono ?_; rintro e w1 ⟨rfl, hb1⟩; have HB1 := (show Hid (Below w.heap.size w w1) from HB0.out.trans (hb1.mono HB0.out.size)); clear hb1 c1 HB0)
    | (go_at_call 89; refine (c2 _).mono ?_; rintro e w2 ⟨rfl, hb2⟩; have HB2 := (show Hid (Below w.heap.size w w2) from HB1.out.trans (hb2.mono HB1.out.size)); clear hb2 c2 HB1))
  exact bodyPost_ret (results_tmp Try.results49 _ _ _) rfl ⟨rfl, HB2.out.alloc HB2.out.size _⟩
/-- A number in a box, taken so often. -/
theorem many32 (x a b : Nat) (W : World) (hx : x < 115792089237316195423570985008687907853269984665640564039457584007913129639936) (ha : a < ell) (hr : W.rangeAt b 0 (bvc x)) (hb : b < W.heap.size) :
    Calls Try.prog 88 #[.slice (some ⟨b, 0, none⟩) 32 32, nv a] W fun e w' => e = .returned (nv (x * a % ell)) ∧ Below W.heap.size W w' := by
  have h := manyOf_any (some ⟨b, 0, none⟩) (Dt.bl x 32) 32 a W (.inr ⟨b, 0, rfl, hb, by rw [← Dt.bvc_bc]; exact hr⟩) (fun c hc => by
    unfold Dt.bl at hc
    obtain ⟨j, _, rfl⟩ := List.mem_map.1 hc
    exact Nat.mod_lt _ (by decide)) (by rw [Dt.bl_len]; decide) ha
  rw [Dt.bl_len, Dt.ofB_bl, Dt.b256, Nat.mod_eq_of_lt hx] at h
  exact h
theorem zero91_info : (Try.prog.info? 91).map (·.zero) = some (some (.agg (w4 0 0 0 0).toArray)) := by kernel_rfl
theorem zero91 (W : World) : (zeroValue 91).run Try.prog W = .ok (.agg (w4 0 0 0 0).toArray) W := by
  have h := zero91_info
  cases hq : Try.prog.info? 91 with
  | none => rw [hq] at h; cases h
  | some i =>
    have hz : i.zero = some (.agg (w4 0 0 0 0).toArray) := by simpa [hq] using h
    simp [zeroValue, typeInfo, hq, hz]
theorem alloc91 (ρ : Operand → Value) (o : Oper) (w : World) (h : isAl 91 o = true) : (execOp ρ o).run Try.prog w = .ok (.value (.pointer (some ⟨w.heap.size, 0, none⟩))) (w.alloc (.cells (w4 0 0 0 0).toArray 91)) := by
  obtain ⟨dst, op, type, pos, after, guard⟩ := o
  unfold isAl at h
  cases op <;> simp only [] at h <;> try cases h
  rename_i u
  have : u = 91 := by simpa using h
  subst this
  have hz := zero91
  go_simp
theorem there91 (w : World) : (w.alloc (.cells (w4 0 0 0 0).toArray 91)).there w.heap.size 0 4 := there_new w (w4 0 0 0 0).toArray 91 (m := 4) fun j hj => by simp [w4, hj]
/-- Three boxes of 32 bytes and the answer's. -/
theorem start3 (w : World) (X Y Z : List Value) :
    let e := (((w.alloc (.cells X.toArray 22)).alloc (.cells Y.toArray 22)).alloc (.cells Z.toArray 22)).alloc (.cells z22 22)
    Rp e w.heap.size 0 X ∧ Rp e (w.heap.size + 1) 0 Y ∧ Rp e (w.heap.size + 2) 0 Z ∧ Ao w.heap.size e (w.heap.size + 3) 32 ∧ Below w.heap.size w e := by
  intro e
  have s3 : (((w.alloc (.cells X.toArray 22)).alloc (.cells Y.toArray 22)).alloc (.cells Z.toArray 22)).heap.size = w.heap.size + 3 := by rw [size_alloc, size_alloc, size_alloc]
  have s4 : e.heap.size = w.heap.size + 4 := by show (World.alloc _ _).heap.size = _; rw [size_alloc, s3]
  have ht := there22 (((w.alloc (.cells X.toArray 22)).alloc (.cells Y.toArray 22)).alloc (.cells Z.toArray 22))
  rw [s3] at ht
  have r2 := range_new1 w (.cells X.toArray 22) Y 22
  have r3 := Rg.range_new ((w.alloc (.cells X.toArray 22)).alloc (.cells Y.toArray 22)) Z 22
  rw [size_alloc, size_alloc] at r3
  refine ⟨⟨World.rangeAt_alloc (World.rangeAt_alloc (World.rangeAt_alloc (Rg.range_new w X 22) _) _) _, by omega⟩, ⟨World.rangeAt_alloc (World.rangeAt_alloc r2 _) _, by omega⟩, ⟨World.rangeAt_alloc r3 _, by omega⟩, ⟨by omega, by omega, ht⟩, ?_⟩
  exact ((((Below.refl _ _).alloc (Nat.le_refl _) _).alloc (by simp) _).alloc (by simp; omega) _).alloc (by rw [s3]; omega) _

set_option maxHeartbeats 1000000 in
set_option maxRecDepth 4000 in
theorem mulAdd_any (x y z : Nat) (w : World) (hx : x < 115792089237316195423570985008687907853269984665640564039457584007913129639936) (hy : y < 115792089237316195423570985008687907853269984665640564039457584007913129639936) (hz : z < 115792089237316195423570985008687907853269984665640564039457584007913129639936) :
    Calls Try.prog 50 #[bv x, bv y, bv z] w fun e w' => e = .returned (bv ((x * y + z) % ell)) ∧ Below w.heap.size w w' := by
  have h1 : (1 : Nat) < ell := by decide
  have le : ∀ a, a % ell < ell := fun a => Nat.mod_lt _ (by decide)
  have e1 : x * (y * 1 % ell) % ell = x * y % ell := by rw [Nat.mul_one, Nat.mul_mod_mod]
  have e2 : (x * (y * 1 % ell) % ell + z * 1 % ell) % ell = (x * y + z) % ell := by rw [e1, Nat.mul_one, ← Nat.add_mod]
  obtain ⟨n, hn⟩ : ∃ n, w.heap.size = n := ⟨_, rfl⟩
  have c1 := fun W => many32 y 1 (n + 1) W hy h1
  have c2 := fun W => many32 x (y * 1 % ell) n W hx (le _)
  have c3 := fun W => many32 z 1 (n + 2) W hz h1
  have c4 := fun W => together_any (x * (y * 1 % ell) % ell) (z * 1 % ell) W (le _) (le _)
  rw [e2] at c4
  obtain ⟨r, hr⟩ : ∃ r, (x * y + z) % ell = r := ⟨_, rfl⟩
  rw [hr] at c4 ⊢
  have c5 := fun W => cbytesOf_any r W
  obtain ⟨g0, g1, g2, g3, eg⟩ := nv_w (x * (y * 1 % ell) % ell)
  rw [eg] at c2 c4
  obtain ⟨v1, hv1⟩ : ∃ v, nv (y * 1 % ell) = v := ⟨_, rfl⟩
  obtain ⟨v2, hv2⟩ : ∃ v, nv (z * 1 % ell) = v := ⟨_, rfl⟩
  obtain ⟨v3, hv3⟩ : ∃ v, nv r = v := ⟨_, rfl⟩
  rw [hv1] at c1 c2
  rw [hv2] at c3 c4
  rw [hv3] at c4 c5
  have e11 : nv 1 = .agg #[.int .u64 1, .int .u64 0, .int .u64 0, .int .u64 0] := rfl
  rw [e11] at c1 c3
  unfold w4 at c2 c4
  unfold bv at c5 ⊢
  have LX : Hid (L32 (bvc x)) := l32 x
  have LY : Hid (L32 (bvc y)) := l32 y
  have LZ : Hid (L32 (bvc z)) := l32 z
  have LR : Hid (L32 (bvc r)) := l32 r
  have HS0 := (show Hid _ from start3 w (bvc x) (bvc y) (bvc z))
  obtain ⟨X, hX⟩ : ∃ R, bvc x = R := ⟨_, rfl⟩
  obtain ⟨Y, hY⟩ : ∃ R, bvc y = R := ⟨_, rfl⟩
  obtain ⟨Z, hZ⟩ : ∃ R, bvc z = R := ⟨_, rfl⟩
  obtain ⟨R, hR⟩ : ∃ R, bvc r = R := ⟨_, rfl⟩
  rw [hX] at LX c2 HS0 ⊢
  rw [hY] at LY c1 HS0 ⊢
  rw [hZ] at LZ c3 HS0 ⊢
  rw [hR] at LR c5 ⊢
  clear hX hY hZ hR hv1 hv2 hv3 eg e1 e2 hr e11 h1 le hx hy hz
  have hz22 := zero22
  obtain ⟨Z2, hZ2⟩ : ∃ Z, z22 = Z := ⟨_, rfl⟩
  rw [hZ2] at hz22 HS0
  clear hZ2
  have HN : Hid (w.heap.size = n) := hn
  obtain ⟨we, hwe⟩ : ∃ v, (((w.alloc (.cells X.toArray 22)).alloc (.cells Y.toArray 22)).alloc (.cells Z.toArray 22)).alloc (.cells Z2 22) = v := ⟨_, rfl⟩
  have HS1 : Hid (Rp we n 0 X ∧ Rp we (n + 1) 0 Y ∧ Rp we (n + 2) 0 Z ∧ Ao w.heap.size we (n + 3) 32 ∧ Below w.heap.size w we) := by
    have h := HS0.out
    rw [hwe, HN.out] at h
    show _ ∧ _
    rw [HN.out]
    exact h
  clear HS0
  go_enter Try.func50, Try.ntmps50
  go_wp2
  clear hwe
  apply region_float (N := we.heap.size) (W := we) (ty := 91) [7] 6 6 (by kernel_rfl) (Below.refl _ _) (Nat.le_refl _) alloc91 there91
  case hl => simp only [List.take_succ_cons, List.take_zero]; rfl
  case ht => simp only [List.drop_succ_cons, List.drop_zero]; rfl
  case hB => kernel_rfl
  case hT => kernel_rfl
  case hF => kernel_rfl
  case hS => kernel_rfl
  case h =>
    apply Exists.intro
    constructor
    case left =>
      intro N2 W2 q1 q2 q3
      have HQX : Hid (∀ x : Cl N2 W2, x.u.rangeAt n 0 X ∧ n < x.u.heap.size) := fun x => ⟨HS1.out.1.cl2 q1 q2 _ ⟨x, rfl⟩, by have h1 := HS1.out.1.2; have h2 := x.h.size; omega⟩
      have HQY : Hid (∀ x : Cl N2 W2, x.u.rangeAt (n + 1) 0 Y ∧ n + 1 < x.u.heap.size) := fun x => ⟨HS1.out.2.1.cl2 q1 q2 _ ⟨x, rfl⟩, by have h1 := HS1.out.2.1.2; have h2 := x.h.size; omega⟩
      have hne := Cl.ne N2 W2
      have HC1 : Hid (N2 ≤ W2.heap.size) := q3
      clear q1 q2 q3
      simp only [List.map_cons, List.map_nil, hush, isAl, beq_self_eq_true, if_true, Bool.false_eq_true, if_false]
      go_big_quiet_step (fail)
      go_big_quiet_step (fail)
      go_big_quiet_step (fail)
      go_big_quiet_step ((go_at_call 88; exact cl_of (c1 _ (HQY.out _).1 (HQY.out _).2) HC1.out))
      go_big_quiet_step ((go_at_call 88; exact cl_of (c2 _ (HQX.out _).1 (HQX.out _).2) HC1.out))
      go_big_quiet_step (fail)
      refine wpQuiet_nil ?_
      rfl
    case right =>
      intro g' w2 hb hf hd
      have h7 := hf 7 (by decide)
      clear hf hd
      simp only [putsT, List.foldl_cons, List.foldl_nil, Act.put, List.setIfInBounds_toArray, List.set_cons_zero, List.set_cons_succ]
      obtain ⟨b7, hb7⟩ : ∃ b, g' 7 = b := ⟨_, rfl⟩
      rw [hb7] at h7 ⊢
      clear hb7 g'
      have HT7 : Hid (w2.there b7 0 4) := h7.2.2
      have hb3 : Below we.heap.size we (w2.setCells b7 0 (w4 g0 g1 g2 g3)) := below_setCells hb h7.1
      have HG : Hid (Rp (w2.setCells b7 0 (w4 g0 g1 g2 g3)) b7 0 (w4 g0 g1 g2 g3)) := ⟨World.rangeAt_setCells_same _ _ _ _ h7.2.2, by rw [size_setCells]; exact h7.2.1⟩
      have HZ3 : Hid (Rp (w2.setCells b7 0 (w4 g0 g1 g2 g3)) (n + 2) 0 Z) := HS1.out.2.2.1.below hb3
      have HA3 : Hid (Ao w.heap.size (w2.setCells b7 0 (w4 g0 g1 g2 g3)) (n + 3) 32) := HS1.out.2.2.2.1.below hb3
      have HB3 : Hid (Below w.heap.size w (w2.setCells b7 0 (w4 g0 g1 g2 g3))) := HS1.out.2.2.2.2.trans (hb3.mono HS1.out.2.2.2.2.size)
      clear h7 hb hb3 HS1 c1 c2
      go_wp2_with (refine wpList_store_mid rfl 91 (.tmp 7) (.tmp 12) rfl b7 0 (w4 g0 g1 g2 g3).toArray rfl rfl HT7.out info91 (one4 _ _ _ _) ?_; simp only [Act.put])
      obtain ⟨w3, hw3⟩ : ∃ v, w2.setCells b7 0 (w4 g0 g1 g2 g3) = v := ⟨_, rfl⟩
      rw [hw3] at HG HZ3 HA3 HB3 ⊢
      clear hw3 HT7
      have HQG := (show Hid _ from HG.out.cl)
      have HQZ : Hid (∀ x : Cl w3.heap.size w3, x.u.rangeAt (n + 2) 0 Z ∧ n + 2 < x.u.heap.size) := fun x => ⟨HZ3.out.cl _ ⟨x, rfl⟩, by have h1 := HZ3.out.2; have h2 := x.h.size; omega⟩
      have hne := Cl.ne w3.heap.size w3
      apply region_cl_tail (N := w3.heap.size) (W := w3) 6 6 (by kernel_rfl) (Below.refl _ _)
      case hl => simp only [List.take_succ_cons, List.take_zero]; rfl
      case ht => simp only [List.drop_succ_cons, List.drop_zero]; rfl
      case hB => kernel_rfl
      case hT => kernel_rfl
      case h =>
        go_big_quiet_want
        refine quiet_load 91 _ rfl b7 0 rfl (w4 g0 g1 g2 g3) _ HQG.out Try.underlying91 rfl info91 ?_
        simp only [w4, Act.put, List.setIfInBounds_toArray, List.set_cons_zero, List.set_cons_succ]
        go_big_quiet_on
        go_big_quiet_step (fail)
        go_big_quiet_step (fail)
        go_big_quiet_step ((go_at_call 88; exact cl_of (c3 _ (HQZ.out _).1 (HQZ.out _).2) (Nat.le_refl _)))
        go_big_quiet_step ((go_at_call 91; exact cl_of (c4 _) (Nat.le_refl _)))
        go_big_quiet_step ((go_at_call 87; exact cl_of (c5 _) (Nat.le_refl _)))
        refine wpQuiet_nil ?_
        rintro _ ⟨xq, rfl⟩
        have hb := xq.h
        have HBE := (show Hid (Below w.heap.size w xq.u) from HB3.out.trans (hb.mono HB3.out.size))
        have AE := (show Hid (Ao w.heap.size xq.u (n + 3) 32) from HA3.out.below hb)
        have HTE := (show Hid (xq.u.there (n + 3) 0 R.toArray.size) from LR.out.s AE.out)
        clear hb
        go_wp2_with (refine wpList_store_mid rfl 22 (.tmp 6) (.tmp 18) rfl (n + 3) 0 R.toArray rfl rfl HTE.out LR.out.j LR.out.o ?_; simp only)
        exact bodyPost_ret (results_cell Try.results50 rfl (end22 LR.out AE.out)) rfl ⟨rfl, below_setCells HBE.out AE.out.1⟩
/-- Scalar: more than 64 bytes are refused. -/
theorem build22_none : Try.prog.built 22 [] = some (bvc 0).toArray := by kernel_rfl
/-- The answer's box alone. -/
theorem start0 (w : World) : Ao w.heap.size (w.alloc (.cells z22 22)) w.heap.size 32 ∧ Below w.heap.size w (w.alloc (.cells z22 22)) :=
  ⟨⟨Nat.le_refl _, by rw [size_alloc]; omega, there22 w⟩, (Below.refl _ _).alloc (Nat.le_refl _) _⟩
set_option maxHeartbeats 400000 in
set_option maxRecDepth 4000 in
theorem scalar_long (A : Option Addr) (m cap : Nat) (w : World) (hm : 64 < m) :
    Calls Try.prog 48 #[.slice A m cap] w fun e w' => e = .returned (.tuple #[bv 0, .iface 35 (.int .i64 2)]) ∧ Below w.heap.size w w' := by
  unfold bv
  have LE : Hid (L32 (bvc 0)) := l32 0
  have HBN : Hid (Try.prog.built 22 [] = some (bvc 0).toArray) := build22_none
  obtain ⟨E, hE⟩ : ∃ V, bvc 0 = V := ⟨_, rfl⟩
  rw [hE] at LE HBN ⊢
  clear hE
  have HS := (show Hid _ from start0 w)
  have hz2 := zero22
  obtain ⟨Z2, hZ2⟩ : ∃ Z, z22 = Z := ⟨_, rfl⟩
  rw [hZ2] at hz2 HS
  clear hZ2
  have hm' : (64 : Int) < (m : Int) := by omega
  have HT := (show Hid _ from LE.out.s HS.out.1)
  go_enter Try.func48, Try.ntmps48
  go_wp2_with (first
    | (refine build_to rfl 22 _ rfl (some 7) rfl [] (by kernel_rfl) E HBN.out ?_; simp only [Act.put, List.setIfInBounds_toArray, List.set_cons_zero, List.set_cons_succ])
    | (refine wpList_store_mid rfl 22 (.tmp 2) (.tmp 7) rfl w.heap.size 0 E.toArray rfl rfl HT.out LE.out.j LE.out.o ?_; simp only))
  exact bodyPost_ret (res_ct Try.results48 rfl (end22 LE.out HS.out.1) rfl) rfl ⟨rfl, below_setCells HS.out.2 HS.out.1.1⟩
set_option maxHeartbeats 400000 in
set_option maxRecDepth 4000 in
theorem scalar_any (A : Option Addr) (L : List Nat) (cap : Nat) (w : World) (hA : Dt.Db w A L) (hL : ∀ b ∈ L, b < 256) (hlim : L.length ≤ 64) :
    Calls Try.prog 48 #[.slice A L.length cap] w fun e w' => e = .returned (.tuple #[bv (Dt.ofB L % ell), .nilIface]) ∧ Below w.heap.size w w' := by
  have hA2 : Dt.Db (w.alloc (.cells z22 22)) A L := by
    rcases hA with h | ⟨b, o, h1, h2, h3⟩
    · exact .inl h
    · exact .inr ⟨b, o, h1, by rw [size_alloc]; omega, World.rangeAt_alloc h3 _⟩
  have c1 := manyOf_any A L cap 1 _ hA2 hL (by omega) (by decide)
  rw [Nat.mul_one] at c1
  obtain ⟨r, hr⟩ : ∃ r, Dt.ofB L % ell = r := ⟨_, rfl⟩
  rw [hr] at c1 ⊢
  have c2 := fun W => cbytesOf_any r W
  obtain ⟨v, hv⟩ : ∃ v, nv r = v := ⟨_, rfl⟩
  rw [hv] at c1 c2
  have e11 : nv 1 = .agg #[.int .u64 1, .int .u64 0, .int .u64 0, .int .u64 0] := rfl
  rw [e11] at c1
  unfold bv at c2 ⊢
  have LR : Hid (L32 (bvc r)) := l32 r
  obtain ⟨R, hR⟩ : ∃ V, bvc r = V := ⟨_, rfl⟩
  rw [hR] at LR c2 ⊢
  have HS := (show Hid _ from start0 w)
  have hz2 := zero22
  obtain ⟨Z2, hZ2⟩ : ∃ Z, z22 = Z := ⟨_, rfl⟩
  rw [hZ2] at hz2 HS c1
  obtain ⟨m, hm⟩ : ∃ m, L.length = m := ⟨_, rfl⟩
  rw [hm] at c1 hlim ⊢
  have hm' : ¬ (64 : Int) < (m : Int) := by omega
  clear hZ2 hR hv hr hm hA hA2 hL e11
  go_enter Try.func48, Try.ntmps48
  go_wp2_with (first
    | (go_at_call 88; refine c1.mono ?_; rintro e w1 ⟨rfl, hb1⟩; have HA1 := (show Hid (Ao w.heap.size w1 w.heap.size 32) from HS.out.1.below hb1); have HB1 := (show Hid (Below w.heap.size w w1) from HS.out.2.trans (hb1.mono HS.out.2.size)); clear hb1 c1 HS)
    | (go_at_call 87; refine (c2 _).mono ?_; rintro e w2 ⟨rfl, hb2⟩; have HA2 := (show Hid (Ao w.heap.size w2 w.heap.size 32) from HA1.out.below hb2); have HB2 := (show Hid (Below w.heap.size w w2) from HB1.out.trans (hb2.mono HB1.out.size)); have HT2 := (show Hid _ from LR.out.s HA2.out); clear hb2 c2 HA1 HB1)
    | (refine wpList_store_mid rfl 22 (.tmp 2) (.tmp 12) rfl w.heap.size 0 R.toArray rfl rfl HT2.out LR.out.j LR.out.o ?_; simp only))
  exact bodyPost_ret (res_ct Try.results48 rfl (end22 LR.out HA2.out) rfl) rfl ⟨rfl, below_setCells HB2.out HA2.out.1⟩
end Fd
end Go.Proofs.Ytgdekigdbbldoaa
