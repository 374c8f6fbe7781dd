/- What Root does: a contract, by walking its text. How 23 sums of digits are settled: plain mathematics. -/
import Derived.Test.YtgdekigdbbldoaaG13
import Derived.Test.YtgdekigdbbldoaaG20
import Derived.Deep.RegionHeld
import Derived.Deep.Cut
import Derived.Deep.CutRange
import Derived.Test.YtgdekigdbbldoaaG18
namespace Go.Proofs.Ytgdekigdbbldoaa
open Go.RowKit
namespace Fd
open Rg Pratt

/-- The answer's box, the square's and the root's. -/
structure Ro (w wr : World) (n k g : Nat) (S R : List Value) : Prop where
  b : Below n w wr
  u : wr.there (n + 1) 0 32
  s : wr.rangeAt k 0 S
  r : wr.rangeAt g 0 R
  t : wr.there g 0 4
  nk : n + 1 < k
  kg : k < g
  l : g < wr.heap.size
theorem Ro.below {w wr w' : World} {n k g : Nat} {S R : List Value} (h : Ro w wr n k g S R) (hb : Below wr.heap.size wr w') : Ro w w' n k g S R := by
  have h1 := h.l
  have h2 := h.kg
  have h3 := h.nk
  exact ⟨h.b.trans (hb.mono (by omega)), there_below hb h.u (by omega), Rg.Below.range hb h.s (by omega), Rg.Below.range hb h.r h1, there_below hb h.t h1, h3, h2, Nat.lt_of_lt_of_le h1 hb.size⟩
theorem Ro.set {w wr : World} {n k g : Nat} {S R : List Value} (h : Ro w wr n k g S R) (ds : List Value) (hd : ds.length = 4) : Ro w (wr.setCells g 0 ds) n k g S ds := by
  have h2 := h.kg
  have h3 := h.nk
  exact ⟨below_setCells h.b (by omega), World.there_setCells h.u _ _ _, fun j v hv => (cell_setCells_other (by omega) _ _ _).trans (h.s j v hv), World.rangeAt_setCells_same _ _ _ _ (by rw [hd]; exact h.t), World.there_setCells h.t _ _ _, h3, h2, by rw [size_setCells]; exact h.l⟩
/-- Before the root's box is made. -/
structure Sq (w wr : World) (n k : Nat) (S : List Value) : Prop where
  b : Below n w wr
  u : wr.there (n + 1) 0 32
  s : wr.rangeAt k 0 S
  nk : n + 1 < k
  l : k < wr.heap.size
theorem Sq.below {w wr w' : World} {n k : Nat} {S : List Value} (h : Sq w wr n k S) (hb : Below wr.heap.size wr w') : Sq w w' n k S := by
  have h1 := h.l
  have h3 := h.nk
  exact ⟨h.b.trans (hb.mono (by omega)), there_below hb h.u (by omega), Rg.Below.range hb h.s h1, h3, Nat.lt_of_lt_of_le h1 hb.size⟩
/-- A box that was made somewhere behind, and written. -/
theorem Sq.box {w wr w' : World} {n k g : Nat} {S R : List Value} (h : Sq w wr n k S) (hb : Below wr.heap.size wr w') (hg : wr.heap.size ≤ g) (ht : w'.there g 0 4) (hl : g < w'.heap.size) (hR : R.length = 4) : Ro w (w'.setCells g 0 R) n k g S R := by
  have h1 := h.l
  have h3 := h.nk
  have h4 := h.below hb
  exact ⟨below_setCells h4.b (by omega), World.there_setCells h4.u _ _ _, fun j v hv => (cell_setCells_other (by omega) _ _ _).trans (h4.s j v hv), World.rangeAt_setCells_same _ _ _ _ (by rw [hR]; exact ht), World.there_setCells ht _ _ _, h3, by omega, by rw [size_setCells]; exact hl⟩
theorem want_it {c : Prop} [Decidable c] {A B : Prop} (h : c) (ha : A) : if c then A else B := by rw [if_pos h]; exact ha
theorem drewB (w : World) : Below w.heap.size w w.drew := ⟨rfl, rfl, rfl, Nat.le_refl _, fun _ _ => rfl⟩
theorem Ro.fin {w wr : World} {n k g : Nat} {S R : List Value} (h : Ro w wr n k g S R) (r : Nat) : (loadVar 22 ⟨n + 1, 0, none⟩).run Try.prog (wr.setCells (n + 1) 0 (bvc r)) = .ok (.agg (bvc r).toArray) (wr.setCells (n + 1) 0 (bvc r)) ∧ Below n w (wr.setCells (n + 1) 0 (bvc r)) := end32 h.b h.u (by omega)
theorem w4_words (x : Nat) (y : Nat) (W : World) (hx : x < 115792089237316195423570985008687907853269984665640564039457584007913129639936) (hy : y < 115792089237316195423570985008687907853269984665640564039457584007913129639936) : (Op.equalIn 10000 74 (.agg (w4 (l0 x) (l1 x) (l2 x) (l3 x)).toArray) (.agg (w4 (l0 y) (l1 y) (l2 y) (l3 y)).toArray)).run Try.prog W = .ok (decide (x = y)) W := by
  have h := eq48 (l0 x) (l1 x) (l2 x) (l3 x) (l0 y) (l1 y) (l2 y) (l3 y) W
  have e : decide ((l0 x : Int) = (l0 y : Int) ∧ (l1 x : Int) = (l1 y : Int) ∧ (l2 x : Int) = (l2 y : Int) ∧ (l3 x : Int) = (l3 y : Int)) = decide (x = y) := decide_eq_decide.2 (same_words x y hx hy)
  rw [e] at h
  exact h

set_option maxHeartbeats 8000000 in
set_option maxRecDepth 8000 in
theorem proot_a (a : Nat) (w : World) (ha : a < 115792089237316195423570985008687907853269984665640564039457584007913129639936) (hyp : r0 (a % p) * r0 (a % p) % p = a % p) :
    Calls Try.prog 26 #[bv a] w fun e w' => e = .returned (.tuple #[bv (evn (r0 (a % p))), .nilIface]) ∧ Below w.heap.size w w' := by
  have hx : a % p < p := Nat.mod_lt _ (by decide)
  have hxL : a % p < 115792089237316195423570985008687907853269984665640564039457584007913129639936 := mod_256 a
  have ca := fun W => wordsOf_any a W
  have cs := fun W => reduced_any a W ha
  have ce := fun W => rootExponent_any W
  have cp := fun W => power_any (a % p) rootExponent W hxL (by decide)
  have hr0 : (a % p) ^ rootExponent % p = r0 (a % p) := rfl
  rw [hr0] at cp
  have hrl := r0_lt (a % p)
  have hpp : p < 115792089237316195423570985008687907853269984665640564039457584007913129639936 := by decide
  obtain ⟨x, hxx⟩ : ∃ x, a % p = x := ⟨_, rfl⟩
  rw [hxx] at hx hxL cs cp hrl hr0 hyp ⊢
  obtain ⟨r, hrr⟩ : ∃ r, r0 x = r := ⟨_, rfl⟩
  rw [hrr] at cp hrl hr0 hyp ⊢
  have cm := fun W => product_any r r W (Nat.lt_trans hrl hpp) (Nat.lt_trans hrl hpp)
  have hml : r * r % p < 115792089237316195423570985008687907853269984665640564039457584007913129639936 := Nat.lt_trans (Nat.mod_lt _ (by decide)) hpp
  have q1 := fun W => w4_words (r * r % p) x W hml hxL
  rw [hyp, decide_eq_true rfl] at q1
  rw [hyp] at cm
  have cv := fun W => even_any r W hrl
  obtain ⟨o, ho⟩ : ∃ o, evn r = o := ⟨_, rfl⟩
  rw [ho] at cv ⊢
  have cb := fun W => bytesOf_any o W
  have hS0 := B1.start w (bvc a)
  obtain ⟨n, hn⟩ : ∃ n, w.heap.size = n := ⟨_, rfl⟩
  rw [hn] at hS0
  have HS0 : Hid (B1 w _ n (bvc a)) := hS0
  have HJ : Hid ((Try.prog.info? 22).map (·.size) = some (bvc o).toArray.size) := info22s o
  have HO : Hid ((bvc o).toArray.all (·.oneCell') = true) := one32 o
  have HLR : Hid ((bvc o).toArray.size = 32) := by show _ = _; rw [List.size_toArray, bvc_len]
  have HFIN : Hid (∀ (wr : World) (k g : Nat) (S R : List Value), Ro w wr n k g S R → (loadVar 22 ⟨n + 1, 0, none⟩).run Try.prog (wr.setCells (n + 1) 0 (bvc o)) = .ok (.agg (bvc o).toArray) (wr.setCells (n + 1) 0 (bvc o)) ∧ Below n w (wr.setCells (n + 1) 0 (bvc o))) := fun wr k g S R h => h.fin o
  unfold bv
  have HIA := info22l a
  unfold bv at ca cb
  obtain ⟨A, hA⟩ : ∃ A, bvc a = A := ⟨_, rfl⟩
  obtain ⟨Z, hZ⟩ : ∃ A, bvc o = A := ⟨_, rfl⟩
  rw [hA] at HS0 HIA ca
  rw [hZ] at HJ HO HLR HFIN cb
  rw [hA, hZ]
  obtain ⟨v1, hv1⟩ : ∃ v, nv a = v := ⟨_, rfl⟩
  obtain ⟨v2, hv2⟩ : ∃ v, nv rootExponent = v := ⟨_, rfl⟩
  rw [hv1] at ca cs
  rw [hv2] at ce cp
  rw [nv_w4 x] at cs cp cm
  rw [nv_w4 r] at cp cm cv
  obtain ⟨v5, hv5⟩ : ∃ v, nv o = v := ⟨_, rfl⟩
  rw [hv5] at cv cb
  obtain ⟨xw0, hxw0⟩ : ∃ t, l0 (x) = t := ⟨_, rfl⟩
  obtain ⟨xw1, hxw1⟩ : ∃ t, l1 (x) = t := ⟨_, rfl⟩
  obtain ⟨xw2, hxw2⟩ : ∃ t, l2 (x) = t := ⟨_, rfl⟩
  obtain ⟨xw3, hxw3⟩ : ∃ t, l3 (x) = t := ⟨_, rfl⟩
  rw [hxw0, hxw1, hxw2, hxw3] at cs cp q1 cm
  obtain ⟨rw0, hrw0⟩ : ∃ t, l0 (r) = t := ⟨_, rfl⟩
  obtain ⟨rw1, hrw1⟩ : ∃ t, l1 (r) = t := ⟨_, rfl⟩
  obtain ⟨rw2, hrw2⟩ : ∃ t, l2 (r) = t := ⟨_, rfl⟩
  obtain ⟨rw3, hrw3⟩ : ∃ t, l3 (r) = t := ⟨_, rfl⟩
  rw [hrw0, hrw1, hrw2, hrw3] at cp cm cv
  clear hA hZ hv1 hv2 hS0 ha hx hxL hrl hpp hml hxx hrr hr0 ho hxw0 hxw1 hxw2 hxw3 hrw0 hrw1 hrw2 hrw3 hyp hv5
  unfold w4 at cs cp cm q1 cv
  go_enter Try.func26, Try.ntmps26
  go_upto_region 2 with (first
    | (refine wpList_load_mid rfl 22 (.tmp 1) rfl n 0 rfl A _ HS0.out.ra Try.underlying22 rfl HIA ?_)
    | (go_at_call 61; refine (ca _).mono ?_; rintro e w1 ⟨rfl, hb1⟩; have HS1 := (show Hid (B1 w w1 n A) from HS0.out.below hb1); clear hb1 ca HS0)
    | (go_at_call 60; refine (cs _).mono ?_; rintro e w2 ⟨rfl, hb2⟩; have HS2 := (show Hid (B1 w w2 n A) from HS1.out.below hb2); clear hb2 cs HS1))
  have HQ3 : Hid (Sq w (w2.alloc (.cells (w4 xw0 xw1 xw2 xw3).toArray 74)) n w2.heap.size (w4 xw0 xw1 xw2 xw3)) := by
    have hb3 := (HS2.out.below ((Below.refl _ _).alloc (Nat.le_refl _) (.cells (w4 xw0 xw1 xw2 xw3).toArray 74)))
    exact ⟨hb3.b, hb3.u, range_new _ _ _, HS2.out.l, by rw [size_alloc]; omega⟩
  obtain ⟨k, hk⟩ : ∃ k, w2.heap.size = k := ⟨_, rfl⟩
  obtain ⟨w3, hw3⟩ : ∃ v, w2.alloc (.cells (w4 xw0 xw1 xw2 xw3).toArray 74) = v := ⟨_, rfl⟩
  rw [hk, hw3] at HQ3
  unfold w4 at hw3
  rw [hk, hw3]
  clear hk hw3 HS2
  have HXL : Hid (∀ wq, Below w3.heap.size w3 wq → (loadVar 74 ⟨k, 0, none⟩).run Try.prog wq = .ok (.agg (w4 xw0 xw1 xw2 xw3).toArray) wq) := fun wq hq => run_loadVar_mid (P := Try.prog) wq k 0 74 (w4 xw0 xw1 xw2 xw3) _ (Rg.Below.range hq HQ3.out.s HQ3.out.l) Try.underlying74 rfl info4
  go_cut [5] from 9 to 11 (fun s wx => ∃ g, s = .pointer (some ⟨g, 0, none⟩) ∧ Hid (Ro w wx n k g (w4 xw0 xw1 xw2 xw3) (w4 rw0 rw1 rw2 rw3)))
  case first =>
    refine wp_region_held_drew (S := fun w' => Below w3.heap.size w3 w') (by kernel_rfl) (drewB w3) (fun hS => ?_)
    refine wpAnyH_take (i := 0) (v := .agg #[.int .u64 (xw0 : Int), .int .u64 (xw1 : Int), .int .u64 (xw2 : Int), .int .u64 (xw3 : Int)]) rfl (by kernel_rfl) (by kernel_rfl) (by kernel_rfl) (fun _ _ _ h => h) (Or.inl ⟨by kernel_rfl, fun wq hS => ?_⟩) hS ?_
    · have hl := HXL.out wq hS
      unfold w4 at hl
      unfold execOp
      simp [Act.eval, Instr.loadAt, Instr.sureAddr, hl]
    try simp only [Act.put, List.setIfInBounds_toArray]
    have HT0 : ∀ W : World, (W.alloc (.cells (w4 0 0 0 0).toArray 74)).there W.heap.size 0 4 := fun W => there_new W _ 74 fun j hj => by simp [w4, hj]
    have HTT : Hid (∀ W : World, (W.alloc (.cells #[.int .u64 0, .int .u64 0, .int .u64 0, .int .u64 0] 74)).there W.heap.size 0 4) := HT0
    clear HT0
    refine wpAnyH_ready (rs := [1, 3]) (by kernel_rfl) (by simp) ?_
    refine AllReadyH.cons rfl (fun K hK => ?_) (AllReadyH.cons rfl (fun K hK => ?_) AllReadyH.nil)
    · go_simp
      refine (ce _).mono ?_
      rintro e w4' ⟨rfl, hb4⟩
      have hS4 : Below w3.heap.size w3 w4' := hS.trans (hb4.mono hS.size)
      refine hK.out _ _ hS4 (fun hS => ?_)
      clear hK K hb4 hS4
      try simp only [Act.put, List.setIfInBounds_toArray, List.set_cons_zero, List.set_cons_succ]
      refine wpAnyH_ready (rs := [2, 3]) (by kernel_rfl) (by simp) ?_
      refine AllReadyH.cons rfl (fun K hK => ?_) (AllReadyH.cons rfl (fun K hK => ?_) AllReadyH.nil)
      · go_simp
        refine (cp _).mono ?_
        rintro e w5 ⟨rfl, hb5⟩
        have hS5 : Below w3.heap.size w3 w5 := hS.trans (hb5.mono hS.size)
        refine hK.out _ _ hS5 (fun hS => ?_)
        clear hK K hb5 hS5
        try simp only [Act.put, List.setIfInBounds_toArray, List.set_cons_zero, List.set_cons_succ]
        refine wpAnyH_ready (rs := [3]) (by kernel_rfl) (by simp) ?_
        refine AllReadyH.cons rfl (fun K hK => ?_) AllReadyH.nil
        go_simp
        refine hK.out _ _ (hS.alloc hS.size _) (fun hS6 => ?_)
        clear hK K
        try simp only [Act.put, List.setIfInBounds_toArray, List.set_cons_zero, List.set_cons_succ]
        have HT6 := (show Hid _ from HTT.out w5)
        have HL6 : Hid (w3.heap.size ≤ w5.heap.size ∧ w5.heap.size < (w5.alloc (.cells #[.int .u64 0, .int .u64 0, .int .u64 0, .int .u64 0] 74)).heap.size) := ⟨hS.size, by rw [size_alloc]; omega⟩
        refine wpAnyH_ready (rs := [4]) (by kernel_rfl) (by simp) ?_
        refine AllReadyH.cons rfl (fun K hK => ?_) AllReadyH.nil
        refine want_it (by kernel_rfl) ?_
        refine wp_store_mid 74 (.tmp 5) (.tmp 11) rfl w5.heap.size 0 (w4 rw0 rw1 rw2 rw3).toArray rfl rfl HT6.out info4 (one4 _ _ _ _) ?_
        simp only
        refine hK.out _ _ (below_setCells hS6 HL6.out.1) (fun hS7 => ?_)
        clear hK K
        try simp only [Act.put, List.getElem_toArray, List.getElem_cons_succ, List.getElem_cons_zero]
        refine wpAnyH_done (by kernel_rfl) ?_ _
        go_wp2
        go_meet
        case rel => exact ⟨w5.heap.size, rfl, HQ3.out.box hS6 HL6.out.1 HT6.out HL6.out.2 rfl⟩
      · go_simp
        have HT6 := (show Hid _ from HTT.out w4')
        have HL6 : Hid (w3.heap.size ≤ w4'.heap.size ∧ w4'.heap.size < (w4'.alloc (.cells #[.int .u64 0, .int .u64 0, .int .u64 0, .int .u64 0] 74)).heap.size) := ⟨hS.size, by rw [size_alloc]; omega⟩
        obtain ⟨g, hg⟩ : ∃ g, w4'.heap.size = g := ⟨_, rfl⟩
        refine hK.out _ _ (hS.alloc hS.size _) (fun hS => ?_)
        clear hK K
        try simp only [Act.put, List.setIfInBounds_toArray, List.set_cons_zero, List.set_cons_succ]
        obtain ⟨w6, hw6⟩ : ∃ v, w4'.alloc (.cells #[.int .u64 0, .int .u64 0, .int .u64 0, .int .u64 0] 74) = v := ⟨_, rfl⟩
        rw [hw6] at HT6 HL6 hS ⊢
        rw [hg] at HT6 HL6 ⊢
        clear hg hw6
        refine wpAnyH_ready (rs := [2]) (by kernel_rfl) (by simp) ?_
        refine AllReadyH.cons rfl (fun K hK => ?_) AllReadyH.nil
        go_simp
        refine (cp _).mono ?_
        rintro e w5 ⟨rfl, hb5⟩
        have HT7 : Hid (w5.there g 0 4) := there_below hb5 HT6.out HL6.out.2
        have HL7 : Hid (w3.heap.size ≤ g ∧ g < w5.heap.size) := ⟨HL6.out.1, Nat.lt_of_lt_of_le HL6.out.2 hb5.size⟩
        have hS5 : Below w3.heap.size w3 w5 := hS.trans (hb5.mono hS.size)
        refine hK.out _ _ hS5 (fun hS6 => ?_)
        clear hK K hb5 hS5 HT6 HL6 hS
        try simp only [Act.put, List.setIfInBounds_toArray, List.set_cons_zero, List.set_cons_succ]
        refine wpAnyH_ready (rs := [4]) (by kernel_rfl) (by simp) ?_
        refine AllReadyH.cons rfl (fun K hK => ?_) AllReadyH.nil
        refine want_it (by kernel_rfl) ?_
        refine wp_store_mid 74 (.tmp 5) (.tmp 11) rfl g 0 (w4 rw0 rw1 rw2 rw3).toArray rfl rfl HT7.out info4 (one4 _ _ _ _) ?_
        simp only
        refine hK.out _ _ (below_setCells hS6 HL7.out.1) (fun hS7 => ?_)
        clear hK K
        try simp only [Act.put, List.getElem_toArray, List.getElem_cons_succ, List.getElem_cons_zero]
        refine wpAnyH_done (by kernel_rfl) ?_ _
        go_wp2
        go_meet
        case rel => exact ⟨g, rfl, HQ3.out.box hS6 HL7.out.1 HT7.out HL7.out.2 rfl⟩
    · go_simp
      have HT6 : Hid (((w3.alloc (.cells #[.int .u64 0, .int .u64 0, .int .u64 0, .int .u64 0] 74)).drew).there w3.heap.size 0 4) := HTT.out w3
      have HL6 : Hid (w3.heap.size ≤ w3.heap.size ∧ w3.heap.size < ((w3.alloc (.cells #[.int .u64 0, .int .u64 0, .int .u64 0, .int .u64 0] 74)).drew).heap.size) := ⟨Nat.le_refl _, by show w3.heap.size < (w3.alloc (.cells #[.int .u64 0, .int .u64 0, .int .u64 0, .int .u64 0] 74)).heap.size; rw [size_alloc]; omega⟩
      refine hK.out _ _ (hS.alloc hS.size _) (fun hS => ?_)
      clear hK K
      try simp only [Act.put, List.setIfInBounds_toArray, List.set_cons_zero, List.set_cons_succ]
      obtain ⟨w6, hw6⟩ : ∃ v, (w3.alloc (.cells #[.int .u64 0, .int .u64 0, .int .u64 0, .int .u64 0] 74)).drew = v := ⟨_, rfl⟩
      rw [hw6] at HT6 HL6 hS ⊢
      clear hw6
      refine wpAnyH_ready (rs := [1]) (by kernel_rfl) (by simp) ?_
      refine AllReadyH.cons rfl (fun K hK => ?_) AllReadyH.nil
      go_simp
      refine (ce _).mono ?_
      rintro e w4' ⟨rfl, hb4⟩
      have HT7 : Hid (w4'.there w3.heap.size 0 4) := there_below hb4 HT6.out HL6.out.2
      have HL7 : Hid (w3.heap.size ≤ w3.heap.size ∧ w3.heap.size < w4'.heap.size) := ⟨HL6.out.1, Nat.lt_of_lt_of_le HL6.out.2 hb4.size⟩
      have hS4 : Below w3.heap.size w3 w4' := hS.trans (hb4.mono hS.size)
      refine hK.out _ _ hS4 (fun hS => ?_)
      clear hK K hb4 hS4 HT6 HL6
      try simp only [Act.put, List.setIfInBounds_toArray, List.set_cons_zero, List.set_cons_succ]
      refine wpAnyH_ready (rs := [2]) (by kernel_rfl) (by simp) ?_
      refine AllReadyH.cons rfl (fun K hK => ?_) AllReadyH.nil
      go_simp
      refine (cp _).mono ?_
      rintro e w5 ⟨rfl, hb5⟩
      have HT8 : Hid (w5.there w3.heap.size 0 4) := there_below hb5 HT7.out HL7.out.2
      have HL8 : Hid (w3.heap.size ≤ w3.heap.size ∧ w3.heap.size < w5.heap.size) := ⟨HL7.out.1, Nat.lt_of_lt_of_le HL7.out.2 hb5.size⟩
      have hS5 : Below w3.heap.size w3 w5 := hS.trans (hb5.mono hS.size)
      refine hK.out _ _ hS5 (fun hS6 => ?_)
      clear hK K hb5 hS5 HT7 HL7
      try simp only [Act.put, List.setIfInBounds_toArray, List.set_cons_zero, List.set_cons_succ]
      refine wpAnyH_ready (rs := [4]) (by kernel_rfl) (by simp) ?_
      refine AllReadyH.cons rfl (fun K hK => ?_) AllReadyH.nil
      refine want_it (by kernel_rfl) ?_
      refine wp_store_mid 74 (.tmp 5) (.tmp 11) rfl w3.heap.size 0 (w4 rw0 rw1 rw2 rw3).toArray rfl rfl HT8.out info4 (one4 _ _ _ _) ?_
      simp only
      refine hK.out _ _ (below_setCells hS6 HL8.out.1) (fun hS7 => ?_)
      clear hK K
      try simp only [Act.put, List.getElem_toArray, List.getElem_cons_succ, List.getElem_cons_zero]
      refine wpAnyH_done (by kernel_rfl) ?_ _
      go_wp2
      go_meet
      case rel => exact ⟨w3.heap.size, rfl, HQ3.out.box hS6 HL8.out.1 HT8.out HL8.out.2 rfl⟩
  case rest =>
  obtain ⟨g, rfl, HR⟩ := hcut
  go_wp2
  have HQG1 : Hid (∀ w', (∃ x : Cl wc.heap.size wc, w' = x.u) → w'.rangeAt g 0 (w4 rw0 rw1 rw2 rw3)) := fun _ ⟨x, hx⟩ => hx ▸ x.range HR.out.r HR.out.l
  have HQK1 : Hid (∀ w', (∃ x : Cl wc.heap.size wc, w' = x.u) → w'.rangeAt k 0 (w4 xw0 xw1 xw2 xw3)) := fun _ ⟨x, hx⟩ => hx ▸ x.range HR.out.s (Nat.lt_trans HR.out.kg HR.out.l)
  have hne1 := Cl.ne wc.heap.size wc
  refine region_cl (N := wc.heap.size) (W := wc) (by kernel_rfl) (by kernel_rfl) (Below.refl _ _) ?_
  go_big_quiet_want
  refine quiet_load 74 _ rfl g 0 rfl (w4 rw0 rw1 rw2 rw3) _ HQG1.out Try.underlying74 rfl info4 ?_
  simp only [w4, Act.put, List.setIfInBounds_toArray, List.set_cons_zero, List.set_cons_succ]
  go_big_quiet_on
  go_big_quiet_want
  refine quiet_load 74 _ rfl g 0 rfl (w4 rw0 rw1 rw2 rw3) _ HQG1.out Try.underlying74 rfl info4 ?_
  simp only [w4, Act.put, List.setIfInBounds_toArray, List.set_cons_zero, List.set_cons_succ]
  go_big_quiet_on
  go_big_quiet_step ((go_at_call 65; exact cl_of (cm _) (Nat.le_refl _)))
  go_big_quiet_want
  refine quiet_load 74 _ rfl k 0 rfl (w4 xw0 xw1 xw2 xw3) _ HQK1.out Try.underlying74 rfl info4 ?_
  simp only [w4, Act.put, List.setIfInBounds_toArray, List.set_cons_zero, List.set_cons_succ]
  go_big_quiet_on
  go_big_quiet_step (fail)
  refine wpQuiet_nil ?_
  rintro _ ⟨xx1, rfl⟩
  replace HR := (show Hid (Ro w xx1.u n k g (w4 xw0 xw1 xw2 xw3) (w4 rw0 rw1 rw2 rw3)) from HR.out.below xx1.h)
  obtain ⟨wt1, hwt1⟩ : ∃ v, xx1.u = v := ⟨_, rfl⟩
  rw [hwt1] at HR ⊢
  clear hwt1 xx1 hne1 HQG1 HQK1
  go_wp2
  have HQG2 : Hid (∀ w', (∃ x : Cl wt1.heap.size wt1, w' = x.u) → w'.rangeAt g 0 (w4 rw0 rw1 rw2 rw3)) := fun _ ⟨x, hx⟩ => hx ▸ x.range HR.out.r HR.out.l
  have HQK2 : Hid (∀ w', (∃ x : Cl wt1.heap.size wt1, w' = x.u) → w'.rangeAt k 0 (w4 xw0 xw1 xw2 xw3)) := fun _ ⟨x, hx⟩ => hx ▸ x.range HR.out.s (Nat.lt_trans HR.out.kg HR.out.l)
  have hne2 := Cl.ne wt1.heap.size wt1
  refine region_cl (N := wt1.heap.size) (W := wt1) (by kernel_rfl) (by kernel_rfl) (Below.refl _ _) ?_
  go_big_quiet_want
  refine quiet_load 74 _ rfl g 0 rfl (w4 rw0 rw1 rw2 rw3) _ HQG2.out Try.underlying74 rfl info4 ?_
  simp only [w4, Act.put, List.setIfInBounds_toArray, List.set_cons_zero, List.set_cons_succ]
  go_big_quiet_on
  go_big_quiet_want
  refine quiet_load 74 _ rfl g 0 rfl (w4 rw0 rw1 rw2 rw3) _ HQG2.out Try.underlying74 rfl info4 ?_
  simp only [w4, Act.put, List.setIfInBounds_toArray, List.set_cons_zero, List.set_cons_succ]
  go_big_quiet_on
  go_big_quiet_step ((go_at_call 65; exact cl_of (cm _) (Nat.le_refl _)))
  go_big_quiet_want
  refine quiet_load 74 _ rfl k 0 rfl (w4 xw0 xw1 xw2 xw3) _ HQK2.out Try.underlying74 rfl info4 ?_
  simp only [w4, Act.put, List.setIfInBounds_toArray, List.set_cons_zero, List.set_cons_succ]
  go_big_quiet_on
  go_big_quiet_step (fail)
  refine wpQuiet_nil ?_
  rintro _ ⟨xx2, rfl⟩
  replace HR := (show Hid (Ro w xx2.u n k g (w4 xw0 xw1 xw2 xw3) (w4 rw0 rw1 rw2 rw3)) from HR.out.below xx2.h)
  obtain ⟨wt2, hwt2⟩ : ∃ v, xx2.u = v := ⟨_, rfl⟩
  rw [hwt2] at HR ⊢
  clear hwt2 xx2 hne2 HQG2 HQK2
  go_wp2_with (first
    | (refine wpList_load_mid rfl 74 (.tmp 5) rfl g 0 rfl (w4 rw0 rw1 rw2 rw3) _ HR.out.r Try.underlying74 rfl info4 ?_; simp only [w4])
    | (go_at_call 72; refine (cv _).mono ?_; rintro e wx ⟨rfl, hbx⟩; have HRx := (show Hid (Ro w wx n k g (w4 xw0 xw1 xw2 xw3) (w4 rw0 rw1 rw2 rw3)) from HR.out.below hbx); clear hbx cv)
    | (go_at_call 58; refine (cb _).mono ?_; rintro e wy ⟨rfl, hby⟩; have HRy := (show Hid (Ro w wy n k g (w4 xw0 xw1 xw2 xw3) (w4 rw0 rw1 rw2 rw3)) from HRx.out.below hby); have HT5 := (show Hid (wy.there (n + 1) 0 Z.toArray.size) from (by show World.there _ _ _ _; rw [HLR.out]; exact HRy.out.u)); clear hby cb)
    | (refine wpList_store_mid rfl 22 (.tmp 2) (.tmp 29) rfl (n + 1) 0 Z.toArray rfl rfl HT5.out HJ.out HO.out ?_; simp only))
  have HE5 := HFIN.out _ _ _ _ _ HRy.out
  first | exact bodyPost_ret (res_ct22 Try.results26 rfl HE5.1 rfl) rfl ⟨rfl, HE5.2⟩ | (rw [hn]; exact bodyPost_ret (res_ct22 Try.results26 rfl HE5.1 rfl) rfl ⟨rfl, HE5.2⟩)

set_option maxHeartbeats 8000000 in
set_option maxRecDepth 8000 in
theorem proot_b (a : Nat) (w : World) (ha : a < 115792089237316195423570985008687907853269984665640564039457584007913129639936) (hyp : ¬ r0 (a % p) * r0 (a % p) % p = a % p ∧ r0 (a % p) * rootOfMinusOne % p * (r0 (a % p) * rootOfMinusOne % p) % p = a % p) :
    Calls Try.prog 26 #[bv a] w fun e w' => e = .returned (.tuple #[bv (evn (r0 (a % p) * rootOfMinusOne % p)), .nilIface]) ∧ Below w.heap.size w w' := by
  have hx : a % p < p := Nat.mod_lt _ (by decide)
  have hxL : a % p < 115792089237316195423570985008687907853269984665640564039457584007913129639936 := mod_256 a
  have ca := fun W => wordsOf_any a W
  have cs := fun W => reduced_any a W ha
  have ce := fun W => rootExponent_any W
  have cp := fun W => power_any (a % p) rootExponent W hxL (by decide)
  have hr0 : (a % p) ^ rootExponent % p = r0 (a % p) := rfl
  rw [hr0] at cp
  have hrl := r0_lt (a % p)
  have hpp : p < 115792089237316195423570985008687907853269984665640564039457584007913129639936 := by decide
  obtain ⟨x, hxx⟩ : ∃ x, a % p = x := ⟨_, rfl⟩
  rw [hxx] at hx hxL cs cp hrl hr0 hyp ⊢
  obtain ⟨r, hrr⟩ : ∃ r, r0 x = r := ⟨_, rfl⟩
  rw [hrr] at cp hrl hr0 hyp ⊢
  have cm := fun W => product_any r r W (Nat.lt_trans hrl hpp) (Nat.lt_trans hrl hpp)
  have hml : r * r % p < 115792089237316195423570985008687907853269984665640564039457584007913129639936 := Nat.lt_trans (Nat.mod_lt _ (by decide)) hpp
  have q1 := fun W => w4_words (r * r % p) x W hml hxL
  obtain ⟨hyp1, hyp2⟩ := hyp
  rw [decide_eq_false hyp1] at q1
  obtain ⟨m, hm⟩ : ∃ m, r * r % p = m := ⟨_, rfl⟩
  rw [hm] at cm q1
  have ci := fun W => rootOfMinusOne_any W
  have c2 := fun W => product_any r rootOfMinusOne W (Nat.lt_trans hrl hpp) (by decide)
  have hsl : r * rootOfMinusOne % p < p := Nat.mod_lt _ (by decide)
  obtain ⟨s, hs⟩ : ∃ s, r * rootOfMinusOne % p = s := ⟨_, rfl⟩
  rw [hs] at c2 hsl hyp2 ⊢
  have c3 := fun W => product_any s s W (Nat.lt_trans hsl hpp) (Nat.lt_trans hsl hpp)
  have hql : s * s % p < 115792089237316195423570985008687907853269984665640564039457584007913129639936 := Nat.lt_trans (Nat.mod_lt _ (by decide)) hpp
  have q2 := fun W => w4_words (s * s % p) x W hql hxL
  rw [hyp2, decide_eq_true rfl] at q2
  rw [hyp2] at c3
  have cv := fun W => even_any s W hsl
  obtain ⟨o, ho⟩ : ∃ o, evn s = o := ⟨_, rfl⟩
  rw [ho] at cv ⊢
  have cb := fun W => bytesOf_any o W
  have hS0 := B1.start w (bvc a)
  obtain ⟨n, hn⟩ : ∃ n, w.heap.size = n := ⟨_, rfl⟩
  rw [hn] at hS0
  have HS0 : Hid (B1 w _ n (bvc a)) := hS0
  have HJ : Hid ((Try.prog.info? 22).map (·.size) = some (bvc o).toArray.size) := info22s o
  have HO : Hid ((bvc o).toArray.all (·.oneCell') = true) := one32 o
  have HLR : Hid ((bvc o).toArray.size = 32) := by show _ = _; rw [List.size_toArray, bvc_len]
  have HFIN : Hid (∀ (wr : World) (k g : Nat) (S R : List Value), Ro w wr n k g S R → (loadVar 22 ⟨n + 1, 0, none⟩).run Try.prog (wr.setCells (n + 1) 0 (bvc o)) = .ok (.agg (bvc o).toArray) (wr.setCells (n + 1) 0 (bvc o)) ∧ Below n w (wr.setCells (n + 1) 0 (bvc o))) := fun wr k g S R h => h.fin o
  unfold bv
  have HIA := info22l a
  unfold bv at ca cb
  obtain ⟨A, hA⟩ : ∃ A, bvc a = A := ⟨_, rfl⟩
  obtain ⟨Z, hZ⟩ : ∃ A, bvc o = A := ⟨_, rfl⟩
  rw [hA] at HS0 HIA ca
  rw [hZ] at HJ HO HLR HFIN cb
  rw [hA, hZ]
  obtain ⟨v1, hv1⟩ : ∃ v, nv a = v := ⟨_, rfl⟩
  obtain ⟨v2, hv2⟩ : ∃ v, nv rootExponent = v := ⟨_, rfl⟩
  rw [hv1] at ca cs
  rw [hv2] at ce cp
  rw [nv_w4 x] at cs cp c3
  rw [nv_w4 r] at cp cm c2
  rw [nv_w4 m] at cm
  rw [nv_w4 s] at c2 c3 cv
  obtain ⟨v3, hv3⟩ : ∃ v, nv rootOfMinusOne = v := ⟨_, rfl⟩
  rw [hv3] at ci c2
  obtain ⟨v5, hv5⟩ : ∃ v, nv o = v := ⟨_, rfl⟩
  rw [hv5] at cv cb
  obtain ⟨xw0, hxw0⟩ : ∃ t, l0 (x) = t := ⟨_, rfl⟩
  obtain ⟨xw1, hxw1⟩ : ∃ t, l1 (x) = t := ⟨_, rfl⟩
  obtain ⟨xw2, hxw2⟩ : ∃ t, l2 (x) = t := ⟨_, rfl⟩
  obtain ⟨xw3, hxw3⟩ : ∃ t, l3 (x) = t := ⟨_, rfl⟩
  rw [hxw0, hxw1, hxw2, hxw3] at cs cp q1 q2 c3
  obtain ⟨rw0, hrw0⟩ : ∃ t, l0 (r) = t := ⟨_, rfl⟩
  obtain ⟨rw1, hrw1⟩ : ∃ t, l1 (r) = t := ⟨_, rfl⟩
  obtain ⟨rw2, hrw2⟩ : ∃ t, l2 (r) = t := ⟨_, rfl⟩
  obtain ⟨rw3, hrw3⟩ : ∃ t, l3 (r) = t := ⟨_, rfl⟩
  rw [hrw0, hrw1, hrw2, hrw3] at cp cm c2
  obtain ⟨mw0, hmw0⟩ : ∃ t, l0 (m) = t := ⟨_, rfl⟩
  obtain ⟨mw1, hmw1⟩ : ∃ t, l1 (m) = t := ⟨_, rfl⟩
  obtain ⟨mw2, hmw2⟩ : ∃ t, l2 (m) = t := ⟨_, rfl⟩
  obtain ⟨mw3, hmw3⟩ : ∃ t, l3 (m) = t := ⟨_, rfl⟩
  rw [hmw0, hmw1, hmw2, hmw3] at cm q1
  obtain ⟨sw0, hsw0⟩ : ∃ t, l0 (s) = t := ⟨_, rfl⟩
  obtain ⟨sw1, hsw1⟩ : ∃ t, l1 (s) = t := ⟨_, rfl⟩
  obtain ⟨sw2, hsw2⟩ : ∃ t, l2 (s) = t := ⟨_, rfl⟩
  obtain ⟨sw3, hsw3⟩ : ∃ t, l3 (s) = t := ⟨_, rfl⟩
  rw [hsw0, hsw1, hsw2, hsw3] at c2 c3 cv
  clear hA hZ hv1 hv2 hS0 ha hx hxL hrl hpp hml hxx hrr hr0 ho hxw0 hxw1 hxw2 hxw3 hrw0 hrw1 hrw2 hrw3 hmw0 hmw1 hmw2 hmw3 hsw0 hsw1 hsw2 hsw3 hyp1 hyp2 hm hs hsl hql hv3 hv5
  unfold w4 at cs cp cm q1 cv c2 c3 q2
  go_enter Try.func26, Try.ntmps26
  go_upto_region 2 with (first
    | (refine wpList_load_mid rfl 22 (.tmp 1) rfl n 0 rfl A _ HS0.out.ra Try.underlying22 rfl HIA ?_)
    | (go_at_call 61; refine (ca _).mono ?_; rintro e w1 ⟨rfl, hb1⟩; have HS1 := (show Hid (B1 w w1 n A) from HS0.out.below hb1); clear hb1 ca HS0)
    | (go_at_call 60; refine (cs _).mono ?_; rintro e w2 ⟨rfl, hb2⟩; have HS2 := (show Hid (B1 w w2 n A) from HS1.out.below hb2); clear hb2 cs HS1))
  have HQ3 : Hid (Sq w (w2.alloc (.cells (w4 xw0 xw1 xw2 xw3).toArray 74)) n w2.heap.size (w4 xw0 xw1 xw2 xw3)) := by
    have hb3 := (HS2.out.below ((Below.refl _ _).alloc (Nat.le_refl _) (.cells (w4 xw0 xw1 xw2 xw3).toArray 74)))
    exact ⟨hb3.b, hb3.u, range_new _ _ _, HS2.out.l, by rw [size_alloc]; omega⟩
  obtain ⟨k, hk⟩ : ∃ k, w2.heap.size = k := ⟨_, rfl⟩
  obtain ⟨w3, hw3⟩ : ∃ v, w2.alloc (.cells (w4 xw0 xw1 xw2 xw3).toArray 74) = v := ⟨_, rfl⟩
  rw [hk, hw3] at HQ3
  unfold w4 at hw3
  rw [hk, hw3]
  clear hk hw3 HS2
  have HXL : Hid (∀ wq, Below w3.heap.size w3 wq → (loadVar 74 ⟨k, 0, none⟩).run Try.prog wq = .ok (.agg (w4 xw0 xw1 xw2 xw3).toArray) wq) := fun wq hq => run_loadVar_mid (P := Try.prog) wq k 0 74 (w4 xw0 xw1 xw2 xw3) _ (Rg.Below.range hq HQ3.out.s HQ3.out.l) Try.underlying74 rfl info4
  go_cut [5] from 9 to 11 (fun s wx => ∃ g, s = .pointer (some ⟨g, 0, none⟩) ∧ Hid (Ro w wx n k g (w4 xw0 xw1 xw2 xw3) (w4 rw0 rw1 rw2 rw3)))
  case first =>
    refine wp_region_held_drew (S := fun w' => Below w3.heap.size w3 w') (by kernel_rfl) (drewB w3) (fun hS => ?_)
    refine wpAnyH_take (i := 0) (v := .agg #[.int .u64 (xw0 : Int), .int .u64 (xw1 : Int), .int .u64 (xw2 : Int), .int .u64 (xw3 : Int)]) rfl (by kernel_rfl) (by kernel_rfl) (by kernel_rfl) (fun _ _ _ h => h) (Or.inl ⟨by kernel_rfl, fun wq hS => ?_⟩) hS ?_
    · have hl := HXL.out wq hS
      unfold w4 at hl
      unfold execOp
      simp [Act.eval, Instr.loadAt, Instr.sureAddr, hl]
    try simp only [Act.put, List.setIfInBounds_toArray]
    have HT0 : ∀ W : World, (W.alloc (.cells (w4 0 0 0 0).toArray 74)).there W.heap.size 0 4 := fun W => there_new W _ 74 fun j hj => by simp [w4, hj]
    have HTT : Hid (∀ W : World, (W.alloc (.cells #[.int .u64 0, .int .u64 0, .int .u64 0, .int .u64 0] 74)).there W.heap.size 0 4) := HT0
    clear HT0
    refine wpAnyH_ready (rs := [1, 3]) (by kernel_rfl) (by simp) ?_
    refine AllReadyH.cons rfl (fun K hK => ?_) (AllReadyH.cons rfl (fun K hK => ?_) AllReadyH.nil)
    · go_simp
      refine (ce _).mono ?_
      rintro e w4' ⟨rfl, hb4⟩
      have hS4 : Below w3.heap.size w3 w4' := hS.trans (hb4.mono hS.size)
      refine hK.out _ _ hS4 (fun hS => ?_)
      clear hK K hb4 hS4
      try simp only [Act.put, List.setIfInBounds_toArray, List.set_cons_zero, List.set_cons_succ]
      refine wpAnyH_ready (rs := [2, 3]) (by kernel_rfl) (by simp) ?_
      refine AllReadyH.cons rfl (fun K hK => ?_) (AllReadyH.cons rfl (fun K hK => ?_) AllReadyH.nil)
      · go_simp
        refine (cp _).mono ?_
        rintro e w5 ⟨rfl, hb5⟩
        have hS5 : Below w3.heap.size w3 w5 := hS.trans (hb5.mono hS.size)
        refine hK.out _ _ hS5 (fun hS => ?_)
        clear hK K hb5 hS5
        try simp only [Act.put, List.setIfInBounds_toArray, List.set_cons_zero, List.set_cons_succ]
        refine wpAnyH_ready (rs := [3]) (by kernel_rfl) (by simp) ?_
        refine AllReadyH.cons rfl (fun K hK => ?_) AllReadyH.nil
        go_simp
        refine hK.out _ _ (hS.alloc hS.size _) (fun hS6 => ?_)
        clear hK K
        try simp only [Act.put, List.setIfInBounds_toArray, List.set_cons_zero, List.set_cons_succ]
        have HT6 := (show Hid _ from HTT.out w5)
        have HL6 : Hid (w3.heap.size ≤ w5.heap.size ∧ w5.heap.size < (w5.alloc (.cells #[.int .u64 0, .int .u64 0, .int .u64 0, .int .u64 0] 74)).heap.size) := ⟨hS.size, by rw [size_alloc]; omega⟩
        refine wpAnyH_ready (rs := [4]) (by kernel_rfl) (by simp) ?_
        refine AllReadyH.cons rfl (fun K hK => ?_) AllReadyH.nil
        refine want_it (by kernel_rfl) ?_
        refine wp_store_mid 74 (.tmp 5) (.tmp 11) rfl w5.heap.size 0 (w4 rw0 rw1 rw2 rw3).toArray rfl rfl HT6.out info4 (one4 _ _ _ _) ?_
        simp only
        refine hK.out _ _ (below_setCells hS6 HL6.out.1) (fun hS7 => ?_)
        clear hK K
        try simp only [Act.put, List.getElem_toArray, List.getElem_cons_succ, List.getElem_cons_zero]
        refine wpAnyH_done (by kernel_rfl) ?_ _
        go_wp2
        go_meet
        case rel => exact ⟨w5.heap.size, rfl, HQ3.out.box hS6 HL6.out.1 HT6.out HL6.out.2 rfl⟩
      · go_simp
        have HT6 := (show Hid _ from HTT.out w4')
        have HL6 : Hid (w3.heap.size ≤ w4'.heap.size ∧ w4'.heap.size < (w4'.alloc (.cells #[.int .u64 0, .int .u64 0, .int .u64 0, .int .u64 0] 74)).heap.size) := ⟨hS.size, by rw [size_alloc]; omega⟩
        obtain ⟨g, hg⟩ : ∃ g, w4'.heap.size = g := ⟨_, rfl⟩
        refine hK.out _ _ (hS.alloc hS.size _) (fun hS => ?_)
        clear hK K
        try simp only [Act.put, List.setIfInBounds_toArray, List.set_cons_zero, List.set_cons_succ]
        obtain ⟨w6, hw6⟩ : ∃ v, w4'.alloc (.cells #[.int .u64 0, .int .u64 0, .int .u64 0, .int .u64 0] 74) = v := ⟨_, rfl⟩
        rw [hw6] at HT6 HL6 hS ⊢
        rw [hg] at HT6 HL6 ⊢
        clear hg hw6
        refine wpAnyH_ready (rs := [2]) (by kernel_rfl) (by simp) ?_
        refine AllReadyH.cons rfl (fun K hK => ?_) AllReadyH.nil
        go_simp
        refine (cp _).mono ?_
        rintro e w5 ⟨rfl, hb5⟩
        have HT7 : Hid (w5.there g 0 4) := there_below hb5 HT6.out HL6.out.2
        have HL7 : Hid (w3.heap.size ≤ g ∧ g < w5.heap.size) := ⟨HL6.out.1, Nat.lt_of_lt_of_le HL6.out.2 hb5.size⟩
        have hS5 : Below w3.heap.size w3 w5 := hS.trans (hb5.mono hS.size)
        refine hK.out _ _ hS5 (fun hS6 => ?_)
        clear hK K hb5 hS5 HT6 HL6 hS
        try simp only [Act.put, List.setIfInBounds_toArray, List.set_cons_zero, List.set_cons_succ]
        refine wpAnyH_ready (rs := [4]) (by kernel_rfl) (by simp) ?_
        refine AllReadyH.cons rfl (fun K hK => ?_) AllReadyH.nil
        refine want_it (by kernel_rfl) ?_
        refine wp_store_mid 74 (.tmp 5) (.tmp 11) rfl g 0 (w4 rw0 rw1 rw2 rw3).toArray rfl rfl HT7.out info4 (one4 _ _ _ _) ?_
        simp only
        refine hK.out _ _ (below_setCells hS6 HL7.out.1) (fun hS7 => ?_)
        clear hK K
        try simp only [Act.put, List.getElem_toArray, List.getElem_cons_succ, List.getElem_cons_zero]
        refine wpAnyH_done (by kernel_rfl) ?_ _
        go_wp2
        go_meet
        case rel => exact ⟨g, rfl, HQ3.out.box hS6 HL7.out.1 HT7.out HL7.out.2 rfl⟩
    · go_simp
      have HT6 : Hid (((w3.alloc (.cells #[.int .u64 0, .int .u64 0, .int .u64 0, .int .u64 0] 74)).drew).there w3.heap.size 0 4) := HTT.out w3
      have HL6 : Hid (w3.heap.size ≤ w3.heap.size ∧ w3.heap.size < ((w3.alloc (.cells #[.int .u64 0, .int .u64 0, .int .u64 0, .int .u64 0] 74)).drew).heap.size) := ⟨Nat.le_refl _, by show w3.heap.size < (w3.alloc (.cells #[.int .u64 0, .int .u64 0, .int .u64 0, .int .u64 0] 74)).heap.size; rw [size_alloc]; omega⟩
      refine hK.out _ _ (hS.alloc hS.size _) (fun hS => ?_)
      clear hK K
      try simp only [Act.put, List.setIfInBounds_toArray, List.set_cons_zero, List.set_cons_succ]
      obtain ⟨w6, hw6⟩ : ∃ v, (w3.alloc (.cells #[.int .u64 0, .int .u64 0, .int .u64 0, .int .u64 0] 74)).drew = v := ⟨_, rfl⟩
      rw [hw6] at HT6 HL6 hS ⊢
      clear hw6
      refine wpAnyH_ready (rs := [1]) (by kernel_rfl) (by simp) ?_
      refine AllReadyH.cons rfl (fun K hK => ?_) AllReadyH.nil
      go_simp
      refine (ce _).mono ?_
      rintro e w4' ⟨rfl, hb4⟩
      have HT7 : Hid (w4'.there w3.heap.size 0 4) := there_below hb4 HT6.out HL6.out.2
      have HL7 : Hid (w3.heap.size ≤ w3.heap.size ∧ w3.heap.size < w4'.heap.size) := ⟨HL6.out.1, Nat.lt_of_lt_of_le HL6.out.2 hb4.size⟩
      have hS4 : Below w3.heap.size w3 w4' := hS.trans (hb4.mono hS.size)
      refine hK.out _ _ hS4 (fun hS => ?_)
      clear hK K hb4 hS4 HT6 HL6
      try simp only [Act.put, List.setIfInBounds_toArray, List.set_cons_zero, List.set_cons_succ]
      refine wpAnyH_ready (rs := [2]) (by kernel_rfl) (by simp) ?_
      refine AllReadyH.cons rfl (fun K hK => ?_) AllReadyH.nil
      go_simp
      refine (cp _).mono ?_
      rintro e w5 ⟨rfl, hb5⟩
      have HT8 : Hid (w5.there w3.heap.size 0 4) := there_below hb5 HT7.out HL7.out.2
      have HL8 : Hid (w3.heap.size ≤ w3.heap.size ∧ w3.heap.size < w5.heap.size) := ⟨HL7.out.1, Nat.lt_of_lt_of_le HL7.out.2 hb5.size⟩
      have hS5 : Below w3.heap.size w3 w5 := hS.trans (hb5.mono hS.size)
      refine hK.out _ _ hS5 (fun hS6 => ?_)
      clear hK K hb5 hS5 HT7 HL7
      try simp only [Act.put, List.setIfInBounds_toArray, List.set_cons_zero, List.set_cons_succ]
      refine wpAnyH_ready (rs := [4]) (by kernel_rfl) (by simp) ?_
      refine AllReadyH.cons rfl (fun K hK => ?_) AllReadyH.nil
      refine want_it (by kernel_rfl) ?_
      refine wp_store_mid 74 (.tmp 5) (.tmp 11) rfl w3.heap.size 0 (w4 rw0 rw1 rw2 rw3).toArray rfl rfl HT8.out info4 (one4 _ _ _ _) ?_
      simp only
      refine hK.out _ _ (below_setCells hS6 HL8.out.1) (fun hS7 => ?_)
      clear hK K
      try simp only [Act.put, List.getElem_toArray, List.getElem_cons_succ, List.getElem_cons_zero]
      refine wpAnyH_done (by kernel_rfl) ?_ _
      go_wp2
      go_meet
      case rel => exact ⟨w3.heap.size, rfl, HQ3.out.box hS6 HL8.out.1 HT8.out HL8.out.2 rfl⟩
  case rest =>
  obtain ⟨g, rfl, HR⟩ := hcut
  go_wp2
  have HQG3 : Hid (∀ w', (∃ x : Cl wc.heap.size wc, w' = x.u) → w'.rangeAt g 0 (w4 rw0 rw1 rw2 rw3)) := fun _ ⟨x, hx⟩ => hx ▸ x.range HR.out.r HR.out.l
  have HQK3 : Hid (∀ w', (∃ x : Cl wc.heap.size wc, w' = x.u) → w'.rangeAt k 0 (w4 xw0 xw1 xw2 xw3)) := fun _ ⟨x, hx⟩ => hx ▸ x.range HR.out.s (Nat.lt_trans HR.out.kg HR.out.l)
  have hne3 := Cl.ne wc.heap.size wc
  refine region_cl (N := wc.heap.size) (W := wc) (by kernel_rfl) (by kernel_rfl) (Below.refl _ _) ?_
  go_big_quiet_want
  refine quiet_load 74 _ rfl g 0 rfl (w4 rw0 rw1 rw2 rw3) _ HQG3.out Try.underlying74 rfl info4 ?_
  simp only [w4, Act.put, List.setIfInBounds_toArray, List.set_cons_zero, List.set_cons_succ]
  go_big_quiet_on
  go_big_quiet_want
  refine quiet_load 74 _ rfl g 0 rfl (w4 rw0 rw1 rw2 rw3) _ HQG3.out Try.underlying74 rfl info4 ?_
  simp only [w4, Act.put, List.setIfInBounds_toArray, List.set_cons_zero, List.set_cons_succ]
  go_big_quiet_on
  go_big_quiet_step ((go_at_call 65; exact cl_of (cm _) (Nat.le_refl _)))
  go_big_quiet_want
  refine quiet_load 74 _ rfl k 0 rfl (w4 xw0 xw1 xw2 xw3) _ HQK3.out Try.underlying74 rfl info4 ?_
  simp only [w4, Act.put, List.setIfInBounds_toArray, List.set_cons_zero, List.set_cons_succ]
  go_big_quiet_on
  go_big_quiet_step (fail)
  refine wpQuiet_nil ?_
  rintro _ ⟨xx3, rfl⟩
  replace HR := (show Hid (Ro w xx3.u n k g (w4 xw0 xw1 xw2 xw3) (w4 rw0 rw1 rw2 rw3)) from HR.out.below xx3.h)
  obtain ⟨wt3, hwt3⟩ : ∃ v, xx3.u = v := ⟨_, rfl⟩
  rw [hwt3] at HR ⊢
  clear hwt3 xx3 hne3 HQG3 HQK3
  go_wp2
  have HQG : Hid (∀ w', (∃ x : Cl wt3.heap.size wt3, w' = x.u) → w'.rangeAt g 0 (w4 rw0 rw1 rw2 rw3)) := fun _ ⟨x, hx⟩ => hx ▸ x.range HR.out.r HR.out.l
  have hne := Cl.ne wt3.heap.size wt3
  apply region_cl_tail (N := wt3.heap.size) (W := wt3) 3 8 (by kernel_rfl) (Below.refl _ _)
  case hl => simp only [List.take_succ_cons, List.take_zero]; rfl
  case ht => simp only [List.drop_succ_cons, List.drop_zero]; rfl
  case hB => kernel_rfl
  case hT => kernel_rfl
  case h =>
  go_big_quiet_want
  refine quiet_load 74 _ rfl g 0 rfl (w4 rw0 rw1 rw2 rw3) _ HQG.out Try.underlying74 rfl info4 ?_
  simp only [w4, Act.put, List.setIfInBounds_toArray, List.set_cons_zero, List.set_cons_succ]
  go_big_quiet_on
  go_big_quiet_step ((go_at_call 71; exact cl_of (ci _) (Nat.le_refl _)))
  go_big_quiet_step ((go_at_call 65; exact cl_of (c2 _) (Nat.le_refl _)))
  refine wpQuiet_nil ?_
  rintro _ ⟨xm, rfl⟩
  replace HR := (show Hid (Ro w xm.u n k g (w4 xw0 xw1 xw2 xw3) (w4 rw0 rw1 rw2 rw3)) from HR.out.below xm.h)
  obtain ⟨wm, hwm⟩ : ∃ v, xm.u = v := ⟨_, rfl⟩
  rw [hwm] at HR ⊢
  clear hwm xm hne HQG
  have HTm : Hid (wm.there g 0 4) := HR.out.t
  replace HR := (show Hid (Ro w (wm.setCells g 0 (w4 sw0 sw1 sw2 sw3)) n k g (w4 xw0 xw1 xw2 xw3) (w4 sw0 sw1 sw2 sw3)) from HR.out.set _ rfl)
  obtain ⟨wn, hwn⟩ : ∃ v, wm.setCells g 0 (w4 sw0 sw1 sw2 sw3) = v := ⟨_, rfl⟩
  rw [hwn] at HR
  go_upto_region 5 with (refine wpList_store_mid rfl 74 (.tmp 5) (.tmp 19) rfl g 0 (w4 sw0 sw1 sw2 sw3).toArray rfl rfl HTm.out info4 (one4 _ _ _ _) ?_; simp only; rw [hwn]; clear hwn HTm; try simp only [Act.put])
  try simp only [Act.put]
  go_wp2
  have HQG4 : Hid (∀ w', (∃ x : Cl wn.heap.size wn, w' = x.u) → w'.rangeAt g 0 (w4 sw0 sw1 sw2 sw3)) := fun _ ⟨x, hx⟩ => hx ▸ x.range HR.out.r HR.out.l
  have HQK4 : Hid (∀ w', (∃ x : Cl wn.heap.size wn, w' = x.u) → w'.rangeAt k 0 (w4 xw0 xw1 xw2 xw3)) := fun _ ⟨x, hx⟩ => hx ▸ x.range HR.out.s (Nat.lt_trans HR.out.kg HR.out.l)
  have hne4 := Cl.ne wn.heap.size wn
  refine region_cl (N := wn.heap.size) (W := wn) (by kernel_rfl) (by kernel_rfl) (Below.refl _ _) ?_
  go_big_quiet_want
  refine quiet_load 74 _ rfl g 0 rfl (w4 sw0 sw1 sw2 sw3) _ HQG4.out Try.underlying74 rfl info4 ?_
  simp only [w4, Act.put, List.setIfInBounds_toArray, List.set_cons_zero, List.set_cons_succ]
  go_big_quiet_on
  go_big_quiet_want
  refine quiet_load 74 _ rfl g 0 rfl (w4 sw0 sw1 sw2 sw3) _ HQG4.out Try.underlying74 rfl info4 ?_
  simp only [w4, Act.put, List.setIfInBounds_toArray, List.set_cons_zero, List.set_cons_succ]
  go_big_quiet_on
  go_big_quiet_step ((go_at_call 65; exact cl_of (c3 _) (Nat.le_refl _)))
  go_big_quiet_want
  refine quiet_load 74 _ rfl k 0 rfl (w4 xw0 xw1 xw2 xw3) _ HQK4.out Try.underlying74 rfl info4 ?_
  simp only [w4, Act.put, List.setIfInBounds_toArray, List.set_cons_zero, List.set_cons_succ]
  go_big_quiet_on
  go_big_quiet_step (fail)
  refine wpQuiet_nil ?_
  rintro _ ⟨xx4, rfl⟩
  replace HR := (show Hid (Ro w xx4.u n k g (w4 xw0 xw1 xw2 xw3) (w4 sw0 sw1 sw2 sw3)) from HR.out.below xx4.h)
  obtain ⟨wt4, hwt4⟩ : ∃ v, xx4.u = v := ⟨_, rfl⟩
  rw [hwt4] at HR ⊢
  clear hwt4 xx4 hne4 HQG4 HQK4
  go_wp2_with (first
    | (refine wpList_load_mid rfl 74 (.tmp 5) rfl g 0 rfl (w4 sw0 sw1 sw2 sw3) _ HR.out.r Try.underlying74 rfl info4 ?_; simp only [w4])
    | (go_at_call 72; refine (cv _).mono ?_; rintro e wx ⟨rfl, hbx⟩; have HRx := (show Hid (Ro w wx n k g (w4 xw0 xw1 xw2 xw3) (w4 sw0 sw1 sw2 sw3)) from HR.out.below hbx); clear hbx cv)
    | (go_at_call 58; refine (cb _).mono ?_; rintro e wy ⟨rfl, hby⟩; have HRy := (show Hid (Ro w wy n k g (w4 xw0 xw1 xw2 xw3) (w4 sw0 sw1 sw2 sw3)) from HRx.out.below hby); have HT5 := (show Hid (wy.there (n + 1) 0 Z.toArray.size) from (by show World.there _ _ _ _; rw [HLR.out]; exact HRy.out.u)); clear hby cb)
    | (refine wpList_store_mid rfl 22 (.tmp 2) (.tmp 29) rfl (n + 1) 0 Z.toArray rfl rfl HT5.out HJ.out HO.out ?_; simp only))
  have HE5 := HFIN.out _ _ _ _ _ HRy.out
  first | exact bodyPost_ret (res_ct22 Try.results26 rfl HE5.1 rfl) rfl ⟨rfl, HE5.2⟩ | (rw [hn]; exact bodyPost_ret (res_ct22 Try.results26 rfl HE5.1 rfl) rfl ⟨rfl, HE5.2⟩)

set_option maxHeartbeats 8000000 in
set_option maxRecDepth 8000 in
theorem proot_c (a : Nat) (w : World) (ha : a < 115792089237316195423570985008687907853269984665640564039457584007913129639936) (hyp : ¬ r0 (a % p) * r0 (a % p) % p = a % p ∧ ¬ r0 (a % p) * rootOfMinusOne % p * (r0 (a % p) * rootOfMinusOne % p) % p = a % p) :
    Calls Try.prog 26 #[bv a] w fun e w' => e = .returned (.tuple #[bv 0, .iface 35 (.int .i64 9)]) ∧ Below w.heap.size w w' := by
  have hx : a % p < p := Nat.mod_lt _ (by decide)
  have hxL : a % p < 115792089237316195423570985008687907853269984665640564039457584007913129639936 := mod_256 a
  have ca := fun W => wordsOf_any a W
  have cs := fun W => reduced_any a W ha
  have ce := fun W => rootExponent_any W
  have cp := fun W => power_any (a % p) rootExponent W hxL (by decide)
  have hr0 : (a % p) ^ rootExponent % p = r0 (a % p) := rfl
  rw [hr0] at cp
  have hrl := r0_lt (a % p)
  have hpp : p < 115792089237316195423570985008687907853269984665640564039457584007913129639936 := by decide
  obtain ⟨x, hxx⟩ : ∃ x, a % p = x := ⟨_, rfl⟩
  rw [hxx] at hx hxL cs cp hrl hr0 hyp
  obtain ⟨r, hrr⟩ : ∃ r, r0 x = r := ⟨_, rfl⟩
  rw [hrr] at cp hrl hr0 hyp
  have cm := fun W => product_any r r W (Nat.lt_trans hrl hpp) (Nat.lt_trans hrl hpp)
  have hml : r * r % p < 115792089237316195423570985008687907853269984665640564039457584007913129639936 := Nat.lt_trans (Nat.mod_lt _ (by decide)) hpp
  have q1 := fun W => w4_words (r * r % p) x W hml hxL
  obtain ⟨hyp1, hyp2⟩ := hyp
  rw [decide_eq_false hyp1] at q1
  obtain ⟨m, hm⟩ : ∃ m, r * r % p = m := ⟨_, rfl⟩
  rw [hm] at cm q1
  have ci := fun W => rootOfMinusOne_any W
  have c2 := fun W => product_any r rootOfMinusOne W (Nat.lt_trans hrl hpp) (by decide)
  have hsl : r * rootOfMinusOne % p < p := Nat.mod_lt _ (by decide)
  obtain ⟨s, hs⟩ : ∃ s, r * rootOfMinusOne % p = s := ⟨_, rfl⟩
  rw [hs] at c2 hsl hyp2
  have c3 := fun W => product_any s s W (Nat.lt_trans hsl hpp) (Nat.lt_trans hsl hpp)
  have hql : s * s % p < 115792089237316195423570985008687907853269984665640564039457584007913129639936 := Nat.lt_trans (Nat.mod_lt _ (by decide)) hpp
  have q2 := fun W => w4_words (s * s % p) x W hql hxL
  rw [decide_eq_false hyp2] at q2
  obtain ⟨m2, hm2⟩ : ∃ m, s * s % p = m := ⟨_, rfl⟩
  rw [hm2] at c3 q2
  obtain ⟨o, ho⟩ : ∃ o, (0 : Nat) = o := ⟨_, rfl⟩
  have hS0 := B1.start w (bvc a)
  obtain ⟨n, hn⟩ : ∃ n, w.heap.size = n := ⟨_, rfl⟩
  rw [hn] at hS0
  have HS0 : Hid (B1 w _ n (bvc a)) := hS0
  have HJ : Hid ((Try.prog.info? 22).map (·.size) = some (bvc o).toArray.size) := info22s o
  have HO : Hid ((bvc o).toArray.all (·.oneCell') = true) := one32 o
  have HLR : Hid ((bvc o).toArray.size = 32) := by show _ = _; rw [List.size_toArray, bvc_len]
  have HFIN : Hid (∀ (wr : World) (k g : Nat) (S R : List Value), Ro w wr n k g S R → (loadVar 22 ⟨n + 1, 0, none⟩).run Try.prog (wr.setCells (n + 1) 0 (bvc o)) = .ok (.agg (bvc o).toArray) (wr.setCells (n + 1) 0 (bvc o)) ∧ Below n w (wr.setCells (n + 1) 0 (bvc o))) := fun wr k g S R h => h.fin o
  have HB0 : Hid (Value.agg (bvc o).toArray = .agg #[.int .u8 0, .int .u8 0, .int .u8 0, .int .u8 0, .int .u8 0, .int .u8 0, .int .u8 0, .int .u8 0, .int .u8 0, .int .u8 0, .int .u8 0, .int .u8 0, .int .u8 0, .int .u8 0, .int .u8 0, .int .u8 0, .int .u8 0, .int .u8 0, .int .u8 0, .int .u8 0, .int .u8 0, .int .u8 0, .int .u8 0, .int .u8 0, .int .u8 0, .int .u8 0, .int .u8 0, .int .u8 0, .int .u8 0, .int .u8 0, .int .u8 0, .int .u8 0]) := by show _ = _; rw [← ho]; exact bv_0
  rw [ho]
  unfold bv
  have HIA := info22l a
  unfold bv at ca
  obtain ⟨A, hA⟩ : ∃ A, bvc a = A := ⟨_, rfl⟩
  obtain ⟨Z, hZ⟩ : ∃ A, bvc o = A := ⟨_, rfl⟩
  rw [hA] at HS0 HIA ca
  rw [hZ] at HJ HO HLR HFIN HB0
  rw [hA, hZ]
  obtain ⟨v1, hv1⟩ : ∃ v, nv a = v := ⟨_, rfl⟩
  obtain ⟨v2, hv2⟩ : ∃ v, nv rootExponent = v := ⟨_, rfl⟩
  rw [hv1] at ca cs
  rw [hv2] at ce cp
  rw [nv_w4 x] at cs cp
  rw [nv_w4 r] at cp cm c2
  rw [nv_w4 m] at cm
  rw [nv_w4 s] at c2 c3
  obtain ⟨v3, hv3⟩ : ∃ v, nv rootOfMinusOne = v := ⟨_, rfl⟩
  rw [hv3] at ci c2
  rw [nv_w4 m2] at c3
  obtain ⟨xw0, hxw0⟩ : ∃ t, l0 (x) = t := ⟨_, rfl⟩
  obtain ⟨xw1, hxw1⟩ : ∃ t, l1 (x) = t := ⟨_, rfl⟩
  obtain ⟨xw2, hxw2⟩ : ∃ t, l2 (x) = t := ⟨_, rfl⟩
  obtain ⟨xw3, hxw3⟩ : ∃ t, l3 (x) = t := ⟨_, rfl⟩
  rw [hxw0, hxw1, hxw2, hxw3] at cs cp q1 q2
  obtain ⟨rw0, hrw0⟩ : ∃ t, l0 (r) = t := ⟨_, rfl⟩
  obtain ⟨rw1, hrw1⟩ : ∃ t, l1 (r) = t := ⟨_, rfl⟩
  obtain ⟨rw2, hrw2⟩ : ∃ t, l2 (r) = t := ⟨_, rfl⟩
  obtain ⟨rw3, hrw3⟩ : ∃ t, l3 (r) = t := ⟨_, rfl⟩
  rw [hrw0, hrw1, hrw2, hrw3] at cp cm c2
  obtain ⟨mw0, hmw0⟩ : ∃ t, l0 (m) = t := ⟨_, rfl⟩
  obtain ⟨mw1, hmw1⟩ : ∃ t, l1 (m) = t := ⟨_, rfl⟩
  obtain ⟨mw2, hmw2⟩ : ∃ t, l2 (m) = t := ⟨_, rfl⟩
  obtain ⟨mw3, hmw3⟩ : ∃ t, l3 (m) = t := ⟨_, rfl⟩
  rw [hmw0, hmw1, hmw2, hmw3] at cm q1
  obtain ⟨sw0, hsw0⟩ : ∃ t, l0 (s) = t := ⟨_, rfl⟩
  obtain ⟨sw1, hsw1⟩ : ∃ t, l1 (s) = t := ⟨_, rfl⟩
  obtain ⟨sw2, hsw2⟩ : ∃ t, l2 (s) = t := ⟨_, rfl⟩
  obtain ⟨sw3, hsw3⟩ : ∃ t, l3 (s) = t := ⟨_, rfl⟩
  rw [hsw0, hsw1, hsw2, hsw3] at c2 c3
  obtain ⟨yw0, hyw0⟩ : ∃ t, l0 (m2) = t := ⟨_, rfl⟩
  obtain ⟨yw1, hyw1⟩ : ∃ t, l1 (m2) = t := ⟨_, rfl⟩
  obtain ⟨yw2, hyw2⟩ : ∃ t, l2 (m2) = t := ⟨_, rfl⟩
  obtain ⟨yw3, hyw3⟩ : ∃ t, l3 (m2) = t := ⟨_, rfl⟩
  rw [hyw0, hyw1, hyw2, hyw3] at c3 q2
  clear hA hZ hv1 hv2 hS0 ha hx hxL hrl hpp hml hxx hrr hr0 ho hxw0 hxw1 hxw2 hxw3 hrw0 hrw1 hrw2 hrw3 hmw0 hmw1 hmw2 hmw3 hsw0 hsw1 hsw2 hsw3 hyw0 hyw1 hyw2 hyw3 hyp1 hyp2 hm hs hsl hql hv3 hm2
  unfold w4 at cs cp cm q1 c2 c3 q2
  go_enter Try.func26, Try.ntmps26
  go_upto_region 2 with (first
    | (refine wpList_load_mid rfl 22 (.tmp 1) rfl n 0 rfl A _ HS0.out.ra Try.underlying22 rfl HIA ?_)
    | (go_at_call 61; refine (ca _).mono ?_; rintro e w1 ⟨rfl, hb1⟩; have HS1 := (show Hid (B1 w w1 n A) from HS0.out.below hb1); clear hb1 ca HS0)
    | (go_at_call 60; refine (cs _).mono ?_; rintro e w2 ⟨rfl, hb2⟩; have HS2 := (show Hid (B1 w w2 n A) from HS1.out.below hb2); clear hb2 cs HS1))
  have HQ3 : Hid (Sq w (w2.alloc (.cells (w4 xw0 xw1 xw2 xw3).toArray 74)) n w2.heap.size (w4 xw0 xw1 xw2 xw3)) := by
    have hb3 := (HS2.out.below ((Below.refl _ _).alloc (Nat.le_refl _) (.cells (w4 xw0 xw1 xw2 xw3).toArray 74)))
    exact ⟨hb3.b, hb3.u, range_new _ _ _, HS2.out.l, by rw [size_alloc]; omega⟩
  obtain ⟨k, hk⟩ : ∃ k, w2.heap.size = k := ⟨_, rfl⟩
  obtain ⟨w3, hw3⟩ : ∃ v, w2.alloc (.cells (w4 xw0 xw1 xw2 xw3).toArray 74) = v := ⟨_, rfl⟩
  rw [hk, hw3] at HQ3
  unfold w4 at hw3
  rw [hk, hw3]
  clear hk hw3 HS2
  have HXL : Hid (∀ wq, Below w3.heap.size w3 wq → (loadVar 74 ⟨k, 0, none⟩).run Try.prog wq = .ok (.agg (w4 xw0 xw1 xw2 xw3).toArray) wq) := fun wq hq => run_loadVar_mid (P := Try.prog) wq k 0 74 (w4 xw0 xw1 xw2 xw3) _ (Rg.Below.range hq HQ3.out.s HQ3.out.l) Try.underlying74 rfl info4
  go_cut [5] from 9 to 11 (fun s wx => ∃ g, s = .pointer (some ⟨g, 0, none⟩) ∧ Hid (Ro w wx n k g (w4 xw0 xw1 xw2 xw3) (w4 rw0 rw1 rw2 rw3)))
  case first =>
    refine wp_region_held_drew (S := fun w' => Below w3.heap.size w3 w') (by kernel_rfl) (drewB w3) (fun hS => ?_)
    refine wpAnyH_take (i := 0) (v := .agg #[.int .u64 (xw0 : Int), .int .u64 (xw1 : Int), .int .u64 (xw2 : Int), .int .u64 (xw3 : Int)]) rfl (by kernel_rfl) (by kernel_rfl) (by kernel_rfl) (fun _ _ _ h => h) (Or.inl ⟨by kernel_rfl, fun wq hS => ?_⟩) hS ?_
    · have hl := HXL.out wq hS
      unfold w4 at hl
      unfold execOp
      simp [Act.eval, Instr.loadAt, Instr.sureAddr, hl]
    try simp only [Act.put, List.setIfInBounds_toArray]
    have HT0 : ∀ W : World, (W.alloc (.cells (w4 0 0 0 0).toArray 74)).there W.heap.size 0 4 := fun W => there_new W _ 74 fun j hj => by simp [w4, hj]
    have HTT : Hid (∀ W : World, (W.alloc (.cells #[.int .u64 0, .int .u64 0, .int .u64 0, .int .u64 0] 74)).there W.heap.size 0 4) := HT0
    clear HT0
    refine wpAnyH_ready (rs := [1, 3]) (by kernel_rfl) (by simp) ?_
    refine AllReadyH.cons rfl (fun K hK => ?_) (AllReadyH.cons rfl (fun K hK => ?_) AllReadyH.nil)
    · go_simp
      refine (ce _).mono ?_
      rintro e w4' ⟨rfl, hb4⟩
      have hS4 : Below w3.heap.size w3 w4' := hS.trans (hb4.mono hS.size)
      refine hK.out _ _ hS4 (fun hS => ?_)
      clear hK K hb4 hS4
      try simp only [Act.put, List.setIfInBounds_toArray, List.set_cons_zero, List.set_cons_succ]
      refine wpAnyH_ready (rs := [2, 3]) (by kernel_rfl) (by simp) ?_
      refine AllReadyH.cons rfl (fun K hK => ?_) (AllReadyH.cons rfl (fun K hK => ?_) AllReadyH.nil)
      · go_simp
        refine (cp _).mono ?_
        rintro e w5 ⟨rfl, hb5⟩
        have hS5 : Below w3.heap.size w3 w5 := hS.trans (hb5.mono hS.size)
        refine hK.out _ _ hS5 (fun hS => ?_)
        clear hK K hb5 hS5
        try simp only [Act.put, List.setIfInBounds_toArray, List.set_cons_zero, List.set_cons_succ]
        refine wpAnyH_ready (rs := [3]) (by kernel_rfl) (by simp) ?_
        refine AllReadyH.cons rfl (fun K hK => ?_) AllReadyH.nil
        go_simp
        refine hK.out _ _ (hS.alloc hS.size _) (fun hS6 => ?_)
        clear hK K
        try simp only [Act.put, List.setIfInBounds_toArray, List.set_cons_zero, List.set_cons_succ]
        have HT6 := (show Hid _ from HTT.out w5)
        have HL6 : Hid (w3.heap.size ≤ w5.heap.size ∧ w5.heap.size < (w5.alloc (.cells #[.int .u64 0, .int .u64 0, .int .u64 0, .int .u64 0] 74)).heap.size) := ⟨hS.size, by rw [size_alloc]; omega⟩
        refine wpAnyH_ready (rs := [4]) (by kernel_rfl) (by simp) ?_
        refine AllReadyH.cons rfl (fun K hK => ?_) AllReadyH.nil
        refine want_it (by kernel_rfl) ?_
        refine wp_store_mid 74 (.tmp 5) (.tmp 11) rfl w5.heap.size 0 (w4 rw0 rw1 rw2 rw3).toArray rfl rfl HT6.out info4 (one4 _ _ _ _) ?_
        simp only
        refine hK.out _ _ (below_setCells hS6 HL6.out.1) (fun hS7 => ?_)
        clear hK K
        try simp only [Act.put, List.getElem_toArray, List.getElem_cons_succ, List.getElem_cons_zero]
        refine wpAnyH_done (by kernel_rfl) ?_ _
        go_wp2
        go_meet
        case rel => exact ⟨w5.heap.size, rfl, HQ3.out.box hS6 HL6.out.1 HT6.out HL6.out.2 rfl⟩
      · go_simp
        have HT6 := (show Hid _ from HTT.out w4')
        have HL6 : Hid (w3.heap.size ≤ w4'.heap.size ∧ w4'.heap.size < (w4'.alloc (.cells #[.int .u64 0, .int .u64 0, .int .u64 0, .int .u64 0] 74)).heap.size) := ⟨hS.size, by rw [size_alloc]; omega⟩
        obtain ⟨g, hg⟩ : ∃ g, w4'.heap.size = g := ⟨_, rfl⟩
        refine hK.out _ _ (hS.alloc hS.size _) (fun hS => ?_)
        clear hK K
        try simp only [Act.put, List.setIfInBounds_toArray, List.set_cons_zero, List.set_cons_succ]
        obtain ⟨w6, hw6⟩ : ∃ v, w4'.alloc (.cells #[.int .u64 0, .int .u64 0, .int .u64 0, .int .u64 0] 74) = v := ⟨_, rfl⟩
        rw [hw6] at HT6 HL6 hS ⊢
        rw [hg] at HT6 HL6 ⊢
        clear hg hw6
        refine wpAnyH_ready (rs := [2]) (by kernel_rfl) (by simp) ?_
        refine AllReadyH.cons rfl (fun K hK => ?_) AllReadyH.nil
        go_simp
        refine (cp _).mono ?_
        rintro e w5 ⟨rfl, hb5⟩
        have HT7 : Hid (w5.there g 0 4) := there_below hb5 HT6.out HL6.out.2
        have HL7 : Hid (w3.heap.size ≤ g ∧ g < w5.heap.size) := ⟨HL6.out.1, Nat.lt_of_lt_of_le HL6.out.2 hb5.size⟩
        have hS5 : Below w3.heap.size w3 w5 := hS.trans (hb5.mono hS.size)
        refine hK.out _ _ hS5 (fun hS6 => ?_)
        clear hK K hb5 hS5 HT6 HL6 hS
        try simp only [Act.put, List.setIfInBounds_toArray, List.set_cons_zero, List.set_cons_succ]
        refine wpAnyH_ready (rs := [4]) (by kernel_rfl) (by simp) ?_
        refine AllReadyH.cons rfl (fun K hK => ?_) AllReadyH.nil
        refine want_it (by kernel_rfl) ?_
        refine wp_store_mid 74 (.tmp 5) (.tmp 11) rfl g 0 (w4 rw0 rw1 rw2 rw3).toArray rfl rfl HT7.out info4 (one4 _ _ _ _) ?_
        simp only
        refine hK.out _ _ (below_setCells hS6 HL7.out.1) (fun hS7 => ?_)
        clear hK K
        try simp only [Act.put, List.getElem_toArray, List.getElem_cons_succ, List.getElem_cons_zero]
        refine wpAnyH_done (by kernel_rfl) ?_ _
        go_wp2
        go_meet
        case rel => exact ⟨g, rfl, HQ3.out.box hS6 HL7.out.1 HT7.out HL7.out.2 rfl⟩
    · go_simp
      have HT6 : Hid (((w3.alloc (.cells #[.int .u64 0, .int .u64 0, .int .u64 0, .int .u64 0] 74)).drew).there w3.heap.size 0 4) := HTT.out w3
      have HL6 : Hid (w3.heap.size ≤ w3.heap.size ∧ w3.heap.size < ((w3.alloc (.cells #[.int .u64 0, .int .u64 0, .int .u64 0, .int .u64 0] 74)).drew).heap.size) := ⟨Nat.le_refl _, by show w3.heap.size < (w3.alloc (.cells #[.int .u64 0, .int .u64 0, .int .u64 0, .int .u64 0] 74)).heap.size; rw [size_alloc]; omega⟩
      refine hK.out _ _ (hS.alloc hS.size _) (fun hS => ?_)
      clear hK K
      try simp only [Act.put, List.setIfInBounds_toArray, List.set_cons_zero, List.set_cons_succ]
      obtain ⟨w6, hw6⟩ : ∃ v, (w3.alloc (.cells #[.int .u64 0, .int .u64 0, .int .u64 0, .int .u64 0] 74)).drew = v := ⟨_, rfl⟩
      rw [hw6] at HT6 HL6 hS ⊢
      clear hw6
      refine wpAnyH_ready (rs := [1]) (by kernel_rfl) (by simp) ?_
      refine AllReadyH.cons rfl (fun K hK => ?_) AllReadyH.nil
      go_simp
      refine (ce _).mono ?_
      rintro e w4' ⟨rfl, hb4⟩
      have HT7 : Hid (w4'.there w3.heap.size 0 4) := there_below hb4 HT6.out HL6.out.2
      have HL7 : Hid (w3.heap.size ≤ w3.heap.size ∧ w3.heap.size < w4'.heap.size) := ⟨HL6.out.1, Nat.lt_of_lt_of_le HL6.out.2 hb4.size⟩
      have hS4 : Below w3.heap.size w3 w4' := hS.trans (hb4.mono hS.size)
      refine hK.out _ _ hS4 (fun hS => ?_)
      clear hK K hb4 hS4 HT6 HL6
      try simp only [Act.put, List.setIfInBounds_toArray, List.set_cons_zero, List.set_cons_succ]
      refine wpAnyH_ready (rs := [2]) (by kernel_rfl) (by simp) ?_
      refine AllReadyH.cons rfl (fun K hK => ?_) AllReadyH.nil
      go_simp
      refine (cp _).mono ?_
      rintro e w5 ⟨rfl, hb5⟩
      have HT8 : Hid (w5.there w3.heap.size 0 4) := there_below hb5 HT7.out HL7.out.2
      have HL8 : Hid (w3.heap.size ≤ w3.heap.size ∧ w3.heap.size < w5.heap.size) := ⟨HL7.out.1, Nat.lt_of_lt_of_le HL7.out.2 hb5.size⟩
      have hS5 : Below w3.heap.size w3 w5 := hS.trans (hb5.mono hS.size)
      refine hK.out _ _ hS5 (fun hS6 => ?_)
      clear hK K hb5 hS5 HT7 HL7
      try simp only [Act.put, List.setIfInBounds_toArray, List.set_cons_zero, List.set_cons_succ]
      refine wpAnyH_ready (rs := [4]) (by kernel_rfl) (by simp) ?_
      refine AllReadyH.cons rfl (fun K hK => ?_) AllReadyH.nil
      refine want_it (by kernel_rfl) ?_
      refine wp_store_mid 74 (.tmp 5) (.tmp 11) rfl w3.heap.size 0 (w4 rw0 rw1 rw2 rw3).toArray rfl rfl HT8.out info4 (one4 _ _ _ _) ?_
      simp only
      refine hK.out _ _ (below_setCells hS6 HL8.out.1) (fun hS7 => ?_)
      clear hK K
      try simp only [Act.put, List.getElem_toArray, List.getElem_cons_succ, List.getElem_cons_zero]
      refine wpAnyH_done (by kernel_rfl) ?_ _
      go_wp2
      go_meet
      case rel => exact ⟨w3.heap.size, rfl, HQ3.out.box hS6 HL8.out.1 HT8.out HL8.out.2 rfl⟩
  case rest =>
  obtain ⟨g, rfl, HR⟩ := hcut
  go_wp2
  have HQG5 : Hid (∀ w', (∃ x : Cl wc.heap.size wc, w' = x.u) → w'.rangeAt g 0 (w4 rw0 rw1 rw2 rw3)) := fun _ ⟨x, hx⟩ => hx ▸ x.range HR.out.r HR.out.l
  have HQK5 : Hid (∀ w', (∃ x : Cl wc.heap.size wc, w' = x.u) → w'.rangeAt k 0 (w4 xw0 xw1 xw2 xw3)) := fun _ ⟨x, hx⟩ => hx ▸ x.range HR.out.s (Nat.lt_trans HR.out.kg HR.out.l)
  have hne5 := Cl.ne wc.heap.size wc
  refine region_cl (N := wc.heap.size) (W := wc) (by kernel_rfl) (by kernel_rfl) (Below.refl _ _) ?_
  go_big_quiet_want
  refine quiet_load 74 _ rfl g 0 rfl (w4 rw0 rw1 rw2 rw3) _ HQG5.out Try.underlying74 rfl info4 ?_
  simp only [w4, Act.put, List.setIfInBounds_toArray, List.set_cons_zero, List.set_cons_succ]
  go_big_quiet_on
  go_big_quiet_want
  refine quiet_load 74 _ rfl g 0 rfl (w4 rw0 rw1 rw2 rw3) _ HQG5.out Try.underlying74 rfl info4 ?_
  simp only [w4, Act.put, List.setIfInBounds_toArray, List.set_cons_zero, List.set_cons_succ]
  go_big_quiet_on
  go_big_quiet_step ((go_at_call 65; exact cl_of (cm _) (Nat.le_refl _)))
  go_big_quiet_want
  refine quiet_load 74 _ rfl k 0 rfl (w4 xw0 xw1 xw2 xw3) _ HQK5.out Try.underlying74 rfl info4 ?_
  simp only [w4, Act.put, List.setIfInBounds_toArray, List.set_cons_zero, List.set_cons_succ]
  go_big_quiet_on
  go_big_quiet_step (fail)
  refine wpQuiet_nil ?_
  rintro _ ⟨xx5, rfl⟩
  replace HR := (show Hid (Ro w xx5.u n k g (w4 xw0 xw1 xw2 xw3) (w4 rw0 rw1 rw2 rw3)) from HR.out.below xx5.h)
  obtain ⟨wt5, hwt5⟩ : ∃ v, xx5.u = v := ⟨_, rfl⟩
  rw [hwt5] at HR ⊢
  clear hwt5 xx5 hne5 HQG5 HQK5
  go_wp2
  have HQG : Hid (∀ w', (∃ x : Cl wt5.heap.size wt5, w' = x.u) → w'.rangeAt g 0 (w4 rw0 rw1 rw2 rw3)) := fun _ ⟨x, hx⟩ => hx ▸ x.range HR.out.r HR.out.l
  have hne := Cl.ne wt5.heap.size wt5
  apply region_cl_tail (N := wt5.heap.size) (W := wt5) 3 8 (by kernel_rfl) (Below.refl _ _)
  case hl => simp only [List.take_succ_cons, List.take_zero]; rfl
  case ht => simp only [List.drop_succ_cons, List.drop_zero]; rfl
  case hB => kernel_rfl
  case hT => kernel_rfl
  case h =>
  go_big_quiet_want
  refine quiet_load 74 _ rfl g 0 rfl (w4 rw0 rw1 rw2 rw3) _ HQG.out Try.underlying74 rfl info4 ?_
  simp only [w4, Act.put, List.setIfInBounds_toArray, List.set_cons_zero, List.set_cons_succ]
  go_big_quiet_on
  go_big_quiet_step ((go_at_call 71; exact cl_of (ci _) (Nat.le_refl _)))
  go_big_quiet_step ((go_at_call 65; exact cl_of (c2 _) (Nat.le_refl _)))
  refine wpQuiet_nil ?_
  rintro _ ⟨xm, rfl⟩
  replace HR := (show Hid (Ro w xm.u n k g (w4 xw0 xw1 xw2 xw3) (w4 rw0 rw1 rw2 rw3)) from HR.out.below xm.h)
  obtain ⟨wm, hwm⟩ : ∃ v, xm.u = v := ⟨_, rfl⟩
  rw [hwm] at HR ⊢
  clear hwm xm hne HQG
  have HTm : Hid (wm.there g 0 4) := HR.out.t
  replace HR := (show Hid (Ro w (wm.setCells g 0 (w4 sw0 sw1 sw2 sw3)) n k g (w4 xw0 xw1 xw2 xw3) (w4 sw0 sw1 sw2 sw3)) from HR.out.set _ rfl)
  obtain ⟨wn, hwn⟩ : ∃ v, wm.setCells g 0 (w4 sw0 sw1 sw2 sw3) = v := ⟨_, rfl⟩
  rw [hwn] at HR
  go_upto_region 5 with (refine wpList_store_mid rfl 74 (.tmp 5) (.tmp 19) rfl g 0 (w4 sw0 sw1 sw2 sw3).toArray rfl rfl HTm.out info4 (one4 _ _ _ _) ?_; simp only; rw [hwn]; clear hwn HTm; try simp only [Act.put])
  try simp only [Act.put]
  go_wp2
  have HQG6 : Hid (∀ w', (∃ x : Cl wn.heap.size wn, w' = x.u) → w'.rangeAt g 0 (w4 sw0 sw1 sw2 sw3)) := fun _ ⟨x, hx⟩ => hx ▸ x.range HR.out.r HR.out.l
  have HQK6 : Hid (∀ w', (∃ x : Cl wn.heap.size wn, w' = x.u) → w'.rangeAt k 0 (w4 xw0 xw1 xw2 xw3)) := fun _ ⟨x, hx⟩ => hx ▸ x.range HR.out.s (Nat.lt_trans HR.out.kg HR.out.l)
  have hne6 := Cl.ne wn.heap.size wn
  refine region_cl (N := wn.heap.size) (W := wn) (by kernel_rfl) (by kernel_rfl) (Below.refl _ _) ?_
  go_big_quiet_want
  refine quiet_load 74 _ rfl g 0 rfl (w4 sw0 sw1 sw2 sw3) _ HQG6.out Try.underlying74 rfl info4 ?_
  simp only [w4, Act.put, List.setIfInBounds_toArray, List.set_cons_zero, List.set_cons_succ]
  go_big_quiet_on
  go_big_quiet_want
  refine quiet_load 74 _ rfl g 0 rfl (w4 sw0 sw1 sw2 sw3) _ HQG6.out Try.underlying74 rfl info4 ?_
  simp only [w4, Act.put, List.setIfInBounds_toArray, List.set_cons_zero, List.set_cons_succ]
  go_big_quiet_on
  go_big_quiet_step ((go_at_call 65; exact cl_of (c3 _) (Nat.le_refl _)))
  go_big_quiet_want
  refine quiet_load 74 _ rfl k 0 rfl (w4 xw0 xw1 xw2 xw3) _ HQK6.out Try.underlying74 rfl info4 ?_
  simp only [w4, Act.put, List.setIfInBounds_toArray, List.set_cons_zero, List.set_cons_succ]
  go_big_quiet_on
  go_big_quiet_step (fail)
  refine wpQuiet_nil ?_
  rintro _ ⟨xx6, rfl⟩
  replace HR := (show Hid (Ro w xx6.u n k g (w4 xw0 xw1 xw2 xw3) (w4 sw0 sw1 sw2 sw3)) from HR.out.below xx6.h)
  obtain ⟨wt6, hwt6⟩ : ∃ v, xx6.u = v := ⟨_, rfl⟩
  rw [hwt6] at HR ⊢
  clear hwt6 xx6 hne6 HQG6 HQK6
  have HT5 : Hid (wt6.there (n + 1) 0 Z.toArray.size) := by show World.there _ _ _ _; rw [HLR.out]; exact HR.out.u
  go_wp2_with (refine wpList_store_mid rfl 22 (.tmp 2) (.tmp 25) rfl (n + 1) 0 Z.toArray rfl HB0.out.symm HT5.out HJ.out HO.out ?_; simp only)
  have HE5 := HFIN.out _ _ _ _ _ HR.out
  first | exact bodyPost_ret (res_ct22 Try.results26 rfl HE5.1 rfl) rfl ⟨rfl, HE5.2⟩ | (rw [hn]; exact bodyPost_ret (res_ct22 Try.results26 rfl HE5.1 rfl) rfl ⟨rfl, HE5.2⟩)
end Fd
end Go.Proofs.Ytgdekigdbbldoaa

namespace Go.Proofs.Ytgdekigdbbldoaa
open Go.RowKit
namespace Dt
open Rg Go.Proofs.Ytgdekigdbbldoaa.Fd

/-- 23 sums, not too great, the last two 0. -/
structure SeI (L : List Nat) : Prop where
  l : L.length = 23
  b : ∀ i, L.getD i 0 < 9007199254740992
  z1 : L.getD 21 0 = 0
  z2 : L.getD 22 0 = 0
/-- What is carried up to place i. -/
structure Ca (K L : List Nat) (i : Nat) : Prop where
  l : L.length = 23
  e : ofD L = ofD K
  s : ∀ j, j < i → L.getD j 0 < 16777216
  r : ∀ j, i < j → L.getD j 0 = K.getD j 0
  c : L.getD i 0 < K.getD i 0 + 1073741824
theorem Ca.start {K : List Nat} (h : SeI K) : Ca K K 0 := ⟨h.l, rfl, fun _ hj => by omega, fun _ _ => rfl, by omega⟩
theorem Ca.step {K L : List Nat} {i : Nat} (hK : SeI K) (h : Ca K L i) (hi : i < 22) : Ca K ((L.set (i + 1) (L.getD (i + 1) 0 + L.getD i 0 / 16777216)).set i (L.getD i 0 % 16777216)) (i + 1) := by
  have hl := h.l
  have hc := h.c
  have hb := hK.b i
  have h1 := ofD_set L (i + 1) (L.getD (i + 1) 0 + L.getD i 0 / 16777216) (by omega)
  have h2 := ofD_set (L.set (i + 1) (L.getD (i + 1) 0 + L.getD i 0 / 16777216)) i (L.getD i 0 % 16777216) (by rw [List.length_set]; omega)
  rw [get_set L (i + 1) _ i (by omega), if_neg (by omega)] at h2
  have hg : ∀ j, ((L.set (i + 1) (L.getD (i + 1) 0 + L.getD i 0 / 16777216)).set i (L.getD i 0 % 16777216)).getD j 0 = if j = i then L.getD i 0 % 16777216 else if j = i + 1 then L.getD (i + 1) 0 + L.getD i 0 / 16777216 else L.getD j 0 := fun j => by
    rw [get_set _ _ _ _ (by rw [List.length_set]; omega), get_set _ _ _ _ (by omega)]
  refine ⟨by rw [List.length_set, List.length_set]; exact hl, ?_, fun j hj => ?_, fun j hj => ?_, ?_⟩
  · rw [Nat.mul_add, pow_s, Nat.mul_assoc, Nat.mul_assoc] at h1
    have e3 : 16777216 ^ i * (L.getD i 0 % 16777216 + 16777216 * (L.getD i 0 / 16777216)) = 16777216 ^ i * L.getD i 0 := by rw [Nat.mod_add_div]
    rw [Nat.mul_add, Nat.mul_left_comm] at e3
    have := h.e
    omega
  · rw [hg]
    by_cases e : j = i
    · rw [if_pos e]; exact Nat.mod_lt _ (by decide)
    · rw [if_neg e, if_neg (by omega)]; exact h.s j (by omega)
  · rw [hg, if_neg (by omega), if_neg (by omega)]; exact h.r j (by omega)
  · rw [hg, if_neg (by omega), if_pos rfl, h.r (i + 1) (by omega)]
    omega
/-- What is folded up to place i; has anything been? -/
structure Fo (K L : List Nat) (i : Nat) (fl : Bool) : Prop where
  l : L.length = 23
  m : ofD L % p = ofD K % p
  d : fl = true → ofD L < ofD K
  n : fl = false → L = K
  r : ∀ j, i ≤ j → L.getD j 0 = K.getD j 0
  z : ∀ j, 12 ≤ j → j < i → L.getD j 0 = 0
  z1 : 11 < i → i ≤ 22 → L.getD 11 0 = 0
  z2 : fl = false → 11 < i → L.getD 11 0 = 0
  lo : ∀ j, i ≤ j + 11 → j < 11 → L.getD j 0 = K.getD j 0
  b : ∀ j, L.getD j 0 < 9007199254740992
/-- What is carried throughout. -/
structure Cd (K : List Nat) : Prop where
  l : K.length = 23
  s : ∀ j, j < 22 → K.getD j 0 < 16777216
  t : K.getD 22 0 < 1073741824
theorem Ca.done {K L : List Nat} (hK : SeI K) (h : Ca K L 22) : Cd L := ⟨h.l, h.s, by have := h.c; rw [hK.z2] at this; omega⟩
theorem get_out {L : List Nat} (h : L.length = 23) {j : Nat} (hj : 23 ≤ j) : L.getD j 0 = 0 := by
  rw [List.getD_eq_getElem?_getD, List.getElem?_eq_none (by omega)]; rfl
theorem Cd.b {K : List Nat} (h : Cd K) (j : Nat) : K.getD j 0 < 1073741824 := by
  rcases Nat.lt_or_ge j 22 with h1 | h1
  · have := h.s j h1; omega
  · rcases Nat.lt_or_ge j 23 with h2 | h2
    · have : j = 22 := by omega
      rw [this]; exact h.t
    · rw [get_out h.l h2]; decide
theorem Fo.start {K : List Nat} (h : Cd K) : Fo K K 11 false := ⟨h.l, rfl, fun e => (by cases e), fun _ => rfl, fun _ _ => rfl, fun _ _ _ => by omega, fun _ _ => by omega, fun _ _ => by omega, fun _ _ _ => rfl, fun j => by have := h.b j; omega⟩
theorem Fo.skip {K L : List Nat} {i : Nat} {fl : Bool} (h : Fo K L i fl) (hi : 11 ≤ i) (h0 : L.getD i 0 = 0) : Fo K L (i + 1) fl := by
  refine ⟨h.l, h.m, h.d, h.n, fun j hj => h.r j (by omega), fun j h1 h2 => ?_, fun h1 h2 => ?_, fun h1 h2 => ?_, fun j h1 h2 => h.lo j (by omega) h2, h.b⟩
  · by_cases e : j = i
    · rw [e]; exact h0
    · exact h.z j h1 (by omega)
  · by_cases e : i = 11
    · rw [← e]; exact h0
    · exact h.z1 (by omega) (by omega)
  · by_cases e : i = 11
    · rw [← e]; exact h0
    · exact h.z2 h1 (by omega)
theorem fold_pow (i : Nat) (hi : 11 ≤ i) : 16777216 ^ i = 16777216 ^ (i - 11) * (9728 + 512 * p) := by
  have e : 9728 + 512 * p = 16777216 ^ 11 := by decide +kernel
  rw [e, ← Nat.pow_add]
  congr 1
  omega
theorem Fo.fold {K L : List Nat} {i : Nat} {fl : Bool} (hK : Cd K) (h : Fo K L i fl) (h11 : 11 ≤ i) (hi : i < 23) (h0 : 0 < L.getD i 0) : Fo K ((L.set (i - 11) (L.getD (i - 11) 0 + L.getD i 0 * 19 * 512)).set i 0) (i + 1) true := by
  have hl := h.l
  have hxi := h.r i (Nat.le_refl _)
  have hbi := hK.b i
  have h1 := ofD_set L (i - 11) (L.getD (i - 11) 0 + L.getD i 0 * 19 * 512) (by omega)
  have h2 := ofD_set (L.set (i - 11) (L.getD (i - 11) 0 + L.getD i 0 * 19 * 512)) i 0 (by rw [List.length_set]; omega)
  rw [get_set L (i - 11) _ i (by omega), if_neg (by omega), Nat.mul_zero, Nat.add_zero] at h2
  have hg : ∀ j, ((L.set (i - 11) (L.getD (i - 11) 0 + L.getD i 0 * 19 * 512)).set i 0).getD j 0 = if j = i then 0 else if j = i - 11 then L.getD (i - 11) 0 + L.getD i 0 * 19 * 512 else L.getD j 0 := fun j => by
    rw [get_set _ _ _ _ (by rw [List.length_set]; omega), get_set _ _ _ _ (by omega)]
  have hlow : L.getD (i - 11) 0 < 16777216 := by
    by_cases e : i = 22
    · subst e
      have : L.getD 11 0 = 0 := h.z1 (by omega) (by omega)
      show L.getD 11 0 < _
      omega
    · rw [h.lo (i - 11) (by omega) (by omega)]
      exact hK.s _ (by omega)
  have hv : ofD ((L.set (i - 11) (L.getD (i - 11) 0 + L.getD i 0 * 19 * 512)).set i 0) + 16777216 ^ (i - 11) * L.getD i 0 * 512 * p = ofD L := by
    rw [fold_pow i h11] at h2
    obtain ⟨P, hP⟩ : ∃ P, 16777216 ^ (i - 11) = P := ⟨_, rfl⟩
    obtain ⟨X, hX⟩ : ∃ X, L.getD i 0 = X := ⟨_, rfl⟩
    rw [hP] at h1 h2 ⊢
    rw [hX] at h1 h2 ⊢
    rw [Nat.mul_add] at h1
    have e0 : X * 19 * 512 = X * 9728 := by omega
    have e1 : P * (9728 + 512 * p) * X = P * (X * 19 * 512) + P * X * 512 * p := by
      rw [Nat.mul_right_comm, Nat.mul_add, e0, Nat.mul_assoc (P * X) 512 p, Nat.mul_assoc P X 9728]
    rw [e1] at h2
    omega
  have hpos : 0 < 16777216 ^ (i - 11) * L.getD i 0 * 512 * p := Nat.mul_pos (Nat.mul_pos (Nat.mul_pos (pow_p _) h0) (by decide)) (by decide)
  have hle : ofD L ≤ ofD K := by
    cases fl with
    | false => rw [h.n rfl]; exact Nat.le_refl _
    | true => exact Nat.le_of_lt (h.d rfl)
  refine ⟨by rw [List.length_set, List.length_set]; exact hl, ?_, fun _ => by omega, fun e => (by cases e), fun j hj => ?_, fun j h3 h4 => ?_, fun h3 h4 => ?_, fun e => (by cases e), fun j h3 h4 => ?_, fun j => ?_⟩
  · rw [← h.m, ← hv, Nat.add_mul_mod_self_right]
  · rw [hg, if_neg (by omega), if_neg (by omega)]; exact h.r j (by omega)
  · rw [hg]
    by_cases e : j = i
    · rw [if_pos e]
    · rw [if_neg e, if_neg (by omega)]; exact h.z j h3 (by omega)
  · rw [hg]
    by_cases e : 11 = i
    · rw [if_pos e]
    · rw [if_neg e, if_neg (by omega)]; exact h.z1 (by omega) (by omega)
  · rw [hg, if_neg (by omega), if_neg (by omega)]; exact h.lo j (by omega) h4
  · rw [hg]
    have := h.b j
    split
    · decide
    · split <;> omega
/-- All is folded that was: on with it. -/
theorem Fo.again {K L : List Nat} (h : Fo K L 23 true) : SeI L := ⟨h.l, h.b, h.z 21 (by omega) (by omega), h.z 22 (by omega) (by omega)⟩
/-- A number below 2^255 in digits. -/
structure Fin_ (L : List Nat) : Prop where
  l : L.length = 23
  s : Sm L
  t : L.getD 10 0 < 32768
  z : ∀ j, 11 ≤ j → L.getD j 0 = 0
theorem Fo.fin {K L : List Nat} (hK : Cd K) (h : Fo K L 23 false) (ht : L.getD 10 0 < 32768) : Fin_ L ∧ SeI L := by
  have hz : ∀ j, 11 ≤ j → L.getD j 0 = 0 := fun j hj => by
    by_cases e : j = 11
    · rw [e]; exact h.z2 rfl (by omega)
    · rcases Nat.lt_or_ge j 23 with h2 | h2
      · exact h.z j (by omega) h2
      · exact get_out h.l h2
  refine ⟨⟨h.l, fun j => ?_, ht, hz⟩, ⟨h.l, h.b, hz 21 (by omega), hz 22 (by omega)⟩⟩
  rcases Nat.lt_or_ge j 11 with h1 | h1
  · rw [h.n rfl]; exact hK.s j (by omega)
  · rw [hz j h1]; decide
theorem Fo.top {K L : List Nat} (h : Fo K L 23 false) (hK : Cd K) (ht : 32768 ≤ L.getD 10 0) :
    SeI ((L.set 0 (L.getD 0 0 + 19 * (L.getD 10 0 / 32768))).set 10 (L.getD 10 0 % 32768)) ∧ ofD ((L.set 0 (L.getD 0 0 + 19 * (L.getD 10 0 / 32768))).set 10 (L.getD 10 0 % 32768)) % p = ofD K % p ∧ ofD ((L.set 0 (L.getD 0 0 + 19 * (L.getD 10 0 / 32768))).set 10 (L.getD 10 0 % 32768)) < ofD K := by
  have hl := h.l
  have h1 := ofD_set L 0 (L.getD 0 0 + 19 * (L.getD 10 0 / 32768)) (by omega)
  have h2 := ofD_set (L.set 0 (L.getD 0 0 + 19 * (L.getD 10 0 / 32768))) 10 (L.getD 10 0 % 32768) (by rw [List.length_set]; omega)
  rw [get_set L 0 _ 10 (by omega), if_neg (by omega)] at h2
  have hg : ∀ j, ((L.set 0 (L.getD 0 0 + 19 * (L.getD 10 0 / 32768))).set 10 (L.getD 10 0 % 32768)).getD j 0 = if j = 10 then L.getD 10 0 % 32768 else if j = 0 then L.getD 0 0 + 19 * (L.getD 10 0 / 32768) else L.getD j 0 := fun j => by
    rw [get_set _ _ _ _ (by rw [List.length_set]; omega), get_set _ _ _ _ (by omega)]
  have hb0 : L.getD 0 0 < 16777216 := by rw [h.n rfl]; exact hK.s 0 (by omega)
  have hb10 : L.getD 10 0 < 16777216 := by rw [h.n rfl]; exact hK.s 10 (by omega)
  have hv : ofD ((L.set 0 (L.getD 0 0 + 19 * (L.getD 10 0 / 32768))).set 10 (L.getD 10 0 % 32768)) + (L.getD 10 0 / 32768) * p = ofD L := by
    rw [pow10] at h2
    rw [Nat.pow_zero, Nat.one_mul, Nat.one_mul] at h1
    unfold p
    omega
  have hLK : L = K := h.n rfl
  have hpos : 0 < L.getD 10 0 / 32768 * p := Nat.mul_pos (by omega) (by decide)
  refine ⟨⟨by rw [List.length_set, List.length_set]; exact hl, fun j => ?_, ?_, ?_⟩, ?_, ?_⟩
  · rw [hg]
    have := h.b j
    split
    · omega
    · split <;> omega
  · rw [hg, if_neg (by omega), if_neg (by omega)]; exact h.z 21 (by omega) (by omega)
  · rw [hg, if_neg (by omega), if_neg (by omega)]; exact h.z 22 (by omega) (by omega)
  · rw [← hLK, ← hv, Nat.add_mul_mod_self_right]
  · rw [← hLK]; omega
theorem Fin_.val {L : List Nat} (h : Fin_ L) : ofD (L.take 11) = ofD L ∧ ofD L < 2 ^ 255 := by
  have e := cut_val (L := L) (n := 11) h.z
  refine ⟨e, ?_⟩
  have h1 := take_step L 10
  have h2 := take_lt h.s 10
  have h3 := h.t
  rw [← e, ← two255]
  show ofD (L.take (10 + 1)) < _
  rw [h1]
  rw [pow10] at h2 ⊢
  omega
end Dt
end Go.Proofs.Ytgdekigdbbldoaa
