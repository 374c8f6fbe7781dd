/- What nought and times do: contracts, by walking their texts. What Low, MulAdd and Scalar do: contracts, by walking their texts. -/
import Derived.Test.YtgdekigdbbldoaaG32
import Derived.Test.YtgdekigdbbldoaaG35
import Derived.Test.YtgdekigdbbldoaaG28
import Derived.Test.YtgdekigdbbldoaaG18
namespace Go.Proofs.Ytgdekigdbbldoaa
open Go.RowKit
namespace Fd
open Rg Cv

/-- What the walk wants of a letter for a fraction. -/
structure L96 (R : List Value) : Prop where
  l : R.length = 96
  o : R.toArray.all (·.oneCell') = true
  i : (Try.prog.info? 84).map (·.size) = some R.length
  j : (Try.prog.info? 84).map (·.size) = some R.toArray.size
theorem l96 (f : Frac) : L96 f.cs := by
  have h : f.cs.length = 96 := by
    unfold Frac.cs
    rw [List.length_append, List.length_append, bvc_len, bvc_len, bvc_len]
  exact ⟨h, one_app (one_app (one32 _) (one32 _)) (one32 _), by rw [h]; exact info84, by rw [List.size_toArray, h]; exact info84⟩
theorem L96.t {R : List Value} (h : L96 R) {N : Nat} {w : World} {b : Nat} (ha : Ao N w b 96) : w.there b 0 R.toArray.size := by rw [List.size_toArray, h.l]; exact ha.2.2
theorem L96.t2 {R : List Value} (h : L96 R) {w : World} {b : Nat} (ha : w.there b 0 96) : w.there b 0 R.toArray.size := by
  have e : R.toArray.size = 96 := (List.size_toArray ..).trans h.l
  rw [e]
  exact ha
theorem end84 {w : World} {b : Nat} {R : List Value} (h : L96 R) (ha : w.there b 0 96) : (loadVar 84 ⟨b, 0, none⟩).run Try.prog (w.setCells b 0 R) = .ok (.agg R.toArray) (w.setCells b 0 R) :=
  run_loadVar_mid (P := Try.prog) _ b 0 84 R _ (World.rangeAt_setCells_same _ _ _ _ (by rw [h.l]; exact ha)) Try.underlying84 rfl h.i
def fNought : Frac := ⟨0, cone, cone⟩
set_option maxHeartbeats 400000 in
set_option maxRecDepth 4000 in
theorem nought_any (w : World) : Calls Try.prog 103 #[] w fun e w' => e = .returned (.agg fNought.cs.toArray) ∧ Below w.heap.size w w' := by
  have c1 : ∀ W : World, Calls Try.prog 75 #[] W fun e w' => e = .returned (.agg (bvc cone).toArray) ∧ Below W.heap.size W w' := fun W => cone_any W
  have c2 : ∀ W : World, Calls Try.prog 82 #[.agg (bvc 0 ++ bvc cone).toArray] W fun e w' => e = .returned (.agg fNought.cs.toArray) ∧ Below W.heap.size W w' := fun W => overOne_any 0 cone W
  have ez : zl 32 = bvc 0 := by rfl
  have HBP : Hid (Try.prog.built 43 [(1, .agg (bvc cone).toArray)] = some (bvc 0 ++ bvc cone).toArray) := by have h := build_pointY (bvc cone) (bvc_len _); rwa [ez] at h
  have LE : Hid (L96 fNought.cs) := l96 _
  obtain ⟨V, hV⟩ : ∃ V, bvc 0 ++ bvc cone = V := ⟨_, rfl⟩
  rw [hV] at c2 HBP
  obtain ⟨O, hO⟩ : ∃ V, bvc cone = V := ⟨_, rfl⟩
  rw [hO] at c1 HBP
  obtain ⟨E, hE⟩ : ∃ V, fNought.cs = V := ⟨_, rfl⟩
  rw [hE] at c2 LE ⊢
  clear hV hO hE ez
  have hz2 := zero84
  have AO : Hid (Ao w.heap.size (w.alloc (.cells z84 84)) w.heap.size 96) := ⟨Nat.le_refl _, by rw [size_alloc]; omega, there84 w⟩
  have HB1 : Hid (Below w.heap.size w (w.alloc (.cells z84 84))) := (Below.refl _ _).alloc (Nat.le_refl _) _
  obtain ⟨Z2, hZ2⟩ : ∃ Z, z84 = Z := ⟨_, rfl⟩
  rw [hZ2] at hz2 AO HB1
  clear hZ2
  go_enter Try.func103, Try.ntmps103
  go_wp2_with (first
    | (go_at_call 75; refine (c1 _).mono ?_; rintro e w1 ⟨rfl, hb1⟩; have AO1 := (show Hid (Ao w.heap.size w1 w.heap.size 96) from AO.out.below hb1); have HB2 := (show Hid (Below w.heap.size w w1) from HB1.out.trans (hb1.mono HB1.out.size)); clear hb1 c1)
    | (refine build_to rfl 43 _ rfl (some 2) rfl [(1, .agg O.toArray)] (by kernel_rfl) V HBP.out ?_; simp only [Act.put, List.setIfInBounds_toArray, List.set_cons_zero, List.set_cons_succ])
    | (go_at_call 82; refine (c2 _).mono ?_; rintro e w2 ⟨rfl, hb2⟩; have AO2 := (show Hid (Ao w.heap.size w2 w.heap.size 96) from AO1.out.below hb2); have HB3 := (show Hid (Below w.heap.size w w2) from HB2.out.trans (hb2.mono HB2.out.size)); have HT := (show Hid _ from LE.out.t AO2.out); clear hb2 c2)
    | (refine wpList_store_mid rfl 84 (.tmp 0) (.tmp 3) rfl w.heap.size 0 E.toArray rfl rfl HT.out LE.out.j LE.out.o ?_; simp only))
  exact bodyPost_ret (results_cell Try.results103 rfl (end84 LE.out AO2.out.2.2)) rfl ⟨rfl, below_setCells HB3.out AO2.out.1⟩
/-- A number times a fraction, by the number's bits from the highest on: n bits of them. -/
def tmR (e : Nat) (a : Frac) : Nat → Frac
  | 0 => fNought
  | n + 1 => if e / 2 ^ (255 - n) % 2 = 1 then sumF (twiceF (tmR e a n)) a else twiceF (tmR e a n)
theorem tmR_lt (e : Nat) (a : Frac) : ∀ n, (tmR e a n).lt
  | 0 => (⟨by decide, by decide, by decide⟩ : fNought.lt)
  | n + 1 => by
    unfold tmR
    split
    · exact sumF_lt _ _
    · exact twiceF_lt _
/-- What lies where. -/
structure TmAt (w wr : World) (n m : Nat) (K A M : List Value) : Prop where
  b : Below n w wr
  rk : wr.rangeAt n 0 K
  ra : wr.rangeAt (n + 1) 0 A
  u : wr.there (n + 2) 0 96
  rn : wr.rangeAt m 0 M
  tn : wr.there m 0 96
  l : n + 2 < m ∧ m < wr.heap.size
theorem TmAt.below {w wr w' : World} {n m : Nat} {K A M : List Value} (h : TmAt w wr n m K A M) (hb : Below wr.heap.size wr w') : TmAt w w' n m K A M := by
  have hl := h.l
  exact ⟨h.b.trans (hb.mono (by omega)), Rg.Below.range hb h.rk (by omega), Rg.Below.range hb h.ra (by omega), there_below hb h.u (by omega), Rg.Below.range hb h.rn hl.2, there_below hb h.tn hl.2, hl.1, Nat.lt_of_lt_of_le hl.2 hb.size⟩
theorem TmAt.set {w wr : World} {n m : Nat} {K A M : List Value} (h : TmAt w wr n m K A M) (R : List Value) (hR : R.length = 96) : TmAt w (wr.setCells m 0 R) n m K A R := by
  have hl := h.l
  exact ⟨below_setCells h.b (by omega), fun j v hv => (cell_setCells_other (by omega) _ _ _).trans (h.rk j v hv), fun j v hv => (cell_setCells_other (by omega) _ _ _).trans (h.ra j v hv), World.there_setCells h.u _ _ _, World.rangeAt_setCells_same _ _ _ _ (by rw [hR]; exact h.tn), World.there_setCells h.tn _ _ _, hl.1, by rw [size_setCells]; exact hl.2⟩
/-- The boxes that times begins with. -/
theorem tm_boxes (w : World) (K A : List Value) :
    let e := ((w.alloc (.cells K.toArray 22)).alloc (.cells A.toArray 84)).alloc (.cells z84 84)
    Rp e w.heap.size 0 K ∧ Rp e (w.heap.size + 1) 0 A ∧ Ao w.heap.size e (w.heap.size + 2) 96 ∧ Below w.heap.size w e := by
  intro e
  have s2 : ((w.alloc (.cells K.toArray 22)).alloc (.cells A.toArray 84)).heap.size = w.heap.size + 2 := by rw [size_alloc, size_alloc]
  have s3 : e.heap.size = w.heap.size + 3 := by show (World.alloc _ _).heap.size = _; rw [size_alloc, s2]
  have ht := there84 ((w.alloc (.cells K.toArray 22)).alloc (.cells A.toArray 84))
  rw [s2] at ht
  exact ⟨⟨World.rangeAt_alloc (World.rangeAt_alloc (Rg.range_new w K 22) _) _, by omega⟩, ⟨World.rangeAt_alloc (range_new1 w _ A 84) _, by omega⟩, ⟨by omega, by omega, ht⟩, (((Below.refl _ _).alloc (Nat.le_refl _) _).alloc (by simp) _).alloc (by rw [s2]; omega) _⟩
theorem TmAt.start {w w1 : World} {n : Nat} {K A M : List Value} (hM : M.length = 96) (hK : Rp w1 n 0 K) (hA : Rp w1 (n + 1) 0 A) (hU : Ao n w1 (n + 2) 96) (hb : Below n w w1) : TmAt w ((w1.alloc (.cells z84 84)).setCells w1.heap.size 0 M) n w1.heap.size K A M := by
  have h1 : Below w1.heap.size w1 ((w1.alloc (.cells z84 84)).setCells w1.heap.size 0 M) := below_setCells ((Below.refl _ _).alloc (Nat.le_refl _) _) (Nat.le_refl _)
  exact ⟨hb.trans (h1.mono (by have := hK.2; omega)), Rg.Below.range h1 hK.1 hK.2, Rg.Below.range h1 hA.1 hA.2, there_below h1 hU.2.2 hU.2.1, World.rangeAt_setCells_same _ _ _ _ (by rw [hM]; exact there84 w1), World.there_setCells (there84 w1) _ _ _, hU.2.1, by rw [size_setCells, size_alloc]; omega⟩

set_option maxHeartbeats 2000000 in
set_option maxRecDepth 4000 in
theorem times_any (e : Nat) (a : Frac) (ha : a.lt) (w : World) :
    Calls Try.prog 84 #[bv e, .agg a.cs.toArray] w fun e' w' => e' = .returned (.agg (tmR e a 256).cs.toArray) ∧ Below w.heap.size w w' := by
  have cn := nought_any
  have HCE : Hid (∀ {W : World} {b q : Nat}, q < 32 → W.rangeAt b 0 (bvc e) → W.cell? ⟨b, q, none⟩ = some (.int .u8 ((by_ e q : Nat) : Int))) := fun {W b q} hq h => by have h2 := h q _ (bvc_at e q hq); rwa [Nat.zero_add] at h2
  have HA : Hid a.lt := ha
  have HT : Hid (∀ (f : Frac), f.lt → ∀ W : World, Calls Try.prog 104 #[.agg f.cs.toArray] W fun e' w' => e' = .returned (.agg (twiceF f).cs.toArray) ∧ Below W.heap.size W w') := fun f hf W => twice_frac f hf W
  have HSM : Hid (∀ (f : Frac), f.lt → ∀ W : World, Calls Try.prog 81 #[.agg f.cs.toArray, .agg a.cs.toArray] W fun e' w' => e' = .returned (.agg (sumF f a).cs.toArray) ∧ Below W.heap.size W w') := fun f hf W => sum_frac f a hf HA.out W
  unfold bv
  have LA : Hid (L96 a.cs) := l96 a
  have LN : Hid (L96 fNought.cs) := l96 _
  have HLL : Hid (∀ f : Frac, L96 f.cs) := l96
  have HS0 := (show Hid _ from tm_boxes w (bvc e) a.cs)
  have HST : Hid (∀ {w1 : World} {n : Nat}, Rp w1 n 0 (bvc e) → Rp w1 (n + 1) 0 a.cs → Ao n w1 (n + 2) 96 → Below n w w1 → TmAt w ((w1.alloc (.cells z84 84)).setCells w1.heap.size 0 fNought.cs) n w1.heap.size (bvc e) a.cs fNought.cs) := fun h1 h2 h3 h4 => TmAt.start LN.out.l h1 h2 h3 h4
  have HTB : Hid (∀ W : World, (W.alloc (.cells z84 84)).there W.heap.size 0 fNought.cs.toArray.size) := fun W => LN.out.t2 (there84 W)
  have hz2 := zero84
  obtain ⟨Z2, hZ2⟩ : ∃ Z, z84 = Z := ⟨_, rfl⟩
  rw [hZ2] at hz2 HS0 HST HTB
  clear hZ2 ha
  obtain ⟨A, hAA⟩ : ∃ V, a.cs = V := ⟨_, rfl⟩
  rw [hAA] at HS0 HST HSM LA ⊢
  obtain ⟨K, hK⟩ : ∃ V, bvc e = V := ⟨_, rfl⟩
  rw [hK] at HS0 HST HCE ⊢
  obtain ⟨E0, hE0⟩ : ∃ V, fNought.cs = V := ⟨_, rfl⟩
  rw [hE0] at cn HST HTB LN
  have HE0 : Hid ((tmR e a 0).cs = E0) := hE0
  obtain ⟨R, hR⟩ : ∃ V, (tmR e a 256).cs = V := ⟨_, rfl⟩
  have HR : Hid ((tmR e a 256).cs = R) := hR
  rw [hR]
  clear hAA hK hE0 hR
  obtain ⟨n, hn⟩ : ∃ n, w.heap.size = n := ⟨_, rfl⟩
  have HN : Hid (w.heap.size = n) := hn
  obtain ⟨we, hwe⟩ : ∃ v, ((w.alloc (.cells K.toArray 22)).alloc (.cells A.toArray 84)).alloc (.cells Z2 84) = v := ⟨_, rfl⟩
  have HS1 : Hid (Rp we n 0 K ∧ Rp we (n + 1) 0 A ∧ Ao n we (n + 2) 96 ∧ Below n w we) := by
    have h := HS0.out
    rw [hwe, HN.out] at h
    exact h
  clear HS0
  go_enter Try.func84, Try.ntmps84
  go_wp2_with (first
    | (go_at_call 103; refine (cn _).mono ?_; rintro e' w1 ⟨rfl, hb1⟩; have HW1 := (show Hid (TmAt w ((w1.alloc (.cells Z2 84)).setCells w1.heap.size 0 E0) n w1.heap.size K A E0) from HST.out (HS1.out.1.below hb1) (HS1.out.2.1.below hb1) (HS1.out.2.2.1.below hb1) (HS1.out.2.2.2.trans (hb1.mono (by have := HS1.out.1.2; omega)))); clear hb1 cn HS1)
    | (refine wpList_store_mid rfl 84 (.tmp 5) (.tmp 7) rfl w1.heap.size 0 E0.toArray rfl rfl (HTB.out _) LN.out.j LN.out.o ?_; simp only [Act.put]))
  obtain ⟨m, hm⟩ : ∃ m, w1.heap.size = m := ⟨_, rfl⟩
  rw [hm] at HW1 ⊢
  obtain ⟨w2, hw2⟩ : ∃ v, (w1.alloc (.cells Z2 84)).setCells m 0 E0 = v := ⟨_, rfl⟩
  rw [hw2] at HW1 ⊢
  clear hm hw2
  go_loopw [6] (fun y wr => ∃ (k : Nat) (M : List Value), y = .int .i64 ((k : Int) - 1) ∧ k ≤ 256 ∧ Hid ((tmR e a (256 - k)).cs = M) ∧ Hid (TmAt w wr n m K A M)) (fun y _ => numOf1 y)
  case atStart => exact ⟨256, E0, rfl, Nat.le_refl _, HE0, HW1⟩
  case round =>
    clear HW1 HE0 HST HTB LN
    obtain ⟨k, M, rfl, hk, HC, HW⟩ := hrel
    cases k with
    | zero =>
      have z1 : ((0 : Nat) : Int) - 1 = -1 := rfl
      rw [z1]
      have e1 : M = R := by rw [← HC.out, ← HR.out]
      subst e1
      have LM : Hid (L96 M) := by rw [← HC.out]; exact HLL.out _
      have HTU := (show Hid _ from LM.out.t2 HW.out.u)
      clear HC HR HT HSM HCE HLL
      go_wp2_with (first
        | (refine wpList_load_mid rfl 84 (.tmp 5) rfl m 0 rfl M _ HW.out.rn Try.underlying84 rfl LM.out.i ?_)
        | (refine wpList_store_mid rfl 84 (.tmp 4) (.tmp 26) rfl (n + 2) 0 M.toArray rfl rfl HTU.out LM.out.j LM.out.o ?_; simp only))
      exact bodyPost_ret (results_cell Try.results84 rfl (end84 LM.out HW.out.u)) rfl ⟨rfl, by rw [HN.out]; exact below_setCells HW.out.b (by omega)⟩
    | succ j =>
      have z1 : ((j + 1 : Nat) : Int) - 1 = (j : Int) := by omega
      rw [z1]
      have z2 : (0 : Int) ≤ (j : Int) := by omega
      have hbt := by_bit e j
      have hstep : tmR e a (256 - j) = if e / 2 ^ j % 2 = 1 then sumF (twiceF (tmR e a (256 - (j + 1)))) a else twiceF (tmR e a (256 - (j + 1))) := by
        have e1 : 256 - j = (256 - (j + 1)) + 1 := by omega
        have e2 : 255 - (256 - (j + 1)) = j := by omega
        rw [e1, tmR, e2]
      obtain ⟨q, hq⟩ : ∃ q, j / 8 = q := ⟨_, rfl⟩
      obtain ⟨s, hs⟩ : ∃ s, j % 8 = s := ⟨_, rfl⟩
      rw [hq, hs] at hbt
      have z3 : Int.tdiv (j : Int) 8 = (q : Int) := by rw [Int.tdiv_eq_ediv_of_nonneg z2]; omega
      have z4 : Int.tmod (j : Int) 8 = (s : Int) := by rw [Int.tmod_eq_emod_of_nonneg z2]; omega
      have hq32 : q < 32 := by omega
      have z5 : (q : Int) < 32 := by omega
      have z6 : (s : Int) < 8 := by omega
      have z7 : IntKind.i64.wrap ((j : Int) - 1) = (j : Int) - 1 := by rw [IntKind.wrap_i64]; omega
      have z8 : IntKind.i64.wrap (q : Int) = (q : Int) := by rw [IntKind.wrap_i64]; omega
      have z9 : IntKind.i64.wrap (s : Int) = (s : Int) := by rw [IntKind.wrap_i64]; omega
      have HCQ : Hid (∀ {W : World} {b : Nat}, W.rangeAt b 0 K → W.cell? ⟨b, q, none⟩ = some (.int .u8 ((by_ e q : Nat) : Int))) := fun h => HCE.out hq32 h
      have hlu : by_ e q < 256 := Nat.mod_lt _ (by decide)
      obtain ⟨u, hu⟩ : ∃ u, by_ e q = u := ⟨_, rfl⟩
      rw [hu] at hbt hlu HCQ
      obtain ⟨t, ht⟩ : ∃ t, u / 2 ^ s = t := ⟨_, rfl⟩
      have x1 : (u : Int) / 2 ^ s = (t : Int) := by rw [← ht]; norm_cast
      have x2 := and1b t (by rw [← ht]; exact Nat.lt_of_le_of_lt (Nat.div_le_self _ _) hlu)
      rw [ht] at hbt
      have p1 := HT.out (tmR e a (256 - (j + 1))) (tmR_lt _ _ _)
      have p2 := HSM.out (twiceF (tmR e a (256 - (j + 1)))) (twiceF_lt _)
      have LM : Hid (L96 M) := by rw [← HC.out]; exact HLL.out _
      have LD : Hid (L96 (twiceF (tmR e a (256 - (j + 1)))).cs) := HLL.out _
      have LG : Hid (L96 (sumF (twiceF (tmR e a (256 - (j + 1)))) a).cs) := HLL.out _
      rw [HC.out] at p1
      have hd2 : ∀ X, tmR e a (256 - j) = X → (tmR e a (256 - j)).cs = X.cs := fun X h => by rw [h]
      obtain ⟨f1, hf1⟩ : ∃ f, twiceF (tmR e a (256 - (j + 1))) = f := ⟨_, rfl⟩
      rw [hf1] at p1 p2 LD LG hstep
      obtain ⟨f2, hf2⟩ : ∃ f, sumF f1 a = f := ⟨_, rfl⟩
      rw [hf2] at p2 LG hstep
      have HFST : Hid (True) := trivial
      clear HC HLL HT HSM HCE hq hs hu ht hlu hf1 hf2 HR
      by_cases hb1 : e / 2 ^ j % 2 = 1
      · rw [if_pos hb1] at hstep
        have HQ4 : Hid ((tmR e a (256 - j)).cs = f2.cs) := hd2 _ hstep
        obtain ⟨D1, hD1⟩ : ∃ V, f1.cs = V := ⟨_, rfl⟩
        rw [hD1] at p1 p2 LD
        obtain ⟨D2, hD2⟩ : ∃ V, f2.cs = V := ⟨_, rfl⟩
        rw [hD2] at p2 LG HQ4
        rw [hbt, hb1] at x2
        have x3 : ((1 : Nat) : Int) = 1 := rfl
        rw [x3] at x2
        clear x3 hbt hstep hd2 hD1 hD2
        go_wp2_with (first
          | (have hz := HFST; refine wpList_load_mid rfl 84 (.tmp 5) rfl m 0 rfl M _ HW.out.rn Try.underlying84 rfl LM.out.i ?_)
          | (have hz := HFST; go_at_call 104; refine (p1 _).mono ?_; rintro r w3 ⟨rfl, hb3⟩; have HW3 := (show Hid (TmAt w w3 n m K A M) from HW.out.below hb3); clear hz hb3 p1 HW HFST)
          | (refine wpList_store_mid rfl 84 (.tmp 5) (.tmp 13) rfl m 0 D1.toArray rfl rfl (LD.out.t2 HW3.out.tn) LD.out.j LD.out.o ?_; simp only; obtain ⟨w4', hw4⟩ : ∃ v, w3.setCells m 0 D1 = v := ⟨_, rfl⟩; have HW4 := (show Hid (TmAt w w4' n m K A D1) from (by rw [← hw4]; exact HW3.out.set _ LD.out.l)); rw [hw4]; clear hw4 HW3; have r0 := HCQ.out HW4.out.rk)
          | (refine wpList_load_mid rfl 84 (.tmp 5) rfl m 0 rfl D1 _ HW4.out.rn Try.underlying84 rfl LD.out.i ?_)
          | (refine wpList_load_mid rfl 84 (.tmp 3) rfl (n + 1) 0 rfl A _ HW4.out.ra Try.underlying84 rfl LA.out.i ?_)
          | (go_at_call 81; refine (p2 _).mono ?_; rintro r w5 ⟨rfl, hb5⟩; have HW5 := (show Hid (TmAt w w5 n m K A D1) from HW4.out.below hb5); clear hb5 p2 HW4 r0)
          | (refine wpList_store_mid rfl 84 (.tmp 5) (.tmp 25) rfl m 0 D2.toArray rfl rfl (LG.out.t2 HW5.out.tn) LG.out.j LG.out.o ?_; simp only; obtain ⟨w6, hw6⟩ : ∃ v, w5.setCells m 0 D2 = v := ⟨_, rfl⟩; have HW6 := (show Hid (TmAt w w6 n m K A D2) from (by rw [← hw6]; exact HW5.out.set _ LG.out.l)); rw [hw6]; clear hw6 HW5))
        go_roundw
        case rel => exact ⟨j, D2, rfl, by omega, HQ4, HW6⟩
        case measure => simp [numOf1]
      · rw [if_neg hb1] at hstep
        have HQ4 : Hid ((tmR e a (256 - j)).cs = f1.cs) := hd2 _ hstep
        obtain ⟨D1, hD1⟩ : ∃ V, f1.cs = V := ⟨_, rfl⟩
        rw [hD1] at p1 LD HQ4
        have hb0 : e / 2 ^ j % 2 = 0 := by omega
        rw [hbt, hb0] at x2
        have x3 : ((0 : Nat) : Int) = 0 := rfl
        rw [x3] at x2
        clear x3 hbt hstep hd2 hD1 p2 LG
        go_wp2_with (first
          | (have hz := HFST; refine wpList_load_mid rfl 84 (.tmp 5) rfl m 0 rfl M _ HW.out.rn Try.underlying84 rfl LM.out.i ?_)
          | (have hz := HFST; go_at_call 104; refine (p1 _).mono ?_; rintro r w3 ⟨rfl, hb3⟩; have HW3 := (show Hid (TmAt w w3 n m K A M) from HW.out.below hb3); clear hz hb3 p1 HW HFST)
          | (refine wpList_store_mid rfl 84 (.tmp 5) (.tmp 13) rfl m 0 D1.toArray rfl rfl (LD.out.t2 HW3.out.tn) LD.out.j LD.out.o ?_; simp only; obtain ⟨w4', hw4⟩ : ∃ v, w3.setCells m 0 D1 = v := ⟨_, rfl⟩; have HW4 := (show Hid (TmAt w w4' n m K A D1) from (by rw [← hw4]; exact HW3.out.set _ LD.out.l)); rw [hw4]; clear hw4 HW3; have r0 := HCQ.out HW4.out.rk))
        go_roundw
        case rel => exact ⟨j, D1, rfl, by omega, HQ4, HW4⟩
        case measure => simp [numOf1]
end Fd
end Go.Proofs.Ytgdekigdbbldoaa

namespace Go.Proofs.Ytgdekigdbbldoaa
open Go.RowKit
namespace Fd
open Rg

theorem L32.s {R : List Value} (h : L32 R) {N : Nat} {w : World} {b : Nat} (ha : Ao N w b 32) : w.there b 0 R.toArray.size := by rw [List.size_toArray, h.l]; exact ha.2.2
/-- The answer is read from its box. -/
theorem end22 {N : Nat} {w : World} {b : Nat} {R : List Value} (h : L32 R) (ha : Ao N w b 32) : (loadVar 22 ⟨b, 0, none⟩).run Try.prog (w.setCells b 0 R) = .ok (.agg R.toArray) (w.setCells b 0 R) :=
  run_loadVar_mid (P := Try.prog) _ b 0 22 R _ (World.rangeAt_setCells_same _ _ _ _ (by have := h.s ha; rwa [List.size_toArray] at this)) Try.underlying22 rfl h.i

set_option maxHeartbeats 400000 in
set_option maxRecDepth 4000 in
theorem low_any (x : Nat) (w : World) (hx : x < 115792089237316195423570985008687907853269984665640564039457584007913129639936) : Calls Try.prog 49 #[bv x] w fun e w' => e = .returned (.bool (decide (x < ell))) ∧ Below w.heap.size w w' := by
  have c1 := fun W => cwordsOf_any x W hx
  have c2 := fun W => lessOrder_any x W hx
  obtain ⟨d, hd⟩ : ∃ d, decide (x < ell) = d := ⟨_, rfl⟩
  obtain ⟨g0, g1, g2, g3, eg⟩ := nv_w ((x + 115792089237316195423570985008687907853269984665640564039457584007913129639936 - ell) % 115792089237316195423570985008687907853269984665640564039457584007913129639936)
  rw [hd, eg] at c2
  rw [hd]
  obtain ⟨v, hv⟩ : ∃ v, nv x = v := ⟨_, rfl⟩
  rw [hv] at c1 c2
  unfold w4 at c2
  unfold bv at c1 ⊢
  have HI : Hid ((Try.prog.info? 22).map (·.size) = some (bvc x).length) := info22l x
  have HS : Hid ((w.alloc (.cells (bvc x).toArray 22)).rangeAt w.heap.size 0 (bvc x)) := range_new _ _ _
  obtain ⟨R, hR⟩ : ∃ R, bvc x = R := ⟨_, rfl⟩
  rw [hR] at c1 HI HS ⊢
  clear hd hv hR hx eg
  have HB0 : Hid (Below w.heap.size w (w.alloc (.cells R.toArray 22))) := (Below.refl _ _).alloc (Nat.le_refl _) _
  go_enter Try.func49, Try.ntmps49
  go_wp2_with (first
    | (refine wpList_load_mid rfl 22 (.tmp 1) rfl w.heap.size 0 rfl R _ HS.out Try.underlying22 rfl HI.out ?_)
    | (go_at_call 90; refine (c1 _).mono ?_; rintro e w1 ⟨rfl, hb1⟩; have HB1 := (show Hid (Below w.heap.size w w1) from HB0.out.trans (hb1.mono HB0.out.size)); clear hb1 c1 HB0)
    | (go_at_call 89; refine (c2 _).mono ?_; rintro e w2 ⟨rfl, hb2⟩; have HB2 := (show Hid (Below w.heap.size w w2) from HB1.out.trans (hb2.mono HB1.out.size)); clear hb2 c2 HB1))
  exact bodyPost_ret (results_tmp Try.results49 _ _ _) rfl ⟨rfl, HB2.out.alloc HB2.out.size _⟩
/-- A number in a box, taken so often. -/
theorem many32 (x a b : Nat) (W : World) (hx : x < 115792089237316195423570985008687907853269984665640564039457584007913129639936) (ha : a < ell) (hr : W.rangeAt b 0 (bvc x)) (hb : b < W.heap.size) :
    Calls Try.prog 88 #[.slice (some ⟨b, 0, none⟩) 32 32, nv a] W fun e w' => e = .returned (nv (x * a % ell)) ∧ Below W.heap.size W w' := by
  have h := manyOf_any (some ⟨b, 0, none⟩) (Dt.bl x 32) 32 a W (.inr ⟨b, 0, rfl, hb, by rw [← Dt.bvc_bc]; exact hr⟩) (fun c hc => by
    unfold Dt.bl at hc
    obtain ⟨j, _, rfl⟩ := List.mem_map.1 hc
    exact Nat.mod_lt _ (by decide)) (by rw [Dt.bl_len]; decide) ha
  rw [Dt.bl_len, Dt.ofB_bl, Dt.b256, Nat.mod_eq_of_lt hx] at h
  exact h
theorem zero91_info : (Try.prog.info? 91).map (·.zero) = some (some (.agg (w4 0 0 0 0).toArray)) := by kernel_rfl
theorem zero91 (W : World) : (zeroValue 91).run Try.prog W = .ok (.agg (w4 0 0 0 0).toArray) W := by
  have h := zero91_info
  cases hq : Try.prog.info? 91 with
  | none => rw [hq] at h; cases h
  | some i =>
    have hz : i.zero = some (.agg (w4 0 0 0 0).toArray) := by simpa [hq] using h
    simp [zeroValue, typeInfo, hq, hz]
theorem alloc91 (ρ : Operand → Value) (o : Oper) (w : World) (h : isAl 91 o = true) : (execOp ρ o).run Try.prog w = .ok (.value (.pointer (some ⟨w.heap.size, 0, none⟩))) (w.alloc (.cells (w4 0 0 0 0).toArray 91)) := by
  obtain ⟨dst, op, type, pos, after, guard⟩ := o
  unfold isAl at h
  cases op <;> simp only [] at h <;> try cases h
  rename_i u
  have : u = 91 := by simpa using h
  subst this
  have hz := zero91
  go_simp
theorem there91 (w : World) : (w.alloc (.cells (w4 0 0 0 0).toArray 91)).there w.heap.size 0 4 := there_new w (w4 0 0 0 0).toArray 91 (m := 4) fun j hj => by simp [w4, hj]
/-- Three boxes of 32 bytes and the answer's. -/
theorem start3 (w : World) (X Y Z : List Value) :
    let e := (((w.alloc (.cells X.toArray 22)).alloc (.cells Y.toArray 22)).alloc (.cells Z.toArray 22)).alloc (.cells z22 22)
    Rp e w.heap.size 0 X ∧ Rp e (w.heap.size + 1) 0 Y ∧ Rp e (w.heap.size + 2) 0 Z ∧ Ao w.heap.size e (w.heap.size + 3) 32 ∧ Below w.heap.size w e := by
  intro e
  have s3 : (((w.alloc (.cells X.toArray 22)).alloc (.cells Y.toArray 22)).alloc (.cells Z.toArray 22)).heap.size = w.heap.size + 3 := by rw [size_alloc, size_alloc, size_alloc]
  have s4 : e.heap.size = w.heap.size + 4 := by show (World.alloc _ _).heap.size = _; rw [size_alloc, s3]
  have ht := there22 (((w.alloc (.cells X.toArray 22)).alloc (.cells Y.toArray 22)).alloc (.cells Z.toArray 22))
  rw [s3] at ht
  have r2 := range_new1 w (.cells X.toArray 22) Y 22
  have r3 := Rg.range_new ((w.alloc (.cells X.toArray 22)).alloc (.cells Y.toArray 22)) Z 22
  rw [size_alloc, size_alloc] at r3
  refine ⟨⟨World.rangeAt_alloc (World.rangeAt_alloc (World.rangeAt_alloc (Rg.range_new w X 22) _) _) _, by omega⟩, ⟨World.rangeAt_alloc (World.rangeAt_alloc r2 _) _, by omega⟩, ⟨World.rangeAt_alloc r3 _, by omega⟩, ⟨by omega, by omega, ht⟩, ?_⟩
  exact ((((Below.refl _ _).alloc (Nat.le_refl _) _).alloc (by simp) _).alloc (by simp; omega) _).alloc (by rw [s3]; omega) _

set_option maxHeartbeats 1000000 in
set_option maxRecDepth 4000 in
theorem mulAdd_any (x y z : Nat) (w : World) (hx : x < 115792089237316195423570985008687907853269984665640564039457584007913129639936) (hy : y < 115792089237316195423570985008687907853269984665640564039457584007913129639936) (hz : z < 115792089237316195423570985008687907853269984665640564039457584007913129639936) :
    Calls Try.prog 50 #[bv x, bv y, bv z] w fun e w' => e = .returned (bv ((x * y + z) % ell)) ∧ Below w.heap.size w w' := by
  have h1 : (1 : Nat) < ell := by decide
  have le : ∀ a, a % ell < ell := fun a => Nat.mod_lt _ (by decide)
  have e1 : x * (y * 1 % ell) % ell = x * y % ell := by rw [Nat.mul_one, Nat.mul_mod_mod]
  have e2 : (x * (y * 1 % ell) % ell + z * 1 % ell) % ell = (x * y + z) % ell := by rw [e1, Nat.mul_one, ← Nat.add_mod]
  obtain ⟨n, hn⟩ : ∃ n, w.heap.size = n := ⟨_, rfl⟩
  have c1 := fun W => many32 y 1 (n + 1) W hy h1
  have c2 := fun W => many32 x (y * 1 % ell) n W hx (le _)
  have c3 := fun W => many32 z 1 (n + 2) W hz h1
  have c4 := fun W => together_any (x * (y * 1 % ell) % ell) (z * 1 % ell) W (le _) (le _)
  rw [e2] at c4
  obtain ⟨r, hr⟩ : ∃ r, (x * y + z) % ell = r := ⟨_, rfl⟩
  rw [hr] at c4 ⊢
  have c5 := fun W => cbytesOf_any r W
  obtain ⟨g0, g1, g2, g3, eg⟩ := nv_w (x * (y * 1 % ell) % ell)
  rw [eg] at c2 c4
  obtain ⟨v1, hv1⟩ : ∃ v, nv (y * 1 % ell) = v := ⟨_, rfl⟩
  obtain ⟨v2, hv2⟩ : ∃ v, nv (z * 1 % ell) = v := ⟨_, rfl⟩
  obtain ⟨v3, hv3⟩ : ∃ v, nv r = v := ⟨_, rfl⟩
  rw [hv1] at c1 c2
  rw [hv2] at c3 c4
  rw [hv3] at c4 c5
  have e11 : nv 1 = .agg #[.int .u64 1, .int .u64 0, .int .u64 0, .int .u64 0] := rfl
  rw [e11] at c1 c3
  unfold w4 at c2 c4
  unfold bv at c5 ⊢
  have LX : Hid (L32 (bvc x)) := l32 x
  have LY : Hid (L32 (bvc y)) := l32 y
  have LZ : Hid (L32 (bvc z)) := l32 z
  have LR : Hid (L32 (bvc r)) := l32 r
  have HS0 := (show Hid _ from start3 w (bvc x) (bvc y) (bvc z))
  obtain ⟨X, hX⟩ : ∃ R, bvc x = R := ⟨_, rfl⟩
  obtain ⟨Y, hY⟩ : ∃ R, bvc y = R := ⟨_, rfl⟩
  obtain ⟨Z, hZ⟩ : ∃ R, bvc z = R := ⟨_, rfl⟩
  obtain ⟨R, hR⟩ : ∃ R, bvc r = R := ⟨_, rfl⟩
  rw [hX] at LX c2 HS0 ⊢
  rw [hY] at LY c1 HS0 ⊢
  rw [hZ] at LZ c3 HS0 ⊢
  rw [hR] at LR c5 ⊢
  clear hX hY hZ hR hv1 hv2 hv3 eg e1 e2 hr e11 h1 le hx hy hz
  have hz22 := zero22
  obtain ⟨Z2, hZ2⟩ : ∃ Z, z22 = Z := ⟨_, rfl⟩
  rw [hZ2] at hz22 HS0
  clear hZ2
  have HN : Hid (w.heap.size = n) := hn
  obtain ⟨we, hwe⟩ : ∃ v, (((w.alloc (.cells X.toArray 22)).alloc (.cells Y.toArray 22)).alloc (.cells Z.toArray 22)).alloc (.cells Z2 22) = v := ⟨_, rfl⟩
  have HS1 : Hid (Rp we n 0 X ∧ Rp we (n + 1) 0 Y ∧ Rp we (n + 2) 0 Z ∧ Ao w.heap.size we (n + 3) 32 ∧ Below w.heap.size w we) := by
    have h := HS0.out
    rw [hwe, HN.out] at h
    show _ ∧ _
    rw [HN.out]
    exact h
  clear HS0
  go_enter Try.func50, Try.ntmps50
  go_wp2
  clear hwe
  apply region_float (N := we.heap.size) (W := we) (ty := 91) [7] 6 6 (by kernel_rfl) (Below.refl _ _) (Nat.le_refl _) alloc91 there91
  case hl => simp only [List.take_succ_cons, List.take_zero]; rfl
  case ht => simp only [List.drop_succ_cons, List.drop_zero]; rfl
  case hB => kernel_rfl
  case hT => kernel_rfl
  case hF => kernel_rfl
  case hS => kernel_rfl
  case h =>
    apply Exists.intro
    constructor
    case left =>
      intro N2 W2 q1 q2 q3
      have HQX : Hid (∀ x : Cl N2 W2, x.u.rangeAt n 0 X ∧ n < x.u.heap.size) := fun x => ⟨HS1.out.1.cl2 q1 q2 _ ⟨x, rfl⟩, by have h1 := HS1.out.1.2; have h2 := x.h.size; omega⟩
      have HQY : Hid (∀ x : Cl N2 W2, x.u.rangeAt (n + 1) 0 Y ∧ n + 1 < x.u.heap.size) := fun x => ⟨HS1.out.2.1.cl2 q1 q2 _ ⟨x, rfl⟩, by have h1 := HS1.out.2.1.2; have h2 := x.h.size; omega⟩
      have hne := Cl.ne N2 W2
      have HC1 : Hid (N2 ≤ W2.heap.size) := q3
      clear q1 q2 q3
      simp only [List.map_cons, List.map_nil, hush, isAl, beq_self_eq_true, if_true, Bool.false_eq_true, if_false]
      go_big_quiet_step (fail)
      go_big_quiet_step (fail)
      go_big_quiet_step (fail)
      go_big_quiet_step ((go_at_call 88; exact cl_of (c1 _ (HQY.out _).1 (HQY.out _).2) HC1.out))
      go_big_quiet_step ((go_at_call 88; exact cl_of (c2 _ (HQX.out _).1 (HQX.out _).2) HC1.out))
      go_big_quiet_step (fail)
      refine wpQuiet_nil ?_
      rfl
    case right =>
      intro g' w2 hb hf hd
      have h7 := hf 7 (by decide)
      clear hf hd
      simp only [putsT, List.foldl_cons, List.foldl_nil, Act.put, List.setIfInBounds_toArray, List.set_cons_zero, List.set_cons_succ]
      obtain ⟨b7, hb7⟩ : ∃ b, g' 7 = b := ⟨_, rfl⟩
      rw [hb7] at h7 ⊢
      clear hb7 g'
      have HT7 : Hid (w2.there b7 0 4) := h7.2.2
      have hb3 : Below we.heap.size we (w2.setCells b7 0 (w4 g0 g1 g2 g3)) := below_setCells hb h7.1
      have HG : Hid (Rp (w2.setCells b7 0 (w4 g0 g1 g2 g3)) b7 0 (w4 g0 g1 g2 g3)) := ⟨World.rangeAt_setCells_same _ _ _ _ h7.2.2, by rw [size_setCells]; exact h7.2.1⟩
      have HZ3 : Hid (Rp (w2.setCells b7 0 (w4 g0 g1 g2 g3)) (n + 2) 0 Z) := HS1.out.2.2.1.below hb3
      have HA3 : Hid (Ao w.heap.size (w2.setCells b7 0 (w4 g0 g1 g2 g3)) (n + 3) 32) := HS1.out.2.2.2.1.below hb3
      have HB3 : Hid (Below w.heap.size w (w2.setCells b7 0 (w4 g0 g1 g2 g3))) := HS1.out.2.2.2.2.trans (hb3.mono HS1.out.2.2.2.2.size)
      clear h7 hb hb3 HS1 c1 c2
      go_wp2_with (refine wpList_store_mid rfl 91 (.tmp 7) (.tmp 12) rfl b7 0 (w4 g0 g1 g2 g3).toArray rfl rfl HT7.out info91 (one4 _ _ _ _) ?_; simp only [Act.put])
      obtain ⟨w3, hw3⟩ : ∃ v, w2.setCells b7 0 (w4 g0 g1 g2 g3) = v := ⟨_, rfl⟩
      rw [hw3] at HG HZ3 HA3 HB3 ⊢
      clear hw3 HT7
      have HQG := (show Hid _ from HG.out.cl)
      have HQZ : Hid (∀ x : Cl w3.heap.size w3, x.u.rangeAt (n + 2) 0 Z ∧ n + 2 < x.u.heap.size) := fun x => ⟨HZ3.out.cl _ ⟨x, rfl⟩, by have h1 := HZ3.out.2; have h2 := x.h.size; omega⟩
      have hne := Cl.ne w3.heap.size w3
      apply region_cl_tail (N := w3.heap.size) (W := w3) 6 6 (by kernel_rfl) (Below.refl _ _)
      case hl => simp only [List.take_succ_cons, List.take_zero]; rfl
      case ht => simp only [List.drop_succ_cons, List.drop_zero]; rfl
      case hB => kernel_rfl
      case hT => kernel_rfl
      case h =>
        go_big_quiet_want
        refine quiet_load 91 _ rfl b7 0 rfl (w4 g0 g1 g2 g3) _ HQG.out Try.underlying91 rfl info91 ?_
        simp only [w4, Act.put, List.setIfInBounds_toArray, List.set_cons_zero, List.set_cons_succ]
        go_big_quiet_on
        go_big_quiet_step (fail)
        go_big_quiet_step (fail)
        go_big_quiet_step ((go_at_call 88; exact cl_of (c3 _ (HQZ.out _).1 (HQZ.out _).2) (Nat.le_refl _)))
        go_big_quiet_step ((go_at_call 91; exact cl_of (c4 _) (Nat.le_refl _)))
        go_big_quiet_step ((go_at_call 87; exact cl_of (c5 _) (Nat.le_refl _)))
        refine wpQuiet_nil ?_
        rintro _ ⟨xq, rfl⟩
        have hb := xq.h
        have HBE := (show Hid (Below w.heap.size w xq.u) from HB3.out.trans (hb.mono HB3.out.size))
        have AE := (show Hid (Ao w.heap.size xq.u (n + 3) 32) from HA3.out.below hb)
        have HTE := (show Hid (xq.u.there (n + 3) 0 R.toArray.size) from LR.out.s AE.out)
        clear hb
        go_wp2_with (refine wpList_store_mid rfl 22 (.tmp 6) (.tmp 18) rfl (n + 3) 0 R.toArray rfl rfl HTE.out LR.out.j LR.out.o ?_; simp only)
        exact bodyPost_ret (results_cell Try.results50 rfl (end22 LR.out AE.out)) rfl ⟨rfl, below_setCells HBE.out AE.out.1⟩
/-- Scalar: more than 64 bytes are refused. -/
theorem build22_none : Try.prog.built 22 [] = some (bvc 0).toArray := by kernel_rfl
/-- The answer's box alone. -/
theorem start0 (w : World) : Ao w.heap.size (w.alloc (.cells z22 22)) w.heap.size 32 ∧ Below w.heap.size w (w.alloc (.cells z22 22)) :=
  ⟨⟨Nat.le_refl _, by rw [size_alloc]; omega, there22 w⟩, (Below.refl _ _).alloc (Nat.le_refl _) _⟩
set_option maxHeartbeats 400000 in
set_option maxRecDepth 4000 in
theorem scalar_long (A : Option Addr) (m cap : Nat) (w : World) (hm : 64 < m) :
    Calls Try.prog 48 #[.slice A m cap] w fun e w' => e = .returned (.tuple #[bv 0, .iface 35 (.int .i64 2)]) ∧ Below w.heap.size w w' := by
  unfold bv
  have LE : Hid (L32 (bvc 0)) := l32 0
  have HBN : Hid (Try.prog.built 22 [] = some (bvc 0).toArray) := build22_none
  obtain ⟨E, hE⟩ : ∃ V, bvc 0 = V := ⟨_, rfl⟩
  rw [hE] at LE HBN ⊢
  clear hE
  have HS := (show Hid _ from start0 w)
  have hz2 := zero22
  obtain ⟨Z2, hZ2⟩ : ∃ Z, z22 = Z := ⟨_, rfl⟩
  rw [hZ2] at hz2 HS
  clear hZ2
  have hm' : (64 : Int) < (m : Int) := by omega
  have HT := (show Hid _ from LE.out.s HS.out.1)
  go_enter Try.func48, Try.ntmps48
  go_wp2_with (first
    | (refine build_to rfl 22 _ rfl (some 7) rfl [] (by kernel_rfl) E HBN.out ?_; simp only [Act.put, List.setIfInBounds_toArray, List.set_cons_zero, List.set_cons_succ])
    | (refine wpList_store_mid rfl 22 (.tmp 2) (.tmp 7) rfl w.heap.size 0 E.toArray rfl rfl HT.out LE.out.j LE.out.o ?_; simp only))
  exact bodyPost_ret (res_ct Try.results48 rfl (end22 LE.out HS.out.1) rfl) rfl ⟨rfl, below_setCells HS.out.2 HS.out.1.1⟩
set_option maxHeartbeats 400000 in
set_option maxRecDepth 4000 in
theorem scalar_any (A : Option Addr) (L : List Nat) (cap : Nat) (w : World) (hA : Dt.Db w A L) (hL : ∀ b ∈ L, b < 256) (hlim : L.length ≤ 64) :
    Calls Try.prog 48 #[.slice A L.length cap] w fun e w' => e = .returned (.tuple #[bv (Dt.ofB L % ell), .nilIface]) ∧ Below w.heap.size w w' := by
  have hA2 : Dt.Db (w.alloc (.cells z22 22)) A L := by
    rcases hA with h | ⟨b, o, h1, h2, h3⟩
    · exact .inl h
    · exact .inr ⟨b, o, h1, by rw [size_alloc]; omega, World.rangeAt_alloc h3 _⟩
  have c1 := manyOf_any A L cap 1 _ hA2 hL (by omega) (by decide)
  rw [Nat.mul_one] at c1
  obtain ⟨r, hr⟩ : ∃ r, Dt.ofB L % ell = r := ⟨_, rfl⟩
  rw [hr] at c1 ⊢
  have c2 := fun W => cbytesOf_any r W
  obtain ⟨v, hv⟩ : ∃ v, nv r = v := ⟨_, rfl⟩
  rw [hv] at c1 c2
  have e11 : nv 1 = .agg #[.int .u64 1, .int .u64 0, .int .u64 0, .int .u64 0] := rfl
  rw [e11] at c1
  unfold bv at c2 ⊢
  have LR : Hid (L32 (bvc r)) := l32 r
  obtain ⟨R, hR⟩ : ∃ V, bvc r = V := ⟨_, rfl⟩
  rw [hR] at LR c2 ⊢
  have HS := (show Hid _ from start0 w)
  have hz2 := zero22
  obtain ⟨Z2, hZ2⟩ : ∃ Z, z22 = Z := ⟨_, rfl⟩
  rw [hZ2] at hz2 HS c1
  obtain ⟨m, hm⟩ : ∃ m, L.length = m := ⟨_, rfl⟩
  rw [hm] at c1 hlim ⊢
  have hm' : ¬ (64 : Int) < (m : Int) := by omega
  clear hZ2 hR hv hr hm hA hA2 hL e11
  go_enter Try.func48, Try.ntmps48
  go_wp2_with (first
    | (go_at_call 88; refine c1.mono ?_; rintro e w1 ⟨rfl, hb1⟩; have HA1 := (show Hid (Ao w.heap.size w1 w.heap.size 32) from HS.out.1.below hb1); have HB1 := (show Hid (Below w.heap.size w w1) from HS.out.2.trans (hb1.mono HS.out.2.size)); clear hb1 c1 HS)
    | (go_at_call 87; refine (c2 _).mono ?_; rintro e w2 ⟨rfl, hb2⟩; have HA2 := (show Hid (Ao w.heap.size w2 w.heap.size 32) from HA1.out.below hb2); have HB2 := (show Hid (Below w.heap.size w w2) from HB1.out.trans (hb2.mono HB1.out.size)); have HT2 := (show Hid _ from LR.out.s HA2.out); clear hb2 c2 HA1 HB1)
    | (refine wpList_store_mid rfl 22 (.tmp 2) (.tmp 12) rfl w.heap.size 0 R.toArray rfl rfl HT2.out LR.out.j LR.out.o ?_; simp only))
  exact bodyPost_ret (res_ct Try.results48 rfl (end22 LR.out HA2.out) rfl) rfl ⟨rfl, below_setCells HB2.out HA2.out.1⟩
end Fd
end Go.Proofs.Ytgdekigdbbldoaa
