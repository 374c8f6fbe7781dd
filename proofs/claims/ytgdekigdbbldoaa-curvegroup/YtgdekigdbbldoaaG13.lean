/- What Inv does: a contract, by walking its text. Whole numbers as lists of digits of 24 bits, the lowest first: plain mathematics. -/
import Derived.Test.YtgdekigdbbldoaaG12
namespace Go.Proofs.Ytgdekigdbbldoaa
open Go.RowKit
namespace Fd
open Rg

theorem bv_0 : bv 0 = .agg #[.int .u8 0, .int .u8 0, .int .u8 0, .int .u8 0, .int .u8 0, .int .u8 0, .int .u8 0, .int .u8 0, .int .u8 0, .int .u8 0, .int .u8 0, .int .u8 0, .int .u8 0, .int .u8 0, .int .u8 0, .int .u8 0, .int .u8 0, .int .u8 0, .int .u8 0, .int .u8 0, .int .u8 0, .int .u8 0, .int .u8 0, .int .u8 0, .int .u8 0, .int .u8 0, .int .u8 0, .int .u8 0, .int .u8 0, .int .u8 0, .int .u8 0, .int .u8 0] := by
  kernel_rfl
theorem res_ct22 {fn : Func} {tmps : Array Value} {w : World} {p u : Tmp} {b : Addr} {v x : Value} (hf : fn.results = #[.cell p 22, .tmp u]) (hp : tmps.getD p undef = .pointer (some b)) (hl : (loadVar 22 b).run Try.prog w = .ok v w) (hu : tmps.getD u undef = x) : (results fn tmps).run Try.prog w = .ok (.tuple #[v, x]) w := res_ct hf hp hl hu

set_option maxHeartbeats 4000000 in
set_option maxRecDepth 4000 in
theorem inv_zero (a : Nat) (w : World) (ha : a < 115792089237316195423570985008687907853269984665640564039457584007913129639936) (hz : a % p = 0) :
    Calls Try.prog 23 #[bv a] w fun e w' => e = .returned (.tuple #[bv 0, .iface 35 (.int .i64 28)]) ∧ Below w.heap.size w w' := by
  have ca := fun W => wordsOf_any a W
  have cs := fun W => reduced_any a W ha
  rw [hz, nv_0] at cs
  have hS0 := B1.start w (bvc a)
  obtain ⟨n, hn⟩ : ∃ n, w.heap.size = n := ⟨_, rfl⟩
  rw [hn] at hS0
  have HS0 : Hid (B1 w _ n (bvc a)) := hS0
  have HEND : Hid (∀ (wr : World), Below n w wr → wr.there (n + 1) 0 32 → (loadVar 22 ⟨n + 1, 0, none⟩).run Try.prog (wr.setCells (n + 1) 0 (bvc 0)) = .ok (.agg (bvc 0).toArray) (wr.setCells (n + 1) 0 (bvc 0)) ∧ Below n w (wr.setCells (n + 1) 0 (bvc 0))) := fun wr h1 h2 => end32 h1 h2 (by omega)
  have HJ : Hid ((Try.prog.info? 22).map (·.size) = some (bvc 0).toArray.size) := info22s 0
  have HO : Hid ((bvc 0).toArray.all (·.oneCell') = true) := one32 0
  have HLR : Hid ((bvc 0).toArray.size = 32) := by show _ = _; rw [List.size_toArray, bvc_len]
  have HB0 : Hid (Value.agg (bvc 0).toArray = .agg #[.int .u8 0, .int .u8 0, .int .u8 0, .int .u8 0, .int .u8 0, .int .u8 0, .int .u8 0, .int .u8 0, .int .u8 0, .int .u8 0, .int .u8 0, .int .u8 0, .int .u8 0, .int .u8 0, .int .u8 0, .int .u8 0, .int .u8 0, .int .u8 0, .int .u8 0, .int .u8 0, .int .u8 0, .int .u8 0, .int .u8 0, .int .u8 0, .int .u8 0, .int .u8 0, .int .u8 0, .int .u8 0, .int .u8 0, .int .u8 0, .int .u8 0, .int .u8 0]) := bv_0
  have e48 := eq48 0 0 0 0 0 0 0 0
  simp only [and_self, decide_true] at e48
  unfold bv
  have HIA := info22l a
  unfold bv at ca
  obtain ⟨A, hA⟩ : ∃ A, bvc a = A := ⟨_, rfl⟩
  obtain ⟨R, hR⟩ : ∃ A, bvc 0 = A := ⟨_, rfl⟩
  rw [hA] at HS0 HIA ca
  rw [hR] at HEND HJ HO HLR HB0
  rw [hA, hR]
  obtain ⟨v1, hv1⟩ : ∃ v, nv a = v := ⟨_, rfl⟩
  rw [hv1] at ca cs
  clear hv1 hA hS0 ha hz hR
  unfold w4 at cs
  go_enter Try.func23, Try.ntmps23
  go_wp2_with (first
    | (refine wpList_load_mid rfl 22 (.tmp 1) rfl n 0 rfl A _ HS0.out.ra Try.underlying22 rfl HIA ?_)
    | (go_at_call 61; refine (ca _).mono ?_; rintro e w1 ⟨rfl, hb1⟩; have HS1 := (show Hid (B1 w w1 n A) from HS0.out.below hb1); clear hb1 ca HS0)
    | (go_at_call 60; refine (cs _).mono ?_; rintro e w2 ⟨rfl, hb2⟩; have HS2 := (show Hid (B1 w (w2.alloc (.cells #[.int .u64 0, .int .u64 0, .int .u64 0, .int .u64 0] 74)) n A) from (HS1.out.below hb2).below ((Below.refl _ _).alloc (Nat.le_refl _) _)); have HT5 := (show Hid ((w2.alloc (.cells #[.int .u64 0, .int .u64 0, .int .u64 0, .int .u64 0] 74)).there (n + 1) 0 R.toArray.size) from (by show World.there _ _ _ _; rw [HLR.out]; exact HS2.out.u)); clear hb2 cs HS1)
    | (refine wpList_store_mid rfl 22 (.tmp 2) (.tmp 11) rfl (n + 1) 0 R.toArray rfl HB0.out.symm HT5.out HJ.out HO.out ?_; simp only))
  rw [hn]
  have HE5 := HEND.out _ HS2.out.b HS2.out.u
  exact bodyPost_ret (res_ct22 Try.results23 rfl HE5.1 rfl) rfl ⟨rfl, HE5.2⟩
set_option maxHeartbeats 4000000 in
set_option maxRecDepth 4000 in
theorem inv_some (a : Nat) (w : World) (ha : a < 115792089237316195423570985008687907853269984665640564039457584007913129639936) (hz : ¬ a % p = 0) :
    Calls Try.prog 23 #[bv a] w fun e w' => e = .returned (.tuple #[bv ((a % p) ^ inverseExponent % p), .nilIface]) ∧ Below w.heap.size w w' := by
  have ca := fun W => wordsOf_any a W
  have cs := fun W => reduced_any a W ha
  have ci := fun W => inverseExponent_any W
  have cp := fun W => power_any (a % p) inverseExponent W (mod_256 a) (by decide)
  obtain ⟨r, hr⟩ : ∃ r, (a % p) ^ inverseExponent % p = r := ⟨_, rfl⟩
  rw [hr] at cp ⊢
  have cb := fun W => bytesOf_any r W
  have hne0 := same_words (a % p) 0 (mod_256 a) (by decide)
  have e48 := fun W => eq48 (l0 (a % p)) (l1 (a % p)) (l2 (a % p)) (l3 (a % p)) (l0 0) (l1 0) (l2 0) (l3 0) W
  rw [decide_eq_false (fun h => hz (hne0.1 h))] at e48
  have z0 : ((l0 0 : Nat) : Int) = 0 ∧ ((l1 0 : Nat) : Int) = 0 ∧ ((l2 0 : Nat) : Int) = 0 ∧ ((l3 0 : Nat) : Int) = 0 := ⟨rfl, rfl, rfl, rfl⟩
  rw [z0.1, z0.2.1, z0.2.2.1, z0.2.2.2] at e48
  rw [nv_w4 (a % p)] at cs cp
  obtain ⟨x0, hx0⟩ : ∃ x, l0 (a % p) = x := ⟨_, rfl⟩
  obtain ⟨x1, hx1⟩ : ∃ x, l1 (a % p) = x := ⟨_, rfl⟩
  obtain ⟨x2, hx2⟩ : ∃ x, l2 (a % p) = x := ⟨_, rfl⟩
  obtain ⟨x3, hx3⟩ : ∃ x, l3 (a % p) = x := ⟨_, rfl⟩
  rw [hx0, hx1, hx2, hx3] at cs cp e48
  have hS0 := B1.start w (bvc a)
  obtain ⟨n, hn⟩ : ∃ n, w.heap.size = n := ⟨_, rfl⟩
  rw [hn] at hS0
  have HS0 : Hid (B1 w _ n (bvc a)) := hS0
  have HEND : Hid (∀ (wr : World), Below n w wr → wr.there (n + 1) 0 32 → (loadVar 22 ⟨n + 1, 0, none⟩).run Try.prog (wr.setCells (n + 1) 0 (bvc r)) = .ok (.agg (bvc r).toArray) (wr.setCells (n + 1) 0 (bvc r)) ∧ Below n w (wr.setCells (n + 1) 0 (bvc r))) := fun wr h1 h2 => end32 h1 h2 (by omega)
  have HJ : Hid ((Try.prog.info? 22).map (·.size) = some (bvc r).toArray.size) := info22s r
  have HO : Hid ((bvc r).toArray.all (·.oneCell') = true) := one32 r
  have HLR : Hid ((bvc r).toArray.size = 32) := by show _ = _; rw [List.size_toArray, bvc_len]
  unfold bv
  have HIA := info22l a
  unfold bv at ca cb
  obtain ⟨A, hA⟩ : ∃ A, bvc a = A := ⟨_, rfl⟩
  obtain ⟨R, hR⟩ : ∃ A, bvc r = A := ⟨_, rfl⟩
  rw [hA] at HS0 HIA ca
  rw [hR] at HEND HJ HO HLR cb
  rw [hA, hR]
  obtain ⟨v1, hv1⟩ : ∃ v, nv a = v := ⟨_, rfl⟩
  obtain ⟨v2, hv2⟩ : ∃ v, nv inverseExponent = v := ⟨_, rfl⟩
  obtain ⟨v3, hv3⟩ : ∃ v, nv r = v := ⟨_, rfl⟩
  rw [hv1] at ca cs
  rw [hv2] at ci cp
  rw [hv3] at cp cb
  clear hv1 hv2 hv3 hA hS0 ha hz hR hne0 z0 hx0 hx1 hx2 hx3 hr
  unfold w4 at cs cp
  go_enter Try.func23, Try.ntmps23
  go_wp2_with (first
    | (refine wpList_load_mid rfl 22 (.tmp 1) rfl n 0 rfl A _ HS0.out.ra Try.underlying22 rfl HIA ?_)
    | (go_at_call 61; refine (ca _).mono ?_; rintro e w1 ⟨rfl, hb1⟩; have HS1 := (show Hid (B1 w w1 n A) from HS0.out.below hb1); clear hb1 ca HS0)
    | (go_at_call 60; refine (cs _).mono ?_; rintro e w2 ⟨rfl, hb2⟩; have HS2 := (show Hid (B1 w (w2.alloc (.cells (w4 x0 x1 x2 x3).toArray 74)) n A) from (HS1.out.below hb2).below ((Below.refl _ _).alloc (Nat.le_refl _) _)); clear hb2 cs HS1))
  have HR2 : Hid ((w2.alloc (.cells (w4 x0 x1 x2 x3).toArray 74)).rangeAt w2.heap.size 0 (w4 x0 x1 x2 x3)) := range_new _ _ _
  have HK : Hid (w2.heap.size < (w2.alloc (.cells (w4 x0 x1 x2 x3).toArray 74)).heap.size) := by show _ < _; rw [size_alloc]; omega
  obtain ⟨k, hk⟩ : ∃ k, w2.heap.size = k := ⟨_, rfl⟩
  obtain ⟨w3, hw3⟩ : ∃ v, w2.alloc (.cells (w4 x0 x1 x2 x3).toArray 74) = v := ⟨_, rfl⟩
  rw [hk, hw3] at HR2 HK
  rw [hw3] at HS2
  unfold w4 at hw3
  rw [hk, hw3]
  clear hk hw3
  have HQL : Hid (∀ w', (∃ x : Cl w3.heap.size w3, w' = x.u) → w'.rangeAt k 0 (w4 x0 x1 x2 x3)) := fun _ ⟨x, hx⟩ => hx ▸ x.range HR2.out HK.out
  have hne := Cl.ne w3.heap.size w3
  apply region_cl_tail (N := w3.heap.size) (W := w3) 4 8 (by kernel_rfl) (Below.refl _ _)
  case hl => simp only [List.take_succ_cons, List.take_zero]; rfl
  case ht => simp only [List.drop_succ_cons, List.drop_zero]; rfl
  case hB => kernel_rfl
  case hT => kernel_rfl
  case h =>
    go_big_quiet_want
    refine quiet_load 74 _ rfl k 0 rfl (w4 x0 x1 x2 x3) _ HQL.out Try.underlying74 rfl info4 ?_
    simp only [w4, Act.put, List.setIfInBounds_toArray, List.set_cons_zero, List.set_cons_succ]
    go_big_quiet_on
    go_big_quiet_step ((go_at_call 67; exact cl_of (ci _) (Nat.le_refl _)))
    go_big_quiet_step ((go_at_call 66; exact cl_of (cp _) (Nat.le_refl _)))
    go_big_quiet_step ((go_at_call 58; exact cl_of (cb _) (Nat.le_refl _)))
    refine wpQuiet_nil ?_
    rintro _ ⟨x, rfl⟩
    have HS5 : Hid (B1 w x.u n A) := HS2.out.below x.h
    obtain ⟨w5, hw5⟩ : ∃ v, x.u = v := ⟨_, rfl⟩
    rw [hw5] at HS5 ⊢
    have HE5 := (show Hid (_ ∧ _) from HEND.out w5 HS5.out.b HS5.out.u)
    have HT5 : Hid (w5.there (n + 1) 0 R.toArray.size) := by show w5.there _ _ _; rw [HLR.out]; exact HS5.out.u
    clear hw5 x hne HQL HR2 HK HS2 HEND HS5 e48
    go_wp2_with (refine wpList_store_mid rfl 22 (.tmp 2) (.tmp 16) rfl (n + 1) 0 R.toArray rfl rfl HT5.out HJ.out HO.out ?_; simp only)
    rw [hn]
    exact bodyPost_ret (res_ct22 Try.results23 rfl HE5.out.1 rfl) rfl ⟨rfl, HE5.out.2⟩
end Fd
end Go.Proofs.Ytgdekigdbbldoaa

namespace Go.Proofs.Ytgdekigdbbldoaa
open Go.RowKit
namespace Dt

/-- The number that digits tell. -/
def ofD : List Nat → Nat
  | [] => 0
  | d :: l => d + 16777216 * ofD l
/-- Digits are below 2^24. -/
def Sm (L : List Nat) : Prop := ∀ i, L.getD i 0 < 16777216
theorem ofD_nil : ofD [] = 0 := rfl
theorem ofD_cons (d : Nat) (l : List Nat) : ofD (d :: l) = d + 16777216 * ofD l := rfl
theorem pow_s (k : Nat) : 16777216 ^ (k + 1) = 16777216 * 16777216 ^ k := by rw [Nat.pow_succ, Nat.mul_comm]
theorem pow_p (k : Nat) : 0 < 16777216 ^ k := Nat.pow_pos (by decide)
theorem ofD_app : ∀ (L M : List Nat), ofD (L ++ M) = ofD L + 16777216 ^ L.length * ofD M
  | [], M => by simp [ofD]
  | d :: L, M => by
    rw [List.cons_append, ofD_cons, ofD_cons, ofD_app L M, List.length_cons, pow_s, Nat.mul_add, Nat.mul_assoc, Nat.add_assoc]
theorem ofD_snoc (L : List Nat) (t : Nat) : ofD (L ++ [t]) = ofD L + 16777216 ^ L.length * t := by
  rw [ofD_app, ofD_cons, ofD_nil, Nat.mul_zero, Nat.add_zero]
theorem Sm.tail {d : Nat} {L : List Nat} (h : Sm (d :: L)) : Sm L := fun i => by have := h (i + 1); simpa using this
theorem Sm.nil : Sm [] := fun i => by simp
theorem ofD_lt : ∀ {L : List Nat}, Sm L → ofD L < 16777216 ^ L.length
  | [], _ => by simp [ofD]
  | d :: L, h => by
    have h1 := ofD_lt h.tail
    have h2 : d < 16777216 := by have := h 0; simpa using this
    rw [ofD_cons, List.length_cons, pow_s]
    omega
theorem drop_step (L : List Nat) (k : Nat) : ofD (L.drop k) = L.getD k 0 + 16777216 * ofD (L.drop (k + 1)) := by
  rcases Nat.lt_or_ge k L.length with h | h
  · rw [List.drop_eq_getElem_cons h, ofD_cons, List.getD_eq_getElem?_getD, List.getElem?_eq_getElem h]
    rfl
  · rw [List.drop_eq_nil_of_le h, List.drop_eq_nil_of_le (by omega), List.getD_eq_getElem?_getD, List.getElem?_eq_none h]
    rfl
theorem take_drop : ∀ (L : List Nat) (k : Nat), ofD L = ofD (L.take k) + 16777216 ^ k * ofD (L.drop k)
  | L, 0 => by simp [ofD]
  | [], k + 1 => by simp [ofD]
  | d :: L, k + 1 => by
    rw [List.take_succ_cons, List.drop_succ_cons, ofD_cons, ofD_cons, take_drop L k, pow_s, Nat.mul_add, Nat.mul_assoc, Nat.add_assoc]
theorem take_step (L : List Nat) (k : Nat) : ofD (L.take (k + 1)) = ofD (L.take k) + 16777216 ^ k * L.getD k 0 := by
  have h1 := take_drop L k
  have h2 := take_drop L (k + 1)
  rw [drop_step, Nat.mul_add, ← Nat.mul_assoc, Nat.mul_comm _ 16777216, ← pow_s] at h1
  omega
theorem Sm.take {L : List Nat} (h : Sm L) (k : Nat) : Sm (L.take k) := fun i => by
  rw [List.getD_eq_getElem?_getD]
  rcases Nat.lt_or_ge i k with h1 | h1
  · rw [List.getElem?_take_of_lt h1, ← List.getD_eq_getElem?_getD]
    exact h i
  · rw [List.getElem?_eq_none (by rw [List.length_take]; omega)]
    decide
theorem Sm.snoc {L : List Nat} (h : Sm L) {t : Nat} (ht : t < 16777216) : Sm (L ++ [t]) := fun i => by
  rw [List.getD_eq_getElem?_getD]
  rcases Nat.lt_or_ge i L.length with h1 | h1
  · rw [List.getElem?_append_left h1, ← List.getD_eq_getElem?_getD]
    exact h i
  · rw [List.getElem?_append_right h1]
    rcases Nat.eq_zero_or_pos (i - L.length) with h2 | h2
    · rw [h2]; exact ht
    · rw [List.getElem?_eq_none (by simp; omega)]; decide
theorem get_snoc (L : List Nat) (t : Nat) : (L ++ [t]).getD L.length 0 = t := by
  rw [List.getD_eq_getElem?_getD, List.getElem?_append_right (Nat.le_refl _), Nat.sub_self]
  rfl
theorem take_lt {L : List Nat} (h : Sm L) (k : Nat) : ofD (L.take k) < 16777216 ^ k := by
  refine Nat.lt_of_lt_of_le (ofD_lt (h.take k)) (Nat.pow_le_pow_right (by decide) ?_)
  rw [List.length_take]
  omega
/-- A digit, of the number. -/
theorem digit_eq {L : List Nat} (h : Sm L) (k : Nat) : L.getD k 0 = ofD L / 16777216 ^ k % 16777216 := by
  have h1 := take_lt h k
  rw [take_drop L k, Nat.add_comm, Nat.mul_add_div (pow_p k), Nat.div_eq_of_lt h1, Nat.add_zero, drop_step, Nat.add_mul_mod_self_left, Nat.mod_eq_of_lt (h k)]
theorem ofD_set : ∀ (L : List Nat) (j v : Nat), j < L.length → ofD (L.set j v) + 16777216 ^ j * L.getD j 0 = ofD L + 16777216 ^ j * v
  | [], _, _, h => absurd h (by simp)
  | d :: L, 0, v, _ => by
    simp [ofD]
    omega
  | d :: L, j + 1, v, h => by
    have ih := ofD_set L j v (by simpa using h)
    rw [List.set_cons_succ, ofD_cons, ofD_cons, pow_s, List.getD_cons_succ, Nat.mul_assoc, Nat.mul_assoc]
    omega
theorem get_set (L : List Nat) (j v i : Nat) (h : j < L.length) : (L.set j v).getD i 0 = if i = j then v else L.getD i 0 := by
  rw [List.getD_eq_getElem?_getD, List.getElem?_set]
  by_cases hij : j = i
  · subst hij
    simp [h]
  · rw [if_neg hij, if_neg (fun e => hij e.symm), ← List.getD_eq_getElem?_getD]
theorem Sm.set {L : List Nat} (h : Sm L) {j v : Nat} (hv : v < 16777216) (hj : j < L.length) : Sm (L.set j v) := fun i => by
  rw [get_set L j v i hj]
  split
  · exact hv
  · exact h i
/-- Digits of a number, without noughts at the end. -/
structure IsD (L : List Nat) (x : Nat) : Prop where
  v : ofD L = x
  s : Sm L
  t : L.length = 0 ∨ L.getD (L.length - 1) 0 ≠ 0
theorem IsD.ge {L : List Nat} {x : Nat} (h : IsD L x) (h0 : 0 < L.length) : 16777216 ^ (L.length - 1) ≤ x := by
  have h1 := take_drop L (L.length - 1)
  rw [h.v, drop_step] at h1
  rcases h.t with h2 | h2
  · omega
  · have h3 : 16777216 ^ (L.length - 1) * 1 ≤ 16777216 ^ (L.length - 1) * (L.getD (L.length - 1) 0 + 16777216 * ofD (L.drop (L.length - 1 + 1))) := Nat.mul_le_mul_left _ (by omega)
    omega
theorem IsD.lt {L : List Nat} {x : Nat} (h : IsD L x) : x < 16777216 ^ L.length := by
  rw [← h.v]; exact ofD_lt h.s
theorem IsD.len {L : List Nat} {x k : Nat} (h : IsD L x) (hx : x < 16777216 ^ k) : L.length ≤ k := by
  rcases Nat.lt_or_ge k L.length with h1 | h1
  · have h2 := h.ge (by omega)
    have h3 : 16777216 ^ k ≤ 16777216 ^ (L.length - 1) := Nat.pow_le_pow_right (by decide) (by omega)
    omega
  · exact h1
theorem IsD.nil_iff {L : List Nat} {x : Nat} (h : IsD L x) : L.length = 0 ↔ x = 0 := by
  constructor
  · intro h0
    rw [← h.v, List.eq_nil_of_length_eq_zero h0, ofD_nil]
  · intro h0
    subst h0
    have := h.len (k := 0) (by decide)
    omega
theorem IsD.uniq {L M : List Nat} {x : Nat} (h : IsD L x) (k : IsD M x) : L = M := by
  have h1 := h.len k.lt
  have h2 := k.len h.lt
  refine List.ext_getElem (by omega) fun i hi hj => ?_
  have h3 := digit_eq h.s i
  have h4 := digit_eq k.s i
  rw [h.v] at h3
  rw [k.v, ← h3] at h4
  rw [List.getD_eq_getElem?_getD, List.getD_eq_getElem?_getD, List.getElem?_eq_getElem hi, List.getElem?_eq_getElem hj] at h4
  exact h4.symm
theorem IsD.nil : IsD [] 0 := ⟨rfl, Sm.nil, .inl rfl⟩
/-- Noughts at the end are nothing. -/
theorem cut_val {L : List Nat} {n : Nat} (h0 : ∀ j, n ≤ j → L.getD j 0 = 0) : ofD (L.take n) = ofD L := by
  have h1 := take_drop L n
  have h2 : ∀ (M : List Nat), (∀ j, M.getD j 0 = 0) → ofD M = 0 := fun M => by
    induction M with
    | nil => intro _; rfl
    | cons d M ih =>
      intro h
      rw [ofD_cons, ih (fun j => by have := h (j + 1); simpa using this)]
      have := h 0
      simpa using this
  rw [h2 (L.drop n) (fun j => by
    rw [List.getD_eq_getElem?_getD, List.getElem?_drop, ← List.getD_eq_getElem?_getD]
    exact h0 (n + j) (by omega))] at h1
  omega
theorem cut_is {L : List Nat} {n : Nat} (hs : Sm L) (hn : n ≤ L.length) (h0 : ∀ j, n ≤ j → L.getD j 0 = 0) (ht : n = 0 ∨ L.getD (n - 1) 0 ≠ 0) : IsD (L.take n) (ofD L) := by
  refine ⟨cut_val h0, hs.take n, ?_⟩
  have hl : (L.take n).length = n := by rw [List.length_take]; omega
  rw [hl]
  rcases ht with h | h
  · exact .inl h
  · rcases Nat.eq_zero_or_pos n with h1 | h1
    · exact .inl h1
    · right
      rw [List.getD_eq_getElem?_getD, List.getElem?_take_of_lt (by omega), ← List.getD_eq_getElem?_getD]
      exact h
theorem IsD.pos {L : List Nat} {x : Nat} (h : IsD L x) (k : Nat) : L.getD k 0 = x / 16777216 ^ k % 16777216 := by
  rw [← h.v]; exact digit_eq h.s k
end Dt
end Go.Proofs.Ytgdekigdbbldoaa
