/- What bytesOf does: a contract, by walking its text. What Add, Sub, Mul and Reduce do: contracts, by walking their texts. -/
import Derived.Test.YtgdekigdbbldoaaG10
namespace Go.Proofs.Ytgdekigdbbldoaa
open Go.RowKit
namespace Fd
open Rg

theorem by_by (x k i : Nat) (hi : i < 8) : by_ (x / 2 ^ (64 * k) % 2 ^ 64) i = by_ x (8 * k + i) := by
  have h : by_ x (8 * k + i) = x / 2 ^ (64 * k) / 2 ^ (8 * i) % 256 := by
    unfold by_
    rw [Nat.div_div_eq_div_mul, ← Nat.pow_add]
    congr 3
    omega
  rw [h]
  generalize x / 2 ^ (64 * k) = y
  unfold by_
  have e : (2 : Nat) ^ 64 = 2 ^ (8 * i) * 2 ^ (64 - 8 * i) := by
    rw [← Nat.pow_add]
    congr 1
    omega
  have d : 256 ∣ 2 ^ (64 - 8 * i) := Nat.pow_dvd_pow 2 (show 8 ≤ 64 - 8 * i by omega)
  rw [e, Nat.mod_mul_right_div_self, Nat.mod_mod_of_dvd _ d]
theorem cell_setCells_out {b c : Nat} : ∀ (vs : List Value) (k : Nat) (w : World), (c < k ∨ k + vs.length ≤ c) → (w.setCells b k vs).cell? ⟨b, c, none⟩ = w.cell? ⟨b, c, none⟩
  | [], _, _, _ => rfl
  | v :: vs, k, w, h => by
    rw [List.length_cons] at h
    rw [World.setCells, cell_setCells_out vs (k + 1) _ (by omega)]
    exact World.cell?_setCell_other _ _ _ _ (fun e => by cases e; omega)
/-- The bytes so far. -/
structure ByAt (w wr : World) (n : Nat) (M : Nat → Nat) : Prop where
  b : Below n w wr
  c : ∀ j, j < 32 → wr.cell? ⟨n + 1, j, none⟩ = some (.int .u8 ((M j : Nat) : Int))
  t : wr.there (n + 1) 0 32
  l : n + 1 < wr.heap.size
def put8 (M : Nat → Nat) (o v : Nat) : Nat → Nat := fun j => if o ≤ j ∧ j < o + 8 then by_ v (j - o) else M j
theorem ByAt.put {w wr : World} {n : Nat} {M : Nat → Nat} (h : ByAt w wr n M) {o : Nat} (ho : o + 8 ≤ 32) (v : Nat) : ByAt w (wr.setCells (n + 1) o ((List.range 8).map fun j => .int .u8 ((by_ v j : Nat) : Int))) n (put8 M o v) := by
  refine ⟨below_setCells h.b (by omega), fun j hj => ?_, World.there_setCells h.t _ _ _, by rw [size_setCells]; exact h.l⟩
  unfold put8
  by_cases hj2 : o ≤ j ∧ j < o + 8
  · have ht : wr.there (n + 1) o 8 := fun i hi => by
      have := h.t (o + i) (by omega)
      rwa [Nat.zero_add] at this
    have hr := World.rangeAt_setCells_same wr (n + 1) o ((List.range 8).map fun j => .int .u8 ((by_ v j : Nat) : Int)) (by simpa using ht)
    have h3 := hr (j - o) (.int .u8 ((by_ v (j - o) : Nat) : Int)) (by rw [List.getElem?_map, List.getElem?_range (by omega)]; rfl)
    rw [show o + (j - o) = j by omega] at h3
    rw [h3, if_pos hj2]
  · rw [cell_setCells_out _ _ _ (by simp; omega), h.c j hj, if_neg hj2]
theorem ByAt.start (w : World) (E : List Value) (Z : Array Value) (hZ : ∀ j, j < 32 → Z[j]? = some (.int .u8 0)) : ByAt w ((w.alloc (.cells E.toArray 74)).alloc (.cells Z 22)) w.heap.size (fun _ => 0) := by
  have e1 : (w.alloc (.cells E.toArray 74)).heap.size = w.heap.size + 1 := size_alloc _ _
  refine ⟨((Below.refl _ _).alloc (Nat.le_refl _) _).alloc (by simp) _, fun j hj => ?_, ?_, by rw [size_alloc, size_alloc]; omega⟩
  · have h2 := cell_new (w.alloc (.cells E.toArray 74)) Z 22 (i := j) (hZ j hj)
    rw [e1] at h2
    rw [h2]
    rfl
  · have h2 := there_new (w.alloc (.cells E.toArray 74)) Z 22 (m := 32) fun j hj => by rw [hZ j hj]; rfl
    rw [e1] at h2
    exact h2
def bs (x k : Nat) : Nat → Nat := fun j => if j < 8 * k then by_ x j else 0
theorem bs_put (x k : Nat) : put8 (bs x k) (8 * k) (x / 2 ^ (64 * k) % 2 ^ 64) = bs x (k + 1) := by
  funext j
  unfold put8 bs
  by_cases h1 : 8 * k ≤ j ∧ j < 8 * k + 8
  · rw [if_pos h1, if_pos (by omega), by_by x k (j - 8 * k) (by omega), show 8 * k + (j - 8 * k) = j by omega]
  · rw [if_neg h1]
    by_cases h2 : j < 8 * k
    · rw [if_pos h2, if_pos (by omega)]
    · rw [if_neg h2, if_neg (by omega)]
theorem ByAt.all {w wr : World} {n x : Nat} (h : ByAt w wr n (bs x 4)) : wr.rangeAt (n + 1) 0 (bvc x) := fun j v hv => by
  rw [Nat.zero_add]
  have hj : j < 32 := by
    have := (List.getElem?_eq_some_iff.1 hv).1
    rwa [bvc_len] at this
  rw [bvc_at x j hj] at hv
  rw [h.c j hj, ← hv]
  unfold bs
  rw [if_pos (by omega)]
theorem one32 (x : Nat) : (bvc x).toArray.all (·.oneCell') = true := all_oneCell_toArray fun v hv => by
  unfold bvc at hv
  obtain ⟨j, _, rfl⟩ := List.mem_map.1 hv
  rfl

set_option maxHeartbeats 4000000 in
set_option maxRecDepth 4000 in
theorem bytesOf_any (x : Nat) (w : World) : Calls Try.prog 58 #[nv x] w fun e w' => e = .returned (bv x) ∧ Below w.heap.size w w' := by
  obtain ⟨n, hn⟩ : ∃ n, w.heap.size = n := ⟨_, rfl⟩
  rw [nv_w4]
  have hS := ByAt.start w (w4 (l0 x) (l1 x) (l2 x) (l3 x)) (Array.replicate 32 (.int .u8 0)) (fun j hj => by simp [hj])
  have HX : Hid (∀ k : Nat, k < 4 → ∀ W : World, (Instr.index 74 (.agg #[.int .u64 (l0 x : Int), .int .u64 (l1 x : Int), .int .u64 (l2 x : Int), .int .u64 (l3 x : Int)]) (.int .i64 (k : Int))).run Try.prog W = .ok (.int .u64 ((x / 2 ^ (64 * k) % 2 ^ 64 : Nat) : Int)) W) := fun k hk W => index4 _ k _ hk (by rw [w4_at _ _ _ _ _ hk, l_pick x k hk]) W
  obtain ⟨f0, hf0⟩ : ∃ f, l0 x = f := ⟨_, rfl⟩
  obtain ⟨f1, hf1⟩ : ∃ f, l1 x = f := ⟨_, rfl⟩
  obtain ⟨f2, hf2⟩ : ∃ f, l2 x = f := ⟨_, rfl⟩
  obtain ⟨f3, hf3⟩ : ∃ f, l3 x = f := ⟨_, rfl⟩
  rw [hf0, hf1, hf2, hf3] at hS HX
  rw [hf0, hf1, hf2, hf3]
  clear hf0 hf1 hf2 hf3
  rw [hn] at hS
  have h0 : (fun _ => 0) = bs x 0 := by funext j; unfold bs; simp
  rw [h0] at hS
  have HS : Hid (ByAt w _ n (bs x 0)) := hS
  unfold bv
  have H32 : Hid ((bvc x).toArray.all (·.oneCell') = true) := one32 x
  have HLN : Hid ((bvc x).length = 32) := bvc_len x
  obtain ⟨R, hR⟩ : ∃ R, bvc x = R := ⟨_, rfl⟩
  have HRR : Hid (bvc x = R) := hR
  rw [hR] at H32 HLN ⊢
  clear h0 hS hR
  unfold w4
  go_enter Try.func58, Try.ntmps58
  go_wp2
  go_loopw [6] (fun y wr => ∃ k : Nat, y = .int .i64 (k : Int) ∧ k ≤ 4 ∧ Hid (ByAt w wr n (bs x k))) (fun y _ => 4 - numOf y)
  case atStart => exact ⟨0, rfl, Nat.zero_le _, HS.out⟩
  case round =>
    clear HS
    obtain ⟨k, rfl, hk, HR⟩ := hrel
    by_cases hlt : k < 4
    · have hlt' : (k : Int) < 4 := by omega
      have hlt0 : (0 : Int) ≤ (k : Int) := by omega
      have hix := HX.out k hlt
      have HP := (show Hid (put8 (bs x k) (8 * k) (x / 2 ^ (64 * k) % 2 ^ 64) = bs x (k + 1)) from bs_put x k)
      have hv : x / 2 ^ (64 * k) % 2 ^ 64 < 18446744073709551616 := Nat.mod_lt _ (by decide)
      obtain ⟨v, hvv⟩ : ∃ v, x / 2 ^ (64 * k) % 2 ^ 64 = v := ⟨_, rfl⟩
      rw [hvv] at HP hv hix
      obtain ⟨o, ho⟩ : ∃ o, 8 * k = o := ⟨_, rfl⟩
      rw [ho] at HP
      obtain ⟨o8, ho8⟩ : ∃ o8, o + 8 = o8 := ⟨_, rfl⟩
      have y1 : (8 : Int) * (k : Int) = (o : Int) := by omega
      have y2 : (o : Int) + 8 = (o8 : Int) := by omega
      have y3 : IntKind.i64.wrap (o : Int) = (o : Int) := by rw [IntKind.wrap_i64]; omega
      have y4 : IntKind.i64.wrap (o8 : Int) = (o8 : Int) := by rw [IntKind.wrap_i64]; omega
      have y5 : (o8 : Int) ≤ 32 := by omega
      have y6 : (o : Int) ≤ (o8 : Int) := by omega
      have y7 : (0 : Int) ≤ (o : Int) := by omega
      have y8 : o8 - o = 8 := by omega
      have ht : wr.there (n + 1) o 8 := fun i hi => by
        have := HR.out.t (o + i) (by omega)
        rwa [Nat.zero_add] at this
      have cp := fun cap => putWord_any (n + 1) o cap v wr hv ht
      have HV := (show Hid (ByAt w (wr.setCells (n + 1) o ((List.range 8).map fun j => .int .u8 ((by_ v j : Nat) : Int))) n (put8 (bs x k) o v)) from HR.out.put (by omega) v)
      rw [HP.out] at HV
      obtain ⟨w5, hw5⟩ : ∃ w5, wr.setCells (n + 1) o ((List.range 8).map fun j => .int .u8 ((by_ v j : Nat) : Int)) = w5 := ⟨_, rfl⟩
      rw [hw5] at HV cp
      clear hvv ho ht hv HP hw5
      go_wp2_with (go_at_call 95; refine (cp _).mono ?_; rintro e w6 ⟨rfl, rfl⟩)
      go_roundw
      case rel => exact ⟨k + 1, by go_num, hlt, HV⟩
      case measure => simp [numOf]; omega
    · have hk4 : k = 4 := by omega
      subst hk4
      have hlt' : ¬ ((4 : Nat) : Int) < 4 := by omega
      have hA := HR.out.all
      rw [HRR.out] at hA
      have HA : Hid (wr.rangeAt (n + 1) 0 R) := hA
      have HT : Hid (wr.there (n + 1) 0 R.length) := by show wr.there _ _ _; rw [HLN.out]; exact HR.out.t
      have HBB : Hid (Below n w wr) := HR.out.b
      have HI : Hid ((Try.prog.info? 22).map (·.size) = some R.length) := by show _ = _; rw [HLN.out]; exact info22
      have HI2 : Hid ((Try.prog.info? 22).map (·.size) = some R.toArray.size) := by show _ = _; rw [List.size_toArray, HLN.out]; exact info22
      clear hA HR HX HRR HLN
      go_wp2_with (first
        | (refine wpList_load_mid rfl 22 (.tmp 2) rfl (n + 1) 0 rfl R _ HA.out Try.underlying22 rfl HI.out ?_)
        | (refine wpList_store_mid rfl 22 (.tmp 2) (.tmp 19) rfl (n + 1) 0 R.toArray rfl rfl HT.out HI2.out H32.out ?_; simp only))
      exact bodyPost_ret (results_cell Try.results58 rfl (run_loadVar_mid (P := Try.prog) _ (n + 1) 0 22 R _ (World.rangeAt_setCells_same _ _ _ _ HT.out) Try.underlying22 rfl HI.out)) rfl ⟨rfl, by first | exact below_setCells HBB.out (by omega) | (rw [hn]; exact below_setCells HBB.out (by omega))⟩
end Fd
end Go.Proofs.Ytgdekigdbbldoaa

namespace Go.Proofs.Ytgdekigdbbldoaa
open Go.RowKit
namespace Fd
open Rg

/-- Two numbers' bytes and the answer's box. -/
structure B3 (w wr : World) (n : Nat) (A B : List Value) : Prop where
  b : Below n w wr
  ra : wr.rangeAt n 0 A
  rb : wr.rangeAt (n + 1) 0 B
  u : wr.there (n + 2) 0 32
  l : n + 2 < wr.heap.size
theorem B3.below {w wr w' : World} {n : Nat} {A B : List Value} (h : B3 w wr n A B) (hb : Below wr.heap.size wr w') : B3 w w' n A B := by
  have hl := h.l
  exact ⟨h.b.trans (hb.mono (by omega)), Rg.Below.range hb h.ra (by omega), Rg.Below.range hb h.rb (by omega), there_below hb h.u hl, Nat.lt_of_lt_of_le hl hb.size⟩
theorem B3.start (w : World) (A B : List Value) : B3 w (((w.alloc (.cells A.toArray 22)).alloc (.cells B.toArray 22)).alloc (.cells (Array.replicate 32 (.int .u8 0)) 22)) w.heap.size A B := by
  obtain ⟨w2, hw2⟩ : ∃ v, (w.alloc (.cells A.toArray 22)).alloc (.cells B.toArray 22) = v := ⟨_, rfl⟩
  have e2 : w2.heap.size = w.heap.size + 2 := by rw [← hw2, size_alloc, size_alloc]
  have hb : Below w.heap.size w w2 := by rw [← hw2]; exact ((Below.refl _ _).alloc (Nat.le_refl _) _).alloc (by simp) _
  have h0 : w2.rangeAt w.heap.size 0 A := by rw [← hw2]; exact World.rangeAt_alloc (range_new _ _ _) _
  have h1 : w2.rangeAt (w.heap.size + 1) 0 B := by rw [← hw2]; exact range_new1 _ _ _ _
  rw [hw2]
  have h2 := there_new w2 (Array.replicate 32 (.int .u8 0)) 22 (m := 32) fun j hj => by simp [hj]
  rw [e2] at h2
  exact ⟨hb.alloc (by omega) _, World.rangeAt_alloc h0 _, World.rangeAt_alloc h1 _, h2, by rw [size_alloc, e2]; omega⟩
theorem info22l (x : Nat) : (Try.prog.info? 22).map (·.size) = some (bvc x).length := by rw [bvc_len]; exact info22
theorem info22s (x : Nat) : (Try.prog.info? 22).map (·.size) = some (bvc x).toArray.size := by rw [List.size_toArray, bvc_len]; exact info22
theorem end32 {w wr : World} {n m x : Nat} (hb : Below n w wr) (hu : wr.there m 0 32) (hm : n ≤ m) : (loadVar 22 ⟨m, 0, none⟩).run Try.prog (wr.setCells m 0 (bvc x)) = .ok (.agg (bvc x).toArray) (wr.setCells m 0 (bvc x)) ∧ Below n w (wr.setCells m 0 (bvc x)) :=
  ⟨run_loadVar_mid (P := Try.prog) _ m 0 22 (bvc x) _ (World.rangeAt_setCells_same _ _ _ _ (by rw [bvc_len]; exact hu)) Try.underlying22 rfl (info22l x), below_setCells hb hm⟩
theorem p256 : p < 115792089237316195423570985008687907853269984665640564039457584007913129639936 := by decide
theorem mod_p (a : Nat) : a % p < p := Nat.mod_lt _ (by decide)
theorem mod_256 (a : Nat) : a % p < 115792089237316195423570985008687907853269984665640564039457584007913129639936 := Nat.lt_trans (mod_p a) p256

set_option maxHeartbeats 4000000 in
set_option maxRecDepth 4000 in
theorem add_any (a b : Nat) (w : World) (ha : a < 115792089237316195423570985008687907853269984665640564039457584007913129639936) (hb : b < 115792089237316195423570985008687907853269984665640564039457584007913129639936) :
    Calls Try.prog 15 #[bv a, bv b] w fun e w' => e = .returned (bv ((a % p + b % p) % p)) ∧ Below w.heap.size w w' := by
  have ca := fun W => wordsOf_any a W
  have cc := fun W => wordsOf_any b W
  have cra := fun W => reduced_any a W ha
  have crb := fun W => reduced_any b W hb
  have cs := fun W => sum_any (a % p) (b % p) W (mod_256 a) (mod_256 b) (by have h1 := mod_p a; have h2 := mod_p b; unfold p at h1 h2 ⊢; omega)
  obtain ⟨r, hr⟩ : ∃ r, (a % p + b % p) % p = r := ⟨_, rfl⟩
  rw [hr] at cs ⊢
  have cb := fun W => bytesOf_any r W
  have hS0 := B3.start w (bvc a) (bvc b)
  obtain ⟨n, hn⟩ : ∃ n, w.heap.size = n := ⟨_, rfl⟩
  rw [hn] at hS0
  have HS0 : Hid (B3 w _ n (bvc a) (bvc b)) := hS0
  unfold bv
  have HIA := info22l a
  have HIB := info22l b
  have HJ : Hid ((Try.prog.info? 22).map (·.size) = some (bvc r).toArray.size) := info22s r
  have HO : Hid ((bvc r).toArray.all (·.oneCell') = true) := one32 r
  have HLR : Hid ((bvc r).toArray.size = 32) := by show _ = _; rw [List.size_toArray, bvc_len]
  have HEND : Hid (∀ (wr : World), Below n w wr → wr.there (n + 2) 0 32 → (loadVar 22 ⟨n + 2, 0, none⟩).run Try.prog (wr.setCells (n + 2) 0 (bvc r)) = .ok (.agg (bvc r).toArray) (wr.setCells (n + 2) 0 (bvc r)) ∧ Below n w (wr.setCells (n + 2) 0 (bvc r))) := fun wr h1 h2 => end32 h1 h2 (by omega)
  unfold bv at ca cc cb
  obtain ⟨A, hA⟩ : ∃ A, bvc a = A := ⟨_, rfl⟩
  obtain ⟨B, hB⟩ : ∃ A, bvc b = A := ⟨_, rfl⟩
  obtain ⟨R, hR⟩ : ∃ A, bvc r = A := ⟨_, rfl⟩
  rw [hA] at HS0 HIA ca
  rw [hB] at HS0 HIB cc
  rw [hR] at HJ HO HLR HEND cb
  rw [hA, hB, hR]
  clear hA hB hR hS0 hr ha hb
  obtain ⟨v1, hv1⟩ : ∃ v, nv a = v := ⟨_, rfl⟩
  obtain ⟨v2, hv2⟩ : ∃ v, nv b = v := ⟨_, rfl⟩
  obtain ⟨v3, hv3⟩ : ∃ v, nv (a % p) = v := ⟨_, rfl⟩
  obtain ⟨v4, hv4⟩ : ∃ v, nv (b % p) = v := ⟨_, rfl⟩
  obtain ⟨v5, hv5⟩ : ∃ v, nv r = v := ⟨_, rfl⟩
  rw [hv1] at ca cra
  rw [hv2] at cc crb
  rw [hv3] at cra cs
  rw [hv4] at crb cs
  rw [hv5] at cs cb
  clear hv1 hv2 hv3 hv4 hv5
  go_enter Try.func15, Try.ntmps15
  go_wp2
  obtain ⟨w2, hw2⟩ : ∃ v, ((w.alloc (.cells A.toArray 22)).alloc (.cells B.toArray 22)).alloc (.cells (Array.replicate 32 (.int .u8 0)) 22) = v := ⟨_, rfl⟩
  rw [hw2] at HS0
  have hw3 : ((w.alloc (.cells A.toArray 22)).alloc (.cells B.toArray 22)).alloc (.cells #[.int .u8 0, .int .u8 0, .int .u8 0, .int .u8 0, .int .u8 0, .int .u8 0, .int .u8 0, .int .u8 0, .int .u8 0, .int .u8 0, .int .u8 0, .int .u8 0, .int .u8 0, .int .u8 0, .int .u8 0, .int .u8 0, .int .u8 0, .int .u8 0, .int .u8 0, .int .u8 0, .int .u8 0, .int .u8 0, .int .u8 0, .int .u8 0, .int .u8 0, .int .u8 0, .int .u8 0, .int .u8 0, .int .u8 0, .int .u8 0, .int .u8 0, .int .u8 0] 22) = w2 := hw2
  rw [hw3]
  clear hw2 hw3
  have HQA : Hid (∀ w', (∃ x : Cl w2.heap.size w2, w' = x.u) → w'.rangeAt n 0 A) := fun _ ⟨x, hx⟩ => hx ▸ x.range HS0.out.ra (by have := HS0.out.l; omega)
  have HQB : Hid (∀ w', (∃ x : Cl w2.heap.size w2, w' = x.u) → w'.rangeAt (n + 1) 0 B) := fun _ ⟨x, hx⟩ => hx ▸ x.range HS0.out.rb (by have := HS0.out.l; omega)
  have hne := Cl.ne w2.heap.size w2
  apply region_cl_tail (N := w2.heap.size) (W := w2) 8 8 (by kernel_rfl) (Below.refl _ _)
  case hl => simp only [List.take_succ_cons, List.take_zero]; rfl
  case ht => simp only [List.drop_succ_cons, List.drop_zero]; rfl
  case hB => kernel_rfl
  case hT => kernel_rfl
  case h =>
    go_big_quiet_want
    refine quiet_load 22 _ rfl n 0 rfl A _ HQA.out Try.underlying22 rfl HIA ?_
    simp only [Act.put, List.setIfInBounds_toArray, List.set_cons_zero, List.set_cons_succ]
    go_big_quiet_on
    go_big_quiet_step ((go_at_call 61; exact cl_of (ca _) (Nat.le_refl _)))
    go_big_quiet_step ((go_at_call 60; exact cl_of (cra _) (Nat.le_refl _)))
    go_big_quiet_want
    refine quiet_load 22 _ rfl (n + 1) 0 rfl B _ HQB.out Try.underlying22 rfl HIB ?_
    simp only [Act.put, List.setIfInBounds_toArray, List.set_cons_zero, List.set_cons_succ]
    go_big_quiet_on
    go_big_quiet_step ((go_at_call 61; exact cl_of (cc _) (Nat.le_refl _)))
    go_big_quiet_step ((go_at_call 60; exact cl_of (crb _) (Nat.le_refl _)))
    go_big_quiet_step ((go_at_call 59; exact cl_of (cs _) (Nat.le_refl _)))
    go_big_quiet_step ((go_at_call 58; exact cl_of (cb _) (Nat.le_refl _)))
    refine wpQuiet_nil ?_
    rintro _ ⟨x, rfl⟩
    have HS5 : Hid (B3 w x.u n A B) := HS0.out.below x.h
    obtain ⟨w5, hw5⟩ : ∃ v, x.u = v := ⟨_, rfl⟩
    rw [hw5] at HS5 ⊢
    have HE5 := (show Hid (_ ∧ _) from HEND.out w5 HS5.out.b HS5.out.u)
    have HT5 : Hid (w5.there (n + 2) 0 R.toArray.size) := by show w5.there _ _ _; rw [HLR.out]; exact HS5.out.u
    clear hw5 x hne HQA HQB HS0 HEND HS5
    go_wp2_with (refine wpList_store_mid rfl 22 (.tmp 4) (.tmp 12) rfl (n + 2) 0 R.toArray rfl rfl HT5.out HJ.out HO.out ?_; simp only)
    rw [hn]
    exact bodyPost_ret (results_cell Try.results15 rfl HE5.out.1) rfl ⟨rfl, HE5.out.2⟩

set_option maxHeartbeats 4000000 in
set_option maxRecDepth 4000 in
theorem sub_any (a b : Nat) (w : World) (ha : a < 115792089237316195423570985008687907853269984665640564039457584007913129639936) (hb : b < 115792089237316195423570985008687907853269984665640564039457584007913129639936) :
    Calls Try.prog 18 #[bv a, bv b] w fun e w' => e = .returned (bv ((a % p + p - b % p) % p)) ∧ Below w.heap.size w w' := by
  have ca := fun W => wordsOf_any a W
  have cc := fun W => wordsOf_any b W
  have cra := fun W => reduced_any a W ha
  have crb := fun W => reduced_any b W hb
  have cs := fun W => difference_any (a % p) (b % p) W (mod_p a) (mod_p b)
  obtain ⟨r, hr⟩ : ∃ r, (a % p + p - b % p) % p = r := ⟨_, rfl⟩
  rw [hr] at cs ⊢
  have cb := fun W => bytesOf_any r W
  have hS0 := B3.start w (bvc a) (bvc b)
  obtain ⟨n, hn⟩ : ∃ n, w.heap.size = n := ⟨_, rfl⟩
  rw [hn] at hS0
  have HS0 : Hid (B3 w _ n (bvc a) (bvc b)) := hS0
  unfold bv
  have HIA := info22l a
  have HIB := info22l b
  have HJ : Hid ((Try.prog.info? 22).map (·.size) = some (bvc r).toArray.size) := info22s r
  have HO : Hid ((bvc r).toArray.all (·.oneCell') = true) := one32 r
  have HLR : Hid ((bvc r).toArray.size = 32) := by show _ = _; rw [List.size_toArray, bvc_len]
  have HEND : Hid (∀ (wr : World), Below n w wr → wr.there (n + 2) 0 32 → (loadVar 22 ⟨n + 2, 0, none⟩).run Try.prog (wr.setCells (n + 2) 0 (bvc r)) = .ok (.agg (bvc r).toArray) (wr.setCells (n + 2) 0 (bvc r)) ∧ Below n w (wr.setCells (n + 2) 0 (bvc r))) := fun wr h1 h2 => end32 h1 h2 (by omega)
  unfold bv at ca cc cb
  obtain ⟨A, hA⟩ : ∃ A, bvc a = A := ⟨_, rfl⟩
  obtain ⟨B, hB⟩ : ∃ A, bvc b = A := ⟨_, rfl⟩
  obtain ⟨R, hR⟩ : ∃ A, bvc r = A := ⟨_, rfl⟩
  rw [hA] at HS0 HIA ca
  rw [hB] at HS0 HIB cc
  rw [hR] at HJ HO HLR HEND cb
  rw [hA, hB, hR]
  clear hA hB hR hS0 hr ha hb
  obtain ⟨v1, hv1⟩ : ∃ v, nv a = v := ⟨_, rfl⟩
  obtain ⟨v2, hv2⟩ : ∃ v, nv b = v := ⟨_, rfl⟩
  obtain ⟨v3, hv3⟩ : ∃ v, nv (a % p) = v := ⟨_, rfl⟩
  obtain ⟨v4, hv4⟩ : ∃ v, nv (b % p) = v := ⟨_, rfl⟩
  obtain ⟨v5, hv5⟩ : ∃ v, nv r = v := ⟨_, rfl⟩
  rw [hv1] at ca cra
  rw [hv2] at cc crb
  rw [hv3] at cra cs
  rw [hv4] at crb cs
  rw [hv5] at cs cb
  clear hv1 hv2 hv3 hv4 hv5
  go_enter Try.func18, Try.ntmps18
  go_wp2
  obtain ⟨w2, hw2⟩ : ∃ v, ((w.alloc (.cells A.toArray 22)).alloc (.cells B.toArray 22)).alloc (.cells (Array.replicate 32 (.int .u8 0)) 22) = v := ⟨_, rfl⟩
  rw [hw2] at HS0
  have hw3 : ((w.alloc (.cells A.toArray 22)).alloc (.cells B.toArray 22)).alloc (.cells #[.int .u8 0, .int .u8 0, .int .u8 0, .int .u8 0, .int .u8 0, .int .u8 0, .int .u8 0, .int .u8 0, .int .u8 0, .int .u8 0, .int .u8 0, .int .u8 0, .int .u8 0, .int .u8 0, .int .u8 0, .int .u8 0, .int .u8 0, .int .u8 0, .int .u8 0, .int .u8 0, .int .u8 0, .int .u8 0, .int .u8 0, .int .u8 0, .int .u8 0, .int .u8 0, .int .u8 0, .int .u8 0, .int .u8 0, .int .u8 0, .int .u8 0, .int .u8 0] 22) = w2 := hw2
  rw [hw3]
  clear hw2 hw3
  have HQA : Hid (∀ w', (∃ x : Cl w2.heap.size w2, w' = x.u) → w'.rangeAt n 0 A) := fun _ ⟨x, hx⟩ => hx ▸ x.range HS0.out.ra (by have := HS0.out.l; omega)
  have HQB : Hid (∀ w', (∃ x : Cl w2.heap.size w2, w' = x.u) → w'.rangeAt (n + 1) 0 B) := fun _ ⟨x, hx⟩ => hx ▸ x.range HS0.out.rb (by have := HS0.out.l; omega)
  have hne := Cl.ne w2.heap.size w2
  apply region_cl_tail (N := w2.heap.size) (W := w2) 8 8 (by kernel_rfl) (Below.refl _ _)
  case hl => simp only [List.take_succ_cons, List.take_zero]; rfl
  case ht => simp only [List.drop_succ_cons, List.drop_zero]; rfl
  case hB => kernel_rfl
  case hT => kernel_rfl
  case h =>
    go_big_quiet_want
    refine quiet_load 22 _ rfl n 0 rfl A _ HQA.out Try.underlying22 rfl HIA ?_
    simp only [Act.put, List.setIfInBounds_toArray, List.set_cons_zero, List.set_cons_succ]
    go_big_quiet_on
    go_big_quiet_step ((go_at_call 61; exact cl_of (ca _) (Nat.le_refl _)))
    go_big_quiet_step ((go_at_call 60; exact cl_of (cra _) (Nat.le_refl _)))
    go_big_quiet_want
    refine quiet_load 22 _ rfl (n + 1) 0 rfl B _ HQB.out Try.underlying22 rfl HIB ?_
    simp only [Act.put, List.setIfInBounds_toArray, List.set_cons_zero, List.set_cons_succ]
    go_big_quiet_on
    go_big_quiet_step ((go_at_call 61; exact cl_of (cc _) (Nat.le_refl _)))
    go_big_quiet_step ((go_at_call 60; exact cl_of (crb _) (Nat.le_refl _)))
    go_big_quiet_step ((go_at_call 64; exact cl_of (cs _) (Nat.le_refl _)))
    go_big_quiet_step ((go_at_call 58; exact cl_of (cb _) (Nat.le_refl _)))
    refine wpQuiet_nil ?_
    rintro _ ⟨x, rfl⟩
    have HS5 : Hid (B3 w x.u n A B) := HS0.out.below x.h
    obtain ⟨w5, hw5⟩ : ∃ v, x.u = v := ⟨_, rfl⟩
    rw [hw5] at HS5 ⊢
    have HE5 := (show Hid (_ ∧ _) from HEND.out w5 HS5.out.b HS5.out.u)
    have HT5 : Hid (w5.there (n + 2) 0 R.toArray.size) := by show w5.there _ _ _; rw [HLR.out]; exact HS5.out.u
    clear hw5 x hne HQA HQB HS0 HEND HS5
    go_wp2_with (refine wpList_store_mid rfl 22 (.tmp 4) (.tmp 12) rfl (n + 2) 0 R.toArray rfl rfl HT5.out HJ.out HO.out ?_; simp only)
    rw [hn]
    exact bodyPost_ret (results_cell Try.results18 rfl HE5.out.1) rfl ⟨rfl, HE5.out.2⟩

set_option maxHeartbeats 4000000 in
set_option maxRecDepth 4000 in
theorem mul_any (a b : Nat) (w : World) (ha : a < 115792089237316195423570985008687907853269984665640564039457584007913129639936) (hb : b < 115792089237316195423570985008687907853269984665640564039457584007913129639936) :
    Calls Try.prog 20 #[bv a, bv b] w fun e w' => e = .returned (bv (a * b % p)) ∧ Below w.heap.size w w' := by
  have ca := fun W => wordsOf_any a W
  have cc := fun W => wordsOf_any b W
  have cs := fun W => product_any a b W ha hb
  obtain ⟨r, hr⟩ : ∃ r, a * b % p = r := ⟨_, rfl⟩
  rw [hr] at cs ⊢
  have cb := fun W => bytesOf_any r W
  have hS0 := B3.start w (bvc a) (bvc b)
  obtain ⟨n, hn⟩ : ∃ n, w.heap.size = n := ⟨_, rfl⟩
  rw [hn] at hS0
  have HS0 : Hid (B3 w _ n (bvc a) (bvc b)) := hS0
  unfold bv
  have HIA := info22l a
  have HIB := info22l b
  have HJ : Hid ((Try.prog.info? 22).map (·.size) = some (bvc r).toArray.size) := info22s r
  have HO : Hid ((bvc r).toArray.all (·.oneCell') = true) := one32 r
  have HLR : Hid ((bvc r).toArray.size = 32) := by show _ = _; rw [List.size_toArray, bvc_len]
  have HEND : Hid (∀ (wr : World), Below n w wr → wr.there (n + 2) 0 32 → (loadVar 22 ⟨n + 2, 0, none⟩).run Try.prog (wr.setCells (n + 2) 0 (bvc r)) = .ok (.agg (bvc r).toArray) (wr.setCells (n + 2) 0 (bvc r)) ∧ Below n w (wr.setCells (n + 2) 0 (bvc r))) := fun wr h1 h2 => end32 h1 h2 (by omega)
  unfold bv at ca cc cb
  obtain ⟨A, hA⟩ : ∃ A, bvc a = A := ⟨_, rfl⟩
  obtain ⟨B, hB⟩ : ∃ A, bvc b = A := ⟨_, rfl⟩
  obtain ⟨R, hR⟩ : ∃ A, bvc r = A := ⟨_, rfl⟩
  rw [hA] at HS0 HIA ca
  rw [hB] at HS0 HIB cc
  rw [hR] at HJ HO HLR HEND cb
  rw [hA, hB, hR]
  clear hA hB hR hS0 hr ha hb
  obtain ⟨v1, hv1⟩ : ∃ v, nv a = v := ⟨_, rfl⟩
  obtain ⟨v2, hv2⟩ : ∃ v, nv b = v := ⟨_, rfl⟩
  obtain ⟨v5, hv5⟩ : ∃ v, nv r = v := ⟨_, rfl⟩
  rw [hv1] at ca cs
  rw [hv2] at cc cs
  rw [hv5] at cs cb
  clear hv1 hv2 hv5
  go_enter Try.func20, Try.ntmps20
  go_wp2
  obtain ⟨w2, hw2⟩ : ∃ v, ((w.alloc (.cells A.toArray 22)).alloc (.cells B.toArray 22)).alloc (.cells (Array.replicate 32 (.int .u8 0)) 22) = v := ⟨_, rfl⟩
  rw [hw2] at HS0
  have hw3 : ((w.alloc (.cells A.toArray 22)).alloc (.cells B.toArray 22)).alloc (.cells #[.int .u8 0, .int .u8 0, .int .u8 0, .int .u8 0, .int .u8 0, .int .u8 0, .int .u8 0, .int .u8 0, .int .u8 0, .int .u8 0, .int .u8 0, .int .u8 0, .int .u8 0, .int .u8 0, .int .u8 0, .int .u8 0, .int .u8 0, .int .u8 0, .int .u8 0, .int .u8 0, .int .u8 0, .int .u8 0, .int .u8 0, .int .u8 0, .int .u8 0, .int .u8 0, .int .u8 0, .int .u8 0, .int .u8 0, .int .u8 0, .int .u8 0, .int .u8 0] 22) = w2 := hw2
  rw [hw3]
  clear hw2 hw3
  have HQA : Hid (∀ w', (∃ x : Cl w2.heap.size w2, w' = x.u) → w'.rangeAt n 0 A) := fun _ ⟨x, hx⟩ => hx ▸ x.range HS0.out.ra (by have := HS0.out.l; omega)
  have HQB : Hid (∀ w', (∃ x : Cl w2.heap.size w2, w' = x.u) → w'.rangeAt (n + 1) 0 B) := fun _ ⟨x, hx⟩ => hx ▸ x.range HS0.out.rb (by have := HS0.out.l; omega)
  have hne := Cl.ne w2.heap.size w2
  apply region_cl_tail (N := w2.heap.size) (W := w2) 6 8 (by kernel_rfl) (Below.refl _ _)
  case hl => simp only [List.take_succ_cons, List.take_zero]; rfl
  case ht => simp only [List.drop_succ_cons, List.drop_zero]; rfl
  case hB => kernel_rfl
  case hT => kernel_rfl
  case h =>
    go_big_quiet_want
    refine quiet_load 22 _ rfl n 0 rfl A _ HQA.out Try.underlying22 rfl HIA ?_
    simp only [Act.put, List.setIfInBounds_toArray, List.set_cons_zero, List.set_cons_succ]
    go_big_quiet_on
    go_big_quiet_step ((go_at_call 61; exact cl_of (ca _) (Nat.le_refl _)))
    go_big_quiet_want
    refine quiet_load 22 _ rfl (n + 1) 0 rfl B _ HQB.out Try.underlying22 rfl HIB ?_
    simp only [Act.put, List.setIfInBounds_toArray, List.set_cons_zero, List.set_cons_succ]
    go_big_quiet_on
    go_big_quiet_step ((go_at_call 61; exact cl_of (cc _) (Nat.le_refl _)))
    go_big_quiet_step ((go_at_call 65; exact cl_of (cs _) (Nat.le_refl _)))
    go_big_quiet_step ((go_at_call 58; exact cl_of (cb _) (Nat.le_refl _)))
    refine wpQuiet_nil ?_
    rintro _ ⟨x, rfl⟩
    have HS5 : Hid (B3 w x.u n A B) := HS0.out.below x.h
    obtain ⟨w5, hw5⟩ : ∃ v, x.u = v := ⟨_, rfl⟩
    rw [hw5] at HS5 ⊢
    have HE5 := (show Hid (_ ∧ _) from HEND.out w5 HS5.out.b HS5.out.u)
    have HT5 : Hid (w5.there (n + 2) 0 R.toArray.size) := by show w5.there _ _ _; rw [HLR.out]; exact HS5.out.u
    clear hw5 x hne HQA HQB HS0 HEND HS5
    go_wp2_with (refine wpList_store_mid rfl 22 (.tmp 4) (.tmp 10) rfl (n + 2) 0 R.toArray rfl rfl HT5.out HJ.out HO.out ?_; simp only)
    rw [hn]
    exact bodyPost_ret (results_cell Try.results20 rfl HE5.out.1) rfl ⟨rfl, HE5.out.2⟩
end Fd
end Go.Proofs.Ytgdekigdbbldoaa
