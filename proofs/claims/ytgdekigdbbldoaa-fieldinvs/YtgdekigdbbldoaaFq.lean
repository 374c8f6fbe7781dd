/- What Add, Sub, Mul and Reduce do: contracts, by walking their texts. -/
import Derived.Test.YtgdekigdbbldoaaFp
namespace Go.Proofs.Ytgdekigdbbldoaa
open Go.RowKit
namespace Fd
open Rg

/-- Two numbers' bytes and the answer's box. -/
structure B3 (w wr : World) (n : Nat) (A B : List Value) : Prop where
  b : Below n w wr
  ra : wr.rangeAt n 0 A
  rb : wr.rangeAt (n + 1) 0 B
  u : wr.there (n + 2) 0 32
  l : n + 2 < wr.heap.size
theorem B3.below {w wr w' : World} {n : Nat} {A B : List Value} (h : B3 w wr n A B) (hb : Below wr.heap.size wr w') : B3 w w' n A B := by
  have hl := h.l
  exact ⟨h.b.trans (hb.mono (by omega)), Rg.Below.range hb h.ra (by omega), Rg.Below.range hb h.rb (by omega), there_below hb h.u hl, Nat.lt_of_lt_of_le hl hb.size⟩
theorem B3.start (w : World) (A B : List Value) : B3 w (((w.alloc (.cells A.toArray 22)).alloc (.cells B.toArray 22)).alloc (.cells (Array.replicate 32 (.int .u8 0)) 22)) w.heap.size A B := by
  obtain ⟨w2, hw2⟩ : ∃ v, (w.alloc (.cells A.toArray 22)).alloc (.cells B.toArray 22) = v := ⟨_, rfl⟩
  have e2 : w2.heap.size = w.heap.size + 2 := by rw [← hw2, size_alloc, size_alloc]
  have hb : Below w.heap.size w w2 := by rw [← hw2]; exact ((Below.refl _ _).alloc (Nat.le_refl _) _).alloc (by simp) _
  have h0 : w2.rangeAt w.heap.size 0 A := by rw [← hw2]; exact World.rangeAt_alloc (range_new _ _ _) _
  have h1 : w2.rangeAt (w.heap.size + 1) 0 B := by rw [← hw2]; exact range_new1 _ _ _ _
  rw [hw2]
  have h2 := there_new w2 (Array.replicate 32 (.int .u8 0)) 22 (m := 32) fun j hj => by simp [hj]
  rw [e2] at h2
  exact ⟨hb.alloc (by omega) _, World.rangeAt_alloc h0 _, World.rangeAt_alloc h1 _, h2, by rw [size_alloc, e2]; omega⟩
theorem info22l (x : Nat) : (Try.prog.info? 22).map (·.size) = some (bvc x).length := by rw [bvc_len]; exact info22
theorem info22s (x : Nat) : (Try.prog.info? 22).map (·.size) = some (bvc x).toArray.size := by rw [List.size_toArray, bvc_len]; exact info22
theorem end32 {w wr : World} {n m x : Nat} (hb : Below n w wr) (hu : wr.there m 0 32) (hm : n ≤ m) : (loadVar 22 ⟨m, 0, none⟩).run Try.prog (wr.setCells m 0 (bvc x)) = .ok (.agg (bvc x).toArray) (wr.setCells m 0 (bvc x)) ∧ Below n w (wr.setCells m 0 (bvc x)) :=
  ⟨run_loadVar_mid (P := Try.prog) _ m 0 22 (bvc x) _ (World.rangeAt_setCells_same _ _ _ _ (by rw [bvc_len]; exact hu)) Try.underlying22 rfl (info22l x), below_setCells hb hm⟩
theorem p256 : p < 115792089237316195423570985008687907853269984665640564039457584007913129639936 := by decide
theorem mod_p (a : Nat) : a % p < p := Nat.mod_lt _ (by decide)
theorem mod_256 (a : Nat) : a % p < 115792089237316195423570985008687907853269984665640564039457584007913129639936 := Nat.lt_trans (mod_p a) p256

set_option maxHeartbeats 4000000 in
set_option maxRecDepth 4000 in
theorem add_any (a b : Nat) (w : World) (ha : a < 115792089237316195423570985008687907853269984665640564039457584007913129639936) (hb : b < 115792089237316195423570985008687907853269984665640564039457584007913129639936) :
    Calls Try.prog 15 #[bv a, bv b] w fun e w' => e = .returned (bv ((a % p + b % p) % p)) ∧ Below w.heap.size w w' := by
  have ca := fun W => wordsOf_any a W
  have cc := fun W => wordsOf_any b W
  have cra := fun W => reduced_any a W ha
  have crb := fun W => reduced_any b W hb
  have cs := fun W => sum_any (a % p) (b % p) W (mod_256 a) (mod_256 b) (by have h1 := mod_p a; have h2 := mod_p b; unfold p at h1 h2 ⊢; omega)
  obtain ⟨r, hr⟩ : ∃ r, (a % p + b % p) % p = r := ⟨_, rfl⟩
  rw [hr] at cs ⊢
  have cb := fun W => bytesOf_any r W
  have hS0 := B3.start w (bvc a) (bvc b)
  obtain ⟨n, hn⟩ : ∃ n, w.heap.size = n := ⟨_, rfl⟩
  rw [hn] at hS0
  have HS0 : Hid (B3 w _ n (bvc a) (bvc b)) := hS0
  unfold bv
  have HIA := info22l a
  have HIB := info22l b
  have HJ : Hid ((Try.prog.info? 22).map (·.size) = some (bvc r).toArray.size) := info22s r
  have HO : Hid ((bvc r).toArray.all (·.oneCell') = true) := one32 r
  have HLR : Hid ((bvc r).toArray.size = 32) := by show _ = _; rw [List.size_toArray, bvc_len]
  have HEND : Hid (∀ (wr : World), Below n w wr → wr.there (n + 2) 0 32 → (loadVar 22 ⟨n + 2, 0, none⟩).run Try.prog (wr.setCells (n + 2) 0 (bvc r)) = .ok (.agg (bvc r).toArray) (wr.setCells (n + 2) 0 (bvc r)) ∧ Below n w (wr.setCells (n + 2) 0 (bvc r))) := fun wr h1 h2 => end32 h1 h2 (by omega)
  unfold bv at ca cc cb
  obtain ⟨A, hA⟩ : ∃ A, bvc a = A := ⟨_, rfl⟩
  obtain ⟨B, hB⟩ : ∃ A, bvc b = A := ⟨_, rfl⟩
  obtain ⟨R, hR⟩ : ∃ A, bvc r = A := ⟨_, rfl⟩
  rw [hA] at HS0 HIA ca
  rw [hB] at HS0 HIB cc
  rw [hR] at HJ HO HLR HEND cb
  rw [hA, hB, hR]
  clear hA hB hR hS0 hr ha hb
  obtain ⟨v1, hv1⟩ : ∃ v, nv a = v := ⟨_, rfl⟩
  obtain ⟨v2, hv2⟩ : ∃ v, nv b = v := ⟨_, rfl⟩
  obtain ⟨v3, hv3⟩ : ∃ v, nv (a % p) = v := ⟨_, rfl⟩
  obtain ⟨v4, hv4⟩ : ∃ v, nv (b % p) = v := ⟨_, rfl⟩
  obtain ⟨v5, hv5⟩ : ∃ v, nv r = v := ⟨_, rfl⟩
  rw [hv1] at ca cra
  rw [hv2] at cc crb
  rw [hv3] at cra cs
  rw [hv4] at crb cs
  rw [hv5] at cs cb
  clear hv1 hv2 hv3 hv4 hv5
  go_enter Try.func15, Try.ntmps15
  go_wp2
  obtain ⟨w2, hw2⟩ : ∃ v, ((w.alloc (.cells A.toArray 22)).alloc (.cells B.toArray 22)).alloc (.cells (Array.replicate 32 (.int .u8 0)) 22) = v := ⟨_, rfl⟩
  rw [hw2] at HS0
  have hw3 : ((w.alloc (.cells A.toArray 22)).alloc (.cells B.toArray 22)).alloc (.cells #[.int .u8 0, .int .u8 0, .int .u8 0, .int .u8 0, .int .u8 0, .int .u8 0, .int .u8 0, .int .u8 0, .int .u8 0, .int .u8 0, .int .u8 0, .int .u8 0, .int .u8 0, .int .u8 0, .int .u8 0, .int .u8 0, .int .u8 0, .int .u8 0, .int .u8 0, .int .u8 0, .int .u8 0, .int .u8 0, .int .u8 0, .int .u8 0, .int .u8 0, .int .u8 0, .int .u8 0, .int .u8 0, .int .u8 0, .int .u8 0, .int .u8 0, .int .u8 0] 22) = w2 := hw2
  rw [hw3]
  clear hw2 hw3
  have HQA : Hid (∀ w', (∃ x : Cl w2.heap.size w2, w' = x.u) → w'.rangeAt n 0 A) := fun _ ⟨x, hx⟩ => hx ▸ x.range HS0.out.ra (by have := HS0.out.l; omega)
  have HQB : Hid (∀ w', (∃ x : Cl w2.heap.size w2, w' = x.u) → w'.rangeAt (n + 1) 0 B) := fun _ ⟨x, hx⟩ => hx ▸ x.range HS0.out.rb (by have := HS0.out.l; omega)
  have hne := Cl.ne w2.heap.size w2
  apply region_cl_tail (N := w2.heap.size) (W := w2) 8 8 (by kernel_rfl) (Below.refl _ _)
  case hl => simp only [List.take_succ_cons, List.take_zero]; rfl
  case ht => simp only [List.drop_succ_cons, List.drop_zero]; rfl
  case hB => kernel_rfl
  case hT => kernel_rfl
  case h =>
    go_big_quiet_want
    refine quiet_load 22 _ rfl n 0 rfl A _ HQA.out Try.underlying22 rfl HIA ?_
    simp only [Act.put, List.setIfInBounds_toArray, List.set_cons_zero, List.set_cons_succ]
    go_big_quiet_on
    go_big_quiet_step ((go_at_call 61; exact cl_of (ca _) (Nat.le_refl _)))
    go_big_quiet_step ((go_at_call 60; exact cl_of (cra _) (Nat.le_refl _)))
    go_big_quiet_want
    refine quiet_load 22 _ rfl (n + 1) 0 rfl B _ HQB.out Try.underlying22 rfl HIB ?_
    simp only [Act.put, List.setIfInBounds_toArray, List.set_cons_zero, List.set_cons_succ]
    go_big_quiet_on
    go_big_quiet_step ((go_at_call 61; exact cl_of (cc _) (Nat.le_refl _)))
    go_big_quiet_step ((go_at_call 60; exact cl_of (crb _) (Nat.le_refl _)))
    go_big_quiet_step ((go_at_call 59; exact cl_of (cs _) (Nat.le_refl _)))
    go_big_quiet_step ((go_at_call 58; exact cl_of (cb _) (Nat.le_refl _)))
    refine wpQuiet_nil ?_
    rintro _ ⟨x, rfl⟩
    have HS5 : Hid (B3 w x.u n A B) := HS0.out.below x.h
    obtain ⟨w5, hw5⟩ : ∃ v, x.u = v := ⟨_, rfl⟩
    rw [hw5] at HS5 ⊢
    have HE5 := (show Hid (_ ∧ _) from HEND.out w5 HS5.out.b HS5.out.u)
    have HT5 : Hid (w5.there (n + 2) 0 R.toArray.size) := by show w5.there _ _ _; rw [HLR.out]; exact HS5.out.u
    clear hw5 x hne HQA HQB HS0 HEND HS5
    go_wp2_with (refine wpList_store_mid rfl 22 (.tmp 4) (.tmp 12) rfl (n + 2) 0 R.toArray rfl rfl HT5.out HJ.out HO.out ?_; simp only)
    rw [hn]
    exact bodyPost_ret (results_cell Try.results15 rfl HE5.out.1) rfl ⟨rfl, HE5.out.2⟩

set_option maxHeartbeats 4000000 in
set_option maxRecDepth 4000 in
theorem sub_any (a b : Nat) (w : World) (ha : a < 115792089237316195423570985008687907853269984665640564039457584007913129639936) (hb : b < 115792089237316195423570985008687907853269984665640564039457584007913129639936) :
    Calls Try.prog 18 #[bv a, bv b] w fun e w' => e = .returned (bv ((a % p + p - b % p) % p)) ∧ Below w.heap.size w w' := by
  have ca := fun W => wordsOf_any a W
  have cc := fun W => wordsOf_any b W
  have cra := fun W => reduced_any a W ha
  have crb := fun W => reduced_any b W hb
  have cs := fun W => difference_any (a % p) (b % p) W (mod_p a) (mod_p b)
  obtain ⟨r, hr⟩ : ∃ r, (a % p + p - b % p) % p = r := ⟨_, rfl⟩
  rw [hr] at cs ⊢
  have cb := fun W => bytesOf_any r W
  have hS0 := B3.start w (bvc a) (bvc b)
  obtain ⟨n, hn⟩ : ∃ n, w.heap.size = n := ⟨_, rfl⟩
  rw [hn] at hS0
  have HS0 : Hid (B3 w _ n (bvc a) (bvc b)) := hS0
  unfold bv
  have HIA := info22l a
  have HIB := info22l b
  have HJ : Hid ((Try.prog.info? 22).map (·.size) = some (bvc r).toArray.size) := info22s r
  have HO : Hid ((bvc r).toArray.all (·.oneCell') = true) := one32 r
  have HLR : Hid ((bvc r).toArray.size = 32) := by show _ = _; rw [List.size_toArray, bvc_len]
  have HEND : Hid (∀ (wr : World), Below n w wr → wr.there (n + 2) 0 32 → (loadVar 22 ⟨n + 2, 0, none⟩).run Try.prog (wr.setCells (n + 2) 0 (bvc r)) = .ok (.agg (bvc r).toArray) (wr.setCells (n + 2) 0 (bvc r)) ∧ Below n w (wr.setCells (n + 2) 0 (bvc r))) := fun wr h1 h2 => end32 h1 h2 (by omega)
  unfold bv at ca cc cb
  obtain ⟨A, hA⟩ : ∃ A, bvc a = A := ⟨_, rfl⟩
  obtain ⟨B, hB⟩ : ∃ A, bvc b = A := ⟨_, rfl⟩
  obtain ⟨R, hR⟩ : ∃ A, bvc r = A := ⟨_, rfl⟩
  rw [hA] at HS0 HIA ca
  rw [hB] at HS0 HIB cc
  rw [hR] at HJ HO HLR HEND cb
  rw [hA, hB, hR]
  clear hA hB hR hS0 hr ha hb
  obtain ⟨v1, hv1⟩ : ∃ v, nv a = v := ⟨_, rfl⟩
  obtain ⟨v2, hv2⟩ : ∃ v, nv b = v := ⟨_, rfl⟩
  obtain ⟨v3, hv3⟩ : ∃ v, nv (a % p) = v := ⟨_, rfl⟩
  obtain ⟨v4, hv4⟩ : ∃ v, nv (b % p) = v := ⟨_, rfl⟩
  obtain ⟨v5, hv5⟩ : ∃ v, nv r = v := ⟨_, rfl⟩
  rw [hv1] at ca cra
  rw [hv2] at cc crb
  rw [hv3] at cra cs
  rw [hv4] at crb cs
  rw [hv5] at cs cb
  clear hv1 hv2 hv3 hv4 hv5
  go_enter Try.func18, Try.ntmps18
  go_wp2
  obtain ⟨w2, hw2⟩ : ∃ v, ((w.alloc (.cells A.toArray 22)).alloc (.cells B.toArray 22)).alloc (.cells (Array.replicate 32 (.int .u8 0)) 22) = v := ⟨_, rfl⟩
  rw [hw2] at HS0
  have hw3 : ((w.alloc (.cells A.toArray 22)).alloc (.cells B.toArray 22)).alloc (.cells #[.int .u8 0, .int .u8 0, .int .u8 0, .int .u8 0, .int .u8 0, .int .u8 0, .int .u8 0, .int .u8 0, .int .u8 0, .int .u8 0, .int .u8 0, .int .u8 0, .int .u8 0, .int .u8 0, .int .u8 0, .int .u8 0, .int .u8 0, .int .u8 0, .int .u8 0, .int .u8 0, .int .u8 0, .int .u8 0, .int .u8 0, .int .u8 0, .int .u8 0, .int .u8 0, .int .u8 0, .int .u8 0, .int .u8 0, .int .u8 0, .int .u8 0, .int .u8 0] 22) = w2 := hw2
  rw [hw3]
  clear hw2 hw3
  have HQA : Hid (∀ w', (∃ x : Cl w2.heap.size w2, w' = x.u) → w'.rangeAt n 0 A) := fun _ ⟨x, hx⟩ => hx ▸ x.range HS0.out.ra (by have := HS0.out.l; omega)
  have HQB : Hid (∀ w', (∃ x : Cl w2.heap.size w2, w' = x.u) → w'.rangeAt (n + 1) 0 B) := fun _ ⟨x, hx⟩ => hx ▸ x.range HS0.out.rb (by have := HS0.out.l; omega)
  have hne := Cl.ne w2.heap.size w2
  apply region_cl_tail (N := w2.heap.size) (W := w2) 8 8 (by kernel_rfl) (Below.refl _ _)
  case hl => simp only [List.take_succ_cons, List.take_zero]; rfl
  case ht => simp only [List.drop_succ_cons, List.drop_zero]; rfl
  case hB => kernel_rfl
  case hT => kernel_rfl
  case h =>
    go_big_quiet_want
    refine quiet_load 22 _ rfl n 0 rfl A _ HQA.out Try.underlying22 rfl HIA ?_
    simp only [Act.put, List.setIfInBounds_toArray, List.set_cons_zero, List.set_cons_succ]
    go_big_quiet_on
    go_big_quiet_step ((go_at_call 61; exact cl_of (ca _) (Nat.le_refl _)))
    go_big_quiet_step ((go_at_call 60; exact cl_of (cra _) (Nat.le_refl _)))
    go_big_quiet_want
    refine quiet_load 22 _ rfl (n + 1) 0 rfl B _ HQB.out Try.underlying22 rfl HIB ?_
    simp only [Act.put, List.setIfInBounds_toArray, List.set_cons_zero, List.set_cons_succ]
    go_big_quiet_on
    go_big_quiet_step ((go_at_call 61; exact cl_of (cc _) (Nat.le_refl _)))
    go_big_quiet_step ((go_at_call 60; exact cl_of (crb _) (Nat.le_refl _)))
    go_big_quiet_step ((go_at_call 64; exact cl_of (cs _) (Nat.le_refl _)))
    go_big_quiet_step ((go_at_call 58; exact cl_of (cb _) (Nat.le_refl _)))
    refine wpQuiet_nil ?_
    rintro _ ⟨x, rfl⟩
    have HS5 : Hid (B3 w x.u n A B) := HS0.out.below x.h
    obtain ⟨w5, hw5⟩ : ∃ v, x.u = v := ⟨_, rfl⟩
    rw [hw5] at HS5 ⊢
    have HE5 := (show Hid (_ ∧ _) from HEND.out w5 HS5.out.b HS5.out.u)
    have HT5 : Hid (w5.there (n + 2) 0 R.toArray.size) := by show w5.there _ _ _; rw [HLR.out]; exact HS5.out.u
    clear hw5 x hne HQA HQB HS0 HEND HS5
    go_wp2_with (refine wpList_store_mid rfl 22 (.tmp 4) (.tmp 12) rfl (n + 2) 0 R.toArray rfl rfl HT5.out HJ.out HO.out ?_; simp only)
    rw [hn]
    exact bodyPost_ret (results_cell Try.results18 rfl HE5.out.1) rfl ⟨rfl, HE5.out.2⟩

set_option maxHeartbeats 4000000 in
set_option maxRecDepth 4000 in
theorem mul_any (a b : Nat) (w : World) (ha : a < 115792089237316195423570985008687907853269984665640564039457584007913129639936) (hb : b < 115792089237316195423570985008687907853269984665640564039457584007913129639936) :
    Calls Try.prog 20 #[bv a, bv b] w fun e w' => e = .returned (bv (a * b % p)) ∧ Below w.heap.size w w' := by
  have ca := fun W => wordsOf_any a W
  have cc := fun W => wordsOf_any b W
  have cs := fun W => product_any a b W ha hb
  obtain ⟨r, hr⟩ : ∃ r, a * b % p = r := ⟨_, rfl⟩
  rw [hr] at cs ⊢
  have cb := fun W => bytesOf_any r W
  have hS0 := B3.start w (bvc a) (bvc b)
  obtain ⟨n, hn⟩ : ∃ n, w.heap.size = n := ⟨_, rfl⟩
  rw [hn] at hS0
  have HS0 : Hid (B3 w _ n (bvc a) (bvc b)) := hS0
  unfold bv
  have HIA := info22l a
  have HIB := info22l b
  have HJ : Hid ((Try.prog.info? 22).map (·.size) = some (bvc r).toArray.size) := info22s r
  have HO : Hid ((bvc r).toArray.all (·.oneCell') = true) := one32 r
  have HLR : Hid ((bvc r).toArray.size = 32) := by show _ = _; rw [List.size_toArray, bvc_len]
  have HEND : Hid (∀ (wr : World), Below n w wr → wr.there (n + 2) 0 32 → (loadVar 22 ⟨n + 2, 0, none⟩).run Try.prog (wr.setCells (n + 2) 0 (bvc r)) = .ok (.agg (bvc r).toArray) (wr.setCells (n + 2) 0 (bvc r)) ∧ Below n w (wr.setCells (n + 2) 0 (bvc r))) := fun wr h1 h2 => end32 h1 h2 (by omega)
  unfold bv at ca cc cb
  obtain ⟨A, hA⟩ : ∃ A, bvc a = A := ⟨_, rfl⟩
  obtain ⟨B, hB⟩ : ∃ A, bvc b = A := ⟨_, rfl⟩
  obtain ⟨R, hR⟩ : ∃ A, bvc r = A := ⟨_, rfl⟩
  rw [hA] at HS0 HIA ca
  rw [hB] at HS0 HIB cc
  rw [hR] at HJ HO HLR HEND cb
  rw [hA, hB, hR]
  clear hA hB hR hS0 hr ha hb
  obtain ⟨v1, hv1⟩ : ∃ v, nv a = v := ⟨_, rfl⟩
  obtain ⟨v2, hv2⟩ : ∃ v, nv b = v := ⟨_, rfl⟩
  obtain ⟨v5, hv5⟩ : ∃ v, nv r = v := ⟨_, rfl⟩
  rw [hv1] at ca cs
  rw [hv2] at cc cs
  rw [hv5] at cs cb
  clear hv1 hv2 hv5
  go_enter Try.func20, Try.ntmps20
  go_wp2
  obtain ⟨w2, hw2⟩ : ∃ v, ((w.alloc (.cells A.toArray 22)).alloc (.cells B.toArray 22)).alloc (.cells (Array.replicate 32 (.int .u8 0)) 22) = v := ⟨_, rfl⟩
  rw [hw2] at HS0
  have hw3 : ((w.alloc (.cells A.toArray 22)).alloc (.cells B.toArray 22)).alloc (.cells #[.int .u8 0, .int .u8 0, .int .u8 0, .int .u8 0, .int .u8 0, .int .u8 0, .int .u8 0, .int .u8 0, .int .u8 0, .int .u8 0, .int .u8 0, .int .u8 0, .int .u8 0, .int .u8 0, .int .u8 0, .int .u8 0, .int .u8 0, .int .u8 0, .int .u8 0, .int .u8 0, .int .u8 0, .int .u8 0, .int .u8 0, .int .u8 0, .int .u8 0, .int .u8 0, .int .u8 0, .int .u8 0, .int .u8 0, .int .u8 0, .int .u8 0, .int .u8 0] 22) = w2 := hw2
  rw [hw3]
  clear hw2 hw3
  have HQA : Hid (∀ w', (∃ x : Cl w2.heap.size w2, w' = x.u) → w'.rangeAt n 0 A) := fun _ ⟨x, hx⟩ => hx ▸ x.range HS0.out.ra (by have := HS0.out.l; omega)
  have HQB : Hid (∀ w', (∃ x : Cl w2.heap.size w2, w' = x.u) → w'.rangeAt (n + 1) 0 B) := fun _ ⟨x, hx⟩ => hx ▸ x.range HS0.out.rb (by have := HS0.out.l; omega)
  have hne := Cl.ne w2.heap.size w2
  apply region_cl_tail (N := w2.heap.size) (W := w2) 6 8 (by kernel_rfl) (Below.refl _ _)
  case hl => simp only [List.take_succ_cons, List.take_zero]; rfl
  case ht => simp only [List.drop_succ_cons, List.drop_zero]; rfl
  case hB => kernel_rfl
  case hT => kernel_rfl
  case h =>
    go_big_quiet_want
    refine quiet_load 22 _ rfl n 0 rfl A _ HQA.out Try.underlying22 rfl HIA ?_
    simp only [Act.put, List.setIfInBounds_toArray, List.set_cons_zero, List.set_cons_succ]
    go_big_quiet_on
    go_big_quiet_step ((go_at_call 61; exact cl_of (ca _) (Nat.le_refl _)))
    go_big_quiet_want
    refine quiet_load 22 _ rfl (n + 1) 0 rfl B _ HQB.out Try.underlying22 rfl HIB ?_
    simp only [Act.put, List.setIfInBounds_toArray, List.set_cons_zero, List.set_cons_succ]
    go_big_quiet_on
    go_big_quiet_step ((go_at_call 61; exact cl_of (cc _) (Nat.le_refl _)))
    go_big_quiet_step ((go_at_call 65; exact cl_of (cs _) (Nat.le_refl _)))
    go_big_quiet_step ((go_at_call 58; exact cl_of (cb _) (Nat.le_refl _)))
    refine wpQuiet_nil ?_
    rintro _ ⟨x, rfl⟩
    have HS5 : Hid (B3 w x.u n A B) := HS0.out.below x.h
    obtain ⟨w5, hw5⟩ : ∃ v, x.u = v := ⟨_, rfl⟩
    rw [hw5] at HS5 ⊢
    have HE5 := (show Hid (_ ∧ _) from HEND.out w5 HS5.out.b HS5.out.u)
    have HT5 : Hid (w5.there (n + 2) 0 R.toArray.size) := by show w5.there _ _ _; rw [HLR.out]; exact HS5.out.u
    clear hw5 x hne HQA HQB HS0 HEND HS5
    go_wp2_with (refine wpList_store_mid rfl 22 (.tmp 4) (.tmp 10) rfl (n + 2) 0 R.toArray rfl rfl HT5.out HJ.out HO.out ?_; simp only)
    rw [hn]
    exact bodyPost_ret (results_cell Try.results20 rfl HE5.out.1) rfl ⟨rfl, HE5.out.2⟩
end Fd
end Go.Proofs.Ytgdekigdbbldoaa
