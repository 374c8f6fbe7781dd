/- What Inv does: a contract, by walking its text. -/
import Derived.Test.YtgdekigdbbldoaaFs
namespace Go.Proofs.Ytgdekigdbbldoaa
open Go.RowKit
namespace Fd
open Rg

theorem bv_0 : bv 0 = .agg #[.int .u8 0, .int .u8 0, .int .u8 0, .int .u8 0, .int .u8 0, .int .u8 0, .int .u8 0, .int .u8 0, .int .u8 0, .int .u8 0, .int .u8 0, .int .u8 0, .int .u8 0, .int .u8 0, .int .u8 0, .int .u8 0, .int .u8 0, .int .u8 0, .int .u8 0, .int .u8 0, .int .u8 0, .int .u8 0, .int .u8 0, .int .u8 0, .int .u8 0, .int .u8 0, .int .u8 0, .int .u8 0, .int .u8 0, .int .u8 0, .int .u8 0, .int .u8 0] := by
  kernel_rfl
theorem res_ct22 {fn : Func} {tmps : Array Value} {w : World} {p u : Tmp} {b : Addr} {v x : Value} (hf : fn.results = #[.cell p 22, .tmp u]) (hp : tmps.getD p undef = .pointer (some b)) (hl : (loadVar 22 b).run Try.prog w = .ok v w) (hu : tmps.getD u undef = x) : (results fn tmps).run Try.prog w = .ok (.tuple #[v, x]) w := res_ct hf hp hl hu

set_option maxHeartbeats 4000000 in
set_option maxRecDepth 4000 in
theorem inv_zero (a : Nat) (w : World) (ha : a < 115792089237316195423570985008687907853269984665640564039457584007913129639936) (hz : a % p = 0) :
    Calls Try.prog 23 #[bv a] w fun e w' => e = .returned (.tuple #[bv 0, .iface 35 (.int .i64 28)]) ∧ Below w.heap.size w w' := by
  have ca := fun W => wordsOf_any a W
  have cs := fun W => reduced_any a W ha
  rw [hz, nv_0] at cs
  have hS0 := B1.start w (bvc a)
  obtain ⟨n, hn⟩ : ∃ n, w.heap.size = n := ⟨_, rfl⟩
  rw [hn] at hS0
  have HS0 : Hid (B1 w _ n (bvc a)) := hS0
  have HEND : Hid (∀ (wr : World), Below n w wr → wr.there (n + 1) 0 32 → (loadVar 22 ⟨n + 1, 0, none⟩).run Try.prog (wr.setCells (n + 1) 0 (bvc 0)) = .ok (.agg (bvc 0).toArray) (wr.setCells (n + 1) 0 (bvc 0)) ∧ Below n w (wr.setCells (n + 1) 0 (bvc 0))) := fun wr h1 h2 => end32 h1 h2 (by omega)
  have HJ : Hid ((Try.prog.info? 22).map (·.size) = some (bvc 0).toArray.size) := info22s 0
  have HO : Hid ((bvc 0).toArray.all (·.oneCell') = true) := one32 0
  have HLR : Hid ((bvc 0).toArray.size = 32) := by show _ = _; rw [List.size_toArray, bvc_len]
  have HB0 : Hid (Value.agg (bvc 0).toArray = .agg #[.int .u8 0, .int .u8 0, .int .u8 0, .int .u8 0, .int .u8 0, .int .u8 0, .int .u8 0, .int .u8 0, .int .u8 0, .int .u8 0, .int .u8 0, .int .u8 0, .int .u8 0, .int .u8 0, .int .u8 0, .int .u8 0, .int .u8 0, .int .u8 0, .int .u8 0, .int .u8 0, .int .u8 0, .int .u8 0, .int .u8 0, .int .u8 0, .int .u8 0, .int .u8 0, .int .u8 0, .int .u8 0, .int .u8 0, .int .u8 0, .int .u8 0, .int .u8 0]) := bv_0
  have e48 := eq48 0 0 0 0 0 0 0 0
  simp only [and_self, decide_true] at e48
  unfold bv
  have HIA := info22l a
  unfold bv at ca
  obtain ⟨A, hA⟩ : ∃ A, bvc a = A := ⟨_, rfl⟩
  obtain ⟨R, hR⟩ : ∃ A, bvc 0 = A := ⟨_, rfl⟩
  rw [hA] at HS0 HIA ca
  rw [hR] at HEND HJ HO HLR HB0
  rw [hA, hR]
  obtain ⟨v1, hv1⟩ : ∃ v, nv a = v := ⟨_, rfl⟩
  rw [hv1] at ca cs
  clear hv1 hA hS0 ha hz hR
  unfold w4 at cs
  go_enter Try.func23, Try.ntmps23
  go_wp2_with (first
    | (refine wpList_load_mid rfl 22 (.tmp 1) rfl n 0 rfl A _ HS0.out.ra Try.underlying22 rfl HIA ?_)
    | (go_at_call 61; refine (ca _).mono ?_; rintro e w1 ⟨rfl, hb1⟩; have HS1 := (show Hid (B1 w w1 n A) from HS0.out.below hb1); clear hb1 ca HS0)
    | (go_at_call 60; refine (cs _).mono ?_; rintro e w2 ⟨rfl, hb2⟩; have HS2 := (show Hid (B1 w (w2.alloc (.cells #[.int .u64 0, .int .u64 0, .int .u64 0, .int .u64 0] 74)) n A) from (HS1.out.below hb2).below ((Below.refl _ _).alloc (Nat.le_refl _) _)); have HT5 := (show Hid ((w2.alloc (.cells #[.int .u64 0, .int .u64 0, .int .u64 0, .int .u64 0] 74)).there (n + 1) 0 R.toArray.size) from (by show World.there _ _ _ _; rw [HLR.out]; exact HS2.out.u)); clear hb2 cs HS1)
    | (refine wpList_store_mid rfl 22 (.tmp 2) (.tmp 11) rfl (n + 1) 0 R.toArray rfl HB0.out.symm HT5.out HJ.out HO.out ?_; simp only))
  rw [hn]
  have HE5 := HEND.out _ HS2.out.b HS2.out.u
  exact bodyPost_ret (res_ct22 Try.results23 rfl HE5.1 rfl) rfl ⟨rfl, HE5.2⟩
set_option maxHeartbeats 4000000 in
set_option maxRecDepth 4000 in
theorem inv_some (a : Nat) (w : World) (ha : a < 115792089237316195423570985008687907853269984665640564039457584007913129639936) (hz : ¬ a % p = 0) :
    Calls Try.prog 23 #[bv a] w fun e w' => e = .returned (.tuple #[bv ((a % p) ^ inverseExponent % p), .nilIface]) ∧ Below w.heap.size w w' := by
  have ca := fun W => wordsOf_any a W
  have cs := fun W => reduced_any a W ha
  have ci := fun W => inverseExponent_any W
  have cp := fun W => power_any (a % p) inverseExponent W (mod_256 a) (by decide)
  obtain ⟨r, hr⟩ : ∃ r, (a % p) ^ inverseExponent % p = r := ⟨_, rfl⟩
  rw [hr] at cp ⊢
  have cb := fun W => bytesOf_any r W
  have hne0 := same_words (a % p) 0 (mod_256 a) (by decide)
  have e48 := fun W => eq48 (l0 (a % p)) (l1 (a % p)) (l2 (a % p)) (l3 (a % p)) (l0 0) (l1 0) (l2 0) (l3 0) W
  rw [decide_eq_false (fun h => hz (hne0.1 h))] at e48
  have z0 : ((l0 0 : Nat) : Int) = 0 ∧ ((l1 0 : Nat) : Int) = 0 ∧ ((l2 0 : Nat) : Int) = 0 ∧ ((l3 0 : Nat) : Int) = 0 := ⟨rfl, rfl, rfl, rfl⟩
  rw [z0.1, z0.2.1, z0.2.2.1, z0.2.2.2] at e48
  rw [nv_w4 (a % p)] at cs cp
  obtain ⟨x0, hx0⟩ : ∃ x, l0 (a % p) = x := ⟨_, rfl⟩
  obtain ⟨x1, hx1⟩ : ∃ x, l1 (a % p) = x := ⟨_, rfl⟩
  obtain ⟨x2, hx2⟩ : ∃ x, l2 (a % p) = x := ⟨_, rfl⟩
  obtain ⟨x3, hx3⟩ : ∃ x, l3 (a % p) = x := ⟨_, rfl⟩
  rw [hx0, hx1, hx2, hx3] at cs cp e48
  have hS0 := B1.start w (bvc a)
  obtain ⟨n, hn⟩ : ∃ n, w.heap.size = n := ⟨_, rfl⟩
  rw [hn] at hS0
  have HS0 : Hid (B1 w _ n (bvc a)) := hS0
  have HEND : Hid (∀ (wr : World), Below n w wr → wr.there (n + 1) 0 32 → (loadVar 22 ⟨n + 1, 0, none⟩).run Try.prog (wr.setCells (n + 1) 0 (bvc r)) = .ok (.agg (bvc r).toArray) (wr.setCells (n + 1) 0 (bvc r)) ∧ Below n w (wr.setCells (n + 1) 0 (bvc r))) := fun wr h1 h2 => end32 h1 h2 (by omega)
  have HJ : Hid ((Try.prog.info? 22).map (·.size) = some (bvc r).toArray.size) := info22s r
  have HO : Hid ((bvc r).toArray.all (·.oneCell') = true) := one32 r
  have HLR : Hid ((bvc r).toArray.size = 32) := by show _ = _; rw [List.size_toArray, bvc_len]
  unfold bv
  have HIA := info22l a
  unfold bv at ca cb
  obtain ⟨A, hA⟩ : ∃ A, bvc a = A := ⟨_, rfl⟩
  obtain ⟨R, hR⟩ : ∃ A, bvc r = A := ⟨_, rfl⟩
  rw [hA] at HS0 HIA ca
  rw [hR] at HEND HJ HO HLR cb
  rw [hA, hR]
  obtain ⟨v1, hv1⟩ : ∃ v, nv a = v := ⟨_, rfl⟩
  obtain ⟨v2, hv2⟩ : ∃ v, nv inverseExponent = v := ⟨_, rfl⟩
  obtain ⟨v3, hv3⟩ : ∃ v, nv r = v := ⟨_, rfl⟩
  rw [hv1] at ca cs
  rw [hv2] at ci cp
  rw [hv3] at cp cb
  clear hv1 hv2 hv3 hA hS0 ha hz hR hne0 z0 hx0 hx1 hx2 hx3 hr
  unfold w4 at cs cp
  go_enter Try.func23, Try.ntmps23
  go_wp2_with (first
    | (refine wpList_load_mid rfl 22 (.tmp 1) rfl n 0 rfl A _ HS0.out.ra Try.underlying22 rfl HIA ?_)
    | (go_at_call 61; refine (ca _).mono ?_; rintro e w1 ⟨rfl, hb1⟩; have HS1 := (show Hid (B1 w w1 n A) from HS0.out.below hb1); clear hb1 ca HS0)
    | (go_at_call 60; refine (cs _).mono ?_; rintro e w2 ⟨rfl, hb2⟩; have HS2 := (show Hid (B1 w (w2.alloc (.cells (w4 x0 x1 x2 x3).toArray 74)) n A) from (HS1.out.below hb2).below ((Below.refl _ _).alloc (Nat.le_refl _) _)); clear hb2 cs HS1))
  have HR2 : Hid ((w2.alloc (.cells (w4 x0 x1 x2 x3).toArray 74)).rangeAt w2.heap.size 0 (w4 x0 x1 x2 x3)) := range_new _ _ _
  have HK : Hid (w2.heap.size < (w2.alloc (.cells (w4 x0 x1 x2 x3).toArray 74)).heap.size) := by show _ < _; rw [size_alloc]; omega
  obtain ⟨k, hk⟩ : ∃ k, w2.heap.size = k := ⟨_, rfl⟩
  obtain ⟨w3, hw3⟩ : ∃ v, w2.alloc (.cells (w4 x0 x1 x2 x3).toArray 74) = v := ⟨_, rfl⟩
  rw [hk, hw3] at HR2 HK
  rw [hw3] at HS2
  unfold w4 at hw3
  rw [hk, hw3]
  clear hk hw3
  have HQL : Hid (∀ w', (∃ x : Cl w3.heap.size w3, w' = x.u) → w'.rangeAt k 0 (w4 x0 x1 x2 x3)) := fun _ ⟨x, hx⟩ => hx ▸ x.range HR2.out HK.out
  have hne := Cl.ne w3.heap.size w3
  apply region_cl_tail (N := w3.heap.size) (W := w3) 4 8 (by kernel_rfl) (Below.refl _ _)
  case hl => simp only [List.take_succ_cons, List.take_zero]; rfl
  case ht => simp only [List.drop_succ_cons, List.drop_zero]; rfl
  case hB => kernel_rfl
  case hT => kernel_rfl
  case h =>
    go_big_quiet_want
    refine quiet_load 74 _ rfl k 0 rfl (w4 x0 x1 x2 x3) _ HQL.out Try.underlying74 rfl info4 ?_
    simp only [w4, Act.put, List.setIfInBounds_toArray, List.set_cons_zero, List.set_cons_succ]
    go_big_quiet_on
    go_big_quiet_step ((go_at_call 67; exact cl_of (ci _) (Nat.le_refl _)))
    go_big_quiet_step ((go_at_call 66; exact cl_of (cp _) (Nat.le_refl _)))
    go_big_quiet_step ((go_at_call 58; exact cl_of (cb _) (Nat.le_refl _)))
    refine wpQuiet_nil ?_
    rintro _ ⟨x, rfl⟩
    have HS5 : Hid (B1 w x.u n A) := HS2.out.below x.h
    obtain ⟨w5, hw5⟩ : ∃ v, x.u = v := ⟨_, rfl⟩
    rw [hw5] at HS5 ⊢
    have HE5 := (show Hid (_ ∧ _) from HEND.out w5 HS5.out.b HS5.out.u)
    have HT5 : Hid (w5.there (n + 1) 0 R.toArray.size) := by show w5.there _ _ _; rw [HLR.out]; exact HS5.out.u
    clear hw5 x hne HQL HR2 HK HS2 HEND HS5 e48
    go_wp2_with (refine wpList_store_mid rfl 22 (.tmp 2) (.tmp 16) rfl (n + 1) 0 R.toArray rfl rfl HT5.out HJ.out HO.out ?_; simp only)
    rw [hn]
    exact bodyPost_ret (res_ct22 Try.results23 rfl HE5.out.1 rfl) rfl ⟨rfl, HE5.out.2⟩
end Fd
end Go.Proofs.Ytgdekigdbbldoaa
