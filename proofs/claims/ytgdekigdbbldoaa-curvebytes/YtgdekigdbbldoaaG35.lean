/- What Encode does: a contract, by walking its text. The reference's Order; the statements' small: contracts, by walking their texts. -/
import Derived.Test.YtgdekigdbbldoaaG30
import Derived.Test.YtgdekigdbbldoaaG34
import Derived.Test.YtgdekigdbbldoaaG28
namespace Go.Proofs.Ytgdekigdbbldoaa
open Go.RowKit
namespace Fd
open Rg

/-- A point's bytes. -/
def encp (x y : Nat) : Nat := redp y + 57896044618658097711785492504343953926634992332820282019728792003956564819968 * (redp x % 2)
theorem redp_255 (y : Nat) : redp y < 57896044618658097711785492504343953926634992332820282019728792003956564819968 := Nat.lt_trans (Nat.mod_lt _ (by decide)) (by decide : p < _)
theorem by_enc (r m j : Nat) (hr : r < 57896044618658097711785492504343953926634992332820282019728792003956564819968) (hm : m < 2) (hj : j < 32) : upd (by_ r) 31 (by_ r 31 + 128 * m) j = by_ (r + 57896044618658097711785492504343953926634992332820282019728792003956564819968 * m) j := by
  unfold upd
  by_cases h : j = 31
  · subst h
    rw [if_pos rfl]
    have e : ∀ x, by_ x 31 = x / 452312848583266388373324160190187140051835877600158453279131187530910662656 % 256 := fun _ => rfl
    rw [e, e]
    omega
  · rw [if_neg h]
    unfold by_
    have e : 57896044618658097711785492504343953926634992332820282019728792003956564819968 * m = (2 ^ (247 - 8 * j) * m * 256) * 2 ^ (8 * j) := by
      have e3 : (57896044618658097711785492504343953926634992332820282019728792003956564819968 : Nat) = 2 ^ (247 - 8 * j) * 2 ^ 8 * 2 ^ (8 * j) := by
        rw [← Nat.pow_add, ← Nat.pow_add, show 247 - 8 * j + 8 + 8 * j = 255 by omega]
      rw [e3, show (2 : Nat) ^ 8 = 256 from rfl]
      ac_rfl
    rw [e, Nat.add_mul_div_right _ _ (Nat.two_pow_pos _), Nat.add_mul_mod_self_right]
theorem Cs.range {N : Nat} {w wr : World} {g : Nat} {M : Nat → Nat} (h : Cs .u8 32 N w wr g M) (x : Nat) (hM : ∀ j, j < 32 → M j = by_ x j) : wr.rangeAt g 0 (bvc x) := fun j v hv => by
  rw [Nat.zero_add]
  have hj : j < 32 := by
    have := (List.getElem?_eq_some_iff.1 hv).1
    rwa [bvc_len] at this
  rw [bvc_at x j hj] at hv
  rw [h.c j hj, ← hv, hM j hj]
/-- A box of a point, whole, and the answer's, 32 bytes. -/
theorem startp22 (w : World) (V : List Value) :
    let e := (w.alloc (.cells V.toArray 43)).alloc (.cells z22 22)
    Rp e w.heap.size 0 V ∧ Ao w.heap.size e (w.heap.size + 1) 32 ∧ Below w.heap.size w e := by
  intro e
  have ht := there22 (w.alloc (.cells V.toArray 43))
  rw [size_alloc] at ht
  refine ⟨Rp.below ⟨Rg.range_new w V 43, by rw [size_alloc]; omega⟩ ((Below.refl _ _).alloc (Nat.le_refl _) _), ⟨by omega, ?_, ht⟩, ((Below.refl _ _).alloc (Nat.le_refl _) _).alloc (by simp) _⟩
  show _ < (World.alloc _ _).heap.size
  rw [size_alloc, size_alloc]
  omega
/-- A box of 32 bytes that is written anew. -/
theorem cs_new (w W : World) (x : Nat) (hb : Below w.heap.size w W) : Cs .u8 32 w.heap.size w ((W.alloc (.cells z22 22)).setCells W.heap.size 0 (bvc x)) W.heap.size (by_ x) := by
  have h := box_new W (bvc x) (bvc_len x)
  refine ⟨hb.trans (h.2.mono hb.size), fun j hj => ?_, World.there_setCells (there22 W) _ _ _, hb.size, h.1.2⟩
  have h2 := h.1.1 j _ (bvc_at x j hj)
  rwa [Nat.zero_add] at h2

set_option maxHeartbeats 400000 in
set_option maxRecDepth 4000 in
theorem encode_no (x y : Nat) (w : World) (hx : x < 115792089237316195423570985008687907853269984665640564039457584007913129639936) (hy : y < 115792089237316195423570985008687907853269984665640564039457584007913129639936) (hon : ¬ OnC x y) :
    Calls Try.prog 45 #[pv x y] w fun e w' => e = .returned (.tuple #[bv 0, .iface 35 (.int .i64 29)]) ∧ Below w.heap.size w w' := by
  have ci := fun W => is_any x y W hx hy
  rw [decide_eq_false hon] at ci
  unfold pv at ci ⊢
  unfold bv
  have LV : Hid (L64 (bvc x ++ bvc y)) := l64 x y
  have LE : Hid (L32 (bvc 0)) := l32 0
  have HBN : Hid (Try.prog.built 22 [] = some (bvc 0).toArray) := build22_none
  obtain ⟨V, hV⟩ : ∃ V, bvc x ++ bvc y = V := ⟨_, rfl⟩
  obtain ⟨E, hE⟩ : ∃ V, bvc 0 = V := ⟨_, rfl⟩
  rw [hV] at LV ci ⊢
  rw [hE] at LE HBN ⊢
  clear hV hE hx hy hon x y
  have HS := (show Hid _ from startp22 w V)
  have hz2 := zero22
  obtain ⟨Z2, hZ2⟩ : ∃ Z, z22 = Z := ⟨_, rfl⟩
  rw [hZ2] at hz2 HS
  clear hZ2
  obtain ⟨n, hn⟩ : ∃ n, w.heap.size = n := ⟨_, rfl⟩
  have HN : Hid (w.heap.size = n) := hn
  have HS1 : Hid (Rp ((w.alloc (.cells V.toArray 43)).alloc (.cells Z2 22)) n 0 V ∧ Ao w.heap.size ((w.alloc (.cells V.toArray 43)).alloc (.cells Z2 22)) (n + 1) 32 ∧ Below w.heap.size w ((w.alloc (.cells V.toArray 43)).alloc (.cells Z2 22))) := by
    have h := HS.out
    rw [HN.out] at h
    show _ ∧ _
    rw [HN.out]
    exact h
  clear HS
  go_enter Try.func45, Try.ntmps45
  go_wp2_with (first
    | (refine wpList_load_mid rfl 43 (.tmp 1) rfl n 0 rfl V _ HS1.out.1.1 Try.underlying43 rfl LV.out.i ?_)
    | (go_at_call 29; refine (ci _).mono ?_; rintro e w1 ⟨rfl, hb1⟩; have HA1 := (show Hid (Ao w.heap.size w1 (n + 1) 32) from HS1.out.2.1.below hb1); have HB1 := (show Hid (Below w.heap.size w w1) from HS1.out.2.2.trans (hb1.mono HS1.out.2.2.size)); have HT1 := (show Hid _ from LE.out.s HA1.out); clear hb1 ci HS1)
    | (refine build_to rfl 22 _ rfl (some 8) rfl [] (by kernel_rfl) E HBN.out ?_; simp only [Act.put, List.setIfInBounds_toArray, List.set_cons_zero, List.set_cons_succ])
    | (refine wpList_store_mid rfl 22 (.tmp 2) (.tmp 8) rfl (n + 1) 0 E.toArray rfl rfl HT1.out LE.out.j LE.out.o ?_; simp only))
  exact bodyPost_ret (res_ct Try.results45 rfl (end22 LE.out HA1.out) rfl) rfl ⟨rfl, below_setCells HB1.out HA1.out.1⟩

set_option maxHeartbeats 1000000 in
set_option maxRecDepth 4000 in
theorem encode_ok (x y : Nat) (w : World) (hx : x < 115792089237316195423570985008687907853269984665640564039457584007913129639936) (hy : y < 115792089237316195423570985008687907853269984665640564039457584007913129639936) (hon : OnC x y) :
    Calls Try.prog 45 #[pv x y] w fun e w' => e = .returned (.tuple #[bv (encp x y), .nilIface]) ∧ Below w.heap.size w w' := by
  have ci := fun W => is_any x y W hx hy
  have cy := fun W => reduce_any y W hy
  have cx := fun W => reduce_any x W hx
  rw [decide_eq_true hon] at ci
  have hb0 : by_ (x % p) 0 < 256 := Nat.mod_lt _ (by decide)
  have hp0 : by_ (x % p) 0 % 2 = redp x % 2 := by
    have e : by_ (x % p) 0 = x % p / 1 % 256 := rfl
    rw [e, Nat.div_one]
    unfold redp
    omega
  have hm2 : redp x % 2 < 2 := Nat.mod_lt _ (by decide)
  have hb31 : by_ (y % p) 31 < 128 := by
    have e : by_ (y % p) 31 = y % p / 452312848583266388373324160190187140051835877600158453279131187530910662656 % 256 := rfl
    have h := redp_255 y
    unfold redp at h
    rw [e]
    omega
  have HEN : Hid (∀ j, j < 32 → upd (by_ (y % p)) 31 (by_ (y % p) 31 + 128 * (redp x % 2)) j = by_ (encp x y) j) := fun j hj => by_enc (y % p) (redp x % 2) j (redp_255 y) hm2 hj
  have hix : ∀ W : World, (Instr.index 22 (.agg (bvc (x % p)).toArray) (.int .i64 0)).run Try.prog W = .ok (.int .u8 ((by_ (x % p) 0 : Nat) : Int)) W := fun W => index22 _ 0 _ (by decide) (by rw [List.getElem?_toArray]; exact bvc_at _ 0 (by decide)) W
  have f1 := and1b (by_ (x % p) 0) hb0
  rw [hp0] at f1
  obtain ⟨m, hm⟩ : ∃ m, redp x % 2 = m := ⟨_, rfl⟩
  rw [hm] at f1 HEN hm2
  have f2 : bits .or .u8 ((by_ (y % p) 31 : Nat) : Int) ((128 * m : Nat) : Int) = ((by_ (y % p) 31 + 128 * m : Nat) : Int) := by
    rw [u8_or_nat _ _ (by omega) (by omega)]
    have h := Nat.shiftLeft_add_eq_or_of_lt (i := 7) (b := by_ (y % p) 31) hb31 m
    rw [Nat.shiftLeft_eq] at h
    have e7 : (2 : Nat) ^ 7 = 128 := rfl
    rw [e7, Nat.mul_comm m 128] at h
    rw [Nat.or_comm, ← h, Nat.add_comm]
  have f3 : (m : Int) * 128 = ((128 * m : Nat) : Int) := by omega
  have f4 : IntKind.u8.wrap ((128 * m : Nat) : Int) = ((128 * m : Nat) : Int) := by rw [IntKind.wrap_u8]; omega
  have HCN : Hid (∀ W : World, Below w.heap.size w W → Cs .u8 32 w.heap.size w ((W.alloc (.cells z22 22)).setCells W.heap.size 0 (bvc (y % p))) W.heap.size (by_ (y % p))) := fun W h => cs_new w W (y % p) h
  unfold pv at ci ⊢
  unfold bv at cx cy ⊢
  have LV : Hid (L64 (bvc x ++ bvc y)) := l64 x y
  have LX : Hid (L32 (bvc x)) := l32 x
  have LY : Hid (L32 (bvc y)) := l32 y
  have LR : Hid (L32 (bvc (y % p))) := l32 _
  have LE : Hid (L32 (bvc (encp x y))) := l32 _
  have HRA : Hid (∀ {W : World} {g : Nat} {M : Nat → Nat}, Cs .u8 32 w.heap.size w W g M → (∀ j, j < 32 → M j = by_ (encp x y) j) → W.rangeAt g 0 (bvc (encp x y))) := fun h1 h2 => h1.range _ h2
  have HS := (show Hid _ from startp22 w (bvc x ++ bvc y))
  have HPX : Hid (∀ {W : World} {b : Nat}, W.rangeAt b 0 (bvc x ++ bvc y) → W.rangeAt b 0 (bvc x) ∧ W.rangeAt b 32 (bvc y)) := fun {W b} h => ⟨range_left h, by have h2 := range_right (m := 32) h (bvc_len x); rwa [Nat.zero_add] at h2⟩
  obtain ⟨V, hV⟩ : ∃ V, bvc x ++ bvc y = V := ⟨_, rfl⟩
  obtain ⟨X, hX⟩ : ∃ V, bvc x = V := ⟨_, rfl⟩
  obtain ⟨Y, hY⟩ : ∃ V, bvc y = V := ⟨_, rfl⟩
  obtain ⟨R, hR⟩ : ∃ V, bvc (y % p) = V := ⟨_, rfl⟩
  obtain ⟨S, hS⟩ : ∃ V, bvc (x % p) = V := ⟨_, rfl⟩
  obtain ⟨E, hE⟩ : ∃ V, bvc (encp x y) = V := ⟨_, rfl⟩
  rw [hV] at LV ci HS HPX ⊢
  rw [hX] at LX cx HPX
  rw [hY] at LY cy HPX
  rw [hR] at LR cy HCN
  rw [hS] at cx hix
  rw [hE] at LE HRA ⊢
  obtain ⟨b0, hbb⟩ : ∃ b, by_ (x % p) 0 = b := ⟨_, rfl⟩
  rw [hbb] at f1 hix
  obtain ⟨B, hB⟩ : ∃ b, by_ (y % p) = b := ⟨_, rfl⟩
  rw [hB] at f2 HCN HEN
  obtain ⟨e, he⟩ : ∃ e, encp x y = e := ⟨_, rfl⟩
  rw [he] at HEN HRA
  obtain ⟨b31, hb3⟩ : ∃ b, B 31 = b := ⟨_, rfl⟩
  have HB31 : Hid (B 31 = b31) := hb3
  rw [hb3] at f2 HEN
  obtain ⟨v, hv⟩ : ∃ b, b31 + 128 * m = b := ⟨_, rfl⟩
  rw [hv] at f2 HEN
  obtain ⟨u, hu⟩ : ∃ b, 128 * m = b := ⟨_, rfl⟩
  rw [hu] at f2 f3 f4
  clear hV hX hY hR hS hE hbb hB he hb3 hv hu hm hx hy hon hb0 hp0 hb31
  have hz2 := zero22
  obtain ⟨Z2, hZ2⟩ : ∃ Z, z22 = Z := ⟨_, rfl⟩
  rw [hZ2] at hz2 HS HCN
  have HLT : Hid (∀ W : World, (W.alloc (.cells Z2 22)).there W.heap.size 0 R.toArray.size) := by rw [← hZ2]; exact LR.out.t
  clear hZ2
  obtain ⟨n, hn⟩ : ∃ n, w.heap.size = n := ⟨_, rfl⟩
  have HN : Hid (w.heap.size = n) := hn
  have HS1 : Hid (Rp ((w.alloc (.cells V.toArray 43)).alloc (.cells Z2 22)) n 0 V ∧ Ao w.heap.size ((w.alloc (.cells V.toArray 43)).alloc (.cells Z2 22)) (n + 1) 32 ∧ Below w.heap.size w ((w.alloc (.cells V.toArray 43)).alloc (.cells Z2 22))) := by
    have h := HS.out
    rw [HN.out] at h
    show _ ∧ _
    rw [HN.out]
    exact h
  clear HS
  go_enter Try.func45, Try.ntmps45
  go_wp2_with (first
    | (refine wpList_load_mid rfl 43 (.tmp 1) rfl n 0 rfl V _ HS1.out.1.1 Try.underlying43 rfl LV.out.i ?_)
    | (go_at_call 29; refine (ci _).mono ?_; rintro e' w1 ⟨rfl, hb1⟩; have HR1 := (show Hid (Rp w1 n 0 V) from HS1.out.1.below hb1); have HA1 := (show Hid (Ao w.heap.size w1 (n + 1) 32) from HS1.out.2.1.below hb1); have HB1 := (show Hid (Below w.heap.size w w1) from HS1.out.2.2.trans (hb1.mono HS1.out.2.2.size)); clear hb1 ci HS1)
    | (refine wpList_load_mid rfl 22 (.tmp 10) rfl n 32 rfl Y _ (HPX.out HR1.out.1).2 Try.underlying22 rfl LY.out.i ?_)
    | (go_at_call 22; refine (cy _).mono ?_; rintro e' w2 ⟨rfl, hb2⟩; have HR2 := (show Hid (Rp w2 n 0 V) from HR1.out.below hb2); have HA2 := (show Hid (Ao w.heap.size w2 (n + 1) 32) from HA1.out.below hb2); have HB2 := (show Hid (Below w.heap.size w w2) from HB1.out.trans (hb2.mono HB1.out.size)); clear hb2 cy HR1 HA1 HB1)
    | (refine wpList_store_mid rfl 22 (.tmp 4) (.tmp 12) rfl w2.heap.size 0 R.toArray rfl rfl (HLT.out _) LR.out.j LR.out.o ?_; simp only [Act.put]))
  have hb3 : Below w2.heap.size w2 ((w2.alloc (.cells Z2 22)).setCells w2.heap.size 0 R) := below_setCells ((Below.refl _ _).alloc (Nat.le_refl _) _) (Nat.le_refl _)
  have HC3 : Hid _ := HCN.out w2 HB2.out
  have HR3 := (show Hid (Rp ((w2.alloc (.cells Z2 22)).setCells w2.heap.size 0 R) n 0 V) from HR2.out.below hb3)
  have HA3 := (show Hid (Ao w.heap.size ((w2.alloc (.cells Z2 22)).setCells w2.heap.size 0 R) (n + 1) 32) from HA2.out.below hb3)
  have HNE : Hid (w2.heap.size ≠ n + 1) := by have := HA2.out.2.1; show _ ≠ _; omega
  obtain ⟨k, hk⟩ : ∃ k, w2.heap.size = k := ⟨_, rfl⟩
  rw [hk] at HC3 HNE
  rw [hk] at HR3 HA3 ⊢
  obtain ⟨w3, hw3⟩ : ∃ v, (w2.alloc (.cells Z2 22)).setCells k 0 R = v := ⟨_, rfl⟩
  rw [hw3] at HC3 HR3 HA3 ⊢
  clear hk hw3 hb3 HR2 HA2 HB2 HCN
  have pk := HC3.out.c 31 (by decide)
  rw [HB31.out] at pk
  have q31 : ∀ x : Cl w3.heap.size w3, x.u.cell? ⟨k, 31, none⟩ = some (.int .u8 (b31 : Int)) := fun x => x.cell pk HC3.out.l.2
  have HQX : Hid (∀ w', (∃ x : Cl w3.heap.size w3, w' = x.u) → w'.rangeAt n 0 X) := fun w' h => (HPX.out (HR3.out.cl w' h)).1
  have hne := Cl.ne w3.heap.size w3
  clear pk
  apply region_cl_tail (N := w3.heap.size) (W := w3) 10 10 (by kernel_rfl) (Below.refl _ _)
  case hl => simp only [List.take_succ_cons, List.take_zero]; rfl
  case ht => simp only [List.drop_succ_cons, List.drop_zero]; rfl
  case hB => kernel_rfl
  case hT => kernel_rfl
  case h =>
    go_big_quiet_step (fail)
    go_big_quiet_step (fail)
    go_big_quiet_step (fail)
    go_big_quiet_want
    refine quiet_load 22 _ rfl n 0 rfl X _ HQX.out Try.underlying22 rfl LX.out.i ?_
    simp only [Act.put, List.setIfInBounds_toArray, List.set_cons_zero, List.set_cons_succ]
    go_big_quiet_on
    go_big_quiet_step ((go_at_call 22; exact cl_of (cx _) (Nat.le_refl _)))
    repeat (go_big_quiet_step (fail))
    refine wpQuiet_nil ?_
    rintro _ ⟨xq, rfl⟩
    have hb := xq.h
    have HC4 := (show Hid (Cs .u8 32 w.heap.size w xq.u k B) from HC3.out.below hb)
    have HA4 := (show Hid (Ao w.heap.size xq.u (n + 1) 32) from HA3.out.below hb)
    obtain ⟨w5, hw5⟩ : ∃ v, xq.u = v := ⟨_, rfl⟩
    rw [hw5] at HC4 HA4 ⊢
    clear hw5 q31 hb xq hne HQX HC3 HA3 HR3 cx hix f1 f2 f3 f4
    have r0 := HC4.out.c 31 (by decide)
    have r1 := (HC4.out.t 31 (by decide)).2
    simp only [Nat.zero_add] at r1
    have HC5 := (show Hid (Cs .u8 32 w.heap.size w (w5.setCell ⟨k, 31, none⟩ (.int .u8 (v : Int))) k (upd B 31 v)) from HC4.out.set (by decide) v)
    have HE5 := (show Hid ((w5.setCell ⟨k, 31, none⟩ (.int .u8 (v : Int))).rangeAt k 0 E) from HRA.out HC5.out HEN.out)
    have HA5 : Hid (Ao w.heap.size (w5.setCell ⟨k, 31, none⟩ (.int .u8 (v : Int))) (n + 1) 32) := ⟨HA4.out.1, by simpa using HA4.out.2.1, World.there_setCells (vs := [.int .u8 (v : Int)]) HA4.out.2.2 k 31⟩
    have HT5 := (show Hid _ from LE.out.s HA5.out)
    clear HC4 HA4 HRA HEN
    go_wp2_with (first
      | (refine wpList_load_mid rfl 22 (.tmp 4) rfl k 0 rfl E _ HE5.out Try.underlying22 rfl LE.out.i ?_)
      | (refine wpList_store_mid rfl 22 (.tmp 2) (.tmp 23) rfl (n + 1) 0 E.toArray rfl rfl HT5.out LE.out.j LE.out.o ?_; simp only))
    exact bodyPost_ret (res_ct Try.results45 rfl (end22 LE.out HA5.out) rfl) rfl ⟨rfl, below_setCells HC5.out.b HA5.out.1⟩
end Fd
end Go.Proofs.Ytgdekigdbbldoaa

namespace Go.Proofs.Ytgdekigdbbldoaa
open Go.RowKit
namespace Dt
open Rg Go.Proofs.Ytgdekigdbbldoaa.Fd

/-- What Order begins with. -/
theorem order_start (w : World) :
    let e := (w.alloc (.cells (Array.replicate 32 (.int .u8 0)) 22)).alloc (.cells #[.int .u8 237, .int .u8 211, .int .u8 245, .int .u8 92, .int .u8 26, .int .u8 99, .int .u8 18, .int .u8 88, .int .u8 214, .int .u8 156, .int .u8 247, .int .u8 162, .int .u8 222, .int .u8 249, .int .u8 222, .int .u8 20] 5)
    Cs .u8 32 w.heap.size w e w.heap.size (fun _ => 0) ∧ ∀ j, j < 16 → e.cell? ⟨w.heap.size + 1, j, none⟩ = some (.int .u8 ((by_ ell j : Nat) : Int)) := by
  intro e
  have hb : Below (w.alloc (.cells (Array.replicate 32 (.int .u8 0)) 22)).heap.size (w.alloc (.cells (Array.replicate 32 (.int .u8 0)) 22)) e := (Below.refl _ _).alloc (Nat.le_refl _) _
  have h0 : Cs .u8 32 w.heap.size w (w.alloc (.cells (Array.replicate 32 (.int .u8 0)) 22)) w.heap.size (fun _ => 0) :=
    ⟨(Below.refl _ _).alloc (Nat.le_refl _) _, fun j hj => cell_new w (Array.replicate 32 (.int .u8 0)) 22 (i := j) (v := .int .u8 0) (by simp [hj]), there_new w (Array.replicate 32 (.int .u8 0)) 22 (m := 32) fun j hj => by simp [hj], Nat.le_refl _, by rw [size_alloc]; omega⟩
  refine ⟨h0.below hb, fun j hj => ?_⟩
  have h2 := cell_new (w.alloc (.cells (Array.replicate 32 (.int .u8 0)) 22)) #[.int .u8 237, .int .u8 211, .int .u8 245, .int .u8 92, .int .u8 26, .int .u8 99, .int .u8 18, .int .u8 88, .int .u8 214, .int .u8 156, .int .u8 247, .int .u8 162, .int .u8 222, .int .u8 249, .int .u8 222, .int .u8 20] 5 (i := j) (v := .int .u8 ((by_ ell j : Nat) : Int)) (by
    match j, hj with
    | 0, _ => rfl
    | 1, _ => rfl
    | 2, _ => rfl
    | 3, _ => rfl
    | 4, _ => rfl
    | 5, _ => rfl
    | 6, _ => rfl
    | 7, _ => rfl
    | 8, _ => rfl
    | 9, _ => rfl
    | 10, _ => rfl
    | 11, _ => rfl
    | 12, _ => rfl
    | 13, _ => rfl
    | 14, _ => rfl
    | 15, _ => rfl
    | i + 16, h => exact absurd h (by omega))
  rw [size_alloc] at h2
  exact h2
theorem order_bytes : ∀ j, j < 32 → upd (tabs (by_ ell) 16) 31 16 j = by_ ell j := by decide +kernel

set_option maxHeartbeats 1000000 in
set_option maxRecDepth 4000 in
theorem order_num (w : World) : Calls Try.prog 53 #[] w fun e w' => ∃ v, e = .returned v ∧ Num w' v ell ∧ Below w.heap.size w w' := by
  obtain ⟨n, hn⟩ : ∃ n, w.heap.size = n := ⟨_, rfl⟩
  have hS := order_start w
  rw [hn, ← tabs_zero (by_ ell)] at hS
  have HS : Hid (_ ∧ _) := hS
  have HOB : Hid (∀ j, j < 32 → upd (tabs (by_ ell) 16) 31 16 j = by_ ell j) := order_bytes
  have hv : ofB (bl ell 32) = ell := by rw [ofB_bl, b256, Nat.mod_eq_of_lt (by rw [← two256]; exact ell_lt)]
  have CO : Hid (∀ W : World, W.rangeAt n 0 (bvc ell) → n < W.heap.size → Calls Try.prog 52 #[.slice (some ⟨n, 0, none⟩) 32 32] W fun e w' => ∃ v, e = .returned v ∧ Num w' v ell ∧ Below W.heap.size W w') := fun W hr hl => by
    have h := of_any (some ⟨n, 0, none⟩) (bl ell 32) 32 W (.inr ⟨_, _, rfl, hl, by rw [← bvc_bc]; exact hr⟩) (bl_lt ell 32) (by rw [bl_len]; decide)
    rwa [hv, bl_len] at h
  have HEL : Hid (∀ j, by_ ell j < 256) := fun j => Nat.mod_lt _ (by decide)
  obtain ⟨B, hB⟩ : ∃ B, by_ ell = B := ⟨_, rfl⟩
  have HRG : Hid (∀ {W : World} {M : Nat → Nat}, Cs .u8 32 n w W n M → (∀ j, j < 32 → M j = B j) → W.rangeAt n 0 (bvc ell)) := fun h1 h2 => h1.range ell (by rw [hB]; exact h2)
  rw [hB] at HS HOB HEL
  clear hS hv hB
  go_enter Try.func53, Try.ntmps53
  go_wp2
  go_loopw [3] (fun y wr => ∃ k : Nat, y = .int .i64 (k : Int) ∧ k ≤ 16 ∧ Hid (Cs .u8 32 n w wr n (tabs B k) ∧ n + 1 < wr.heap.size ∧ ∀ j, j < 16 → wr.cell? ⟨n + 1, j, none⟩ = some (.int .u8 ((B j : Nat) : Int)))) (fun y _ => 16 - numOf y)
  case atStart => exact ⟨0, rfl, Nat.zero_le _, ⟨HS.out.1, by simp [hn], HS.out.2⟩⟩
  case round =>
    clear HS
    obtain ⟨k, rfl, hk, HR⟩ := hrel
    by_cases hlt : k < 16
    · have hlt' : (k : Int) < 16 := by omega
      have hlt0 : (0 : Int) ≤ (k : Int) := by omega
      have hlt3 : (k : Int) < 32 := by omega
      have pk := HR.out.2.2 k hlt
      have HV : Hid (Cs .u8 32 n w (wr.setCell ⟨n, k, none⟩ (.int .u8 ((B k : Nat) : Int))) n (tabs B (k + 1)) ∧ n + 1 < (wr.setCell ⟨n, k, none⟩ (.int .u8 ((B k : Nat) : Int))).heap.size ∧ ∀ j, j < 16 → (wr.setCell ⟨n, k, none⟩ (.int .u8 ((B k : Nat) : Int))).cell? ⟨n + 1, j, none⟩ = some (.int .u8 ((B j : Nat) : Int))) := by
        have h := HR.out.1.set (show k < 32 by omega) (B k)
        rw [tabs_succ] at h
        refine ⟨h, by simpa using HR.out.2.1, fun j hj => ?_⟩
        rw [World.cell?_setCell_other _ _ _ _ (fun e => by cases e)]
        exact HR.out.2.2 j hj
      have r0 := HR.out.1.c k (by omega)
      have r1 := (HR.out.1.t k (by omega)).2
      simp only [Nat.zero_add] at r1
      obtain ⟨b, hb⟩ : ∃ b, B k = b := ⟨_, rfl⟩
      rw [hb] at pk HV
      clear hb HR HOB CO HEL HRG
      go_wp2
      go_roundw
      case rel => exact ⟨k + 1, by go_num, hlt, HV⟩
      case measure => simp [numOf]; omega
    · have hk4 : k = 16 := by omega
      subst hk4
      have hlt' : ¬ ((16 : Nat) : Int) < 16 := by omega
      have r0 := HR.out.1.c 31 (by decide)
      have r1 := (HR.out.1.t 31 (by decide)).2
      simp only [Nat.zero_add] at r1
      have HC := (show Hid (Cs .u8 32 n w (wr.setCell ⟨n, 31, none⟩ (.int .u8 16)) n (upd (tabs B 16) 31 16)) from HR.out.1.set (by decide) 16)
      have c1 := CO.out _ (HRG.out HC.out HOB.out) HC.out.l.2
      clear HR HOB CO HEL HRG
      go_wp2_with (go_at_call 52; refine c1.mono ?_; rintro e w1 ⟨v1, rfl, hn1, hb1⟩; have HN1 := (show Hid (Num w1 v1 ell) from hn1); have HB1 := (show Hid (Below n w w1) from HC.out.b.trans (hb1.mono (Nat.le_of_lt HC.out.l.2))); clear hn1 hb1 c1)
      go_ret
      exact ⟨_, rfl, HN1.out, by rw [hn]; exact HB1.out⟩
end Dt
namespace Fd
open Rg
set_option maxHeartbeats 1000000 in
set_option maxRecDepth 4000 in
theorem small7_any (k : Nat) (w : World) (hk : k < 256) : Calls Try.prog 46 #[.int .u8 (k : Int)] w fun e w' => e = .returned (bv k) ∧ Below w.heap.size w w' := by
  have hz := zero22
  have e1 : (w.alloc (.cells z22 22)).heap.size = w.heap.size + 1 := size_alloc _ _
  have hR : ((w.alloc (.cells z22 22)).alloc (.cells (z22.setIfInBounds 0 (.int .u8 (k : Int))) 22)).rangeAt (w.heap.size + 1) 0 (bvc k) := by
    rw [z22_set hk]
    exact range_new1 _ _ _ _
  have hT : ((w.alloc (.cells z22 22)).alloc (.cells (z22.setIfInBounds 0 (.int .u8 (k : Int))) 22)).there w.heap.size 0 32 := World.there_alloc (there_new w z22 22 (m := 32) fun j hj => by simp [z22, hj]) _
  have hB : Below w.heap.size w ((w.alloc (.cells z22 22)).alloc (.cells (z22.setIfInBounds 0 (.int .u8 (k : Int))) 22)) := ((Below.refl _ _).alloc (Nat.le_refl _) _).alloc (by simp) _
  have hc : ((w.alloc (.cells z22 22)).alloc (.cells z22 22)).cell? ⟨w.heap.size + 1, 0, none⟩ = some (.int .u8 0) := cell_new1 w _ z22 22 (i := 0) (by simp [z22])
  have hf := ((there_new (w.alloc (.cells z22 22)) z22 22 (m := 32) fun j hj => by simp [z22, hj]) 0 (by decide)).2
  rw [Nat.zero_add, e1] at hf
  obtain ⟨Z, hZ⟩ : ∃ Z, z22 = Z := ⟨_, rfl⟩
  rw [hZ] at hz hR hT hB hc hf
  obtain ⟨n, hn⟩ : ∃ n, w.heap.size = n := ⟨_, rfl⟩
  rw [hn] at hR hT hB hc hf
  have HB := (show Hid (Below n w _) from hB)
  have HT := (show Hid (World.there _ n 0 32) from hT)
  have HR := (show Hid (World.rangeAt _ (n + 1) 0 (bvc k)) from hR)
  have HN : Hid (w.heap.size = n) := hn
  clear hR hT hB hZ e1
  unfold bv
  have HI : Hid ((Try.prog.info? 22).map (·.size) = some (bvc k).length) := info22l k
  have HI2 : Hid ((Try.prog.info? 22).map (·.size) = some (bvc k).toArray.size) := info22s k
  have H32 : Hid ((bvc k).toArray.all (·.oneCell') = true) := one32 k
  have HLN : Hid ((bvc k).toArray.size = 32) := by show _ = _; rw [List.size_toArray, bvc_len]
  obtain ⟨R, hRR⟩ : ∃ R, bvc k = R := ⟨_, rfl⟩
  rw [hRR] at HR HI HI2 H32 HLN ⊢
  rw [← HLN.out] at HT
  clear hRR
  go_enter Try.func46, Try.ntmps46
  go_wp2_with (first
    | (refine wpList_load_mid rfl 22 (.tmp 3) rfl (n + 1) 0 rfl R _ HR.out Try.underlying22 rfl HI.out ?_)
    | (refine wpList_store_mid rfl 22 (.tmp 2) (.tmp 6) rfl n 0 R.toArray rfl rfl HT.out HI2.out H32.out ?_; simp only))
  exact bodyPost_ret (results_cell Try.results46 rfl (run_loadVar_mid (P := Try.prog) _ n 0 22 R _ (World.rangeAt_setCells_same _ _ _ _ (by rw [← List.size_toArray]; exact HT.out)) Try.underlying22 rfl HI.out)) rfl ⟨rfl, by first | exact below_setCells HB.out (Nat.le_refl _) | (rw [HN.out]; exact below_setCells HB.out (Nat.le_refl _))⟩
end Fd
end Go.Proofs.Ytgdekigdbbldoaa
