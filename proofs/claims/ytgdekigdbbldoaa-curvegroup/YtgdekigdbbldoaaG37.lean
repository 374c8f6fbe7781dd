/- What Encode does: a contract, by walking its text. What Times does: a contract, by walking its text; Add and Times in terms of points. -/
import Derived.Test.YtgdekigdbbldoaaG30
import Derived.Test.YtgdekigdbbldoaaG36
namespace Go.Proofs.Ytgdekigdbbldoaa
open Go.RowKit
namespace Fd
open Rg

/-- A point's bytes. -/
def encp (x y : Nat) : Nat := redp y + 57896044618658097711785492504343953926634992332820282019728792003956564819968 * (redp x % 2)
theorem redp_255 (y : Nat) : redp y < 57896044618658097711785492504343953926634992332820282019728792003956564819968 := Nat.lt_trans (Nat.mod_lt _ (by decide)) (by decide : p < _)
theorem by_enc (r m j : Nat) (hr : r < 57896044618658097711785492504343953926634992332820282019728792003956564819968) (hm : m < 2) (hj : j < 32) : upd (by_ r) 31 (by_ r 31 + 128 * m) j = by_ (r + 57896044618658097711785492504343953926634992332820282019728792003956564819968 * m) j := by
  unfold upd
  by_cases h : j = 31
  · subst h
    rw [if_pos rfl]
    have e : ∀ x, by_ x 31 = x / 452312848583266388373324160190187140051835877600158453279131187530910662656 % 256 := fun _ => rfl
    rw [e, e]
    omega
  · rw [if_neg h]
    unfold by_
    have e : 57896044618658097711785492504343953926634992332820282019728792003956564819968 * m = (2 ^ (247 - 8 * j) * m * 256) * 2 ^ (8 * j) := by
      have e3 : (57896044618658097711785492504343953926634992332820282019728792003956564819968 : Nat) = 2 ^ (247 - 8 * j) * 2 ^ 8 * 2 ^ (8 * j) := by
        rw [← Nat.pow_add, ← Nat.pow_add, show 247 - 8 * j + 8 + 8 * j = 255 by omega]
      rw [e3, show (2 : Nat) ^ 8 = 256 from rfl]
      ac_rfl
    rw [e, Nat.add_mul_div_right _ _ (Nat.two_pow_pos _), Nat.add_mul_mod_self_right]
theorem Cs.range {N : Nat} {w wr : World} {g : Nat} {M : Nat → Nat} (h : Cs .u8 32 N w wr g M) (x : Nat) (hM : ∀ j, j < 32 → M j = by_ x j) : wr.rangeAt g 0 (bvc x) := fun j v hv => by
  rw [Nat.zero_add]
  have hj : j < 32 := by
    have := (List.getElem?_eq_some_iff.1 hv).1
    rwa [bvc_len] at this
  rw [bvc_at x j hj] at hv
  rw [h.c j hj, ← hv, hM j hj]
/-- A box of a point, whole, and the answer's, 32 bytes. -/
theorem startp22 (w : World) (V : List Value) :
    let e := (w.alloc (.cells V.toArray 43)).alloc (.cells z22 22)
    Rp e w.heap.size 0 V ∧ Ao w.heap.size e (w.heap.size + 1) 32 ∧ Below w.heap.size w e := by
  intro e
  have ht := there22 (w.alloc (.cells V.toArray 43))
  rw [size_alloc] at ht
  refine ⟨Rp.below ⟨Rg.range_new w V 43, by rw [size_alloc]; omega⟩ ((Below.refl _ _).alloc (Nat.le_refl _) _), ⟨by omega, ?_, ht⟩, ((Below.refl _ _).alloc (Nat.le_refl _) _).alloc (by simp) _⟩
  show _ < (World.alloc _ _).heap.size
  rw [size_alloc, size_alloc]
  omega
/-- A box of 32 bytes that is written anew. -/
theorem cs_new (w W : World) (x : Nat) (hb : Below w.heap.size w W) : Cs .u8 32 w.heap.size w ((W.alloc (.cells z22 22)).setCells W.heap.size 0 (bvc x)) W.heap.size (by_ x) := by
  have h := box_new W (bvc x) (bvc_len x)
  refine ⟨hb.trans (h.2.mono hb.size), fun j hj => ?_, World.there_setCells (there22 W) _ _ _, hb.size, h.1.2⟩
  have h2 := h.1.1 j _ (bvc_at x j hj)
  rwa [Nat.zero_add] at h2

set_option maxHeartbeats 400000 in
set_option maxRecDepth 4000 in
theorem encode_no (x y : Nat) (w : World) (hx : x < 115792089237316195423570985008687907853269984665640564039457584007913129639936) (hy : y < 115792089237316195423570985008687907853269984665640564039457584007913129639936) (hon : ¬ OnC x y) :
    Calls Try.prog 45 #[pv x y] w fun e w' => e = .returned (.tuple #[bv 0, .iface 35 (.int .i64 29)]) ∧ Below w.heap.size w w' := by
  have ci := fun W => is_any x y W hx hy
  rw [decide_eq_false hon] at ci
  unfold pv at ci ⊢
  unfold bv
  have LV : Hid (L64 (bvc x ++ bvc y)) := l64 x y
  have LE : Hid (L32 (bvc 0)) := l32 0
  have HBN : Hid (Try.prog.built 22 [] = some (bvc 0).toArray) := build22_none
  obtain ⟨V, hV⟩ : ∃ V, bvc x ++ bvc y = V := ⟨_, rfl⟩
  obtain ⟨E, hE⟩ : ∃ V, bvc 0 = V := ⟨_, rfl⟩
  rw [hV] at LV ci ⊢
  rw [hE] at LE HBN ⊢
  clear hV hE hx hy hon x y
  have HS := (show Hid _ from startp22 w V)
  have hz2 := zero22
  obtain ⟨Z2, hZ2⟩ : ∃ Z, z22 = Z := ⟨_, rfl⟩
  rw [hZ2] at hz2 HS
  clear hZ2
  obtain ⟨n, hn⟩ : ∃ n, w.heap.size = n := ⟨_, rfl⟩
  have HN : Hid (w.heap.size = n) := hn
  have HS1 : Hid (Rp ((w.alloc (.cells V.toArray 43)).alloc (.cells Z2 22)) n 0 V ∧ Ao w.heap.size ((w.alloc (.cells V.toArray 43)).alloc (.cells Z2 22)) (n + 1) 32 ∧ Below w.heap.size w ((w.alloc (.cells V.toArray 43)).alloc (.cells Z2 22))) := by
    have h := HS.out
    rw [HN.out] at h
    show _ ∧ _
    rw [HN.out]
    exact h
  clear HS
  go_enter Try.func45, Try.ntmps45
  go_wp2_with (first
    | (refine wpList_load_mid rfl 43 (.tmp 1) rfl n 0 rfl V _ HS1.out.1.1 Try.underlying43 rfl LV.out.i ?_)
    | (go_at_call 29; refine (ci _).mono ?_; rintro e w1 ⟨rfl, hb1⟩; have HA1 := (show Hid (Ao w.heap.size w1 (n + 1) 32) from HS1.out.2.1.below hb1); have HB1 := (show Hid (Below w.heap.size w w1) from HS1.out.2.2.trans (hb1.mono HS1.out.2.2.size)); have HT1 := (show Hid _ from LE.out.s HA1.out); clear hb1 ci HS1)
    | (refine build_to rfl 22 _ rfl (some 8) rfl [] (by kernel_rfl) E HBN.out ?_; simp only [Act.put, List.setIfInBounds_toArray, List.set_cons_zero, List.set_cons_succ])
    | (refine wpList_store_mid rfl 22 (.tmp 2) (.tmp 8) rfl (n + 1) 0 E.toArray rfl rfl HT1.out LE.out.j LE.out.o ?_; simp only))
  exact bodyPost_ret (res_ct Try.results45 rfl (end22 LE.out HA1.out) rfl) rfl ⟨rfl, below_setCells HB1.out HA1.out.1⟩

set_option maxHeartbeats 1000000 in
set_option maxRecDepth 4000 in
theorem encode_ok (x y : Nat) (w : World) (hx : x < 115792089237316195423570985008687907853269984665640564039457584007913129639936) (hy : y < 115792089237316195423570985008687907853269984665640564039457584007913129639936) (hon : OnC x y) :
    Calls Try.prog 45 #[pv x y] w fun e w' => e = .returned (.tuple #[bv (encp x y), .nilIface]) ∧ Below w.heap.size w w' := by
  have ci := fun W => is_any x y W hx hy
  have cy := fun W => reduce_any y W hy
  have cx := fun W => reduce_any x W hx
  rw [decide_eq_true hon] at ci
  have hb0 : by_ (x % p) 0 < 256 := Nat.mod_lt _ (by decide)
  have hp0 : by_ (x % p) 0 % 2 = redp x % 2 := by
    have e : by_ (x % p) 0 = x % p / 1 % 256 := rfl
    rw [e, Nat.div_one]
    unfold redp
    omega
  have hm2 : redp x % 2 < 2 := Nat.mod_lt _ (by decide)
  have hb31 : by_ (y % p) 31 < 128 := by
    have e : by_ (y % p) 31 = y % p / 452312848583266388373324160190187140051835877600158453279131187530910662656 % 256 := rfl
    have h := redp_255 y
    unfold redp at h
    rw [e]
    omega
  have HEN : Hid (∀ j, j < 32 → upd (by_ (y % p)) 31 (by_ (y % p) 31 + 128 * (redp x % 2)) j = by_ (encp x y) j) := fun j hj => by_enc (y % p) (redp x % 2) j (redp_255 y) hm2 hj
  have hix : ∀ W : World, (Instr.index 22 (.agg (bvc (x % p)).toArray) (.int .i64 0)).run Try.prog W = .ok (.int .u8 ((by_ (x % p) 0 : Nat) : Int)) W := fun W => index22 _ 0 _ (by decide) (by rw [List.getElem?_toArray]; exact bvc_at _ 0 (by decide)) W
  have f1 := and1b (by_ (x % p) 0) hb0
  rw [hp0] at f1
  obtain ⟨m, hm⟩ : ∃ m, redp x % 2 = m := ⟨_, rfl⟩
  rw [hm] at f1 HEN hm2
  have f2 : bits .or .u8 ((by_ (y % p) 31 : Nat) : Int) ((128 * m : Nat) : Int) = ((by_ (y % p) 31 + 128 * m : Nat) : Int) := by
    rw [u8_or_nat _ _ (by omega) (by omega)]
    have h := Nat.shiftLeft_add_eq_or_of_lt (i := 7) (b := by_ (y % p) 31) hb31 m
    rw [Nat.shiftLeft_eq] at h
    have e7 : (2 : Nat) ^ 7 = 128 := rfl
    rw [e7, Nat.mul_comm m 128] at h
    rw [Nat.or_comm, ← h, Nat.add_comm]
  have f3 : (m : Int) * 128 = ((128 * m : Nat) : Int) := by omega
  have f4 : IntKind.u8.wrap ((128 * m : Nat) : Int) = ((128 * m : Nat) : Int) := by rw [IntKind.wrap_u8]; omega
  have HCN : Hid (∀ W : World, Below w.heap.size w W → Cs .u8 32 w.heap.size w ((W.alloc (.cells z22 22)).setCells W.heap.size 0 (bvc (y % p))) W.heap.size (by_ (y % p))) := fun W h => cs_new w W (y % p) h
  unfold pv at ci ⊢
  unfold bv at cx cy ⊢
  have LV : Hid (L64 (bvc x ++ bvc y)) := l64 x y
  have LX : Hid (L32 (bvc x)) := l32 x
  have LY : Hid (L32 (bvc y)) := l32 y
  have LR : Hid (L32 (bvc (y % p))) := l32 _
  have LE : Hid (L32 (bvc (encp x y))) := l32 _
  have HRA : Hid (∀ {W : World} {g : Nat} {M : Nat → Nat}, Cs .u8 32 w.heap.size w W g M → (∀ j, j < 32 → M j = by_ (encp x y) j) → W.rangeAt g 0 (bvc (encp x y))) := fun h1 h2 => h1.range _ h2
  have HS := (show Hid _ from startp22 w (bvc x ++ bvc y))
  have HPX : Hid (∀ {W : World} {b : Nat}, W.rangeAt b 0 (bvc x ++ bvc y) → W.rangeAt b 0 (bvc x) ∧ W.rangeAt b 32 (bvc y)) := fun {W b} h => ⟨range_left h, by have h2 := range_right (m := 32) h (bvc_len x); rwa [Nat.zero_add] at h2⟩
  obtain ⟨V, hV⟩ : ∃ V, bvc x ++ bvc y = V := ⟨_, rfl⟩
  obtain ⟨X, hX⟩ : ∃ V, bvc x = V := ⟨_, rfl⟩
  obtain ⟨Y, hY⟩ : ∃ V, bvc y = V := ⟨_, rfl⟩
  obtain ⟨R, hR⟩ : ∃ V, bvc (y % p) = V := ⟨_, rfl⟩
  obtain ⟨S, hS⟩ : ∃ V, bvc (x % p) = V := ⟨_, rfl⟩
  obtain ⟨E, hE⟩ : ∃ V, bvc (encp x y) = V := ⟨_, rfl⟩
  rw [hV] at LV ci HS HPX ⊢
  rw [hX] at LX cx HPX
  rw [hY] at LY cy HPX
  rw [hR] at LR cy HCN
  rw [hS] at cx hix
  rw [hE] at LE HRA ⊢
  obtain ⟨b0, hbb⟩ : ∃ b, by_ (x % p) 0 = b := ⟨_, rfl⟩
  rw [hbb] at f1 hix
  obtain ⟨B, hB⟩ : ∃ b, by_ (y % p) = b := ⟨_, rfl⟩
  rw [hB] at f2 HCN HEN
  obtain ⟨e, he⟩ : ∃ e, encp x y = e := ⟨_, rfl⟩
  rw [he] at HEN HRA
  obtain ⟨b31, hb3⟩ : ∃ b, B 31 = b := ⟨_, rfl⟩
  have HB31 : Hid (B 31 = b31) := hb3
  rw [hb3] at f2 HEN
  obtain ⟨v, hv⟩ : ∃ b, b31 + 128 * m = b := ⟨_, rfl⟩
  rw [hv] at f2 HEN
  obtain ⟨u, hu⟩ : ∃ b, 128 * m = b := ⟨_, rfl⟩
  rw [hu] at f2 f3 f4
  clear hV hX hY hR hS hE hbb hB he hb3 hv hu hm hx hy hon hb0 hp0 hb31
  have hz2 := zero22
  obtain ⟨Z2, hZ2⟩ : ∃ Z, z22 = Z := ⟨_, rfl⟩
  rw [hZ2] at hz2 HS HCN
  have HLT : Hid (∀ W : World, (W.alloc (.cells Z2 22)).there W.heap.size 0 R.toArray.size) := by rw [← hZ2]; exact LR.out.t
  clear hZ2
  obtain ⟨n, hn⟩ : ∃ n, w.heap.size = n := ⟨_, rfl⟩
  have HN : Hid (w.heap.size = n) := hn
  have HS1 : Hid (Rp ((w.alloc (.cells V.toArray 43)).alloc (.cells Z2 22)) n 0 V ∧ Ao w.heap.size ((w.alloc (.cells V.toArray 43)).alloc (.cells Z2 22)) (n + 1) 32 ∧ Below w.heap.size w ((w.alloc (.cells V.toArray 43)).alloc (.cells Z2 22))) := by
    have h := HS.out
    rw [HN.out] at h
    show _ ∧ _
    rw [HN.out]
    exact h
  clear HS
  go_enter Try.func45, Try.ntmps45
  go_wp2_with (first
    | (refine wpList_load_mid rfl 43 (.tmp 1) rfl n 0 rfl V _ HS1.out.1.1 Try.underlying43 rfl LV.out.i ?_)
    | (go_at_call 29; refine (ci _).mono ?_; rintro e' w1 ⟨rfl, hb1⟩; have HR1 := (show Hid (Rp w1 n 0 V) from HS1.out.1.below hb1); have HA1 := (show Hid (Ao w.heap.size w1 (n + 1) 32) from HS1.out.2.1.below hb1); have HB1 := (show Hid (Below w.heap.size w w1) from HS1.out.2.2.trans (hb1.mono HS1.out.2.2.size)); clear hb1 ci HS1)
    | (refine wpList_load_mid rfl 22 (.tmp 10) rfl n 32 rfl Y _ (HPX.out HR1.out.1).2 Try.underlying22 rfl LY.out.i ?_)
    | (go_at_call 22; refine (cy _).mono ?_; rintro e' w2 ⟨rfl, hb2⟩; have HR2 := (show Hid (Rp w2 n 0 V) from HR1.out.below hb2); have HA2 := (show Hid (Ao w.heap.size w2 (n + 1) 32) from HA1.out.below hb2); have HB2 := (show Hid (Below w.heap.size w w2) from HB1.out.trans (hb2.mono HB1.out.size)); clear hb2 cy HR1 HA1 HB1)
    | (refine wpList_store_mid rfl 22 (.tmp 4) (.tmp 12) rfl w2.heap.size 0 R.toArray rfl rfl (HLT.out _) LR.out.j LR.out.o ?_; simp only [Act.put]))
  have hb3 : Below w2.heap.size w2 ((w2.alloc (.cells Z2 22)).setCells w2.heap.size 0 R) := below_setCells ((Below.refl _ _).alloc (Nat.le_refl _) _) (Nat.le_refl _)
  have HC3 : Hid _ := HCN.out w2 HB2.out
  have HR3 := (show Hid (Rp ((w2.alloc (.cells Z2 22)).setCells w2.heap.size 0 R) n 0 V) from HR2.out.below hb3)
  have HA3 := (show Hid (Ao w.heap.size ((w2.alloc (.cells Z2 22)).setCells w2.heap.size 0 R) (n + 1) 32) from HA2.out.below hb3)
  have HNE : Hid (w2.heap.size ≠ n + 1) := by have := HA2.out.2.1; show _ ≠ _; omega
  obtain ⟨k, hk⟩ : ∃ k, w2.heap.size = k := ⟨_, rfl⟩
  rw [hk] at HC3 HNE
  rw [hk] at HR3 HA3 ⊢
  obtain ⟨w3, hw3⟩ : ∃ v, (w2.alloc (.cells Z2 22)).setCells k 0 R = v := ⟨_, rfl⟩
  rw [hw3] at HC3 HR3 HA3 ⊢
  clear hk hw3 hb3 HR2 HA2 HB2 HCN
  have pk := HC3.out.c 31 (by decide)
  rw [HB31.out] at pk
  have q31 : ∀ x : Cl w3.heap.size w3, x.u.cell? ⟨k, 31, none⟩ = some (.int .u8 (b31 : Int)) := fun x => x.cell pk HC3.out.l.2
  have HQX : Hid (∀ w', (∃ x : Cl w3.heap.size w3, w' = x.u) → w'.rangeAt n 0 X) := fun w' h => (HPX.out (HR3.out.cl w' h)).1
  have hne := Cl.ne w3.heap.size w3
  clear pk
  apply region_cl_tail (N := w3.heap.size) (W := w3) 10 10 (by kernel_rfl) (Below.refl _ _)
  case hl => simp only [List.take_succ_cons, List.take_zero]; rfl
  case ht => simp only [List.drop_succ_cons, List.drop_zero]; rfl
  case hB => kernel_rfl
  case hT => kernel_rfl
  case h =>
    go_big_quiet_step (fail)
    go_big_quiet_step (fail)
    go_big_quiet_step (fail)
    go_big_quiet_want
    refine quiet_load 22 _ rfl n 0 rfl X _ HQX.out Try.underlying22 rfl LX.out.i ?_
    simp only [Act.put, List.setIfInBounds_toArray, List.set_cons_zero, List.set_cons_succ]
    go_big_quiet_on
    go_big_quiet_step ((go_at_call 22; exact cl_of (cx _) (Nat.le_refl _)))
    repeat (go_big_quiet_step (fail))
    refine wpQuiet_nil ?_
    rintro _ ⟨xq, rfl⟩
    have hb := xq.h
    have HC4 := (show Hid (Cs .u8 32 w.heap.size w xq.u k B) from HC3.out.below hb)
    have HA4 := (show Hid (Ao w.heap.size xq.u (n + 1) 32) from HA3.out.below hb)
    obtain ⟨w5, hw5⟩ : ∃ v, xq.u = v := ⟨_, rfl⟩
    rw [hw5] at HC4 HA4 ⊢
    clear hw5 q31 hb xq hne HQX HC3 HA3 HR3 cx hix f1 f2 f3 f4
    have r0 := HC4.out.c 31 (by decide)
    have r1 := (HC4.out.t 31 (by decide)).2
    simp only [Nat.zero_add] at r1
    have HC5 := (show Hid (Cs .u8 32 w.heap.size w (w5.setCell ⟨k, 31, none⟩ (.int .u8 (v : Int))) k (upd B 31 v)) from HC4.out.set (by decide) v)
    have HE5 := (show Hid ((w5.setCell ⟨k, 31, none⟩ (.int .u8 (v : Int))).rangeAt k 0 E) from HRA.out HC5.out HEN.out)
    have HA5 : Hid (Ao w.heap.size (w5.setCell ⟨k, 31, none⟩ (.int .u8 (v : Int))) (n + 1) 32) := ⟨HA4.out.1, by simpa using HA4.out.2.1, World.there_setCells (vs := [.int .u8 (v : Int)]) HA4.out.2.2 k 31⟩
    have HT5 := (show Hid _ from LE.out.s HA5.out)
    clear HC4 HA4 HRA HEN
    go_wp2_with (first
      | (refine wpList_load_mid rfl 22 (.tmp 4) rfl k 0 rfl E _ HE5.out Try.underlying22 rfl LE.out.i ?_)
      | (refine wpList_store_mid rfl 22 (.tmp 2) (.tmp 23) rfl (n + 1) 0 E.toArray rfl rfl HT5.out LE.out.j LE.out.o ?_; simp only))
    exact bodyPost_ret (res_ct Try.results45 rfl (end22 LE.out HA5.out) rfl) rfl ⟨rfl, below_setCells HC5.out.b HA5.out.1⟩
end Fd
end Go.Proofs.Ytgdekigdbbldoaa

namespace Go.Proofs.Ytgdekigdbbldoaa
open Go.RowKit
namespace Fd
namespace Cv
/-- A number times a point, by the number's bits from the highest on: n bits of them. -/
def ptm (e : Nat) (P : Pt) : Nat → Pt
  | 0 => ⟨0, 1⟩
  | n + 1 => if e / 2 ^ (255 - n) % 2 = 1 then add (add (ptm e P n) (ptm e P n)) P else add (ptm e P n) (ptm e P n)
theorem nought_on : (⟨0, 1⟩ : Pt).on := by
  show (1 : F) * 1 - 0 * 0 = 1 + D * (0 * 0) * (1 * 1)
  grind
theorem ptm_on (e : Nat) {P : Pt} (hP : P.on) : ∀ n, (ptm e P n).on
  | 0 => nought_on
  | n + 1 => by
    have h := ptm_on e hP n
    unfold ptm
    split
    · exact add_on (add_on h h) hP
    · exact add_on h h
theorem nought_is : Is fNought ⟨0, 1⟩ := by
  have h := one_is 0 cone
  rw [tf_zero, tf_one] at h
  exact h
theorem tm_is (e : Nat) {a : Frac} {P : Pt} (ha : Is a P) (hP : P.on) : ∀ n, Is (tmR e a n) (ptm e P n)
  | 0 => nought_is
  | n + 1 => by
    have h := tm_is e ha hP n
    have ho := ptm_on e hP n
    unfold tmR ptm
    split
    · exact sum_is (twice_is h ho) ha (add_on ho ho) hP
    · exact twice_is h ho
theorem big (a : F) : a.val < 115792089237316195423570985008687907853269984665640564039457584007913129639936 := Nat.lt_trans a.isLt (by decide)
/-- Add, in terms of points. -/
theorem add_pt (x y x' y' : Nat) (w : World) (hx : x < 115792089237316195423570985008687907853269984665640564039457584007913129639936) (hy : y < 115792089237316195423570985008687907853269984665640564039457584007913129639936) (hx' : x' < 115792089237316195423570985008687907853269984665640564039457584007913129639936) (hy' : y' < 115792089237316195423570985008687907853269984665640564039457584007913129639936) (hon : OnC x y) (hon' : OnC x' y') :
    Calls Try.prog 35 #[pv x y, pv x' y'] w fun e w' => e = .returned (.tuple #[pv (add ⟨tf x, tf y⟩ ⟨tf x', tf y'⟩).x.val (add ⟨tf x, tf y⟩ ⟨tf x', tf y'⟩).y.val, .nilIface]) ∧ Below w.heap.size w w' := by
  have h := div_is (sum_is (one_is x y) (one_is x' y') ((onC_on x y).1 hon) ((onC_on x' y').1 hon'))
  have h2 := add_ok x y x' y' w hx hy hx' hy' hon hon' _ rfl h.2.2
  rw [h.1, h.2.1] at h2
  exact h2
end Cv
open Rg Cv

/-- Boxes of 32 bytes and of a point, and the answer's, a point. -/
theorem start22_43p (w : World) (B V : List Value) :
    let e := ((w.alloc (.cells B.toArray 22)).alloc (.cells V.toArray 43)).alloc (.cells z43 43)
    Rp e w.heap.size 0 B ∧ Rp e (w.heap.size + 1) 0 V ∧ Ao w.heap.size e (w.heap.size + 2) 64 ∧ Below w.heap.size w e := by
  intro e
  have s2 : ((w.alloc (.cells B.toArray 22)).alloc (.cells V.toArray 43)).heap.size = w.heap.size + 2 := by rw [size_alloc, size_alloc]
  have s3 : e.heap.size = w.heap.size + 3 := by show (World.alloc _ _).heap.size = _; rw [size_alloc, s2]
  have ht := there43 ((w.alloc (.cells B.toArray 22)).alloc (.cells V.toArray 43))
  rw [s2] at ht
  exact ⟨⟨World.rangeAt_alloc (World.rangeAt_alloc (Rg.range_new w B 22) _) _, by omega⟩, ⟨World.rangeAt_alloc (range_new1 w _ V 43) _, by omega⟩, ⟨by omega, by omega, ht⟩, (((Below.refl _ _).alloc (Nat.le_refl _) _).alloc (by simp) _).alloc (by rw [s2]; omega) _⟩
set_option maxHeartbeats 400000 in
set_option maxRecDepth 4000 in
theorem times_no (e x y : Nat) (w : World) (hx : x < 115792089237316195423570985008687907853269984665640564039457584007913129639936) (hy : y < 115792089237316195423570985008687907853269984665640564039457584007913129639936) (hon : ¬ OnC x y) :
    Calls Try.prog 41 #[bv e, pv x y] w fun e w' => e = .returned (.tuple #[pv 0 0, .iface 35 (.int .i64 29)]) ∧ Below w.heap.size w w' := by
  have ci := fun W => is_any x y W hx hy
  rw [decide_eq_false hon] at ci
  unfold pv at ci ⊢
  unfold bv
  have LV : Hid (L64 (bvc x ++ bvc y)) := l64 x y
  have LE : Hid (L64 (bvc 0 ++ bvc 0)) := l64 0 0
  have HBN : Hid (Try.prog.built 43 [] = some (bvc 0 ++ bvc 0).toArray) := build_none
  have HS := (show Hid _ from start22_43p w (bvc e) (bvc x ++ bvc y))
  obtain ⟨V, hV⟩ : ∃ V, bvc x ++ bvc y = V := ⟨_, rfl⟩
  obtain ⟨E, hE⟩ : ∃ V, bvc 0 ++ bvc 0 = V := ⟨_, rfl⟩
  obtain ⟨K, hK⟩ : ∃ V, bvc e = V := ⟨_, rfl⟩
  rw [hV] at LV ci HS ⊢
  rw [hE] at LE HBN ⊢
  rw [hK] at HS ⊢
  clear hV hE hK hx hy hon x y
  have hz2 := zero43
  obtain ⟨Z2, hZ2⟩ : ∃ Z, z43 = Z := ⟨_, rfl⟩
  rw [hZ2] at hz2 HS
  clear hZ2
  obtain ⟨n, hn⟩ : ∃ n, w.heap.size = n := ⟨_, rfl⟩
  have HN : Hid (w.heap.size = n) := hn
  obtain ⟨we, hwe⟩ : ∃ v, ((w.alloc (.cells K.toArray 22)).alloc (.cells V.toArray 43)).alloc (.cells Z2 43) = v := ⟨_, rfl⟩
  have BV : Hid (Rp we (n + 1) 0 V) := by have h := HS.out.2.1; rw [hwe, HN.out] at h; exact h
  have AO : Hid (Ao w.heap.size we (n + 2) 64) := by have h := HS.out.2.2.1; rw [hwe] at h; show Ao _ _ _ _; rw [HN.out] at h ⊢; exact h
  have HBE : Hid (Below w.heap.size w we) := by have h := HS.out.2.2.2; rw [hwe] at h; exact h
  clear HS
  go_enter Try.func41, Try.ntmps41
  go_wp2_with (first
    | (refine wpList_load_mid rfl 43 (.tmp 3) rfl (n + 1) 0 rfl V _ BV.out.1 Try.underlying43 rfl LV.out.i ?_)
    | (go_at_call 29; refine (ci _).mono ?_; rintro e' w1 ⟨rfl, hb1⟩; have HA1 := (show Hid (Ao w.heap.size w1 (n + 2) 64) from AO.out.below hb1); have HB1 := (show Hid (Below w.heap.size w w1) from HBE.out.trans (hb1.mono HBE.out.size)); have HT1 := (show Hid _ from LE.out.t HA1.out); clear hb1 ci)
    | (refine build_to rfl 43 _ rfl (some 9) rfl [] (by kernel_rfl) E HBN.out ?_; simp only [Act.put, List.setIfInBounds_toArray, List.set_cons_zero, List.set_cons_succ])
    | (refine wpList_store_mid rfl 43 (.tmp 4) (.tmp 9) rfl (n + 2) 0 E.toArray rfl rfl HT1.out LE.out.j LE.out.o ?_; simp only))
  exact bodyPost_ret (res_ct Try.results41 rfl (end43 LE.out HA1.out) rfl) rfl ⟨rfl, below_setCells HB1.out HA1.out.1⟩
set_option maxHeartbeats 400000 in
set_option maxRecDepth 4000 in
theorem times_pt (e x y : Nat) (w : World) (hx : x < 115792089237316195423570985008687907853269984665640564039457584007913129639936) (hy : y < 115792089237316195423570985008687907853269984665640564039457584007913129639936) (hon : OnC x y) :
    Calls Try.prog 41 #[bv e, pv x y] w fun e' w' => e' = .returned (.tuple #[pv (ptm e ⟨tf x, tf y⟩ 256).x.val (ptm e ⟨tf x, tf y⟩ 256).y.val, .nilIface]) ∧ Below w.heap.size w w' := by
  have ci := fun W => is_any x y W hx hy
  rw [decide_eq_true hon] at ci
  have hd := div_is (tm_is e (one_is x y) ((onC_on x y).1 hon) 256)
  have co : ∀ W : World, Calls Try.prog 82 #[pv x y] W fun e w' => e = .returned (.agg (Frac.cs ⟨x, y, cone⟩).toArray) ∧ Below W.heap.size W w' := fun W => overOne_any x y W
  have ct := fun W => times_any e ⟨x, y, cone⟩ ⟨hx, hy, cone_lt⟩ W
  have cd : ∀ W : World, Calls Try.prog 80 #[.agg (tmR e ⟨x, y, cone⟩ 256).cs.toArray] W fun e' w' => e' = .returned (pv (ptm e ⟨tf x, tf y⟩ 256).x.val (ptm e ⟨tf x, tf y⟩ 256).y.val) ∧ Below W.heap.size W w' := fun W => by
    have h := divided_frac (tmR e ⟨x, y, cone⟩ 256) (tmR_lt _ _ _) hd.2.2 W
    rw [hd.1, hd.2.1] at h
    exact h
  obtain ⟨px, hpx⟩ : ∃ v, (ptm e ⟨tf x, tf y⟩ 256).x.val = v := ⟨_, rfl⟩
  obtain ⟨py, hpy⟩ : ∃ v, (ptm e ⟨tf x, tf y⟩ 256).y.val = v := ⟨_, rfl⟩
  rw [hpx, hpy] at cd ⊢
  unfold pv at ci co cd ⊢
  unfold bv at ct ⊢
  have LK : Hid (L32 (bvc e)) := l32 e
  have LV : Hid (L64 (bvc x ++ bvc y)) := l64 x y
  have LE : Hid (L64 (bvc px ++ bvc py)) := l64 _ _
  have HS := (show Hid _ from start22_43p w (bvc e) (bvc x ++ bvc y))
  obtain ⟨f1, hf1⟩ : ∃ V, (Frac.cs ⟨x, y, cone⟩).toArray = V := ⟨_, rfl⟩
  obtain ⟨f2, hf2⟩ : ∃ V, (tmR e ⟨x, y, cone⟩ 256).cs.toArray = V := ⟨_, rfl⟩
  rw [hf1] at co ct
  rw [hf2] at ct cd
  obtain ⟨V, hV⟩ : ∃ V, bvc x ++ bvc y = V := ⟨_, rfl⟩
  obtain ⟨E, hE⟩ : ∃ V, bvc px ++ bvc py = V := ⟨_, rfl⟩
  obtain ⟨K, hK⟩ : ∃ V, bvc e = V := ⟨_, rfl⟩
  rw [hV] at LV ci co HS ⊢
  rw [hE] at LE cd ⊢
  rw [hK] at LK ct HS ⊢
  clear hV hE hK hf1 hf2 hpx hpy hd hx hy hon x y
  have hz2 := zero43
  obtain ⟨Z2, hZ2⟩ : ∃ Z, z43 = Z := ⟨_, rfl⟩
  rw [hZ2] at hz2 HS
  clear hZ2
  obtain ⟨n, hn⟩ : ∃ n, w.heap.size = n := ⟨_, rfl⟩
  have HN : Hid (w.heap.size = n) := hn
  obtain ⟨we, hwe⟩ : ∃ v, ((w.alloc (.cells K.toArray 22)).alloc (.cells V.toArray 43)).alloc (.cells Z2 43) = v := ⟨_, rfl⟩
  have BK : Hid (Rp we n 0 K) := by have h := HS.out.1; rw [hwe, HN.out] at h; exact h
  have BV : Hid (Rp we (n + 1) 0 V) := by have h := HS.out.2.1; rw [hwe, HN.out] at h; exact h
  have AO : Hid (Ao w.heap.size we (n + 2) 64) := by have h := HS.out.2.2.1; rw [hwe] at h; show Ao _ _ _ _; rw [HN.out] at h ⊢; exact h
  have HBE : Hid (Below w.heap.size w we) := by have h := HS.out.2.2.2; rw [hwe] at h; exact h
  clear HS
  go_enter Try.func41, Try.ntmps41
  go_wp2_with (first
    | (refine wpList_load_mid rfl 43 (.tmp 3) rfl (n + 1) 0 rfl V _ BV.out.1 Try.underlying43 rfl LV.out.i ?_)
    | (go_at_call 29; refine (ci _).mono ?_; rintro e' w1 ⟨rfl, hb1⟩; have HK1 := (show Hid (Rp w1 n 0 K) from BK.out.below hb1); have HV1 := (show Hid (Rp w1 (n + 1) 0 V) from BV.out.below hb1); have HA1 := (show Hid (Ao w.heap.size w1 (n + 2) 64) from AO.out.below hb1); have HB1 := (show Hid (Below w.heap.size w w1) from HBE.out.trans (hb1.mono HBE.out.size)); clear hb1 ci))
  have HX := (show Hid _ from HK1.out.cl)
  have HY := (show Hid _ from HV1.out.cl)
  have hne := Cl.ne w1.heap.size w1
  apply region_cl_tail (N := w1.heap.size) (W := w1) 5 5 (by kernel_rfl) (Below.refl _ _)
  case hl => simp only [List.take_succ_cons, List.take_zero]; rfl
  case ht => simp only [List.drop_succ_cons, List.drop_zero]; rfl
  case hB => kernel_rfl
  case hT => kernel_rfl
  case h =>
    go_big_quiet_want
    refine quiet_load 22 _ rfl n 0 rfl K _ HX.out Try.underlying22 rfl LK.out.i ?_
    simp only [Act.put, List.setIfInBounds_toArray, List.set_cons_zero, List.set_cons_succ]
    go_big_quiet_on
    go_big_quiet_want
    refine quiet_load 43 _ rfl (n + 1) 0 rfl V _ HY.out Try.underlying43 rfl LV.out.i ?_
    simp only [Act.put, List.setIfInBounds_toArray, List.set_cons_zero, List.set_cons_succ]
    go_big_quiet_on
    go_big_quiet_step ((go_at_call 82; exact cl_of (co _) (Nat.le_refl _)))
    go_big_quiet_step ((go_at_call 84; exact cl_of (ct _) (Nat.le_refl _)))
    go_big_quiet_step ((go_at_call 80; exact cl_of (cd _) (Nat.le_refl _)))
    refine wpQuiet_nil ?_
    rintro _ ⟨xq, rfl⟩
    have hb := xq.h
    have HA3 := (show Hid (Ao w.heap.size xq.u (n + 2) 64) from HA1.out.below hb)
    have HB3 := (show Hid (Below w.heap.size w xq.u) from HB1.out.trans (hb.mono HB1.out.size))
    have HT3 := (show Hid _ from LE.out.t HA3.out)
    clear hb
    go_wp2_with (refine wpList_store_mid rfl 43 (.tmp 4) (.tmp 15) rfl (n + 2) 0 E.toArray rfl rfl HT3.out LE.out.j LE.out.o ?_; simp only)
    exact bodyPost_ret (res_ct Try.results41 rfl (end43 LE.out HA3.out) rfl) rfl ⟨rfl, below_setCells HB3.out HA3.out.1⟩
end Fd
end Go.Proofs.Ytgdekigdbbldoaa
