/- What Decode does: a contract, by walking its text. A point of the curve comes back from its bytes. -/
import Derived.Test.YtgdekigdbbldoaaG45
import Derived.Test.YtgdekigdbbldoaaG44
import Derived.Test.YtgdekigdbbldoaaG37
namespace Go.Proofs.Ytgdekigdbbldoaa
open Go.RowKit
namespace Fd
open Rg Pratt

/-- The numbers of 32 bytes: the highest bit, and the rest. -/
theorem top_bit (b c o : Nat) (hc : b % 57896044618658097711785492504343953926634992332820282019728792003956564819968 = c) (ho : b / 57896044618658097711785492504343953926634992332820282019728792003956564819968 = o) (hb : b < 115792089237316195423570985008687907853269984665640564039457584007913129639936) : by_ b 31 / 128 = o ∧ by_ b 31 % 128 < 256 ∧ ∀ j, j < 32 → upd (by_ b) 31 (by_ b 31 % 128) j = by_ c j := by
  have e : ∀ x, by_ x 31 = x / 452312848583266388373324160190187140051835877600158453279131187530910662656 % 256 := fun _ => rfl
  refine ⟨by rw [e]; omega, by omega, fun j hj => ?_⟩
  have hcl : c < 57896044618658097711785492504343953926634992332820282019728792003956564819968 := by omega
  have h := by_enc c o j hcl (by omega) hj
  have e2 : c + 57896044618658097711785492504343953926634992332820282019728792003956564819968 * o = b := by omega
  rw [e2] at h
  unfold upd at h ⊢
  by_cases hj2 : j = 31
  · rw [if_pos hj2, hj2, e, e]
    omega
  · rw [if_neg hj2] at h ⊢
    exact h.symm
theorem u8_and127 (x : Nat) (h : x < 256) : bits .and .u8 (x : Int) 127 = ((x % 128 : Nat) : Int) := by
  have e1 := Nat.and_two_pow_sub_one_eq_mod x 7
  have e0 : 2 ^ 7 - 1 = 127 := by decide
  rw [e0] at e1
  have e2 : x % 2 ^ 7 = x % 128 := rfl
  rw [← e2, ← e1]
  exact u8_and_nat x 127 h (by decide)
/-- The box of 32 bytes and the answer's, a point: cell by cell. -/
theorem start22c (w : World) (b : Nat) :
    let e := (w.alloc (.cells (bvc b).toArray 22)).alloc (.cells z43 43)
    Cs .u8 32 w.heap.size w e w.heap.size (by_ b) ∧ Ao w.heap.size e (w.heap.size + 1) 64 := by
  intro e
  have h := start22p w (bvc b)
  refine ⟨⟨h.2.2, fun j hj => ?_, ?_, Nat.le_refl _, h.1.2⟩, h.2.1⟩
  · have h2 := h.1.1 j _ (bvc_at b j hj)
    rwa [Nat.zero_add] at h2
  · exact World.there_alloc (there_new w (bvc b).toArray 22 (m := 32) fun j hj => by simp [bvc_at b j hj]) _
theorem Ao.set1 {N : Nat} {w : World} {b n g k : Nat} (h : Ao N w b n) (v : Value) : Ao N (w.setCell ⟨g, k, none⟩ v) b n := ⟨h.1, by simpa using h.2.1, World.there_setCells (vs := [v]) h.2.2 g k⟩
theorem eq22_same' (x : Nat) (hx : x < 115792089237316195423570985008687907853269984665640564039457584007913129639936) (W : World) : (Op.equalIn 10000 22 (.agg (bvc x).toArray) (.agg (bvc x).toArray)).run Try.prog W = .ok true W := by have h := eq22 x x W hx hx; rwa [decide_eq_true rfl] at h
theorem evn_lt (a : Nat) (h : a < p) : evn a < 115792089237316195423570985008687907853269984665640564039457584007913129639936 := by
  unfold evn
  split
  · exact Nat.lt_trans (Nat.mod_lt _ (by decide)) (by decide : p < _)
  · exact Nat.lt_trans h (by decide)
set_option maxHeartbeats 4000000 in
set_option maxRecDepth 8000 in
theorem decode_a (b c o : Nat) (w : World) (hb : b < 115792089237316195423570985008687907853269984665640564039457584007913129639936) (hc : b % 57896044618658097711785492504343953926634992332820282019728792003956564819968 = c) (ho : b / 57896044618658097711785492504343953926634992332820282019728792003956564819968 = o) (hp : ¬ c < p) :
    Calls Try.prog 43 #[bv b] w fun e w' => e = .returned (.tuple #[pv 0 0, .iface 35 (.int .i64 29)]) ∧ Below w.heap.size w w' := by
  obtain ⟨t1, t2, t3⟩ := top_bit b c o hc ho hb
  have lc : c < 115792089237316195423570985008687907853269984665640564039457584007913129639936 := by omega
  have ol : o ≤ 1 := by omega
  have hbl : by_ b 31 < 256 := Nat.mod_lt _ (by decide)
  have x2 := u8_and127 (by_ b 31) hbl
  have x1 : ((by_ b 31 : Nat) : Int) / 128 = (o : Int) := by omega
  have HEN : Hid (∀ j, j < 32 → upd (by_ b) 31 (by_ b 31 % 128) j = by_ c j) := t3
  have cr : ∀ W : World, Calls Try.prog 22 #[bv c] W fun e w' => e = .returned (bv (c % p)) ∧ Below W.heap.size W w' := fun W => reduce_any c W lc
  have qr : ∀ W : World, (Op.equalIn 10000 22 (.agg (bvc (c % p)).toArray) (.agg (bvc c).toArray)).run Try.prog W = .ok false W := fun W => by have h := eq22 (c % p) c W (mod_256 c) lc; rwa [decide_eq_false (by have := mod_p c; omega)] at h
  have en := eq_nil
  have ex := eq_err_nil
  have LC : Hid (L32 (bvc c)) := l32 c
  have HRA : Hid (∀ {W : World} {g : Nat} {M : Nat → Nat}, Cs .u8 32 w.heap.size w W g M → (∀ j, j < 32 → M j = by_ c j) → W.rangeAt g 0 (bvc c)) := fun h1 h2 => h1.range _ h2
  have HS := (show Hid _ from start22c w b)
  have LE : Hid (L64 (bvc 0 ++ bvc 0)) := l64 _ _
  have HBN : Hid (Try.prog.built 43 [] = some (bvc 0 ++ bvc 0).toArray) := build_none
  unfold pv
  unfold bv at cr ⊢
  obtain ⟨E, hE⟩ : ∃ X, bvc 0 ++ bvc 0 = X := ⟨_, rfl⟩
  rw [hE] at LE HBN ⊢
  clear hE
  obtain ⟨C, hC⟩ : ∃ X, bvc c = X := ⟨_, rfl⟩
  rw [hC] at LC HRA cr qr
  obtain ⟨RC, hRC⟩ : ∃ X, bvc (c % p) = X := ⟨_, rfl⟩
  rw [hRC] at cr qr
  clear hRC
  obtain ⟨D, hD⟩ : ∃ X, bvc b = X := ⟨_, rfl⟩
  rw [hD] at HS ⊢
  obtain ⟨B, hB⟩ : ∃ X, by_ b = X := ⟨_, rfl⟩
  rw [hB] at HS x1 x2 HEN
  obtain ⟨b31, hb3⟩ : ∃ X, B 31 = X := ⟨_, rfl⟩
  have HB31 : Hid (B 31 = b31) := hb3
  rw [hb3] at x1 x2 HEN
  obtain ⟨m31, hm3⟩ : ∃ X, b31 % 128 = X := ⟨_, rfl⟩
  rw [hm3] at x2 HEN
  clear hC hD hB hb3 hm3 t1 t2 t3 hbl hc ho hb lc hp
  have hz43 := zero43
  have HBN43 : Hid _ := box43
  have HTH43 : Hid _ := th43
  obtain ⟨Z43, hZ43⟩ : ∃ Z, z43 = Z := ⟨_, rfl⟩
  rw [hZ43] at hz43 HS HBN43 HTH43
  clear hZ43
  obtain ⟨n, hn⟩ : ∃ n, w.heap.size = n := ⟨_, rfl⟩
  have HN : Hid (w.heap.size = n) := hn
  obtain ⟨we, hwe⟩ : ∃ v, (w.alloc (.cells D.toArray 22)).alloc (.cells Z43 43) = v := ⟨_, rfl⟩
  have HC0 : Hid (Cs .u8 32 w.heap.size w we n B) := by have h := HS.out.1; rw [hwe] at h; show Cs _ _ _ _ _ _ _; rw [HN.out] at h ⊢; exact h
  have AO : Hid (Ao w.heap.size we (n + 1) 64) := by have h := HS.out.2; rw [hwe] at h; show Ao _ _ _ _; rw [HN.out] at h ⊢; exact h
  clear HS
  have r0 := HC0.out.c 31 (by decide)
  rw [HB31.out] at r0
  have r1 := (HC0.out.t 31 (by decide)).2
  simp only [Nat.zero_add] at r1
  have HC1 := (show Hid (Cs .u8 32 w.heap.size w (we.setCell ⟨n, 31, none⟩ (.int .u8 (m31 : Int))) n (upd B 31 m31)) from HC0.out.set (by decide) m31)
  have BC := (show Hid (Rp (we.setCell ⟨n, 31, none⟩ (.int .u8 (m31 : Int))) n 0 C) from ⟨HRA.out HC1.out HEN.out, HC1.out.l.2⟩)
  have AO1 := (show Hid (Ao w.heap.size (we.setCell ⟨n, 31, none⟩ (.int .u8 (m31 : Int))) (n + 1) 64) from AO.out.set1 _)
  have HBE := (show Hid (Below w.heap.size w (we.setCell ⟨n, 31, none⟩ (.int .u8 (m31 : Int)))) from HC1.out.b)
  clear HC0 AO HC1 HRA HEN HB31
  go_enter Try.func43, Try.ntmps43
  go_wp2
  clear hwe r0 r1
  obtain ⟨ws, hws⟩ : ∃ v, we.setCell ⟨n, 31, none⟩ (.int .u8 (m31 : Int)) = v := ⟨_, rfl⟩
  rw [hws] at BC AO1 HBE ⊢
  clear hws
  have BC_0 := BC
  have AO1_0 := AO1
  have HB_0 := (show Hid (Below ws.heap.size ws ws) from Below.refl _ _)
  have TK_0 := (show Hid True from trivial)
  clear BC AO1
  have HQBC := (show Hid _ from BC_0.out.cl)
  have hne := Cl.ne ws.heap.size ws
  refine region_cl (N := ws.heap.size) (W := ws) (by kernel_rfl) (by kernel_rfl) (Below.refl _ _) ?_
  go_big_quiet_want
  refine quiet_load 22 _ rfl n 0 rfl C _ HQBC.out Try.underlying22 rfl LC.out.i ?_
  simp only [Act.put, List.setIfInBounds_toArray, List.set_cons_zero, List.set_cons_succ]
  go_big_quiet_on
  go_big_quiet_step ((go_at_call 22; exact cl_of (cr _) (Nat.le_refl _)))
  go_big_quiet_want
  refine quiet_load 22 _ rfl n 0 rfl C _ HQBC.out Try.underlying22 rfl LC.out.i ?_
  simp only [Act.put, List.setIfInBounds_toArray, List.set_cons_zero, List.set_cons_succ]
  go_big_quiet_on
  go_big_quiet_step (fail)
  refine wpQuiet_nil ?_
  rintro _ ⟨xq, rfl⟩
  have hb := xq.h
  have HBF := (show Hid (Below ws.heap.size ws xq.u) from HB_0.out.trans (hb.mono HB_0.out.size))
  have BC := (show Hid (Rp xq.u n 0 C) from BC_0.out.below hb)
  have AO1 := (show Hid (Ao w.heap.size xq.u (n + 1) 64) from AO1_0.out.below hb)
  have HBQ := (show Hid (Below w.heap.size w xq.u) from HBE.out.trans (HBF.out.mono HBE.out.size))
  obtain ⟨wz, hwz⟩ : ∃ v, xq.u = v := ⟨_, rfl⟩
  rw [hwz] at BC AO1 HBQ ⊢
  clear hwz hb xq hne HQBC BC_0 AO1_0 HB_0 HBF HBE TK_0
  have BC_z0 := BC
  have AO1_z0 := AO1
  have HB_z0 := (show Hid (Below wz.heap.size wz wz) from Below.refl _ _)
  have TK_z0 := (show Hid True from trivial)
  clear BC AO1
  go_wp2_with (first
    | (refine wpList_load_mid rfl 22 (.tmp 1) rfl n 0 rfl C _ BC_z0.out.1 Try.underlying22 rfl LC.out.i ?_)
    | (refine build_to rfl 43 _ rfl (some 20) rfl [] (by kernel_rfl) E HBN.out ?_; simp only [Act.put, List.setIfInBounds_toArray, List.set_cons_zero, List.set_cons_succ])
    | (refine wpList_store_mid rfl 43 (.tmp 2) (.tmp 20) rfl (n + 1) 0 E.toArray rfl rfl (LE.out.t AO1_z0.out) LE.out.j LE.out.o ?_; simp only))
  exact bodyPost_ret (res_ct Try.results43 rfl (end43 LE.out AO1_z0.out) rfl) rfl ⟨rfl, below_setCells (HBQ.out.trans (HB_z0.out.mono HBQ.out.size)) AO1_z0.out.1⟩
set_option maxHeartbeats 4000000 in
set_option maxRecDepth 8000 in
theorem decode_b (b c o : Nat) (w : World) (hb : b < 115792089237316195423570985008687907853269984665640564039457584007913129639936) (hc : b % 57896044618658097711785492504343953926634992332820282019728792003956564819968 = c) (ho : b / 57896044618658097711785492504343953926634992332820282019728792003956564819968 = o) (hp : c < p) (hr : ¬ rt (wq c) * rt (wq c) % p = wq c) :
    Calls Try.prog 43 #[bv b] w fun e w' => e = .returned (.tuple #[pv 0 0, .iface 35 (.int .i64 29)]) ∧ Below w.heap.size w w' := by
  obtain ⟨t1, t2, t3⟩ := top_bit b c o hc ho hb
  have lc : c < 115792089237316195423570985008687907853269984665640564039457584007913129639936 := by omega
  have ol : o ≤ 1 := by omega
  have hbl : by_ b 31 < 256 := Nat.mod_lt _ (by decide)
  have x2 := u8_and127 (by_ b 31) hbl
  have x1 : ((by_ b 31 : Nat) : Int) / 128 = (o : Int) := by omega
  have HEN : Hid (∀ j, j < 32 → upd (by_ b) 31 (by_ b 31 % 128) j = by_ c j) := t3
  have cr : ∀ W : World, Calls Try.prog 22 #[bv c] W fun e w' => e = .returned (bv (c % p)) ∧ Below W.heap.size W w' := fun W => reduce_any c W lc
  rw [Nat.mod_eq_of_lt hp] at cr
  have qr := eq22_same' c lc
  have ce : ∀ W : World, Calls Try.prog 86 #[bv c] W fun e w' => e = .returned (.tuple #[pv 0 0, .iface 35 (.int .i64 29)]) ∧ Below W.heap.size W w' := fun W => withEven_none c W lc hr
  have en := eq_nil
  have ex := eq_err_nil
  have LC : Hid (L32 (bvc c)) := l32 c
  have HRA : Hid (∀ {W : World} {g : Nat} {M : Nat → Nat}, Cs .u8 32 w.heap.size w W g M → (∀ j, j < 32 → M j = by_ c j) → W.rangeAt g 0 (bvc c)) := fun h1 h2 => h1.range _ h2
  have HS := (show Hid _ from start22c w b)
  have LE : Hid (L64 (bvc 0 ++ bvc 0)) := l64 _ _
  have LV : Hid (L64 (bvc 0 ++ bvc 0)) := l64 _ _
  unfold pv at ce ⊢
  unfold bv at cr ce ⊢
  obtain ⟨E, hE⟩ : ∃ X, bvc 0 ++ bvc 0 = X := ⟨_, rfl⟩
  rw [hE] at LE LV ce ⊢
  clear hE
  obtain ⟨C, hC⟩ : ∃ X, bvc c = X := ⟨_, rfl⟩
  rw [hC] at LC HRA cr qr ce
  obtain ⟨D, hD⟩ : ∃ X, bvc b = X := ⟨_, rfl⟩
  rw [hD] at HS ⊢
  obtain ⟨B, hB⟩ : ∃ X, by_ b = X := ⟨_, rfl⟩
  rw [hB] at HS x1 x2 HEN
  obtain ⟨b31, hb3⟩ : ∃ X, B 31 = X := ⟨_, rfl⟩
  have HB31 : Hid (B 31 = b31) := hb3
  rw [hb3] at x1 x2 HEN
  obtain ⟨m31, hm3⟩ : ∃ X, b31 % 128 = X := ⟨_, rfl⟩
  rw [hm3] at x2 HEN
  clear hC hD hB hb3 hm3 t1 t2 t3 hbl hc ho hb lc hp hr
  have hz43 := zero43
  have HBN43 : Hid _ := box43
  have HTH43 : Hid _ := th43
  obtain ⟨Z43, hZ43⟩ : ∃ Z, z43 = Z := ⟨_, rfl⟩
  rw [hZ43] at hz43 HS HBN43 HTH43
  clear hZ43
  obtain ⟨n, hn⟩ : ∃ n, w.heap.size = n := ⟨_, rfl⟩
  have HN : Hid (w.heap.size = n) := hn
  obtain ⟨we, hwe⟩ : ∃ v, (w.alloc (.cells D.toArray 22)).alloc (.cells Z43 43) = v := ⟨_, rfl⟩
  have HC0 : Hid (Cs .u8 32 w.heap.size w we n B) := by have h := HS.out.1; rw [hwe] at h; show Cs _ _ _ _ _ _ _; rw [HN.out] at h ⊢; exact h
  have AO : Hid (Ao w.heap.size we (n + 1) 64) := by have h := HS.out.2; rw [hwe] at h; show Ao _ _ _ _; rw [HN.out] at h ⊢; exact h
  clear HS
  have r0 := HC0.out.c 31 (by decide)
  rw [HB31.out] at r0
  have r1 := (HC0.out.t 31 (by decide)).2
  simp only [Nat.zero_add] at r1
  have HC1 := (show Hid (Cs .u8 32 w.heap.size w (we.setCell ⟨n, 31, none⟩ (.int .u8 (m31 : Int))) n (upd B 31 m31)) from HC0.out.set (by decide) m31)
  have BC := (show Hid (Rp (we.setCell ⟨n, 31, none⟩ (.int .u8 (m31 : Int))) n 0 C) from ⟨HRA.out HC1.out HEN.out, HC1.out.l.2⟩)
  have AO1 := (show Hid (Ao w.heap.size (we.setCell ⟨n, 31, none⟩ (.int .u8 (m31 : Int))) (n + 1) 64) from AO.out.set1 _)
  have HBE := (show Hid (Below w.heap.size w (we.setCell ⟨n, 31, none⟩ (.int .u8 (m31 : Int)))) from HC1.out.b)
  clear HC0 AO HC1 HRA HEN HB31
  go_enter Try.func43, Try.ntmps43
  go_wp2
  clear hwe r0 r1
  obtain ⟨ws, hws⟩ : ∃ v, we.setCell ⟨n, 31, none⟩ (.int .u8 (m31 : Int)) = v := ⟨_, rfl⟩
  rw [hws] at BC AO1 HBE ⊢
  clear hws
  have BC_0 := BC
  have AO1_0 := AO1
  have HB_0 := (show Hid (Below ws.heap.size ws ws) from Below.refl _ _)
  have TK_0 := (show Hid True from trivial)
  clear BC AO1
  have HQBC := (show Hid _ from BC_0.out.cl)
  have hne := Cl.ne ws.heap.size ws
  refine region_cl (N := ws.heap.size) (W := ws) (by kernel_rfl) (by kernel_rfl) (Below.refl _ _) ?_
  go_big_quiet_want
  refine quiet_load 22 _ rfl n 0 rfl C _ HQBC.out Try.underlying22 rfl LC.out.i ?_
  simp only [Act.put, List.setIfInBounds_toArray, List.set_cons_zero, List.set_cons_succ]
  go_big_quiet_on
  go_big_quiet_step ((go_at_call 22; exact cl_of (cr _) (Nat.le_refl _)))
  go_big_quiet_want
  refine quiet_load 22 _ rfl n 0 rfl C _ HQBC.out Try.underlying22 rfl LC.out.i ?_
  simp only [Act.put, List.setIfInBounds_toArray, List.set_cons_zero, List.set_cons_succ]
  go_big_quiet_on
  go_big_quiet_step (fail)
  refine wpQuiet_nil ?_
  rintro _ ⟨xq, rfl⟩
  have hb := xq.h
  have HBF := (show Hid (Below ws.heap.size ws xq.u) from HB_0.out.trans (hb.mono HB_0.out.size))
  have BC := (show Hid (Rp xq.u n 0 C) from BC_0.out.below hb)
  have AO1 := (show Hid (Ao w.heap.size xq.u (n + 1) 64) from AO1_0.out.below hb)
  have HBQ := (show Hid (Below w.heap.size w xq.u) from HBE.out.trans (HBF.out.mono HBE.out.size))
  obtain ⟨wz, hwz⟩ : ∃ v, xq.u = v := ⟨_, rfl⟩
  rw [hwz] at BC AO1 HBQ ⊢
  clear hwz hb xq hne HQBC BC_0 AO1_0 HB_0 HBF HBE TK_0
  have BC_z0 := BC
  have AO1_z0 := AO1
  have HB_z0 := (show Hid (Below wz.heap.size wz wz) from Below.refl _ _)
  have TK_z0 := (show Hid True from trivial)
  clear BC AO1
  go_wp2_with (first
    | (refine wpList_load_mid rfl 22 (.tmp 1) rfl n 0 rfl C _ BC_z0.out.1 Try.underlying22 rfl LC.out.i ?_)
    | (refine wpList_load_mid rfl 22 (.tmp 1) rfl n 0 rfl C _ BC_z1.out.1 Try.underlying22 rfl LC.out.i ?_)
    | (refine wpList_load_mid rfl 22 (.tmp 1) rfl n 0 rfl C _ BC_z2.out.1 Try.underlying22 rfl LC.out.i ?_)
    | (refine wpList_load_mid rfl 43 (.tmp 5) rfl bBP 0 rfl E _ BP_z2.out.1 Try.underlying43 rfl LE.out.i ?_)
    | (have hq := TK_z0; go_at_call 86; refine (ce _).mono ?_; rintro e zw1 ⟨rfl, hb⟩; have HB_z1 := (show Hid (Below wz.heap.size wz zw1) from HB_z0.out.trans (hb.mono HB_z0.out.size)); have BC_z1 := (show Hid (Rp zw1 n 0 C) from BC_z0.out.below hb); have AO1_z1 := (show Hid (Ao w.heap.size zw1 (n + 1) 64) from AO1_z0.out.below hb); have TK_z1 := (show Hid True from trivial); clear hq TK_z0 hb HB_z0 BC_z0 AO1_z0)
    | (have hq := TK_z1; refine wpList_store_mid rfl 43 (.tmp 5) (.tmp 25) rfl zw1.heap.size 0 E.toArray rfl rfl (HTH43.out E LE.out zw1) LE.out.j LE.out.o ?_; simp only; have hbx := HBN43.out E LE.out zw1; obtain ⟨zw2, hzw2⟩ : ∃ v, (zw1.alloc (.cells Z43 43)).setCells zw1.heap.size 0 E = v := ⟨_, rfl⟩; rw [hzw2] at hbx ⊢; clear hzw2; have hb := hbx.2; replace hbx := hbx.1; obtain ⟨bBP, hbBP⟩ : ∃ b, zw1.heap.size = b := ⟨_, rfl⟩; rw [hbBP] at hbx ⊢; clear hbBP; have HB_z2 := (show Hid (Below wz.heap.size wz zw2) from HB_z1.out.trans (hb.mono HB_z1.out.size)); have BC_z2 := (show Hid (Rp zw2 n 0 C) from BC_z1.out.below hb); have AO1_z2 := (show Hid (Ao w.heap.size zw2 (n + 1) 64) from AO1_z1.out.below hb); have BP_z2 := (show Hid (Rp zw2 bBP 0 E) from hbx); have TK_z2 := (show Hid True from trivial); clear hq TK_z1 hb hbx HB_z1 BC_z1 AO1_z1)
    | (refine wpList_store_mid rfl 43 (.tmp 2) (.tmp 33) rfl (n + 1) 0 E.toArray rfl rfl (LE.out.t AO1_z2.out) LE.out.j LE.out.o ?_; simp only))
  exact bodyPost_ret (res_ct Try.results43 rfl (end43 LE.out AO1_z2.out) rfl) rfl ⟨rfl, below_setCells (HBQ.out.trans (HB_z2.out.mono HBQ.out.size)) AO1_z2.out.1⟩
set_option maxHeartbeats 4000000 in
set_option maxRecDepth 8000 in
theorem decode_c (b c o : Nat) (w : World) (hb : b < 115792089237316195423570985008687907853269984665640564039457584007913129639936) (hc : b % 57896044618658097711785492504343953926634992332820282019728792003956564819968 = c) (ho : b / 57896044618658097711785492504343953926634992332820282019728792003956564819968 = o) (hp : c < p) (hr : rt (wq c) * rt (wq c) % p = wq c) (ho1 : o = 0) (hrt : rt (wq c) < p) :
    Calls Try.prog 43 #[bv b] w fun e w' => e = .returned (.tuple #[pv (evn (rt (wq c))) c, .nilIface]) ∧ Below w.heap.size w w' := by
  obtain ⟨t1, t2, t3⟩ := top_bit b c o hc ho hb
  have lc : c < 115792089237316195423570985008687907853269984665640564039457584007913129639936 := by omega
  have ol : o ≤ 1 := by omega
  have hbl : by_ b 31 < 256 := Nat.mod_lt _ (by decide)
  have x2 := u8_and127 (by_ b 31) hbl
  have x1 : ((by_ b 31 : Nat) : Int) / 128 = (o : Int) := by omega
  have HEN : Hid (∀ j, j < 32 → upd (by_ b) 31 (by_ b 31 % 128) j = by_ c j) := t3
  have cr : ∀ W : World, Calls Try.prog 22 #[bv c] W fun e w' => e = .returned (bv (c % p)) ∧ Below W.heap.size W w' := fun W => reduce_any c W lc
  rw [Nat.mod_eq_of_lt hp] at cr
  have qr := eq22_same' c lc
  have ce : ∀ W : World, Calls Try.prog 86 #[bv c] W fun e w' => e = .returned (.tuple #[pv (evn (rt (wq c))) c, .nilIface]) ∧ Below W.heap.size W w' := fun W => withEven_some c W lc hr
  have lX : evn (rt (wq c)) < 115792089237316195423570985008687907853269984665640564039457584007913129639936 := evn_lt _ hrt
  obtain ⟨X, hX⟩ : ∃ X, evn (rt (wq c)) = X := ⟨_, rfl⟩
  rw [hX] at ce lX ⊢
  have en := eq_nil
  have ex := eq_err_nil
  subst ho1
  have LC : Hid (L32 (bvc c)) := l32 c
  have HRA : Hid (∀ {W : World} {g : Nat} {M : Nat → Nat}, Cs .u8 32 w.heap.size w W g M → (∀ j, j < 32 → M j = by_ c j) → W.rangeAt g 0 (bvc c)) := fun h1 h2 => h1.range _ h2
  have HS := (show Hid _ from start22c w b)
  have LE : Hid (L64 (bvc X ++ bvc c)) := l64 _ _
  have LV : Hid (L64 (bvc X ++ bvc c)) := l64 _ _
  unfold pv at ce ⊢
  unfold bv at cr ce ⊢
  obtain ⟨E, hE⟩ : ∃ Z, bvc X ++ bvc c = Z := ⟨_, rfl⟩
  rw [hE] at LE LV ce ⊢
  clear hE
  obtain ⟨C, hC⟩ : ∃ X, bvc c = X := ⟨_, rfl⟩
  rw [hC] at LC HRA cr qr ce
  obtain ⟨D, hD⟩ : ∃ X, bvc b = X := ⟨_, rfl⟩
  rw [hD] at HS ⊢
  obtain ⟨B, hB⟩ : ∃ X, by_ b = X := ⟨_, rfl⟩
  rw [hB] at HS x1 x2 HEN
  obtain ⟨b31, hb3⟩ : ∃ X, B 31 = X := ⟨_, rfl⟩
  have HB31 : Hid (B 31 = b31) := hb3
  rw [hb3] at x1 x2 HEN
  obtain ⟨m31, hm3⟩ : ∃ X, b31 % 128 = X := ⟨_, rfl⟩
  rw [hm3] at x2 HEN
  clear hC hD hB hb3 hm3 t1 t2 t3 hbl hc ho hb lc hp hr lX hX hrt ol
  have hz43 := zero43
  have HBN43 : Hid _ := box43
  have HTH43 : Hid _ := th43
  obtain ⟨Z43, hZ43⟩ : ∃ Z, z43 = Z := ⟨_, rfl⟩
  rw [hZ43] at hz43 HS HBN43 HTH43
  clear hZ43
  obtain ⟨n, hn⟩ : ∃ n, w.heap.size = n := ⟨_, rfl⟩
  have HN : Hid (w.heap.size = n) := hn
  obtain ⟨we, hwe⟩ : ∃ v, (w.alloc (.cells D.toArray 22)).alloc (.cells Z43 43) = v := ⟨_, rfl⟩
  have HC0 : Hid (Cs .u8 32 w.heap.size w we n B) := by have h := HS.out.1; rw [hwe] at h; show Cs _ _ _ _ _ _ _; rw [HN.out] at h ⊢; exact h
  have AO : Hid (Ao w.heap.size we (n + 1) 64) := by have h := HS.out.2; rw [hwe] at h; show Ao _ _ _ _; rw [HN.out] at h ⊢; exact h
  clear HS
  have r0 := HC0.out.c 31 (by decide)
  rw [HB31.out] at r0
  have r1 := (HC0.out.t 31 (by decide)).2
  simp only [Nat.zero_add] at r1
  have HC1 := (show Hid (Cs .u8 32 w.heap.size w (we.setCell ⟨n, 31, none⟩ (.int .u8 (m31 : Int))) n (upd B 31 m31)) from HC0.out.set (by decide) m31)
  have BC := (show Hid (Rp (we.setCell ⟨n, 31, none⟩ (.int .u8 (m31 : Int))) n 0 C) from ⟨HRA.out HC1.out HEN.out, HC1.out.l.2⟩)
  have AO1 := (show Hid (Ao w.heap.size (we.setCell ⟨n, 31, none⟩ (.int .u8 (m31 : Int))) (n + 1) 64) from AO.out.set1 _)
  have HBE := (show Hid (Below w.heap.size w (we.setCell ⟨n, 31, none⟩ (.int .u8 (m31 : Int)))) from HC1.out.b)
  clear HC0 AO HC1 HRA HEN HB31
  go_enter Try.func43, Try.ntmps43
  go_wp2
  clear hwe r0 r1
  obtain ⟨ws, hws⟩ : ∃ v, we.setCell ⟨n, 31, none⟩ (.int .u8 (m31 : Int)) = v := ⟨_, rfl⟩
  rw [hws] at BC AO1 HBE ⊢
  clear hws
  have BC_0 := BC
  have AO1_0 := AO1
  have HB_0 := (show Hid (Below ws.heap.size ws ws) from Below.refl _ _)
  have TK_0 := (show Hid True from trivial)
  clear BC AO1
  have HQBC := (show Hid _ from BC_0.out.cl)
  have hne := Cl.ne ws.heap.size ws
  refine region_cl (N := ws.heap.size) (W := ws) (by kernel_rfl) (by kernel_rfl) (Below.refl _ _) ?_
  go_big_quiet_want
  refine quiet_load 22 _ rfl n 0 rfl C _ HQBC.out Try.underlying22 rfl LC.out.i ?_
  simp only [Act.put, List.setIfInBounds_toArray, List.set_cons_zero, List.set_cons_succ]
  go_big_quiet_on
  go_big_quiet_step ((go_at_call 22; exact cl_of (cr _) (Nat.le_refl _)))
  go_big_quiet_want
  refine quiet_load 22 _ rfl n 0 rfl C _ HQBC.out Try.underlying22 rfl LC.out.i ?_
  simp only [Act.put, List.setIfInBounds_toArray, List.set_cons_zero, List.set_cons_succ]
  go_big_quiet_on
  go_big_quiet_step (fail)
  refine wpQuiet_nil ?_
  rintro _ ⟨xq, rfl⟩
  have hb := xq.h
  have HBF := (show Hid (Below ws.heap.size ws xq.u) from HB_0.out.trans (hb.mono HB_0.out.size))
  have BC := (show Hid (Rp xq.u n 0 C) from BC_0.out.below hb)
  have AO1 := (show Hid (Ao w.heap.size xq.u (n + 1) 64) from AO1_0.out.below hb)
  have HBQ := (show Hid (Below w.heap.size w xq.u) from HBE.out.trans (HBF.out.mono HBE.out.size))
  obtain ⟨wz, hwz⟩ : ∃ v, xq.u = v := ⟨_, rfl⟩
  rw [hwz] at BC AO1 HBQ ⊢
  clear hwz hb xq hne HQBC BC_0 AO1_0 HB_0 HBF HBE TK_0
  have BC_z0 := BC
  have AO1_z0 := AO1
  have HB_z0 := (show Hid (Below wz.heap.size wz wz) from Below.refl _ _)
  have TK_z0 := (show Hid True from trivial)
  clear BC AO1
  go_wp2_with (first
    | (refine wpList_load_mid rfl 22 (.tmp 1) rfl n 0 rfl C _ BC_z0.out.1 Try.underlying22 rfl LC.out.i ?_)
    | (refine wpList_load_mid rfl 22 (.tmp 1) rfl n 0 rfl C _ BC_z1.out.1 Try.underlying22 rfl LC.out.i ?_)
    | (refine wpList_load_mid rfl 22 (.tmp 1) rfl n 0 rfl C _ BC_z2.out.1 Try.underlying22 rfl LC.out.i ?_)
    | (refine wpList_load_mid rfl 43 (.tmp 5) rfl bBP 0 rfl E _ BP_z2.out.1 Try.underlying43 rfl LE.out.i ?_)
    | (have hq := TK_z0; go_at_call 86; refine (ce _).mono ?_; rintro e zw1 ⟨rfl, hb⟩; have HB_z1 := (show Hid (Below wz.heap.size wz zw1) from HB_z0.out.trans (hb.mono HB_z0.out.size)); have BC_z1 := (show Hid (Rp zw1 n 0 C) from BC_z0.out.below hb); have AO1_z1 := (show Hid (Ao w.heap.size zw1 (n + 1) 64) from AO1_z0.out.below hb); have TK_z1 := (show Hid True from trivial); clear hq TK_z0 hb HB_z0 BC_z0 AO1_z0)
    | (have hq := TK_z1; refine wpList_store_mid rfl 43 (.tmp 5) (.tmp 25) rfl zw1.heap.size 0 E.toArray rfl rfl (HTH43.out E LE.out zw1) LE.out.j LE.out.o ?_; simp only; have hbx := HBN43.out E LE.out zw1; obtain ⟨zw2, hzw2⟩ : ∃ v, (zw1.alloc (.cells Z43 43)).setCells zw1.heap.size 0 E = v := ⟨_, rfl⟩; rw [hzw2] at hbx ⊢; clear hzw2; have hb := hbx.2; replace hbx := hbx.1; obtain ⟨bBP, hbBP⟩ : ∃ b, zw1.heap.size = b := ⟨_, rfl⟩; rw [hbBP] at hbx ⊢; clear hbBP; have HB_z2 := (show Hid (Below wz.heap.size wz zw2) from HB_z1.out.trans (hb.mono HB_z1.out.size)); have BC_z2 := (show Hid (Rp zw2 n 0 C) from BC_z1.out.below hb); have AO1_z2 := (show Hid (Ao w.heap.size zw2 (n + 1) 64) from AO1_z1.out.below hb); have BP_z2 := (show Hid (Rp zw2 bBP 0 E) from hbx); have TK_z2 := (show Hid True from trivial); clear hq TK_z1 hb hbx HB_z1 BC_z1 AO1_z1)
    | (refine wpList_store_mid rfl 43 (.tmp 2) (.tmp 33) rfl (n + 1) 0 E.toArray rfl rfl (LE.out.t AO1_z2.out) LE.out.j LE.out.o ?_; simp only))
  exact bodyPost_ret (res_ct Try.results43 rfl (end43 LE.out AO1_z2.out) rfl) rfl ⟨rfl, below_setCells (HBQ.out.trans (HB_z2.out.mono HBQ.out.size)) AO1_z2.out.1⟩
set_option maxHeartbeats 4000000 in
set_option maxRecDepth 8000 in
theorem decode_d (b c o : Nat) (w : World) (hb : b < 115792089237316195423570985008687907853269984665640564039457584007913129639936) (hc : b % 57896044618658097711785492504343953926634992332820282019728792003956564819968 = c) (ho : b / 57896044618658097711785492504343953926634992332820282019728792003956564819968 = o) (hp : c < p) (hr : rt (wq c) * rt (wq c) % p = wq c) (ho1 : o = 1) (h0 : subp 0 (evn (rt (wq c))) = evn (rt (wq c))) (hrt : rt (wq c) < p) :
    Calls Try.prog 43 #[bv b] w fun e w' => e = .returned (.tuple #[pv 0 0, .iface 35 (.int .i64 29)]) ∧ Below w.heap.size w w' := by
  obtain ⟨t1, t2, t3⟩ := top_bit b c o hc ho hb
  have lc : c < 115792089237316195423570985008687907853269984665640564039457584007913129639936 := by omega
  have ol : o ≤ 1 := by omega
  have hbl : by_ b 31 < 256 := Nat.mod_lt _ (by decide)
  have x2 := u8_and127 (by_ b 31) hbl
  have x1 : ((by_ b 31 : Nat) : Int) / 128 = (o : Int) := by omega
  have HEN : Hid (∀ j, j < 32 → upd (by_ b) 31 (by_ b 31 % 128) j = by_ c j) := t3
  have cr : ∀ W : World, Calls Try.prog 22 #[bv c] W fun e w' => e = .returned (bv (c % p)) ∧ Below W.heap.size W w' := fun W => reduce_any c W lc
  rw [Nat.mod_eq_of_lt hp] at cr
  have qr := eq22_same' c lc
  have ce : ∀ W : World, Calls Try.prog 86 #[bv c] W fun e w' => e = .returned (.tuple #[pv (evn (rt (wq c))) c, .nilIface]) ∧ Below W.heap.size W w' := fun W => withEven_some c W lc hr
  have lX : evn (rt (wq c)) < 115792089237316195423570985008687907853269984665640564039457584007913129639936 := evn_lt _ hrt
  obtain ⟨X, hX⟩ : ∃ X, evn (rt (wq c)) = X := ⟨_, rfl⟩
  rw [hX] at ce lX h0
  have cn : ∀ W : World, Calls Try.prog 83 #[pv X c] W fun e w' => e = .returned (pv (subp 0 X) (redp c)) ∧ Below W.heap.size W w' := fun W => negative_at X c 0 _ _ rfl rfl rfl lX lc W
  have lS := subp_lt 0 X
  have hrc : redp c = c := Nat.mod_eq_of_lt hp
  have q43 : ∀ W : World, (Op.equalIn 10000 43 (.agg (bvc (subp 0 X) ++ bvc (redp c)).toArray) (.agg (bvc X ++ bvc c).toArray)).run Try.prog W = .ok true W := fun W => by
    have h := eq43 (subp 0 X) (redp c) X c W lS (redp_lt c) lX lc
    rwa [decide_eq_true ⟨h0, hrc⟩] at h
  have en := eq_nil
  have ex := eq_err_nil
  subst ho1
  have LC : Hid (L32 (bvc c)) := l32 c
  have HRA : Hid (∀ {W : World} {g : Nat} {M : Nat → Nat}, Cs .u8 32 w.heap.size w W g M → (∀ j, j < 32 → M j = by_ c j) → W.rangeAt g 0 (bvc c)) := fun h1 h2 => h1.range _ h2
  have HS := (show Hid _ from start22c w b)
  have LE : Hid (L64 (bvc 0 ++ bvc 0)) := l64 _ _
  have LV : Hid (L64 (bvc X ++ bvc c)) := l64 _ _
  have LVN : Hid (L64 (bvc (subp 0 X) ++ bvc (redp c))) := l64 _ _
  have HBN : Hid (Try.prog.built 43 [] = some (bvc 0 ++ bvc 0).toArray) := build_none
  unfold pv at ce cn ⊢
  unfold bv at cr ce ⊢
  obtain ⟨E, hE⟩ : ∃ X, bvc 0 ++ bvc 0 = X := ⟨_, rfl⟩
  rw [hE] at LE HBN ⊢
  obtain ⟨V, hV⟩ : ∃ Z, bvc X ++ bvc c = Z := ⟨_, rfl⟩
  rw [hV] at LV ce cn q43
  obtain ⟨VN, hVN⟩ : ∃ Z, bvc (subp 0 X) ++ bvc (redp c) = Z := ⟨_, rfl⟩
  rw [hVN] at LVN cn q43
  clear hE hV hVN
  obtain ⟨C, hC⟩ : ∃ X, bvc c = X := ⟨_, rfl⟩
  rw [hC] at LC HRA cr qr ce
  obtain ⟨D, hD⟩ : ∃ X, bvc b = X := ⟨_, rfl⟩
  rw [hD] at HS ⊢
  obtain ⟨B, hB⟩ : ∃ X, by_ b = X := ⟨_, rfl⟩
  rw [hB] at HS x1 x2 HEN
  obtain ⟨b31, hb3⟩ : ∃ X, B 31 = X := ⟨_, rfl⟩
  have HB31 : Hid (B 31 = b31) := hb3
  rw [hb3] at x1 x2 HEN
  obtain ⟨m31, hm3⟩ : ∃ X, b31 % 128 = X := ⟨_, rfl⟩
  rw [hm3] at x2 HEN
  clear hC hD hB hb3 hm3 t1 t2 t3 hbl hc ho hb lc hp hr lX hX lS hrc h0 hrt ol
  have hz43 := zero43
  have HBN43 : Hid _ := box43
  have HTH43 : Hid _ := th43
  obtain ⟨Z43, hZ43⟩ : ∃ Z, z43 = Z := ⟨_, rfl⟩
  rw [hZ43] at hz43 HS HBN43 HTH43
  clear hZ43
  obtain ⟨n, hn⟩ : ∃ n, w.heap.size = n := ⟨_, rfl⟩
  have HN : Hid (w.heap.size = n) := hn
  obtain ⟨we, hwe⟩ : ∃ v, (w.alloc (.cells D.toArray 22)).alloc (.cells Z43 43) = v := ⟨_, rfl⟩
  have HC0 : Hid (Cs .u8 32 w.heap.size w we n B) := by have h := HS.out.1; rw [hwe] at h; show Cs _ _ _ _ _ _ _; rw [HN.out] at h ⊢; exact h
  have AO : Hid (Ao w.heap.size we (n + 1) 64) := by have h := HS.out.2; rw [hwe] at h; show Ao _ _ _ _; rw [HN.out] at h ⊢; exact h
  clear HS
  have r0 := HC0.out.c 31 (by decide)
  rw [HB31.out] at r0
  have r1 := (HC0.out.t 31 (by decide)).2
  simp only [Nat.zero_add] at r1
  have HC1 := (show Hid (Cs .u8 32 w.heap.size w (we.setCell ⟨n, 31, none⟩ (.int .u8 (m31 : Int))) n (upd B 31 m31)) from HC0.out.set (by decide) m31)
  have BC := (show Hid (Rp (we.setCell ⟨n, 31, none⟩ (.int .u8 (m31 : Int))) n 0 C) from ⟨HRA.out HC1.out HEN.out, HC1.out.l.2⟩)
  have AO1 := (show Hid (Ao w.heap.size (we.setCell ⟨n, 31, none⟩ (.int .u8 (m31 : Int))) (n + 1) 64) from AO.out.set1 _)
  have HBE := (show Hid (Below w.heap.size w (we.setCell ⟨n, 31, none⟩ (.int .u8 (m31 : Int)))) from HC1.out.b)
  clear HC0 AO HC1 HRA HEN HB31
  go_enter Try.func43, Try.ntmps43
  go_wp2
  clear hwe r0 r1
  obtain ⟨ws, hws⟩ : ∃ v, we.setCell ⟨n, 31, none⟩ (.int .u8 (m31 : Int)) = v := ⟨_, rfl⟩
  rw [hws] at BC AO1 HBE ⊢
  clear hws
  have BC_0 := BC
  have AO1_0 := AO1
  have HB_0 := (show Hid (Below ws.heap.size ws ws) from Below.refl _ _)
  have TK_0 := (show Hid True from trivial)
  clear BC AO1
  have HQBC := (show Hid _ from BC_0.out.cl)
  have hne := Cl.ne ws.heap.size ws
  refine region_cl (N := ws.heap.size) (W := ws) (by kernel_rfl) (by kernel_rfl) (Below.refl _ _) ?_
  go_big_quiet_want
  refine quiet_load 22 _ rfl n 0 rfl C _ HQBC.out Try.underlying22 rfl LC.out.i ?_
  simp only [Act.put, List.setIfInBounds_toArray, List.set_cons_zero, List.set_cons_succ]
  go_big_quiet_on
  go_big_quiet_step ((go_at_call 22; exact cl_of (cr _) (Nat.le_refl _)))
  go_big_quiet_want
  refine quiet_load 22 _ rfl n 0 rfl C _ HQBC.out Try.underlying22 rfl LC.out.i ?_
  simp only [Act.put, List.setIfInBounds_toArray, List.set_cons_zero, List.set_cons_succ]
  go_big_quiet_on
  go_big_quiet_step (fail)
  refine wpQuiet_nil ?_
  rintro _ ⟨xq, rfl⟩
  have hb := xq.h
  have HBF := (show Hid (Below ws.heap.size ws xq.u) from HB_0.out.trans (hb.mono HB_0.out.size))
  have BC := (show Hid (Rp xq.u n 0 C) from BC_0.out.below hb)
  have AO1 := (show Hid (Ao w.heap.size xq.u (n + 1) 64) from AO1_0.out.below hb)
  have HBQ := (show Hid (Below w.heap.size w xq.u) from HBE.out.trans (HBF.out.mono HBE.out.size))
  obtain ⟨wz, hwz⟩ : ∃ v, xq.u = v := ⟨_, rfl⟩
  rw [hwz] at BC AO1 HBQ ⊢
  clear hwz hb xq hne HQBC BC_0 AO1_0 HB_0 HBF HBE TK_0
  have BC_z0 := BC
  have AO1_z0 := AO1
  have HB_z0 := (show Hid (Below wz.heap.size wz wz) from Below.refl _ _)
  have TK_z0 := (show Hid True from trivial)
  clear BC AO1
  go_wp2_with (first
    | (refine wpList_load_mid rfl 22 (.tmp 1) rfl n 0 rfl C _ BC_z0.out.1 Try.underlying22 rfl LC.out.i ?_)
    | (refine wpList_load_mid rfl 22 (.tmp 1) rfl n 0 rfl C _ BC_z1.out.1 Try.underlying22 rfl LC.out.i ?_)
    | (refine wpList_load_mid rfl 22 (.tmp 1) rfl n 0 rfl C _ BC_z2.out.1 Try.underlying22 rfl LC.out.i ?_)
    | (refine wpList_load_mid rfl 43 (.tmp 5) rfl bBP 0 rfl V _ BP_z2.out.1 Try.underlying43 rfl LV.out.i ?_)
    | (refine wpList_load_mid rfl 22 (.tmp 1) rfl n 0 rfl C _ BC_z3.out.1 Try.underlying22 rfl LC.out.i ?_)
    | (refine wpList_load_mid rfl 43 (.tmp 5) rfl bBP 0 rfl V _ BP_z3.out.1 Try.underlying43 rfl LV.out.i ?_)
    | (refine wpList_load_mid rfl 22 (.tmp 1) rfl n 0 rfl C _ BC_z4.out.1 Try.underlying22 rfl LC.out.i ?_)
    | (refine wpList_load_mid rfl 43 (.tmp 5) rfl bBP 0 rfl V _ BP_z4.out.1 Try.underlying43 rfl LV.out.i ?_)
    | (refine wpList_load_mid rfl 43 (.tmp 7) rfl bBN 0 rfl VN _ BN_z4.out.1 Try.underlying43 rfl LVN.out.i ?_)
    | (have hq := TK_z0; go_at_call 86; refine (ce _).mono ?_; rintro e zw1 ⟨rfl, hb⟩; have HB_z1 := (show Hid (Below wz.heap.size wz zw1) from HB_z0.out.trans (hb.mono HB_z0.out.size)); have BC_z1 := (show Hid (Rp zw1 n 0 C) from BC_z0.out.below hb); have AO1_z1 := (show Hid (Ao w.heap.size zw1 (n + 1) 64) from AO1_z0.out.below hb); have TK_z1 := (show Hid True from trivial); clear hq TK_z0 hb HB_z0 BC_z0 AO1_z0)
    | (have hq := TK_z1; refine wpList_store_mid rfl 43 (.tmp 5) (.tmp 25) rfl zw1.heap.size 0 V.toArray rfl rfl (HTH43.out V LV.out zw1) LV.out.j LV.out.o ?_; simp only; have hbx := HBN43.out V LV.out zw1; obtain ⟨zw2, hzw2⟩ : ∃ v, (zw1.alloc (.cells Z43 43)).setCells zw1.heap.size 0 V = v := ⟨_, rfl⟩; rw [hzw2] at hbx ⊢; clear hzw2; have hb := hbx.2; replace hbx := hbx.1; obtain ⟨bBP, hbBP⟩ : ∃ b, zw1.heap.size = b := ⟨_, rfl⟩; rw [hbBP] at hbx ⊢; clear hbBP; have HB_z2 := (show Hid (Below wz.heap.size wz zw2) from HB_z1.out.trans (hb.mono HB_z1.out.size)); have BC_z2 := (show Hid (Rp zw2 n 0 C) from BC_z1.out.below hb); have AO1_z2 := (show Hid (Ao w.heap.size zw2 (n + 1) 64) from AO1_z1.out.below hb); have BP_z2 := (show Hid (Rp zw2 bBP 0 V) from hbx); have TK_z2 := (show Hid True from trivial); clear hq TK_z1 hb hbx HB_z1 BC_z1 AO1_z1)
    | (have hq := TK_z2; go_at_call 83; refine (cn _).mono ?_; rintro e zw3 ⟨rfl, hb⟩; have HB_z3 := (show Hid (Below wz.heap.size wz zw3) from HB_z2.out.trans (hb.mono HB_z2.out.size)); have BC_z3 := (show Hid (Rp zw3 n 0 C) from BC_z2.out.below hb); have AO1_z3 := (show Hid (Ao w.heap.size zw3 (n + 1) 64) from AO1_z2.out.below hb); have BP_z3 := (show Hid (Rp zw3 bBP 0 V) from BP_z2.out.below hb); have TK_z3 := (show Hid True from trivial); clear hq TK_z2 hb HB_z2 BC_z2 AO1_z2 BP_z2)
    | (have hq := TK_z3; refine wpList_store_mid rfl 43 (.tmp 7) (.tmp 36) rfl zw3.heap.size 0 VN.toArray rfl rfl (HTH43.out VN LVN.out zw3) LVN.out.j LVN.out.o ?_; simp only; have hbx := HBN43.out VN LVN.out zw3; obtain ⟨zw4, hzw4⟩ : ∃ v, (zw3.alloc (.cells Z43 43)).setCells zw3.heap.size 0 VN = v := ⟨_, rfl⟩; rw [hzw4] at hbx ⊢; clear hzw4; have hb := hbx.2; replace hbx := hbx.1; obtain ⟨bBN, hbBN⟩ : ∃ b, zw3.heap.size = b := ⟨_, rfl⟩; rw [hbBN] at hbx ⊢; clear hbBN; have HB_z4 := (show Hid (Below wz.heap.size wz zw4) from HB_z3.out.trans (hb.mono HB_z3.out.size)); have BC_z4 := (show Hid (Rp zw4 n 0 C) from BC_z3.out.below hb); have AO1_z4 := (show Hid (Ao w.heap.size zw4 (n + 1) 64) from AO1_z3.out.below hb); have BP_z4 := (show Hid (Rp zw4 bBP 0 V) from BP_z3.out.below hb); have BN_z4 := (show Hid (Rp zw4 bBN 0 VN) from hbx); have TK_z4 := (show Hid True from trivial); clear hq TK_z3 hb hbx HB_z3 BC_z3 AO1_z3 BP_z3)
    | (refine build_to rfl 43 _ rfl (some 40) rfl [] (by kernel_rfl) E HBN.out ?_; simp only [Act.put, List.setIfInBounds_toArray, List.set_cons_zero, List.set_cons_succ])
    | (refine wpList_store_mid rfl 43 (.tmp 2) (.tmp 40) rfl (n + 1) 0 E.toArray rfl rfl (LE.out.t AO1_z4.out) LE.out.j LE.out.o ?_; simp only))
  exact bodyPost_ret (res_ct Try.results43 rfl (end43 LE.out AO1_z4.out) rfl) rfl ⟨rfl, below_setCells (HBQ.out.trans (HB_z4.out.mono HBQ.out.size)) AO1_z4.out.1⟩
set_option maxHeartbeats 4000000 in
set_option maxRecDepth 8000 in
theorem decode_e (b c o : Nat) (w : World) (hb : b < 115792089237316195423570985008687907853269984665640564039457584007913129639936) (hc : b % 57896044618658097711785492504343953926634992332820282019728792003956564819968 = c) (ho : b / 57896044618658097711785492504343953926634992332820282019728792003956564819968 = o) (hp : c < p) (hr : rt (wq c) * rt (wq c) % p = wq c) (ho1 : o = 1) (h0 : ¬ subp 0 (evn (rt (wq c))) = evn (rt (wq c))) (hrt : rt (wq c) < p) :
    Calls Try.prog 43 #[bv b] w fun e w' => e = .returned (.tuple #[pv (subp 0 (evn (rt (wq c)))) (redp c), .nilIface]) ∧ Below w.heap.size w w' := by
  obtain ⟨t1, t2, t3⟩ := top_bit b c o hc ho hb
  have lc : c < 115792089237316195423570985008687907853269984665640564039457584007913129639936 := by omega
  have ol : o ≤ 1 := by omega
  have hbl : by_ b 31 < 256 := Nat.mod_lt _ (by decide)
  have x2 := u8_and127 (by_ b 31) hbl
  have x1 : ((by_ b 31 : Nat) : Int) / 128 = (o : Int) := by omega
  have HEN : Hid (∀ j, j < 32 → upd (by_ b) 31 (by_ b 31 % 128) j = by_ c j) := t3
  have cr : ∀ W : World, Calls Try.prog 22 #[bv c] W fun e w' => e = .returned (bv (c % p)) ∧ Below W.heap.size W w' := fun W => reduce_any c W lc
  rw [Nat.mod_eq_of_lt hp] at cr
  have qr := eq22_same' c lc
  have ce : ∀ W : World, Calls Try.prog 86 #[bv c] W fun e w' => e = .returned (.tuple #[pv (evn (rt (wq c))) c, .nilIface]) ∧ Below W.heap.size W w' := fun W => withEven_some c W lc hr
  have lX : evn (rt (wq c)) < 115792089237316195423570985008687907853269984665640564039457584007913129639936 := evn_lt _ hrt
  obtain ⟨X, hX⟩ : ∃ X, evn (rt (wq c)) = X := ⟨_, rfl⟩
  rw [hX] at ce lX h0 ⊢
  have cn : ∀ W : World, Calls Try.prog 83 #[pv X c] W fun e w' => e = .returned (pv (subp 0 X) (redp c)) ∧ Below W.heap.size W w' := fun W => negative_at X c 0 _ _ rfl rfl rfl lX lc W
  have lS := subp_lt 0 X
  have hrc : redp c = c := Nat.mod_eq_of_lt hp
  have q43 : ∀ W : World, (Op.equalIn 10000 43 (.agg (bvc (subp 0 X) ++ bvc (redp c)).toArray) (.agg (bvc X ++ bvc c).toArray)).run Try.prog W = .ok false W := fun W => by
    have h := eq43 (subp 0 X) (redp c) X c W lS (redp_lt c) lX lc
    rwa [decide_eq_false (fun h => h0 h.1)] at h
  have en := eq_nil
  have ex := eq_err_nil
  subst ho1
  have LC : Hid (L32 (bvc c)) := l32 c
  have HRA : Hid (∀ {W : World} {g : Nat} {M : Nat → Nat}, Cs .u8 32 w.heap.size w W g M → (∀ j, j < 32 → M j = by_ c j) → W.rangeAt g 0 (bvc c)) := fun h1 h2 => h1.range _ h2
  have HS := (show Hid _ from start22c w b)
  have LE : Hid (L64 (bvc (subp 0 X) ++ bvc (redp c))) := l64 _ _
  have LV : Hid (L64 (bvc X ++ bvc c)) := l64 _ _
  have LVN : Hid (L64 (bvc (subp 0 X) ++ bvc (redp c))) := l64 _ _
  unfold pv at ce cn ⊢
  unfold bv at cr ce ⊢
  obtain ⟨V, hV⟩ : ∃ Z, bvc X ++ bvc c = Z := ⟨_, rfl⟩
  rw [hV] at LV ce cn q43
  obtain ⟨VN, hVN⟩ : ∃ Z, bvc (subp 0 X) ++ bvc (redp c) = Z := ⟨_, rfl⟩
  rw [hVN] at LVN LE cn q43 ⊢
  clear hV hVN
  obtain ⟨C, hC⟩ : ∃ X, bvc c = X := ⟨_, rfl⟩
  rw [hC] at LC HRA cr qr ce
  obtain ⟨D, hD⟩ : ∃ X, bvc b = X := ⟨_, rfl⟩
  rw [hD] at HS ⊢
  obtain ⟨B, hB⟩ : ∃ X, by_ b = X := ⟨_, rfl⟩
  rw [hB] at HS x1 x2 HEN
  obtain ⟨b31, hb3⟩ : ∃ X, B 31 = X := ⟨_, rfl⟩
  have HB31 : Hid (B 31 = b31) := hb3
  rw [hb3] at x1 x2 HEN
  obtain ⟨m31, hm3⟩ : ∃ X, b31 % 128 = X := ⟨_, rfl⟩
  rw [hm3] at x2 HEN
  clear hC hD hB hb3 hm3 t1 t2 t3 hbl hc ho hb lc hp hr lX hX lS hrc h0 hrt ol
  have hz43 := zero43
  have HBN43 : Hid _ := box43
  have HTH43 : Hid _ := th43
  obtain ⟨Z43, hZ43⟩ : ∃ Z, z43 = Z := ⟨_, rfl⟩
  rw [hZ43] at hz43 HS HBN43 HTH43
  clear hZ43
  obtain ⟨n, hn⟩ : ∃ n, w.heap.size = n := ⟨_, rfl⟩
  have HN : Hid (w.heap.size = n) := hn
  obtain ⟨we, hwe⟩ : ∃ v, (w.alloc (.cells D.toArray 22)).alloc (.cells Z43 43) = v := ⟨_, rfl⟩
  have HC0 : Hid (Cs .u8 32 w.heap.size w we n B) := by have h := HS.out.1; rw [hwe] at h; show Cs _ _ _ _ _ _ _; rw [HN.out] at h ⊢; exact h
  have AO : Hid (Ao w.heap.size we (n + 1) 64) := by have h := HS.out.2; rw [hwe] at h; show Ao _ _ _ _; rw [HN.out] at h ⊢; exact h
  clear HS
  have r0 := HC0.out.c 31 (by decide)
  rw [HB31.out] at r0
  have r1 := (HC0.out.t 31 (by decide)).2
  simp only [Nat.zero_add] at r1
  have HC1 := (show Hid (Cs .u8 32 w.heap.size w (we.setCell ⟨n, 31, none⟩ (.int .u8 (m31 : Int))) n (upd B 31 m31)) from HC0.out.set (by decide) m31)
  have BC := (show Hid (Rp (we.setCell ⟨n, 31, none⟩ (.int .u8 (m31 : Int))) n 0 C) from ⟨HRA.out HC1.out HEN.out, HC1.out.l.2⟩)
  have AO1 := (show Hid (Ao w.heap.size (we.setCell ⟨n, 31, none⟩ (.int .u8 (m31 : Int))) (n + 1) 64) from AO.out.set1 _)
  have HBE := (show Hid (Below w.heap.size w (we.setCell ⟨n, 31, none⟩ (.int .u8 (m31 : Int)))) from HC1.out.b)
  clear HC0 AO HC1 HRA HEN HB31
  go_enter Try.func43, Try.ntmps43
  go_wp2
  clear hwe r0 r1
  obtain ⟨ws, hws⟩ : ∃ v, we.setCell ⟨n, 31, none⟩ (.int .u8 (m31 : Int)) = v := ⟨_, rfl⟩
  rw [hws] at BC AO1 HBE ⊢
  clear hws
  have BC_0 := BC
  have AO1_0 := AO1
  have HB_0 := (show Hid (Below ws.heap.size ws ws) from Below.refl _ _)
  have TK_0 := (show Hid True from trivial)
  clear BC AO1
  have HQBC := (show Hid _ from BC_0.out.cl)
  have hne := Cl.ne ws.heap.size ws
  refine region_cl (N := ws.heap.size) (W := ws) (by kernel_rfl) (by kernel_rfl) (Below.refl _ _) ?_
  go_big_quiet_want
  refine quiet_load 22 _ rfl n 0 rfl C _ HQBC.out Try.underlying22 rfl LC.out.i ?_
  simp only [Act.put, List.setIfInBounds_toArray, List.set_cons_zero, List.set_cons_succ]
  go_big_quiet_on
  go_big_quiet_step ((go_at_call 22; exact cl_of (cr _) (Nat.le_refl _)))
  go_big_quiet_want
  refine quiet_load 22 _ rfl n 0 rfl C _ HQBC.out Try.underlying22 rfl LC.out.i ?_
  simp only [Act.put, List.setIfInBounds_toArray, List.set_cons_zero, List.set_cons_succ]
  go_big_quiet_on
  go_big_quiet_step (fail)
  refine wpQuiet_nil ?_
  rintro _ ⟨xq, rfl⟩
  have hb := xq.h
  have HBF := (show Hid (Below ws.heap.size ws xq.u) from HB_0.out.trans (hb.mono HB_0.out.size))
  have BC := (show Hid (Rp xq.u n 0 C) from BC_0.out.below hb)
  have AO1 := (show Hid (Ao w.heap.size xq.u (n + 1) 64) from AO1_0.out.below hb)
  have HBQ := (show Hid (Below w.heap.size w xq.u) from HBE.out.trans (HBF.out.mono HBE.out.size))
  obtain ⟨wz, hwz⟩ : ∃ v, xq.u = v := ⟨_, rfl⟩
  rw [hwz] at BC AO1 HBQ ⊢
  clear hwz hb xq hne HQBC BC_0 AO1_0 HB_0 HBF HBE TK_0
  have BC_z0 := BC
  have AO1_z0 := AO1
  have HB_z0 := (show Hid (Below wz.heap.size wz wz) from Below.refl _ _)
  have TK_z0 := (show Hid True from trivial)
  clear BC AO1
  go_wp2_with (first
    | (refine wpList_load_mid rfl 22 (.tmp 1) rfl n 0 rfl C _ BC_z0.out.1 Try.underlying22 rfl LC.out.i ?_)
    | (refine wpList_load_mid rfl 22 (.tmp 1) rfl n 0 rfl C _ BC_z1.out.1 Try.underlying22 rfl LC.out.i ?_)
    | (refine wpList_load_mid rfl 22 (.tmp 1) rfl n 0 rfl C _ BC_z2.out.1 Try.underlying22 rfl LC.out.i ?_)
    | (refine wpList_load_mid rfl 43 (.tmp 5) rfl bBP 0 rfl V _ BP_z2.out.1 Try.underlying43 rfl LV.out.i ?_)
    | (refine wpList_load_mid rfl 22 (.tmp 1) rfl n 0 rfl C _ BC_z3.out.1 Try.underlying22 rfl LC.out.i ?_)
    | (refine wpList_load_mid rfl 43 (.tmp 5) rfl bBP 0 rfl V _ BP_z3.out.1 Try.underlying43 rfl LV.out.i ?_)
    | (refine wpList_load_mid rfl 22 (.tmp 1) rfl n 0 rfl C _ BC_z4.out.1 Try.underlying22 rfl LC.out.i ?_)
    | (refine wpList_load_mid rfl 43 (.tmp 5) rfl bBP 0 rfl V _ BP_z4.out.1 Try.underlying43 rfl LV.out.i ?_)
    | (refine wpList_load_mid rfl 43 (.tmp 7) rfl bBN 0 rfl VN _ BN_z4.out.1 Try.underlying43 rfl LVN.out.i ?_)
    | (have hq := TK_z0; go_at_call 86; refine (ce _).mono ?_; rintro e zw1 ⟨rfl, hb⟩; have HB_z1 := (show Hid (Below wz.heap.size wz zw1) from HB_z0.out.trans (hb.mono HB_z0.out.size)); have BC_z1 := (show Hid (Rp zw1 n 0 C) from BC_z0.out.below hb); have AO1_z1 := (show Hid (Ao w.heap.size zw1 (n + 1) 64) from AO1_z0.out.below hb); have TK_z1 := (show Hid True from trivial); clear hq TK_z0 hb HB_z0 BC_z0 AO1_z0)
    | (have hq := TK_z1; refine wpList_store_mid rfl 43 (.tmp 5) (.tmp 25) rfl zw1.heap.size 0 V.toArray rfl rfl (HTH43.out V LV.out zw1) LV.out.j LV.out.o ?_; simp only; have hbx := HBN43.out V LV.out zw1; obtain ⟨zw2, hzw2⟩ : ∃ v, (zw1.alloc (.cells Z43 43)).setCells zw1.heap.size 0 V = v := ⟨_, rfl⟩; rw [hzw2] at hbx ⊢; clear hzw2; have hb := hbx.2; replace hbx := hbx.1; obtain ⟨bBP, hbBP⟩ : ∃ b, zw1.heap.size = b := ⟨_, rfl⟩; rw [hbBP] at hbx ⊢; clear hbBP; have HB_z2 := (show Hid (Below wz.heap.size wz zw2) from HB_z1.out.trans (hb.mono HB_z1.out.size)); have BC_z2 := (show Hid (Rp zw2 n 0 C) from BC_z1.out.below hb); have AO1_z2 := (show Hid (Ao w.heap.size zw2 (n + 1) 64) from AO1_z1.out.below hb); have BP_z2 := (show Hid (Rp zw2 bBP 0 V) from hbx); have TK_z2 := (show Hid True from trivial); clear hq TK_z1 hb hbx HB_z1 BC_z1 AO1_z1)
    | (have hq := TK_z2; go_at_call 83; refine (cn _).mono ?_; rintro e zw3 ⟨rfl, hb⟩; have HB_z3 := (show Hid (Below wz.heap.size wz zw3) from HB_z2.out.trans (hb.mono HB_z2.out.size)); have BC_z3 := (show Hid (Rp zw3 n 0 C) from BC_z2.out.below hb); have AO1_z3 := (show Hid (Ao w.heap.size zw3 (n + 1) 64) from AO1_z2.out.below hb); have BP_z3 := (show Hid (Rp zw3 bBP 0 V) from BP_z2.out.below hb); have TK_z3 := (show Hid True from trivial); clear hq TK_z2 hb HB_z2 BC_z2 AO1_z2 BP_z2)
    | (have hq := TK_z3; refine wpList_store_mid rfl 43 (.tmp 7) (.tmp 36) rfl zw3.heap.size 0 VN.toArray rfl rfl (HTH43.out VN LVN.out zw3) LVN.out.j LVN.out.o ?_; simp only; have hbx := HBN43.out VN LVN.out zw3; obtain ⟨zw4, hzw4⟩ : ∃ v, (zw3.alloc (.cells Z43 43)).setCells zw3.heap.size 0 VN = v := ⟨_, rfl⟩; rw [hzw4] at hbx ⊢; clear hzw4; have hb := hbx.2; replace hbx := hbx.1; obtain ⟨bBN, hbBN⟩ : ∃ b, zw3.heap.size = b := ⟨_, rfl⟩; rw [hbBN] at hbx ⊢; clear hbBN; have HB_z4 := (show Hid (Below wz.heap.size wz zw4) from HB_z3.out.trans (hb.mono HB_z3.out.size)); have BC_z4 := (show Hid (Rp zw4 n 0 C) from BC_z3.out.below hb); have AO1_z4 := (show Hid (Ao w.heap.size zw4 (n + 1) 64) from AO1_z3.out.below hb); have BP_z4 := (show Hid (Rp zw4 bBP 0 V) from BP_z3.out.below hb); have BN_z4 := (show Hid (Rp zw4 bBN 0 VN) from hbx); have TK_z4 := (show Hid True from trivial); clear hq TK_z3 hb hbx HB_z3 BC_z3 AO1_z3 BP_z3)
    | (refine wpList_store_mid rfl 43 (.tmp 2) (.tmp 42) rfl (n + 1) 0 VN.toArray rfl rfl (LVN.out.t AO1_z4.out) LVN.out.j LVN.out.o ?_; simp only))
  exact bodyPost_ret (res_ct Try.results43 rfl (end43 LVN.out AO1_z4.out) rfl) rfl ⟨rfl, below_setCells (HBQ.out.trans (HB_z4.out.mono HBQ.out.size)) AO1_z4.out.1⟩
end Fd
end Go.Proofs.Ytgdekigdbbldoaa

namespace Go.Proofs.Ytgdekigdbbldoaa
open Go.RowKit
namespace Fd
namespace Cv
open Pratt

theorem bot_ne {x y : F} (h : On x y) : 1 + D * (y * y) ≠ 0 := by
  intro h0
  have e : y * y - x * x = 1 + D * (x * x) * (y * y) := h
  have e1 : y * y = 1 := by grind
  have e2 : I * I = D * (1 * 1) := by
    have hi := i_sq
    rw [e1] at h0
    grind
  exact one_ne (nsq e2)
theorem wq_lt (y : Nat) : wq y < p := Nat.mod_lt _ (by decide)
theorem wq_on {x y : Nat} (h : OnC x y) : wq y = x * x % p := by
  have ho := (onC_on x y).1 h
  have e : tf y * tf y - tf x * tf x = 1 + D * (tf x * tf x) * (tf y * tf y) := ho
  have hm := mul_inv (bot_ne ho)
  have e1 : tf (wq y) = (tf y * tf y - 1) * inv (1 + D * (tf y * tf y)) := by
    unfold wq
    rw [tf_mul, tf_sub, tf_mul, tf_one, inv_tf, tf_add, tf_mul, tf_mul, tf_one]
    rfl
  have e2 : tf (wq y) = tf (mulp x x) := by
    rw [e1, tf_mul]
    have e3 : tf y * tf y - 1 = tf x * tf x * (1 + D * (tf y * tf y)) := by grind
    rw [e3]
    generalize inv (1 + D * (tf y * tf y)) = s at *
    generalize 1 + D * (tf y * tf y) = c at *
    grind
  have e4 := tf_eq.1 e2
  rw [Nat.mod_eq_of_lt (wq_lt y)] at e4
  rw [e4]
  unfold mulp
  rw [Nat.mod_mod]
theorem tf_inj {a b : Nat} (ha : a < p) (hb : b < p) (h : tf a = tf b) : a = b := by
  have := tf_eq.1 h
  rwa [Nat.mod_eq_of_lt ha, Nat.mod_eq_of_lt hb] at this
theorem sq_two {r x : Nat} (hr : r < p) (hx : x < p) (h : r * r % p = x * x % p) : r = x ∨ (x ≠ 0 ∧ r = p - x) := by
  have e : tf r * tf r = tf x * tf x := by
    rw [← tf_mul, ← tf_mul]
    unfold mulp
    rw [h]
  have e1 : (tf r - tf x) * (tf r + tf x) = 0 := by grind
  rcases mul_zero' e1 with h1 | h1
  · left
    refine tf_inj hr hx ?_
    grind
  · by_cases h0 : x = 0
    · left
      subst h0
      refine tf_inj hr hx ?_
      rw [tf_zero] at h1 ⊢
      grind
    · right
      refine ⟨h0, ?_⟩
      have h2 : tf (addp r x) = tf 0 := by rw [tf_add, h1, tf_zero]
      have h3 := tf_eq.1 h2
      unfold addp at h3
      rw [Nat.mod_mod, Nat.mod_eq_of_lt hr, Nat.mod_eq_of_lt hx, Nat.zero_mod] at h3
      have h4 : r + x = p := by
        by_cases hl : r + x < p
        · rw [Nat.mod_eq_of_lt hl] at h3
          omega
        · have h5 : (r + x) % p = r + x - p := by
            rw [Nat.mod_eq_sub_mod (by omega), Nat.mod_eq_of_lt (by omega)]
          omega
      omega
theorem evn_two (r : Nat) (hr : r < p) : (evn r = r ∧ r % 2 = 0) ∨ (evn r = p - r ∧ r % 2 = 1) := by
  unfold evn
  split
  · right
    rename_i h
    rw [Nat.zero_add, Nat.mod_eq_of_lt (show p - r < p by omega)]
    exact ⟨rfl, h⟩
  · left
    exact ⟨rfl, by omega⟩
theorem p_odd : p % 2 = 1 := by decide
/-- The even root is the point's first number or its opposite. -/
theorem evn_on {x y : Nat} (hx : x < p) (h : OnC x y) : rt (wq y) * rt (wq y) % p = wq y ∧ (x % 2 = 0 → evn (rt (wq y)) = x) ∧ (x % 2 = 1 → evn (rt (wq y)) = p - x) := by
  have hw := wq_on h
  have hs := root_sq x hx
  rw [← hw] at hs
  have hr := rt_lt (wq y)
  refine ⟨hs, ?_⟩
  have h2 := sq_two hr hx (by rw [hs, hw])
  have hp := p_odd
  have hc := evn_two (rt (wq y)) hr
  generalize rt (wq y) = r at *
  generalize evn r = v at *
  generalize p = q at *
  constructor
  · intro h0
    omega
  · intro h0
    omega
theorem redp_of {x : Nat} (h : x < p) : redp x = x := Nat.mod_eq_of_lt h
theorem dec_enc (x y : Nat) (w : World) (hx : x < p) (hy : y < p) (h : OnC x y) :
    Calls Try.prog 43 #[bv (encp x y)] w fun e w' => e = .returned (.tuple #[pv x y, .nilIface]) ∧ Below w.heap.size w w' := by
  obtain ⟨h1, h2, h3⟩ := evn_on hx h
  have hr := rt_lt (wq y)
  have y255 := redp_255 y
  have ee : encp x y = y + 57896044618658097711785492504343953926634992332820282019728792003956564819968 * (x % 2) := by
    unfold encp
    rw [redp_of hx, redp_of hy]
  rw [redp_of hy] at y255
  rcases Nat.mod_two_eq_zero_or_one x with h0 | h0
  · rw [ee, h0]
    have hd := decode_c (y + 57896044618658097711785492504343953926634992332820282019728792003956564819968 * 0) y 0 w (by omega) (by omega) (by omega) hy h1 rfl hr
    rw [h2 h0] at hd
    exact hd
  · rw [ee, h0]
    have hv := h3 h0
    have hs : subp 0 (p - x) = x := by
      unfold subp
      rw [Nat.zero_mod, Nat.mod_eq_of_lt (show p - x < p by omega), show 0 + p - (p - x) = x by omega, Nat.mod_eq_of_lt hx]
    have hp := p_odd
    have hd := decode_e (y + 57896044618658097711785492504343953926634992332820282019728792003956564819968 * 1) y 1 w (by omega) (by omega) (by omega) hy h1 rfl (by rw [hv, hs]; omega) hr
    rw [hv, hs, redp_of hy] at hd
    exact hd
end Cv
end Fd
end Go.Proofs.Ytgdekigdbbldoaa
