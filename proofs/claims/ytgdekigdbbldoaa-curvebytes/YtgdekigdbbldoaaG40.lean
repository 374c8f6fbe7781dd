/- What Decode does: a contract, by walking its text. The reference's Rest: a contract, by walking its text. -/
import Derived.Test.YtgdekigdbbldoaaG39
import Derived.Test.YtgdekigdbbldoaaG35
namespace Go.Proofs.Ytgdekigdbbldoaa
open Go.RowKit
namespace Fd
open Rg Pratt

/-- The numbers of 32 bytes: the highest bit, and the rest. -/
theorem top_bit (b c o : Nat) (hc : b % 57896044618658097711785492504343953926634992332820282019728792003956564819968 = c) (ho : b / 57896044618658097711785492504343953926634992332820282019728792003956564819968 = o) (hb : b < 115792089237316195423570985008687907853269984665640564039457584007913129639936) : by_ b 31 / 128 = o ∧ by_ b 31 % 128 < 256 ∧ ∀ j, j < 32 → upd (by_ b) 31 (by_ b 31 % 128) j = by_ c j := by
  have e : ∀ x, by_ x 31 = x / 452312848583266388373324160190187140051835877600158453279131187530910662656 % 256 := fun _ => rfl
  refine ⟨by rw [e]; omega, by omega, fun j hj => ?_⟩
  have hcl : c < 57896044618658097711785492504343953926634992332820282019728792003956564819968 := by omega
  have h := by_enc c o j hcl (by omega) hj
  have e2 : c + 57896044618658097711785492504343953926634992332820282019728792003956564819968 * o = b := by omega
  rw [e2] at h
  unfold upd at h ⊢
  by_cases hj2 : j = 31
  · rw [if_pos hj2, hj2, e, e]
    omega
  · rw [if_neg hj2] at h ⊢
    exact h.symm
theorem u8_and127 (x : Nat) (h : x < 256) : bits .and .u8 (x : Int) 127 = ((x % 128 : Nat) : Int) := by
  have e1 := Nat.and_two_pow_sub_one_eq_mod x 7
  have e0 : 2 ^ 7 - 1 = 127 := by decide
  rw [e0] at e1
  have e2 : x % 2 ^ 7 = x % 128 := rfl
  rw [← e2, ← e1]
  exact u8_and_nat x 127 h (by decide)
/-- The box of 32 bytes and the answer's, a point: cell by cell. -/
theorem start22c (w : World) (b : Nat) :
    let e := (w.alloc (.cells (bvc b).toArray 22)).alloc (.cells z43 43)
    Cs .u8 32 w.heap.size w e w.heap.size (by_ b) ∧ Ao w.heap.size e (w.heap.size + 1) 64 := by
  intro e
  have h := start22p w (bvc b)
  refine ⟨⟨h.2.2, fun j hj => ?_, ?_, Nat.le_refl _, h.1.2⟩, h.2.1⟩
  · have h2 := h.1.1 j _ (bvc_at b j hj)
    rwa [Nat.zero_add] at h2
  · exact World.there_alloc (there_new w (bvc b).toArray 22 (m := 32) fun j hj => by simp [bvc_at b j hj]) _
theorem Ao.set1 {N : Nat} {w : World} {b n g k : Nat} (h : Ao N w b n) (v : Value) : Ao N (w.setCell ⟨g, k, none⟩ v) b n := ⟨h.1, by simpa using h.2.1, World.there_setCells (vs := [v]) h.2.2 g k⟩
theorem eq22_same' (x : Nat) (hx : x < 115792089237316195423570985008687907853269984665640564039457584007913129639936) (W : World) : (Op.equalIn 10000 22 (.agg (bvc x).toArray) (.agg (bvc x).toArray)).run Try.prog W = .ok true W := by have h := eq22 x x W hx hx; rwa [decide_eq_true rfl] at h
theorem evn_lt (a : Nat) (h : a < p) : evn a < 115792089237316195423570985008687907853269984665640564039457584007913129639936 := by
  unfold evn
  split
  · exact Nat.lt_trans (Nat.mod_lt _ (by decide)) (by decide : p < _)
  · exact Nat.lt_trans h (by decide)
set_option maxHeartbeats 4000000 in
set_option maxRecDepth 8000 in
theorem decode_a (b c o : Nat) (w : World) (hb : b < 115792089237316195423570985008687907853269984665640564039457584007913129639936) (hc : b % 57896044618658097711785492504343953926634992332820282019728792003956564819968 = c) (ho : b / 57896044618658097711785492504343953926634992332820282019728792003956564819968 = o) (hp : ¬ c < p) :
    Calls Try.prog 43 #[bv b] w fun e w' => e = .returned (.tuple #[pv 0 0, .iface 35 (.int .i64 29)]) ∧ Below w.heap.size w w' := by
  obtain ⟨t1, t2, t3⟩ := top_bit b c o hc ho hb
  have lc : c < 115792089237316195423570985008687907853269984665640564039457584007913129639936 := by omega
  have ol : o ≤ 1 := by omega
  have hbl : by_ b 31 < 256 := Nat.mod_lt _ (by decide)
  have x2 := u8_and127 (by_ b 31) hbl
  have x1 : ((by_ b 31 : Nat) : Int) / 128 = (o : Int) := by omega
  have HEN : Hid (∀ j, j < 32 → upd (by_ b) 31 (by_ b 31 % 128) j = by_ c j) := t3
  have cr : ∀ W : World, Calls Try.prog 22 #[bv c] W fun e w' => e = .returned (bv (c % p)) ∧ Below W.heap.size W w' := fun W => reduce_any c W lc
  have qr : ∀ W : World, (Op.equalIn 10000 22 (.agg (bvc (c % p)).toArray) (.agg (bvc c).toArray)).run Try.prog W = .ok false W := fun W => by have h := eq22 (c % p) c W (mod_256 c) lc; rwa [decide_eq_false (by have := mod_p c; omega)] at h
  have en := eq_nil
  have ex := eq_err_nil
  have LC : Hid (L32 (bvc c)) := l32 c
  have HRA : Hid (∀ {W : World} {g : Nat} {M : Nat → Nat}, Cs .u8 32 w.heap.size w W g M → (∀ j, j < 32 → M j = by_ c j) → W.rangeAt g 0 (bvc c)) := fun h1 h2 => h1.range _ h2
  have HS := (show Hid _ from start22c w b)
  have LE : Hid (L64 (bvc 0 ++ bvc 0)) := l64 _ _
  have HBN : Hid (Try.prog.built 43 [] = some (bvc 0 ++ bvc 0).toArray) := build_none
  unfold pv
  unfold bv at cr ⊢
  obtain ⟨E, hE⟩ : ∃ X, bvc 0 ++ bvc 0 = X := ⟨_, rfl⟩
  rw [hE] at LE HBN ⊢
  clear hE
  obtain ⟨C, hC⟩ : ∃ X, bvc c = X := ⟨_, rfl⟩
  rw [hC] at LC HRA cr qr
  obtain ⟨RC, hRC⟩ : ∃ X, bvc (c % p) = X := ⟨_, rfl⟩
  rw [hRC] at cr qr
  clear hRC
  obtain ⟨D, hD⟩ : ∃ X, bvc b = X := ⟨_, rfl⟩
  rw [hD] at HS ⊢
  obtain ⟨B, hB⟩ : ∃ X, by_ b = X := ⟨_, rfl⟩
  rw [hB] at HS x1 x2 HEN
  obtain ⟨b31, hb3⟩ : ∃ X, B 31 = X := ⟨_, rfl⟩
  have HB31 : Hid (B 31 = b31) := hb3
  rw [hb3] at x1 x2 HEN
  obtain ⟨m31, hm3⟩ : ∃ X, b31 % 128 = X := ⟨_, rfl⟩
  rw [hm3] at x2 HEN
  clear hC hD hB hb3 hm3 t1 t2 t3 hbl hc ho hb lc hp
  have hz43 := zero43
  have HBN43 : Hid _ := box43
  have HTH43 : Hid _ := th43
  obtain ⟨Z43, hZ43⟩ : ∃ Z, z43 = Z := ⟨_, rfl⟩
  rw [hZ43] at hz43 HS HBN43 HTH43
  clear hZ43
  obtain ⟨n, hn⟩ : ∃ n, w.heap.size = n := ⟨_, rfl⟩
  have HN : Hid (w.heap.size = n) := hn
  obtain ⟨we, hwe⟩ : ∃ v, (w.alloc (.cells D.toArray 22)).alloc (.cells Z43 43) = v := ⟨_, rfl⟩
  have HC0 : Hid (Cs .u8 32 w.heap.size w we n B) := by have h := HS.out.1; rw [hwe] at h; show Cs _ _ _ _ _ _ _; rw [HN.out] at h ⊢; exact h
  have AO : Hid (Ao w.heap.size we (n + 1) 64) := by have h := HS.out.2; rw [hwe] at h; show Ao _ _ _ _; rw [HN.out] at h ⊢; exact h
  clear HS
  have r0 := HC0.out.c 31 (by decide)
  rw [HB31.out] at r0
  have r1 := (HC0.out.t 31 (by decide)).2
  simp only [Nat.zero_add] at r1
  have HC1 := (show Hid (Cs .u8 32 w.heap.size w (we.setCell ⟨n, 31, none⟩ (.int .u8 (m31 : Int))) n (upd B 31 m31)) from HC0.out.set (by decide) m31)
  have BC := (show Hid (Rp (we.setCell ⟨n, 31, none⟩ (.int .u8 (m31 : Int))) n 0 C) from ⟨HRA.out HC1.out HEN.out, HC1.out.l.2⟩)
  have AO1 := (show Hid (Ao w.heap.size (we.setCell ⟨n, 31, none⟩ (.int .u8 (m31 : Int))) (n + 1) 64) from AO.out.set1 _)
  have HBE := (show Hid (Below w.heap.size w (we.setCell ⟨n, 31, none⟩ (.int .u8 (m31 : Int)))) from HC1.out.b)
  clear HC0 AO HC1 HRA HEN HB31
  go_enter Try.func43, Try.ntmps43
  go_wp2
  clear hwe r0 r1
  obtain ⟨ws, hws⟩ : ∃ v, we.setCell ⟨n, 31, none⟩ (.int .u8 (m31 : Int)) = v := ⟨_, rfl⟩
  rw [hws] at BC AO1 HBE ⊢
  clear hws
  have BC_0 := BC
  have AO1_0 := AO1
  have HB_0 := (show Hid (Below ws.heap.size ws ws) from Below.refl _ _)
  have TK_0 := (show Hid True from trivial)
  clear BC AO1
  have HQBC := (show Hid _ from BC_0.out.cl)
  have hne := Cl.ne ws.heap.size ws
  refine region_cl (N := ws.heap.size) (W := ws) (by kernel_rfl) (by kernel_rfl) (Below.refl _ _) ?_
  go_big_quiet_want
  refine quiet_load 22 _ rfl n 0 rfl C _ HQBC.out Try.underlying22 rfl LC.out.i ?_
  simp only [Act.put, List.setIfInBounds_toArray, List.set_cons_zero, List.set_cons_succ]
  go_big_quiet_on
  go_big_quiet_step ((go_at_call 22; exact cl_of (cr _) (Nat.le_refl _)))
  go_big_quiet_want
  refine quiet_load 22 _ rfl n 0 rfl C _ HQBC.out Try.underlying22 rfl LC.out.i ?_
  simp only [Act.put, List.setIfInBounds_toArray, List.set_cons_zero, List.set_cons_succ]
  go_big_quiet_on
  go_big_quiet_step (fail)
  refine wpQuiet_nil ?_
  rintro _ ⟨xq, rfl⟩
  have hb := xq.h
  have HBF := (show Hid (Below ws.heap.size ws xq.u) from HB_0.out.trans (hb.mono HB_0.out.size))
  have BC := (show Hid (Rp xq.u n 0 C) from BC_0.out.below hb)
  have AO1 := (show Hid (Ao w.heap.size xq.u (n + 1) 64) from AO1_0.out.below hb)
  have HBQ := (show Hid (Below w.heap.size w xq.u) from HBE.out.trans (HBF.out.mono HBE.out.size))
  obtain ⟨wz, hwz⟩ : ∃ v, xq.u = v := ⟨_, rfl⟩
  rw [hwz] at BC AO1 HBQ ⊢
  clear hwz hb xq hne HQBC BC_0 AO1_0 HB_0 HBF HBE TK_0
  have BC_z0 := BC
  have AO1_z0 := AO1
  have HB_z0 := (show Hid (Below wz.heap.size wz wz) from Below.refl _ _)
  have TK_z0 := (show Hid True from trivial)
  clear BC AO1
  go_wp2_with (first
    | (refine wpList_load_mid rfl 22 (.tmp 1) rfl n 0 rfl C _ BC_z0.out.1 Try.underlying22 rfl LC.out.i ?_)
    | (refine build_to rfl 43 _ rfl (some 20) rfl [] (by kernel_rfl) E HBN.out ?_; simp only [Act.put, List.setIfInBounds_toArray, List.set_cons_zero, List.set_cons_succ])
    | (refine wpList_store_mid rfl 43 (.tmp 2) (.tmp 20) rfl (n + 1) 0 E.toArray rfl rfl (LE.out.t AO1_z0.out) LE.out.j LE.out.o ?_; simp only))
  exact bodyPost_ret (res_ct Try.results43 rfl (end43 LE.out AO1_z0.out) rfl) rfl ⟨rfl, below_setCells (HBQ.out.trans (HB_z0.out.mono HBQ.out.size)) AO1_z0.out.1⟩
set_option maxHeartbeats 4000000 in
set_option maxRecDepth 8000 in
theorem decode_b (b c o : Nat) (w : World) (hb : b < 115792089237316195423570985008687907853269984665640564039457584007913129639936) (hc : b % 57896044618658097711785492504343953926634992332820282019728792003956564819968 = c) (ho : b / 57896044618658097711785492504343953926634992332820282019728792003956564819968 = o) (hp : c < p) (hr : ¬ rt (wq c) * rt (wq c) % p = wq c) :
    Calls Try.prog 43 #[bv b] w fun e w' => e = .returned (.tuple #[pv 0 0, .iface 35 (.int .i64 29)]) ∧ Below w.heap.size w w' := by
  obtain ⟨t1, t2, t3⟩ := top_bit b c o hc ho hb
  have lc : c < 115792089237316195423570985008687907853269984665640564039457584007913129639936 := by omega
  have ol : o ≤ 1 := by omega
  have hbl : by_ b 31 < 256 := Nat.mod_lt _ (by decide)
  have x2 := u8_and127 (by_ b 31) hbl
  have x1 : ((by_ b 31 : Nat) : Int) / 128 = (o : Int) := by omega
  have HEN : Hid (∀ j, j < 32 → upd (by_ b) 31 (by_ b 31 % 128) j = by_ c j) := t3
  have cr : ∀ W : World, Calls Try.prog 22 #[bv c] W fun e w' => e = .returned (bv (c % p)) ∧ Below W.heap.size W w' := fun W => reduce_any c W lc
  rw [Nat.mod_eq_of_lt hp] at cr
  have qr := eq22_same' c lc
  have ce : ∀ W : World, Calls Try.prog 86 #[bv c] W fun e w' => e = .returned (.tuple #[pv 0 0, .iface 35 (.int .i64 29)]) ∧ Below W.heap.size W w' := fun W => withEven_none c W lc hr
  have en := eq_nil
  have ex := eq_err_nil
  have LC : Hid (L32 (bvc c)) := l32 c
  have HRA : Hid (∀ {W : World} {g : Nat} {M : Nat → Nat}, Cs .u8 32 w.heap.size w W g M → (∀ j, j < 32 → M j = by_ c j) → W.rangeAt g 0 (bvc c)) := fun h1 h2 => h1.range _ h2
  have HS := (show Hid _ from start22c w b)
  have LE : Hid (L64 (bvc 0 ++ bvc 0)) := l64 _ _
  have LV : Hid (L64 (bvc 0 ++ bvc 0)) := l64 _ _
  unfold pv at ce ⊢
  unfold bv at cr ce ⊢
  obtain ⟨E, hE⟩ : ∃ X, bvc 0 ++ bvc 0 = X := ⟨_, rfl⟩
  rw [hE] at LE LV ce ⊢
  clear hE
  obtain ⟨C, hC⟩ : ∃ X, bvc c = X := ⟨_, rfl⟩
  rw [hC] at LC HRA cr qr ce
  obtain ⟨D, hD⟩ : ∃ X, bvc b = X := ⟨_, rfl⟩
  rw [hD] at HS ⊢
  obtain ⟨B, hB⟩ : ∃ X, by_ b = X := ⟨_, rfl⟩
  rw [hB] at HS x1 x2 HEN
  obtain ⟨b31, hb3⟩ : ∃ X, B 31 = X := ⟨_, rfl⟩
  have HB31 : Hid (B 31 = b31) := hb3
  rw [hb3] at x1 x2 HEN
  obtain ⟨m31, hm3⟩ : ∃ X, b31 % 128 = X := ⟨_, rfl⟩
  rw [hm3] at x2 HEN
  clear hC hD hB hb3 hm3 t1 t2 t3 hbl hc ho hb lc hp hr
  have hz43 := zero43
  have HBN43 : Hid _ := box43
  have HTH43 : Hid _ := th43
  obtain ⟨Z43, hZ43⟩ : ∃ Z, z43 = Z := ⟨_, rfl⟩
  rw [hZ43] at hz43 HS HBN43 HTH43
  clear hZ43
  obtain ⟨n, hn⟩ : ∃ n, w.heap.size = n := ⟨_, rfl⟩
  have HN : Hid (w.heap.size = n) := hn
  obtain ⟨we, hwe⟩ : ∃ v, (w.alloc (.cells D.toArray 22)).alloc (.cells Z43 43) = v := ⟨_, rfl⟩
  have HC0 : Hid (Cs .u8 32 w.heap.size w we n B) := by have h := HS.out.1; rw [hwe] at h; show Cs _ _ _ _ _ _ _; rw [HN.out] at h ⊢; exact h
  have AO : Hid (Ao w.heap.size we (n + 1) 64) := by have h := HS.out.2; rw [hwe] at h; show Ao _ _ _ _; rw [HN.out] at h ⊢; exact h
  clear HS
  have r0 := HC0.out.c 31 (by decide)
  rw [HB31.out] at r0
  have r1 := (HC0.out.t 31 (by decide)).2
  simp only [Nat.zero_add] at r1
  have HC1 := (show Hid (Cs .u8 32 w.heap.size w (we.setCell ⟨n, 31, none⟩ (.int .u8 (m31 : Int))) n (upd B 31 m31)) from HC0.out.set (by decide) m31)
  have BC := (show Hid (Rp (we.setCell ⟨n, 31, none⟩ (.int .u8 (m31 : Int))) n 0 C) from ⟨HRA.out HC1.out HEN.out, HC1.out.l.2⟩)
  have AO1 := (show Hid (Ao w.heap.size (we.setCell ⟨n, 31, none⟩ (.int .u8 (m31 : Int))) (n + 1) 64) from AO.out.set1 _)
  have HBE := (show Hid (Below w.heap.size w (we.setCell ⟨n, 31, none⟩ (.int .u8 (m31 : Int)))) from HC1.out.b)
  clear HC0 AO HC1 HRA HEN HB31
  go_enter Try.func43, Try.ntmps43
  go_wp2
  clear hwe r0 r1
  obtain ⟨ws, hws⟩ : ∃ v, we.setCell ⟨n, 31, none⟩ (.int .u8 (m31 : Int)) = v := ⟨_, rfl⟩
  rw [hws] at BC AO1 HBE ⊢
  clear hws
  have BC_0 := BC
  have AO1_0 := AO1
  have HB_0 := (show Hid (Below ws.heap.size ws ws) from Below.refl _ _)
  have TK_0 := (show Hid True from trivial)
  clear BC AO1
  have HQBC := (show Hid _ from BC_0.out.cl)
  have hne := Cl.ne ws.heap.size ws
  refine region_cl (N := ws.heap.size) (W := ws) (by kernel_rfl) (by kernel_rfl) (Below.refl _ _) ?_
  go_big_quiet_want
  refine quiet_load 22 _ rfl n 0 rfl C _ HQBC.out Try.underlying22 rfl LC.out.i ?_
  simp only [Act.put, List.setIfInBounds_toArray, List.set_cons_zero, List.set_cons_succ]
  go_big_quiet_on
  go_big_quiet_step ((go_at_call 22; exact cl_of (cr _) (Nat.le_refl _)))
  go_big_quiet_want
  refine quiet_load 22 _ rfl n 0 rfl C _ HQBC.out Try.underlying22 rfl LC.out.i ?_
  simp only [Act.put, List.setIfInBounds_toArray, List.set_cons_zero, List.set_cons_succ]
  go_big_quiet_on
  go_big_quiet_step (fail)
  refine wpQuiet_nil ?_
  rintro _ ⟨xq, rfl⟩
  have hb := xq.h
  have HBF := (show Hid (Below ws.heap.size ws xq.u) from HB_0.out.trans (hb.mono HB_0.out.size))
  have BC := (show Hid (Rp xq.u n 0 C) from BC_0.out.below hb)
  have AO1 := (show Hid (Ao w.heap.size xq.u (n + 1) 64) from AO1_0.out.below hb)
  have HBQ := (show Hid (Below w.heap.size w xq.u) from HBE.out.trans (HBF.out.mono HBE.out.size))
  obtain ⟨wz, hwz⟩ : ∃ v, xq.u = v := ⟨_, rfl⟩
  rw [hwz] at BC AO1 HBQ ⊢
  clear hwz hb xq hne HQBC BC_0 AO1_0 HB_0 HBF HBE TK_0
  have BC_z0 := BC
  have AO1_z0 := AO1
  have HB_z0 := (show Hid (Below wz.heap.size wz wz) from Below.refl _ _)
  have TK_z0 := (show Hid True from trivial)
  clear BC AO1
  go_wp2_with (first
    | (refine wpList_load_mid rfl 22 (.tmp 1) rfl n 0 rfl C _ BC_z0.out.1 Try.underlying22 rfl LC.out.i ?_)
    | (refine wpList_load_mid rfl 22 (.tmp 1) rfl n 0 rfl C _ BC_z1.out.1 Try.underlying22 rfl LC.out.i ?_)
    | (refine wpList_load_mid rfl 22 (.tmp 1) rfl n 0 rfl C _ BC_z2.out.1 Try.underlying22 rfl LC.out.i ?_)
    | (refine wpList_load_mid rfl 43 (.tmp 5) rfl bBP 0 rfl E _ BP_z2.out.1 Try.underlying43 rfl LE.out.i ?_)
    | (have hq := TK_z0; go_at_call 86; refine (ce _).mono ?_; rintro e zw1 ⟨rfl, hb⟩; have HB_z1 := (show Hid (Below wz.heap.size wz zw1) from HB_z0.out.trans (hb.mono HB_z0.out.size)); have BC_z1 := (show Hid (Rp zw1 n 0 C) from BC_z0.out.below hb); have AO1_z1 := (show Hid (Ao w.heap.size zw1 (n + 1) 64) from AO1_z0.out.below hb); have TK_z1 := (show Hid True from trivial); clear hq TK_z0 hb HB_z0 BC_z0 AO1_z0)
    | (have hq := TK_z1; refine wpList_store_mid rfl 43 (.tmp 5) (.tmp 25) rfl zw1.heap.size 0 E.toArray rfl rfl (HTH43.out E LE.out zw1) LE.out.j LE.out.o ?_; simp only; have hbx := HBN43.out E LE.out zw1; obtain ⟨zw2, hzw2⟩ : ∃ v, (zw1.alloc (.cells Z43 43)).setCells zw1.heap.size 0 E = v := ⟨_, rfl⟩; rw [hzw2] at hbx ⊢; clear hzw2; have hb := hbx.2; replace hbx := hbx.1; obtain ⟨bBP, hbBP⟩ : ∃ b, zw1.heap.size = b := ⟨_, rfl⟩; rw [hbBP] at hbx ⊢; clear hbBP; have HB_z2 := (show Hid (Below wz.heap.size wz zw2) from HB_z1.out.trans (hb.mono HB_z1.out.size)); have BC_z2 := (show Hid (Rp zw2 n 0 C) from BC_z1.out.below hb); have AO1_z2 := (show Hid (Ao w.heap.size zw2 (n + 1) 64) from AO1_z1.out.below hb); have BP_z2 := (show Hid (Rp zw2 bBP 0 E) from hbx); have TK_z2 := (show Hid True from trivial); clear hq TK_z1 hb hbx HB_z1 BC_z1 AO1_z1)
    | (refine wpList_store_mid rfl 43 (.tmp 2) (.tmp 33) rfl (n + 1) 0 E.toArray rfl rfl (LE.out.t AO1_z2.out) LE.out.j LE.out.o ?_; simp only))
  exact bodyPost_ret (res_ct Try.results43 rfl (end43 LE.out AO1_z2.out) rfl) rfl ⟨rfl, below_setCells (HBQ.out.trans (HB_z2.out.mono HBQ.out.size)) AO1_z2.out.1⟩
set_option maxHeartbeats 4000000 in
set_option maxRecDepth 8000 in
theorem decode_c (b c o : Nat) (w : World) (hb : b < 115792089237316195423570985008687907853269984665640564039457584007913129639936) (hc : b % 57896044618658097711785492504343953926634992332820282019728792003956564819968 = c) (ho : b / 57896044618658097711785492504343953926634992332820282019728792003956564819968 = o) (hp : c < p) (hr : rt (wq c) * rt (wq c) % p = wq c) (ho1 : o = 0) (hrt : rt (wq c) < p) :
    Calls Try.prog 43 #[bv b] w fun e w' => e = .returned (.tuple #[pv (evn (rt (wq c))) c, .nilIface]) ∧ Below w.heap.size w w' := by
  obtain ⟨t1, t2, t3⟩ := top_bit b c o hc ho hb
  have lc : c < 115792089237316195423570985008687907853269984665640564039457584007913129639936 := by omega
  have ol : o ≤ 1 := by omega
  have hbl : by_ b 31 < 256 := Nat.mod_lt _ (by decide)
  have x2 := u8_and127 (by_ b 31) hbl
  have x1 : ((by_ b 31 : Nat) : Int) / 128 = (o : Int) := by omega
  have HEN : Hid (∀ j, j < 32 → upd (by_ b) 31 (by_ b 31 % 128) j = by_ c j) := t3
  have cr : ∀ W : World, Calls Try.prog 22 #[bv c] W fun e w' => e = .returned (bv (c % p)) ∧ Below W.heap.size W w' := fun W => reduce_any c W lc
  rw [Nat.mod_eq_of_lt hp] at cr
  have qr := eq22_same' c lc
  have ce : ∀ W : World, Calls Try.prog 86 #[bv c] W fun e w' => e = .returned (.tuple #[pv (evn (rt (wq c))) c, .nilIface]) ∧ Below W.heap.size W w' := fun W => withEven_some c W lc hr
  have lX : evn (rt (wq c)) < 115792089237316195423570985008687907853269984665640564039457584007913129639936 := evn_lt _ hrt
  obtain ⟨X, hX⟩ : ∃ X, evn (rt (wq c)) = X := ⟨_, rfl⟩
  rw [hX] at ce lX ⊢
  have en := eq_nil
  have ex := eq_err_nil
  subst ho1
  have LC : Hid (L32 (bvc c)) := l32 c
  have HRA : Hid (∀ {W : World} {g : Nat} {M : Nat → Nat}, Cs .u8 32 w.heap.size w W g M → (∀ j, j < 32 → M j = by_ c j) → W.rangeAt g 0 (bvc c)) := fun h1 h2 => h1.range _ h2
  have HS := (show Hid _ from start22c w b)
  have LE : Hid (L64 (bvc X ++ bvc c)) := l64 _ _
  have LV : Hid (L64 (bvc X ++ bvc c)) := l64 _ _
  unfold pv at ce ⊢
  unfold bv at cr ce ⊢
  obtain ⟨E, hE⟩ : ∃ Z, bvc X ++ bvc c = Z := ⟨_, rfl⟩
  rw [hE] at LE LV ce ⊢
  clear hE
  obtain ⟨C, hC⟩ : ∃ X, bvc c = X := ⟨_, rfl⟩
  rw [hC] at LC HRA cr qr ce
  obtain ⟨D, hD⟩ : ∃ X, bvc b = X := ⟨_, rfl⟩
  rw [hD] at HS ⊢
  obtain ⟨B, hB⟩ : ∃ X, by_ b = X := ⟨_, rfl⟩
  rw [hB] at HS x1 x2 HEN
  obtain ⟨b31, hb3⟩ : ∃ X, B 31 = X := ⟨_, rfl⟩
  have HB31 : Hid (B 31 = b31) := hb3
  rw [hb3] at x1 x2 HEN
  obtain ⟨m31, hm3⟩ : ∃ X, b31 % 128 = X := ⟨_, rfl⟩
  rw [hm3] at x2 HEN
  clear hC hD hB hb3 hm3 t1 t2 t3 hbl hc ho hb lc hp hr lX hX hrt ol
  have hz43 := zero43
  have HBN43 : Hid _ := box43
  have HTH43 : Hid _ := th43
  obtain ⟨Z43, hZ43⟩ : ∃ Z, z43 = Z := ⟨_, rfl⟩
  rw [hZ43] at hz43 HS HBN43 HTH43
  clear hZ43
  obtain ⟨n, hn⟩ : ∃ n, w.heap.size = n := ⟨_, rfl⟩
  have HN : Hid (w.heap.size = n) := hn
  obtain ⟨we, hwe⟩ : ∃ v, (w.alloc (.cells D.toArray 22)).alloc (.cells Z43 43) = v := ⟨_, rfl⟩
  have HC0 : Hid (Cs .u8 32 w.heap.size w we n B) := by have h := HS.out.1; rw [hwe] at h; show Cs _ _ _ _ _ _ _; rw [HN.out] at h ⊢; exact h
  have AO : Hid (Ao w.heap.size we (n + 1) 64) := by have h := HS.out.2; rw [hwe] at h; show Ao _ _ _ _; rw [HN.out] at h ⊢; exact h
  clear HS
  have r0 := HC0.out.c 31 (by decide)
  rw [HB31.out] at r0
  have r1 := (HC0.out.t 31 (by decide)).2
  simp only [Nat.zero_add] at r1
  have HC1 := (show Hid (Cs .u8 32 w.heap.size w (we.setCell ⟨n, 31, none⟩ (.int .u8 (m31 : Int))) n (upd B 31 m31)) from HC0.out.set (by decide) m31)
  have BC := (show Hid (Rp (we.setCell ⟨n, 31, none⟩ (.int .u8 (m31 : Int))) n 0 C) from ⟨HRA.out HC1.out HEN.out, HC1.out.l.2⟩)
  have AO1 := (show Hid (Ao w.heap.size (we.setCell ⟨n, 31, none⟩ (.int .u8 (m31 : Int))) (n + 1) 64) from AO.out.set1 _)
  have HBE := (show Hid (Below w.heap.size w (we.setCell ⟨n, 31, none⟩ (.int .u8 (m31 : Int)))) from HC1.out.b)
  clear HC0 AO HC1 HRA HEN HB31
  go_enter Try.func43, Try.ntmps43
  go_wp2
  clear hwe r0 r1
  obtain ⟨ws, hws⟩ : ∃ v, we.setCell ⟨n, 31, none⟩ (.int .u8 (m31 : Int)) = v := ⟨_, rfl⟩
  rw [hws] at BC AO1 HBE ⊢
  clear hws
  have BC_0 := BC
  have AO1_0 := AO1
  have HB_0 := (show Hid (Below ws.heap.size ws ws) from Below.refl _ _)
  have TK_0 := (show Hid True from trivial)
  clear BC AO1
  have HQBC := (show Hid _ from BC_0.out.cl)
  have hne := Cl.ne ws.heap.size ws
  refine region_cl (N := ws.heap.size) (W := ws) (by kernel_rfl) (by kernel_rfl) (Below.refl _ _) ?_
  go_big_quiet_want
  refine quiet_load 22 _ rfl n 0 rfl C _ HQBC.out Try.underlying22 rfl LC.out.i ?_
  simp only [Act.put, List.setIfInBounds_toArray, List.set_cons_zero, List.set_cons_succ]
  go_big_quiet_on
  go_big_quiet_step ((go_at_call 22; exact cl_of (cr _) (Nat.le_refl _)))
  go_big_quiet_want
  refine quiet_load 22 _ rfl n 0 rfl C _ HQBC.out Try.underlying22 rfl LC.out.i ?_
  simp only [Act.put, List.setIfInBounds_toArray, List.set_cons_zero, List.set_cons_succ]
  go_big_quiet_on
  go_big_quiet_step (fail)
  refine wpQuiet_nil ?_
  rintro _ ⟨xq, rfl⟩
  have hb := xq.h
  have HBF := (show Hid (Below ws.heap.size ws xq.u) from HB_0.out.trans (hb.mono HB_0.out.size))
  have BC := (show Hid (Rp xq.u n 0 C) from BC_0.out.below hb)
  have AO1 := (show Hid (Ao w.heap.size xq.u (n + 1) 64) from AO1_0.out.below hb)
  have HBQ := (show Hid (Below w.heap.size w xq.u) from HBE.out.trans (HBF.out.mono HBE.out.size))
  obtain ⟨wz, hwz⟩ : ∃ v, xq.u = v := ⟨_, rfl⟩
  rw [hwz] at BC AO1 HBQ ⊢
  clear hwz hb xq hne HQBC BC_0 AO1_0 HB_0 HBF HBE TK_0
  have BC_z0 := BC
  have AO1_z0 := AO1
  have HB_z0 := (show Hid (Below wz.heap.size wz wz) from Below.refl _ _)
  have TK_z0 := (show Hid True from trivial)
  clear BC AO1
  go_wp2_with (first
    | (refine wpList_load_mid rfl 22 (.tmp 1) rfl n 0 rfl C _ BC_z0.out.1 Try.underlying22 rfl LC.out.i ?_)
    | (refine wpList_load_mid rfl 22 (.tmp 1) rfl n 0 rfl C _ BC_z1.out.1 Try.underlying22 rfl LC.out.i ?_)
    | (refine wpList_load_mid rfl 22 (.tmp 1) rfl n 0 rfl C _ BC_z2.out.1 Try.underlying22 rfl LC.out.i ?_)
    | (refine wpList_load_mid rfl 43 (.tmp 5) rfl bBP 0 rfl E _ BP_z2.out.1 Try.underlying43 rfl LE.out.i ?_)
    | (have hq := TK_z0; go_at_call 86; refine (ce _).mono ?_; rintro e zw1 ⟨rfl, hb⟩; have HB_z1 := (show Hid (Below wz.heap.size wz zw1) from HB_z0.out.trans (hb.mono HB_z0.out.size)); have BC_z1 := (show Hid (Rp zw1 n 0 C) from BC_z0.out.below hb); have AO1_z1 := (show Hid (Ao w.heap.size zw1 (n + 1) 64) from AO1_z0.out.below hb); have TK_z1 := (show Hid True from trivial); clear hq TK_z0 hb HB_z0 BC_z0 AO1_z0)
    | (have hq := TK_z1; refine wpList_store_mid rfl 43 (.tmp 5) (.tmp 25) rfl zw1.heap.size 0 E.toArray rfl rfl (HTH43.out E LE.out zw1) LE.out.j LE.out.o ?_; simp only; have hbx := HBN43.out E LE.out zw1; obtain ⟨zw2, hzw2⟩ : ∃ v, (zw1.alloc (.cells Z43 43)).setCells zw1.heap.size 0 E = v := ⟨_, rfl⟩; rw [hzw2] at hbx ⊢; clear hzw2; have hb := hbx.2; replace hbx := hbx.1; obtain ⟨bBP, hbBP⟩ : ∃ b, zw1.heap.size = b := ⟨_, rfl⟩; rw [hbBP] at hbx ⊢; clear hbBP; have HB_z2 := (show Hid (Below wz.heap.size wz zw2) from HB_z1.out.trans (hb.mono HB_z1.out.size)); have BC_z2 := (show Hid (Rp zw2 n 0 C) from BC_z1.out.below hb); have AO1_z2 := (show Hid (Ao w.heap.size zw2 (n + 1) 64) from AO1_z1.out.below hb); have BP_z2 := (show Hid (Rp zw2 bBP 0 E) from hbx); have TK_z2 := (show Hid True from trivial); clear hq TK_z1 hb hbx HB_z1 BC_z1 AO1_z1)
    | (refine wpList_store_mid rfl 43 (.tmp 2) (.tmp 33) rfl (n + 1) 0 E.toArray rfl rfl (LE.out.t AO1_z2.out) LE.out.j LE.out.o ?_; simp only))
  exact bodyPost_ret (res_ct Try.results43 rfl (end43 LE.out AO1_z2.out) rfl) rfl ⟨rfl, below_setCells (HBQ.out.trans (HB_z2.out.mono HBQ.out.size)) AO1_z2.out.1⟩
set_option maxHeartbeats 4000000 in
set_option maxRecDepth 8000 in
theorem decode_d (b c o : Nat) (w : World) (hb : b < 115792089237316195423570985008687907853269984665640564039457584007913129639936) (hc : b % 57896044618658097711785492504343953926634992332820282019728792003956564819968 = c) (ho : b / 57896044618658097711785492504343953926634992332820282019728792003956564819968 = o) (hp : c < p) (hr : rt (wq c) * rt (wq c) % p = wq c) (ho1 : o = 1) (h0 : subp 0 (evn (rt (wq c))) = evn (rt (wq c))) (hrt : rt (wq c) < p) :
    Calls Try.prog 43 #[bv b] w fun e w' => e = .returned (.tuple #[pv 0 0, .iface 35 (.int .i64 29)]) ∧ Below w.heap.size w w' := by
  obtain ⟨t1, t2, t3⟩ := top_bit b c o hc ho hb
  have lc : c < 115792089237316195423570985008687907853269984665640564039457584007913129639936 := by omega
  have ol : o ≤ 1 := by omega
  have hbl : by_ b 31 < 256 := Nat.mod_lt _ (by decide)
  have x2 := u8_and127 (by_ b 31) hbl
  have x1 : ((by_ b 31 : Nat) : Int) / 128 = (o : Int) := by omega
  have HEN : Hid (∀ j, j < 32 → upd (by_ b) 31 (by_ b 31 % 128) j = by_ c j) := t3
  have cr : ∀ W : World, Calls Try.prog 22 #[bv c] W fun e w' => e = .returned (bv (c % p)) ∧ Below W.heap.size W w' := fun W => reduce_any c W lc
  rw [Nat.mod_eq_of_lt hp] at cr
  have qr := eq22_same' c lc
  have ce : ∀ W : World, Calls Try.prog 86 #[bv c] W fun e w' => e = .returned (.tuple #[pv (evn (rt (wq c))) c, .nilIface]) ∧ Below W.heap.size W w' := fun W => withEven_some c W lc hr
  have lX : evn (rt (wq c)) < 115792089237316195423570985008687907853269984665640564039457584007913129639936 := evn_lt _ hrt
  obtain ⟨X, hX⟩ : ∃ X, evn (rt (wq c)) = X := ⟨_, rfl⟩
  rw [hX] at ce lX h0
  have cn : ∀ W : World, Calls Try.prog 83 #[pv X c] W fun e w' => e = .returned (pv (subp 0 X) (redp c)) ∧ Below W.heap.size W w' := fun W => negative_at X c 0 _ _ rfl rfl rfl lX lc W
  have lS := subp_lt 0 X
  have hrc : redp c = c := Nat.mod_eq_of_lt hp
  have q43 : ∀ W : World, (Op.equalIn 10000 43 (.agg (bvc (subp 0 X) ++ bvc (redp c)).toArray) (.agg (bvc X ++ bvc c).toArray)).run Try.prog W = .ok true W := fun W => by
    have h := eq43 (subp 0 X) (redp c) X c W lS (redp_lt c) lX lc
    rwa [decide_eq_true ⟨h0, hrc⟩] at h
  have en := eq_nil
  have ex := eq_err_nil
  subst ho1
  have LC : Hid (L32 (bvc c)) := l32 c
  have HRA : Hid (∀ {W : World} {g : Nat} {M : Nat → Nat}, Cs .u8 32 w.heap.size w W g M → (∀ j, j < 32 → M j = by_ c j) → W.rangeAt g 0 (bvc c)) := fun h1 h2 => h1.range _ h2
  have HS := (show Hid _ from start22c w b)
  have LE : Hid (L64 (bvc 0 ++ bvc 0)) := l64 _ _
  have LV : Hid (L64 (bvc X ++ bvc c)) := l64 _ _
  have LVN : Hid (L64 (bvc (subp 0 X) ++ bvc (redp c))) := l64 _ _
  have HBN : Hid (Try.prog.built 43 [] = some (bvc 0 ++ bvc 0).toArray) := build_none
  unfold pv at ce cn ⊢
  unfold bv at cr ce ⊢
  obtain ⟨E, hE⟩ : ∃ X, bvc 0 ++ bvc 0 = X := ⟨_, rfl⟩
  rw [hE] at LE HBN ⊢
  obtain ⟨V, hV⟩ : ∃ Z, bvc X ++ bvc c = Z := ⟨_, rfl⟩
  rw [hV] at LV ce cn q43
  obtain ⟨VN, hVN⟩ : ∃ Z, bvc (subp 0 X) ++ bvc (redp c) = Z := ⟨_, rfl⟩
  rw [hVN] at LVN cn q43
  clear hE hV hVN
  obtain ⟨C, hC⟩ : ∃ X, bvc c = X := ⟨_, rfl⟩
  rw [hC] at LC HRA cr qr ce
  obtain ⟨D, hD⟩ : ∃ X, bvc b = X := ⟨_, rfl⟩
  rw [hD] at HS ⊢
  obtain ⟨B, hB⟩ : ∃ X, by_ b = X := ⟨_, rfl⟩
  rw [hB] at HS x1 x2 HEN
  obtain ⟨b31, hb3⟩ : ∃ X, B 31 = X := ⟨_, rfl⟩
  have HB31 : Hid (B 31 = b31) := hb3
  rw [hb3] at x1 x2 HEN
  obtain ⟨m31, hm3⟩ : ∃ X, b31 % 128 = X := ⟨_, rfl⟩
  rw [hm3] at x2 HEN
  clear hC hD hB hb3 hm3 t1 t2 t3 hbl hc ho hb lc hp hr lX hX lS hrc h0 hrt ol
  have hz43 := zero43
  have HBN43 : Hid _ := box43
  have HTH43 : Hid _ := th43
  obtain ⟨Z43, hZ43⟩ : ∃ Z, z43 = Z := ⟨_, rfl⟩
  rw [hZ43] at hz43 HS HBN43 HTH43
  clear hZ43
  obtain ⟨n, hn⟩ : ∃ n, w.heap.size = n := ⟨_, rfl⟩
  have HN : Hid (w.heap.size = n) := hn
  obtain ⟨we, hwe⟩ : ∃ v, (w.alloc (.cells D.toArray 22)).alloc (.cells Z43 43) = v := ⟨_, rfl⟩
  have HC0 : Hid (Cs .u8 32 w.heap.size w we n B) := by have h := HS.out.1; rw [hwe] at h; show Cs _ _ _ _ _ _ _; rw [HN.out] at h ⊢; exact h
  have AO : Hid (Ao w.heap.size we (n + 1) 64) := by have h := HS.out.2; rw [hwe] at h; show Ao _ _ _ _; rw [HN.out] at h ⊢; exact h
  clear HS
  have r0 := HC0.out.c 31 (by decide)
  rw [HB31.out] at r0
  have r1 := (HC0.out.t 31 (by decide)).2
  simp only [Nat.zero_add] at r1
  have HC1 := (show Hid (Cs .u8 32 w.heap.size w (we.setCell ⟨n, 31, none⟩ (.int .u8 (m31 : Int))) n (upd B 31 m31)) from HC0.out.set (by decide) m31)
  have BC := (show Hid (Rp (we.setCell ⟨n, 31, none⟩ (.int .u8 (m31 : Int))) n 0 C) from ⟨HRA.out HC1.out HEN.out, HC1.out.l.2⟩)
  have AO1 := (show Hid (Ao w.heap.size (we.setCell ⟨n, 31, none⟩ (.int .u8 (m31 : Int))) (n + 1) 64) from AO.out.set1 _)
  have HBE := (show Hid (Below w.heap.size w (we.setCell ⟨n, 31, none⟩ (.int .u8 (m31 : Int)))) from HC1.out.b)
  clear HC0 AO HC1 HRA HEN HB31
  go_enter Try.func43, Try.ntmps43
  go_wp2
  clear hwe r0 r1
  obtain ⟨ws, hws⟩ : ∃ v, we.setCell ⟨n, 31, none⟩ (.int .u8 (m31 : Int)) = v := ⟨_, rfl⟩
  rw [hws] at BC AO1 HBE ⊢
  clear hws
  have BC_0 := BC
  have AO1_0 := AO1
  have HB_0 := (show Hid (Below ws.heap.size ws ws) from Below.refl _ _)
  have TK_0 := (show Hid True from trivial)
  clear BC AO1
  have HQBC := (show Hid _ from BC_0.out.cl)
  have hne := Cl.ne ws.heap.size ws
  refine region_cl (N := ws.heap.size) (W := ws) (by kernel_rfl) (by kernel_rfl) (Below.refl _ _) ?_
  go_big_quiet_want
  refine quiet_load 22 _ rfl n 0 rfl C _ HQBC.out Try.underlying22 rfl LC.out.i ?_
  simp only [Act.put, List.setIfInBounds_toArray, List.set_cons_zero, List.set_cons_succ]
  go_big_quiet_on
  go_big_quiet_step ((go_at_call 22; exact cl_of (cr _) (Nat.le_refl _)))
  go_big_quiet_want
  refine quiet_load 22 _ rfl n 0 rfl C _ HQBC.out Try.underlying22 rfl LC.out.i ?_
  simp only [Act.put, List.setIfInBounds_toArray, List.set_cons_zero, List.set_cons_succ]
  go_big_quiet_on
  go_big_quiet_step (fail)
  refine wpQuiet_nil ?_
  rintro _ ⟨xq, rfl⟩
  have hb := xq.h
  have HBF := (show Hid (Below ws.heap.size ws xq.u) from HB_0.out.trans (hb.mono HB_0.out.size))
  have BC := (show Hid (Rp xq.u n 0 C) from BC_0.out.below hb)
  have AO1 := (show Hid (Ao w.heap.size xq.u (n + 1) 64) from AO1_0.out.below hb)
  have HBQ := (show Hid (Below w.heap.size w xq.u) from HBE.out.trans (HBF.out.mono HBE.out.size))
  obtain ⟨wz, hwz⟩ : ∃ v, xq.u = v := ⟨_, rfl⟩
  rw [hwz] at BC AO1 HBQ ⊢
  clear hwz hb xq hne HQBC BC_0 AO1_0 HB_0 HBF HBE TK_0
  have BC_z0 := BC
  have AO1_z0 := AO1
  have HB_z0 := (show Hid (Below wz.heap.size wz wz) from Below.refl _ _)
  have TK_z0 := (show Hid True from trivial)
  clear BC AO1
  go_wp2_with (first
    | (refine wpList_load_mid rfl 22 (.tmp 1) rfl n 0 rfl C _ BC_z0.out.1 Try.underlying22 rfl LC.out.i ?_)
    | (refine wpList_load_mid rfl 22 (.tmp 1) rfl n 0 rfl C _ BC_z1.out.1 Try.underlying22 rfl LC.out.i ?_)
    | (refine wpList_load_mid rfl 22 (.tmp 1) rfl n 0 rfl C _ BC_z2.out.1 Try.underlying22 rfl LC.out.i ?_)
    | (refine wpList_load_mid rfl 43 (.tmp 5) rfl bBP 0 rfl V _ BP_z2.out.1 Try.underlying43 rfl LV.out.i ?_)
    | (refine wpList_load_mid rfl 22 (.tmp 1) rfl n 0 rfl C _ BC_z3.out.1 Try.underlying22 rfl LC.out.i ?_)
    | (refine wpList_load_mid rfl 43 (.tmp 5) rfl bBP 0 rfl V _ BP_z3.out.1 Try.underlying43 rfl LV.out.i ?_)
    | (refine wpList_load_mid rfl 22 (.tmp 1) rfl n 0 rfl C _ BC_z4.out.1 Try.underlying22 rfl LC.out.i ?_)
    | (refine wpList_load_mid rfl 43 (.tmp 5) rfl bBP 0 rfl V _ BP_z4.out.1 Try.underlying43 rfl LV.out.i ?_)
    | (refine wpList_load_mid rfl 43 (.tmp 7) rfl bBN 0 rfl VN _ BN_z4.out.1 Try.underlying43 rfl LVN.out.i ?_)
    | (have hq := TK_z0; go_at_call 86; refine (ce _).mono ?_; rintro e zw1 ⟨rfl, hb⟩; have HB_z1 := (show Hid (Below wz.heap.size wz zw1) from HB_z0.out.trans (hb.mono HB_z0.out.size)); have BC_z1 := (show Hid (Rp zw1 n 0 C) from BC_z0.out.below hb); have AO1_z1 := (show Hid (Ao w.heap.size zw1 (n + 1) 64) from AO1_z0.out.below hb); have TK_z1 := (show Hid True from trivial); clear hq TK_z0 hb HB_z0 BC_z0 AO1_z0)
    | (have hq := TK_z1; refine wpList_store_mid rfl 43 (.tmp 5) (.tmp 25) rfl zw1.heap.size 0 V.toArray rfl rfl (HTH43.out V LV.out zw1) LV.out.j LV.out.o ?_; simp only; have hbx := HBN43.out V LV.out zw1; obtain ⟨zw2, hzw2⟩ : ∃ v, (zw1.alloc (.cells Z43 43)).setCells zw1.heap.size 0 V = v := ⟨_, rfl⟩; rw [hzw2] at hbx ⊢; clear hzw2; have hb := hbx.2; replace hbx := hbx.1; obtain ⟨bBP, hbBP⟩ : ∃ b, zw1.heap.size = b := ⟨_, rfl⟩; rw [hbBP] at hbx ⊢; clear hbBP; have HB_z2 := (show Hid (Below wz.heap.size wz zw2) from HB_z1.out.trans (hb.mono HB_z1.out.size)); have BC_z2 := (show Hid (Rp zw2 n 0 C) from BC_z1.out.below hb); have AO1_z2 := (show Hid (Ao w.heap.size zw2 (n + 1) 64) from AO1_z1.out.below hb); have BP_z2 := (show Hid (Rp zw2 bBP 0 V) from hbx); have TK_z2 := (show Hid True from trivial); clear hq TK_z1 hb hbx HB_z1 BC_z1 AO1_z1)
    | (have hq := TK_z2; go_at_call 83; refine (cn _).mono ?_; rintro e zw3 ⟨rfl, hb⟩; have HB_z3 := (show Hid (Below wz.heap.size wz zw3) from HB_z2.out.trans (hb.mono HB_z2.out.size)); have BC_z3 := (show Hid (Rp zw3 n 0 C) from BC_z2.out.below hb); have AO1_z3 := (show Hid (Ao w.heap.size zw3 (n + 1) 64) from AO1_z2.out.below hb); have BP_z3 := (show Hid (Rp zw3 bBP 0 V) from BP_z2.out.below hb); have TK_z3 := (show Hid True from trivial); clear hq TK_z2 hb HB_z2 BC_z2 AO1_z2 BP_z2)
    | (have hq := TK_z3; refine wpList_store_mid rfl 43 (.tmp 7) (.tmp 36) rfl zw3.heap.size 0 VN.toArray rfl rfl (HTH43.out VN LVN.out zw3) LVN.out.j LVN.out.o ?_; simp only; have hbx := HBN43.out VN LVN.out zw3; obtain ⟨zw4, hzw4⟩ : ∃ v, (zw3.alloc (.cells Z43 43)).setCells zw3.heap.size 0 VN = v := ⟨_, rfl⟩; rw [hzw4] at hbx ⊢; clear hzw4; have hb := hbx.2; replace hbx := hbx.1; obtain ⟨bBN, hbBN⟩ : ∃ b, zw3.heap.size = b := ⟨_, rfl⟩; rw [hbBN] at hbx ⊢; clear hbBN; have HB_z4 := (show Hid (Below wz.heap.size wz zw4) from HB_z3.out.trans (hb.mono HB_z3.out.size)); have BC_z4 := (show Hid (Rp zw4 n 0 C) from BC_z3.out.below hb); have AO1_z4 := (show Hid (Ao w.heap.size zw4 (n + 1) 64) from AO1_z3.out.below hb); have BP_z4 := (show Hid (Rp zw4 bBP 0 V) from BP_z3.out.below hb); have BN_z4 := (show Hid (Rp zw4 bBN 0 VN) from hbx); have TK_z4 := (show Hid True from trivial); clear hq TK_z3 hb hbx HB_z3 BC_z3 AO1_z3 BP_z3)
    | (refine build_to rfl 43 _ rfl (some 40) rfl [] (by kernel_rfl) E HBN.out ?_; simp only [Act.put, List.setIfInBounds_toArray, List.set_cons_zero, List.set_cons_succ])
    | (refine wpList_store_mid rfl 43 (.tmp 2) (.tmp 40) rfl (n + 1) 0 E.toArray rfl rfl (LE.out.t AO1_z4.out) LE.out.j LE.out.o ?_; simp only))
  exact bodyPost_ret (res_ct Try.results43 rfl (end43 LE.out AO1_z4.out) rfl) rfl ⟨rfl, below_setCells (HBQ.out.trans (HB_z4.out.mono HBQ.out.size)) AO1_z4.out.1⟩
set_option maxHeartbeats 4000000 in
set_option maxRecDepth 8000 in
theorem decode_e (b c o : Nat) (w : World) (hb : b < 115792089237316195423570985008687907853269984665640564039457584007913129639936) (hc : b % 57896044618658097711785492504343953926634992332820282019728792003956564819968 = c) (ho : b / 57896044618658097711785492504343953926634992332820282019728792003956564819968 = o) (hp : c < p) (hr : rt (wq c) * rt (wq c) % p = wq c) (ho1 : o = 1) (h0 : ¬ subp 0 (evn (rt (wq c))) = evn (rt (wq c))) (hrt : rt (wq c) < p) :
    Calls Try.prog 43 #[bv b] w fun e w' => e = .returned (.tuple #[pv (subp 0 (evn (rt (wq c)))) (redp c), .nilIface]) ∧ Below w.heap.size w w' := by
  obtain ⟨t1, t2, t3⟩ := top_bit b c o hc ho hb
  have lc : c < 115792089237316195423570985008687907853269984665640564039457584007913129639936 := by omega
  have ol : o ≤ 1 := by omega
  have hbl : by_ b 31 < 256 := Nat.mod_lt _ (by decide)
  have x2 := u8_and127 (by_ b 31) hbl
  have x1 : ((by_ b 31 : Nat) : Int) / 128 = (o : Int) := by omega
  have HEN : Hid (∀ j, j < 32 → upd (by_ b) 31 (by_ b 31 % 128) j = by_ c j) := t3
  have cr : ∀ W : World, Calls Try.prog 22 #[bv c] W fun e w' => e = .returned (bv (c % p)) ∧ Below W.heap.size W w' := fun W => reduce_any c W lc
  rw [Nat.mod_eq_of_lt hp] at cr
  have qr := eq22_same' c lc
  have ce : ∀ W : World, Calls Try.prog 86 #[bv c] W fun e w' => e = .returned (.tuple #[pv (evn (rt (wq c))) c, .nilIface]) ∧ Below W.heap.size W w' := fun W => withEven_some c W lc hr
  have lX : evn (rt (wq c)) < 115792089237316195423570985008687907853269984665640564039457584007913129639936 := evn_lt _ hrt
  obtain ⟨X, hX⟩ : ∃ X, evn (rt (wq c)) = X := ⟨_, rfl⟩
  rw [hX] at ce lX h0 ⊢
  have cn : ∀ W : World, Calls Try.prog 83 #[pv X c] W fun e w' => e = .returned (pv (subp 0 X) (redp c)) ∧ Below W.heap.size W w' := fun W => negative_at X c 0 _ _ rfl rfl rfl lX lc W
  have lS := subp_lt 0 X
  have hrc : redp c = c := Nat.mod_eq_of_lt hp
  have q43 : ∀ W : World, (Op.equalIn 10000 43 (.agg (bvc (subp 0 X) ++ bvc (redp c)).toArray) (.agg (bvc X ++ bvc c).toArray)).run Try.prog W = .ok false W := fun W => by
    have h := eq43 (subp 0 X) (redp c) X c W lS (redp_lt c) lX lc
    rwa [decide_eq_false (fun h => h0 h.1)] at h
  have en := eq_nil
  have ex := eq_err_nil
  subst ho1
  have LC : Hid (L32 (bvc c)) := l32 c
  have HRA : Hid (∀ {W : World} {g : Nat} {M : Nat → Nat}, Cs .u8 32 w.heap.size w W g M → (∀ j, j < 32 → M j = by_ c j) → W.rangeAt g 0 (bvc c)) := fun h1 h2 => h1.range _ h2
  have HS := (show Hid _ from start22c w b)
  have LE : Hid (L64 (bvc (subp 0 X) ++ bvc (redp c))) := l64 _ _
  have LV : Hid (L64 (bvc X ++ bvc c)) := l64 _ _
  have LVN : Hid (L64 (bvc (subp 0 X) ++ bvc (redp c))) := l64 _ _
  unfold pv at ce cn ⊢
  unfold bv at cr ce ⊢
  obtain ⟨V, hV⟩ : ∃ Z, bvc X ++ bvc c = Z := ⟨_, rfl⟩
  rw [hV] at LV ce cn q43
  obtain ⟨VN, hVN⟩ : ∃ Z, bvc (subp 0 X) ++ bvc (redp c) = Z := ⟨_, rfl⟩
  rw [hVN] at LVN LE cn q43 ⊢
  clear hV hVN
  obtain ⟨C, hC⟩ : ∃ X, bvc c = X := ⟨_, rfl⟩
  rw [hC] at LC HRA cr qr ce
  obtain ⟨D, hD⟩ : ∃ X, bvc b = X := ⟨_, rfl⟩
  rw [hD] at HS ⊢
  obtain ⟨B, hB⟩ : ∃ X, by_ b = X := ⟨_, rfl⟩
  rw [hB] at HS x1 x2 HEN
  obtain ⟨b31, hb3⟩ : ∃ X, B 31 = X := ⟨_, rfl⟩
  have HB31 : Hid (B 31 = b31) := hb3
  rw [hb3] at x1 x2 HEN
  obtain ⟨m31, hm3⟩ : ∃ X, b31 % 128 = X := ⟨_, rfl⟩
  rw [hm3] at x2 HEN
  clear hC hD hB hb3 hm3 t1 t2 t3 hbl hc ho hb lc hp hr lX hX lS hrc h0 hrt ol
  have hz43 := zero43
  have HBN43 : Hid _ := box43
  have HTH43 : Hid _ := th43
  obtain ⟨Z43, hZ43⟩ : ∃ Z, z43 = Z := ⟨_, rfl⟩
  rw [hZ43] at hz43 HS HBN43 HTH43
  clear hZ43
  obtain ⟨n, hn⟩ : ∃ n, w.heap.size = n := ⟨_, rfl⟩
  have HN : Hid (w.heap.size = n) := hn
  obtain ⟨we, hwe⟩ : ∃ v, (w.alloc (.cells D.toArray 22)).alloc (.cells Z43 43) = v := ⟨_, rfl⟩
  have HC0 : Hid (Cs .u8 32 w.heap.size w we n B) := by have h := HS.out.1; rw [hwe] at h; show Cs _ _ _ _ _ _ _; rw [HN.out] at h ⊢; exact h
  have AO : Hid (Ao w.heap.size we (n + 1) 64) := by have h := HS.out.2; rw [hwe] at h; show Ao _ _ _ _; rw [HN.out] at h ⊢; exact h
  clear HS
  have r0 := HC0.out.c 31 (by decide)
  rw [HB31.out] at r0
  have r1 := (HC0.out.t 31 (by decide)).2
  simp only [Nat.zero_add] at r1
  have HC1 := (show Hid (Cs .u8 32 w.heap.size w (we.setCell ⟨n, 31, none⟩ (.int .u8 (m31 : Int))) n (upd B 31 m31)) from HC0.out.set (by decide) m31)
  have BC := (show Hid (Rp (we.setCell ⟨n, 31, none⟩ (.int .u8 (m31 : Int))) n 0 C) from ⟨HRA.out HC1.out HEN.out, HC1.out.l.2⟩)
  have AO1 := (show Hid (Ao w.heap.size (we.setCell ⟨n, 31, none⟩ (.int .u8 (m31 : Int))) (n + 1) 64) from AO.out.set1 _)
  have HBE := (show Hid (Below w.heap.size w (we.setCell ⟨n, 31, none⟩ (.int .u8 (m31 : Int)))) from HC1.out.b)
  clear HC0 AO HC1 HRA HEN HB31
  go_enter Try.func43, Try.ntmps43
  go_wp2
  clear hwe r0 r1
  obtain ⟨ws, hws⟩ : ∃ v, we.setCell ⟨n, 31, none⟩ (.int .u8 (m31 : Int)) = v := ⟨_, rfl⟩
  rw [hws] at BC AO1 HBE ⊢
  clear hws
  have BC_0 := BC
  have AO1_0 := AO1
  have HB_0 := (show Hid (Below ws.heap.size ws ws) from Below.refl _ _)
  have TK_0 := (show Hid True from trivial)
  clear BC AO1
  have HQBC := (show Hid _ from BC_0.out.cl)
  have hne := Cl.ne ws.heap.size ws
  refine region_cl (N := ws.heap.size) (W := ws) (by kernel_rfl) (by kernel_rfl) (Below.refl _ _) ?_
  go_big_quiet_want
  refine quiet_load 22 _ rfl n 0 rfl C _ HQBC.out Try.underlying22 rfl LC.out.i ?_
  simp only [Act.put, List.setIfInBounds_toArray, List.set_cons_zero, List.set_cons_succ]
  go_big_quiet_on
  go_big_quiet_step ((go_at_call 22; exact cl_of (cr _) (Nat.le_refl _)))
  go_big_quiet_want
  refine quiet_load 22 _ rfl n 0 rfl C _ HQBC.out Try.underlying22 rfl LC.out.i ?_
  simp only [Act.put, List.setIfInBounds_toArray, List.set_cons_zero, List.set_cons_succ]
  go_big_quiet_on
  go_big_quiet_step (fail)
  refine wpQuiet_nil ?_
  rintro _ ⟨xq, rfl⟩
  have hb := xq.h
  have HBF := (show Hid (Below ws.heap.size ws xq.u) from HB_0.out.trans (hb.mono HB_0.out.size))
  have BC := (show Hid (Rp xq.u n 0 C) from BC_0.out.below hb)
  have AO1 := (show Hid (Ao w.heap.size xq.u (n + 1) 64) from AO1_0.out.below hb)
  have HBQ := (show Hid (Below w.heap.size w xq.u) from HBE.out.trans (HBF.out.mono HBE.out.size))
  obtain ⟨wz, hwz⟩ : ∃ v, xq.u = v := ⟨_, rfl⟩
  rw [hwz] at BC AO1 HBQ ⊢
  clear hwz hb xq hne HQBC BC_0 AO1_0 HB_0 HBF HBE TK_0
  have BC_z0 := BC
  have AO1_z0 := AO1
  have HB_z0 := (show Hid (Below wz.heap.size wz wz) from Below.refl _ _)
  have TK_z0 := (show Hid True from trivial)
  clear BC AO1
  go_wp2_with (first
    | (refine wpList_load_mid rfl 22 (.tmp 1) rfl n 0 rfl C _ BC_z0.out.1 Try.underlying22 rfl LC.out.i ?_)
    | (refine wpList_load_mid rfl 22 (.tmp 1) rfl n 0 rfl C _ BC_z1.out.1 Try.underlying22 rfl LC.out.i ?_)
    | (refine wpList_load_mid rfl 22 (.tmp 1) rfl n 0 rfl C _ BC_z2.out.1 Try.underlying22 rfl LC.out.i ?_)
    | (refine wpList_load_mid rfl 43 (.tmp 5) rfl bBP 0 rfl V _ BP_z2.out.1 Try.underlying43 rfl LV.out.i ?_)
    | (refine wpList_load_mid rfl 22 (.tmp 1) rfl n 0 rfl C _ BC_z3.out.1 Try.underlying22 rfl LC.out.i ?_)
    | (refine wpList_load_mid rfl 43 (.tmp 5) rfl bBP 0 rfl V _ BP_z3.out.1 Try.underlying43 rfl LV.out.i ?_)
    | (refine wpList_load_mid rfl 22 (.tmp 1) rfl n 0 rfl C _ BC_z4.out.1 Try.underlying22 rfl LC.out.i ?_)
    | (refine wpList_load_mid rfl 43 (.tmp 5) rfl bBP 0 rfl V _ BP_z4.out.1 Try.underlying43 rfl LV.out.i ?_)
    | (refine wpList_load_mid rfl 43 (.tmp 7) rfl bBN 0 rfl VN _ BN_z4.out.1 Try.underlying43 rfl LVN.out.i ?_)
    | (have hq := TK_z0; go_at_call 86; refine (ce _).mono ?_; rintro e zw1 ⟨rfl, hb⟩; have HB_z1 := (show Hid (Below wz.heap.size wz zw1) from HB_z0.out.trans (hb.mono HB_z0.out.size)); have BC_z1 := (show Hid (Rp zw1 n 0 C) from BC_z0.out.below hb); have AO1_z1 := (show Hid (Ao w.heap.size zw1 (n + 1) 64) from AO1_z0.out.below hb); have TK_z1 := (show Hid True from trivial); clear hq TK_z0 hb HB_z0 BC_z0 AO1_z0)
    | (have hq := TK_z1; refine wpList_store_mid rfl 43 (.tmp 5) (.tmp 25) rfl zw1.heap.size 0 V.toArray rfl rfl (HTH43.out V LV.out zw1) LV.out.j LV.out.o ?_; simp only; have hbx := HBN43.out V LV.out zw1; obtain ⟨zw2, hzw2⟩ : ∃ v, (zw1.alloc (.cells Z43 43)).setCells zw1.heap.size 0 V = v := ⟨_, rfl⟩; rw [hzw2] at hbx ⊢; clear hzw2; have hb := hbx.2; replace hbx := hbx.1; obtain ⟨bBP, hbBP⟩ : ∃ b, zw1.heap.size = b := ⟨_, rfl⟩; rw [hbBP] at hbx ⊢; clear hbBP; have HB_z2 := (show Hid (Below wz.heap.size wz zw2) from HB_z1.out.trans (hb.mono HB_z1.out.size)); have BC_z2 := (show Hid (Rp zw2 n 0 C) from BC_z1.out.below hb); have AO1_z2 := (show Hid (Ao w.heap.size zw2 (n + 1) 64) from AO1_z1.out.below hb); have BP_z2 := (show Hid (Rp zw2 bBP 0 V) from hbx); have TK_z2 := (show Hid True from trivial); clear hq TK_z1 hb hbx HB_z1 BC_z1 AO1_z1)
    | (have hq := TK_z2; go_at_call 83; refine (cn _).mono ?_; rintro e zw3 ⟨rfl, hb⟩; have HB_z3 := (show Hid (Below wz.heap.size wz zw3) from HB_z2.out.trans (hb.mono HB_z2.out.size)); have BC_z3 := (show Hid (Rp zw3 n 0 C) from BC_z2.out.below hb); have AO1_z3 := (show Hid (Ao w.heap.size zw3 (n + 1) 64) from AO1_z2.out.below hb); have BP_z3 := (show Hid (Rp zw3 bBP 0 V) from BP_z2.out.below hb); have TK_z3 := (show Hid True from trivial); clear hq TK_z2 hb HB_z2 BC_z2 AO1_z2 BP_z2)
    | (have hq := TK_z3; refine wpList_store_mid rfl 43 (.tmp 7) (.tmp 36) rfl zw3.heap.size 0 VN.toArray rfl rfl (HTH43.out VN LVN.out zw3) LVN.out.j LVN.out.o ?_; simp only; have hbx := HBN43.out VN LVN.out zw3; obtain ⟨zw4, hzw4⟩ : ∃ v, (zw3.alloc (.cells Z43 43)).setCells zw3.heap.size 0 VN = v := ⟨_, rfl⟩; rw [hzw4] at hbx ⊢; clear hzw4; have hb := hbx.2; replace hbx := hbx.1; obtain ⟨bBN, hbBN⟩ : ∃ b, zw3.heap.size = b := ⟨_, rfl⟩; rw [hbBN] at hbx ⊢; clear hbBN; have HB_z4 := (show Hid (Below wz.heap.size wz zw4) from HB_z3.out.trans (hb.mono HB_z3.out.size)); have BC_z4 := (show Hid (Rp zw4 n 0 C) from BC_z3.out.below hb); have AO1_z4 := (show Hid (Ao w.heap.size zw4 (n + 1) 64) from AO1_z3.out.below hb); have BP_z4 := (show Hid (Rp zw4 bBP 0 V) from BP_z3.out.below hb); have BN_z4 := (show Hid (Rp zw4 bBN 0 VN) from hbx); have TK_z4 := (show Hid True from trivial); clear hq TK_z3 hb hbx HB_z3 BC_z3 AO1_z3 BP_z3)
    | (refine wpList_store_mid rfl 43 (.tmp 2) (.tmp 42) rfl (n + 1) 0 VN.toArray rfl rfl (LVN.out.t AO1_z4.out) LVN.out.j LVN.out.o ?_; simp only))
  exact bodyPost_ret (res_ct Try.results43 rfl (end43 LVN.out AO1_z4.out) rfl) rfl ⟨rfl, below_setCells (HBQ.out.trans (HB_z4.out.mono HBQ.out.size)) AO1_z4.out.1⟩
end Fd
end Go.Proofs.Ytgdekigdbbldoaa

namespace Go.Proofs.Ytgdekigdbbldoaa
open Go.RowKit
namespace Dt
open Rg Go.Proofs.Ytgdekigdbbldoaa.Fd

theorem i64_and1 (n : Int) : bits .and .i64 n 1 = n % 2 := by
  have h1 : (BitVec.ofInt 64 1).toNat = 2 ^ 1 - 1 := by decide
  have key : (BitVec.ofInt 64 n &&& BitVec.ofInt 64 1).toNat = (n % ((2 ^ 64 : Nat) : Int)).toNat % 2 ^ 1 := by
    rw [BitVec.toNat_and, BitVec.toNat_ofInt, h1, Nat.and_two_pow_sub_one_eq_mod]
  show IntKind.i64.wrap ((BitVec.ofInt 64 n &&& BitVec.ofInt 64 1).toNat : Nat) = n % 2
  rw [key, IntKind.wrap_i64]
  omega
theorem dg_cell {w wr : World} {A : Option Addr} {L : List Nat} (h : Dg w A L) (hb : Below w.heap.size w wr) (hne : 0 < L.length) : ∃ g o, A = some ⟨g, o, none⟩ ∧ ∀ j, j < L.length → wr.cell? ⟨g, o + j, none⟩ = some (.int .i64 ((L.getD j 0 : Nat) : Int)) := by
  rcases h with rfl | ⟨g, o, rfl, hg, hr⟩
  · simp at hne
  · exact ⟨g, o, rfl, fun j hj => (hb.cell (p := ⟨g, o + j, none⟩) hg).trans (cell_i hr j hj)⟩
theorem dig_bit (x j : Nat) : x / 16777216 ^ (j / 24) % 16777216 / 2 ^ (j % 24) % 2 = x / 2 ^ j % 2 := by
  have e0 : (16777216 : Nat) = 2 ^ 24 := rfl
  rw [e0, ← Nat.pow_mul]
  have h1 := Nat.testBit_mod_two_pow (x / 2 ^ (24 * (j / 24))) 24 (j % 24)
  rw [Nat.testBit_div_two_pow] at h1
  simp only [Nat.mod_lt j (show 0 < 24 by decide), decide_true, Bool.true_and] at h1
  rw [Nat.testBit_eq_decide_div_mod_eq, Nat.testBit_eq_decide_div_mod_eq] at h1
  have h5 := decide_eq_decide.1 h1
  rw [show j % 24 + 24 * (j / 24) = j by omega] at h5
  omega
theorem ell_pos : 1 ≤ ell := by decide
theorem ell_64 {x : Nat} (h : x ≤ 4 * ell) : x < 16777216 ^ 64 := Nat.lt_of_le_of_lt h (by decide +kernel)
/-- One bit more. -/
theorem rest_step (x j b : Nat) (hb : x / 2 ^ j % 2 = b) : (x / 2 ^ (j + 1) % ell + x / 2 ^ (j + 1) % ell + b) % ell = x / 2 ^ j % ell := by
  have h1 : x / 2 ^ (j + 1) = x / 2 ^ j / 2 := by rw [Nat.pow_succ, Nat.div_div_eq_div_mul]
  rw [h1]
  generalize x / 2 ^ j = y at hb ⊢
  have h2 : (y / 2 % ell + y / 2 % ell + b) % ell = (y / 2 + y / 2 + b) % ell := by
    rw [Nat.add_mod (y / 2 % ell + y / 2 % ell), ← Nat.add_mod (y / 2), ← Nat.add_mod]
  rw [h2, show y / 2 + y / 2 + b = y by omega]
theorem rest_more (e f : Nat) (he : e % ell = f) (hl : e < 2 * ell) (hg : ell ≤ e) : e - ell = f := by
  rw [← he, Nat.mod_eq_sub_mod hg, Nat.mod_eq_of_lt (by omega)]

set_option maxHeartbeats 4000000 in
set_option maxRecDepth 4000 in
theorem rest_num {u : Value} {x : Nat} {w : World} (hu : Num w u x) (hx : x < 16777216 ^ 64) :
    Calls Try.prog 55 #[u] w fun e w' => ∃ v, e = .returned v ∧ Num w' v (x % ell) ∧ Below w.heap.size w w' := by
  obtain ⟨A, L, cap, rfl, hcap, hD, hL⟩ := hu
  have hlen := hL.len hx
  have hlt := hL.lt
  have HD : Hid (Dg w A L) := hD
  have HPOS : Hid (∀ k, L.getD k 0 = x / 16777216 ^ k % 16777216) := hL.pos
  obtain ⟨m, hm⟩ : ∃ m, L.length = m := ⟨_, rfl⟩
  have HM : Hid (L.length = m) := hm
  rw [hm] at hlen hlt ⊢
  have HBEG : Hid (x / 2 ^ (24 * m) % ell = 0) := by
    show _ = _
    rw [Nat.div_eq_of_lt, Nat.zero_mod]
    rw [Nat.pow_mul]
    exact hlt
  have hlen' : (m : Int) ≤ 64 := by omega
  have c1 := order_num w
  clear hcap hD hL hlt hx hm
  go_enter Try.func55, Try.ntmps55
  go_wp2_with (go_at_call 53; refine c1.mono ?_; rintro e w1 ⟨vo, rfl, hn1, hb1⟩; have HO1 := (show Hid (Num w1 vo ell) from hn1); have HB1 := (show Hid (Below w.heap.size w w1) from hb1); clear hn1 hb1 c1)
  go_loopw [4, 5] (fun uu y wr => ∃ k : Nat, y = .int .i64 ((k : Int) - 1) ∧ k ≤ 24 * m ∧ Hid (Num wr uu (x / 2 ^ k % ell)) ∧ Hid (Num wr vo ell) ∧ Hid (Below w.heap.size w wr)) (fun _ y _ => numOf1 y)
  case atStart => exact ⟨24 * m, by congr 1, Nat.le_refl _, (by show Num _ _ _; rw [HBEG.out]; exact Num.zero w1), HO1, HB1⟩
  case round =>
    clear HO1 HB1 HBEG
    obtain ⟨k, rfl, hk, HU, HO, HB⟩ := hrel
    cases k with
    | zero =>
      have z1 : ((0 : Nat) : Int) - 1 = -1 := rfl
      rw [z1]
      have HF : Hid (x / 2 ^ 0 % ell = x % ell) := by show _ = _; rw [Nat.pow_zero, Nat.div_one]
      rw [HF.out] at HU
      clear HD HPOS HO HF
      go_wp2
      go_ret
      exact ⟨_, rfl, HU.out, HB.out⟩
    | succ j =>
      have z1 : ((j + 1 : Nat) : Int) - 1 = (j : Int) := by omega
      rw [z1]
      have z2 : (0 : Int) ≤ (j : Int) := by omega
      have hbt := dig_bit x j
      obtain ⟨q, hq⟩ : ∃ q, j / 24 = q := ⟨_, rfl⟩
      obtain ⟨s, hs⟩ : ∃ s, j % 24 = s := ⟨_, rfl⟩
      rw [hq, hs, ← HPOS.out q] at hbt
      have z3 : Int.tdiv (j : Int) 24 = (q : Int) := by rw [Int.tdiv_eq_ediv_of_nonneg z2]; omega
      have z4 : Int.tmod (j : Int) 24 = (s : Int) := by rw [Int.tmod_eq_emod_of_nonneg z2]; omega
      have hqm : q < m := by omega
      have z5 : (q : Int) < (m : Int) := by omega
      have z6 : (s : Int) < 24 := by omega
      have z7 : IntKind.i64.wrap ((j : Int) - 1) = (j : Int) - 1 := by rw [IntKind.wrap_i64]; omega
      have z8 : IntKind.i64.wrap (q : Int) = (q : Int) := by rw [IntKind.wrap_i64]; omega
      have z9 : IntKind.i64.wrap (s : Int) = (s : Int) := by rw [IntKind.wrap_i64]; omega
      obtain ⟨g, o, rfl, _⟩ := dg_cell HD.out HB.out (by rw [HM.out]; omega)
      have hlu : L.getD q 0 < 16777216 := by rw [HPOS.out]; exact Nat.mod_lt _ (by decide)
      have HCE : Hid (∀ w5, Below w.heap.size w w5 → w5.cell? ⟨g, o + q, none⟩ = some (.int .i64 ((L.getD q 0 : Nat) : Int))) := fun w5 h5 => by
        obtain ⟨g', o', he', hc'⟩ := dg_cell HD.out h5 (by rw [HM.out]; omega)
        cases he'
        exact hc' q (by rw [HM.out]; exact hqm)
      obtain ⟨dg, hdg⟩ : ∃ u, L.getD q 0 = u := ⟨_, rfl⟩
      rw [hdg] at hbt hlu HCE
      obtain ⟨t, ht⟩ : ∃ t, dg / 2 ^ s = t := ⟨_, rfl⟩
      have x1 : (dg : Int) / 2 ^ s = (t : Int) := by rw [← ht]; norm_cast
      have htl : t < 16777216 := by rw [← ht]; exact Nat.lt_of_le_of_lt (Nat.div_le_self _ _) hlu
      have x4 : IntKind.i64.wrap (t : Int) = (t : Int) := by rw [IntKind.wrap_i64]; omega
      have x2 := i64_and1 (t : Int)
      rw [ht] at hbt
      have hrl : x / 2 ^ (j + 1) % ell < ell := Nat.mod_lt _ (by decide)
      have hstep := rest_step x j _ rfl
      obtain ⟨r, hr⟩ : ∃ r, x / 2 ^ (j + 1) % ell = r := ⟨_, rfl⟩
      rw [hr] at HU hrl hstep
      obtain ⟨f, hf⟩ : ∃ f, x / 2 ^ j % ell = f := ⟨_, rfl⟩
      have HF : Hid (x / 2 ^ j % ell = f) := hf
      rw [hf] at hstep
      have CP : Hid (∀ (W : World) (u v : Value), Num W u r → Num W v r → Calls Try.prog 73 #[u, v] W fun e w' => ∃ v, e = .returned v ∧ Num w' v (r + r) ∧ Below W.heap.size W w') := fun W u v h1 h2 => plus_num h1 h2 (ell_64 (by omega)) (ell_64 (by omega))
      have hell : ell ≤ 4 * ell := by omega
      by_cases hb1 : x / 2 ^ j % 2 = 1
      · have xb : (t : Int) % 2 = 1 := by omega
        rw [xb] at x2
        rw [hb1] at hstep
        by_cases hge : ell ≤ r + r + 1
        · have hel : (r + r + 1) < 2 * ell := by omega
          have CQ : Hid (∀ (W : World) (u v : Value), Num W u (r + r) → Num W v 1 → Calls Try.prog 73 #[u, v] W fun e w' => ∃ v, e = .returned v ∧ Num w' v (r + r + 1) ∧ Below W.heap.size W w') := fun W u v h1 h2 => plus_num h1 h2 (ell_64 (by omega)) (ell_64 (by have := ell_pos; omega))
          have CC : Hid (∀ (W : World) (u v : Value), Num W u (r + r + 1) → Num W v ell → Calls Try.prog 51 #[u, v] W fun e w' => e = .returned (.int .i64 (cmpN (r + r + 1) ell)) ∧ Below W.heap.size W w') := fun W u v h1 h2 => cmp_num h1 h2 (ell_64 (by omega)) (ell_64 hell)
          have hc0 : (0 : Int) ≤ cmpN (r + r + 1) ell := by unfold cmpN; rw [if_neg (by omega)]; split <;> omega
          obtain ⟨c, hc⟩ : ∃ c, cmpN (r + r + 1) ell = c := ⟨_, rfl⟩
          rw [hc] at CC hc0
          have CL : Hid (∀ (W : World) (u v : Value), Num W u (r + r + 1) → Num W v ell → Calls Try.prog 69 #[u, v] W fun e w' => ∃ v, e = .returned v ∧ Num w' v f ∧ Below W.heap.size W w') := fun W u v h1 h2 => by have h := less_num h1 h2 (ell_64 (by omega)) hge; rwa [rest_more _ f hstep hel hge] at h
          clear hc
          obtain ⟨ee, hee⟩ : ∃ ee, r + r + 1 = ee := ⟨_, rfl⟩
          obtain ⟨dd, hdd⟩ : ∃ ee, r + r = ee := ⟨_, rfl⟩
          rw [hdd] at CP CQ
          rw [hdd] at hee
          rw [hdd] at CC
          rw [hee] at CC
          rw [hee] at CQ
          rw [hdd] at CL
          rw [hee] at CL
          have NU_0 := HU
          have NO_0 := HO
          have HB_0 := (show Hid (Below wr.heap.size wr wr) from Below.refl _ _)
          have TK_0 := (show Hid True from trivial)
          clear hbt hlu htl hrl hstep hell hel hge HD HPOS HU HO hee hdd
          go_wp2_with (first
            | (have hq := TK_0; go_at_call 73; refine (CP.out _ _ _ (NU_0.out) (NU_0.out)).mono ?_; rintro e w1 ⟨vd, rfl, hn, hb⟩; have HB_1 := (show Hid (Below wr.heap.size wr w1) from HB_0.out.trans (hb.mono HB_0.out.size)); have NO_1 := (show Hid (Num w1 vo ell) from NO_0.out.below hb); have ND_1 := (show Hid (Num w1 vd dd) from hn); have TK_1 := (show Hid True from trivial); clear hq TK_0 hb HB_0 NU_0 NO_0 hn; have rc := HCE.out w1 (HB.out.trans (HB_1.out.mono HB.out.size)))
            | (have hq := TK_1; go_at_call 73; refine (CQ.out _ _ _ (ND_1.out.below ((Below.refl _ _).alloc (Nat.le_refl _) _)) ((show Num (w1.alloc (.cells #[.int .i64 1] 3)) (.slice (some ⟨w1.heap.size, 0, none⟩) 1 1) 1 from lit_num w1 1 (by decide) (by decide)))).mono ?_; rintro e w2 ⟨ve, rfl, hn, hb⟩; replace hb := lift1 hb; have HB_2 := (show Hid (Below wr.heap.size wr w2) from HB_1.out.trans (hb.mono HB_1.out.size)); have NO_2 := (show Hid (Num w2 vo ell) from NO_1.out.below hb); have NE_2 := (show Hid (Num w2 ve ee) from hn); have TK_2 := (show Hid True from trivial); clear hq TK_1 hb HB_1 NO_1 ND_1 hn; clear rc)
            | (have hq := TK_2; go_at_call 51; refine (CC.out _ _ _ (NE_2.out) (NO_2.out)).mono ?_; rintro e w3 ⟨rfl, hb⟩; have HB_3 := (show Hid (Below wr.heap.size wr w3) from HB_2.out.trans (hb.mono HB_2.out.size)); have NO_3 := (show Hid (Num w3 vo ell) from NO_2.out.below hb); have NE_3 := (show Hid (Num w3 ve ee) from NE_2.out.below hb); have TK_3 := (show Hid True from trivial); clear hq TK_2 hb HB_2 NO_2 NE_2)
            | (have hq := TK_3; go_at_call 69; refine (CL.out _ _ _ (NE_3.out) (NO_3.out)).mono ?_; rintro e w4 ⟨vf, rfl, hn, hb⟩; have HB_4 := (show Hid (Below wr.heap.size wr w4) from HB_3.out.trans (hb.mono HB_3.out.size)); have NO_4 := (show Hid (Num w4 vo ell) from NO_3.out.below hb); have NF_4 := (show Hid (Num w4 vf f) from hn); have TK_4 := (show Hid True from trivial); clear hq TK_3 hb HB_3 NO_3 NE_3 hn))
          go_roundw
          case rel => exact ⟨j, rfl, by omega, (by show Num _ _ _; rw [HF.out]; exact NF_4.out), NO_4, HB.out.trans (HB_4.out.mono HB.out.size)⟩
          case measure => simp [numOf1]
        · have hel : (r + r + 1) < 2 * ell := by omega
          have CQ : Hid (∀ (W : World) (u v : Value), Num W u (r + r) → Num W v 1 → Calls Try.prog 73 #[u, v] W fun e w' => ∃ v, e = .returned v ∧ Num w' v (r + r + 1) ∧ Below W.heap.size W w') := fun W u v h1 h2 => plus_num h1 h2 (ell_64 (by omega)) (ell_64 (by have := ell_pos; omega))
          have CC : Hid (∀ (W : World) (u v : Value), Num W u (r + r + 1) → Num W v ell → Calls Try.prog 51 #[u, v] W fun e w' => e = .returned (.int .i64 (cmpN (r + r + 1) ell)) ∧ Below W.heap.size W w') := fun W u v h1 h2 => cmp_num h1 h2 (ell_64 (by omega)) (ell_64 hell)
          have hc0 : cmpN (r + r + 1) ell = -1 := by unfold cmpN; rw [if_pos (by omega)]
          rw [hc0] at CC
          have hef : (r + r + 1) = f := by rw [← hstep]; exact (Nat.mod_eq_of_lt (by omega)).symm
          clear hc0
          obtain ⟨ee, hee⟩ : ∃ ee, r + r + 1 = ee := ⟨_, rfl⟩
          obtain ⟨dd, hdd⟩ : ∃ ee, r + r = ee := ⟨_, rfl⟩
          rw [hdd] at CP CQ
          rw [hdd] at hee
          rw [hdd] at CC
          rw [hee] at CC
          rw [hee] at CQ
          rw [hdd] at hef
          rw [hee] at hef
          have NU_0 := HU
          have NO_0 := HO
          have HB_0 := (show Hid (Below wr.heap.size wr wr) from Below.refl _ _)
          have TK_0 := (show Hid True from trivial)
          clear hbt hlu htl hrl hstep hell hel hge HD HPOS HU HO hee hdd
          go_wp2_with (first
            | (have hq := TK_0; go_at_call 73; refine (CP.out _ _ _ (NU_0.out) (NU_0.out)).mono ?_; rintro e w1 ⟨vd, rfl, hn, hb⟩; have HB_1 := (show Hid (Below wr.heap.size wr w1) from HB_0.out.trans (hb.mono HB_0.out.size)); have NO_1 := (show Hid (Num w1 vo ell) from NO_0.out.below hb); have ND_1 := (show Hid (Num w1 vd dd) from hn); have TK_1 := (show Hid True from trivial); clear hq TK_0 hb HB_0 NU_0 NO_0 hn; have rc := HCE.out w1 (HB.out.trans (HB_1.out.mono HB.out.size)))
            | (have hq := TK_1; go_at_call 73; refine (CQ.out _ _ _ (ND_1.out.below ((Below.refl _ _).alloc (Nat.le_refl _) _)) ((show Num (w1.alloc (.cells #[.int .i64 1] 3)) (.slice (some ⟨w1.heap.size, 0, none⟩) 1 1) 1 from lit_num w1 1 (by decide) (by decide)))).mono ?_; rintro e w2 ⟨ve, rfl, hn, hb⟩; replace hb := lift1 hb; have HB_2 := (show Hid (Below wr.heap.size wr w2) from HB_1.out.trans (hb.mono HB_1.out.size)); have NO_2 := (show Hid (Num w2 vo ell) from NO_1.out.below hb); have NE_2 := (show Hid (Num w2 ve ee) from hn); have TK_2 := (show Hid True from trivial); clear hq TK_1 hb HB_1 NO_1 ND_1 hn; clear rc)
            | (have hq := TK_2; go_at_call 51; refine (CC.out _ _ _ (NE_2.out) (NO_2.out)).mono ?_; rintro e w3 ⟨rfl, hb⟩; have HB_3 := (show Hid (Below wr.heap.size wr w3) from HB_2.out.trans (hb.mono HB_2.out.size)); have NO_3 := (show Hid (Num w3 vo ell) from NO_2.out.below hb); have NE_3 := (show Hid (Num w3 ve ee) from NE_2.out.below hb); have TK_3 := (show Hid True from trivial); clear hq TK_2 hb HB_2 NO_2 NE_2))
          go_roundw
          case rel => exact ⟨j, rfl, by omega, (by show Num _ _ _; rw [HF.out, ← hef]; exact NE_3.out), NO_3, HB.out.trans (HB_3.out.mono HB.out.size)⟩
          case measure => simp [numOf1]
      · have hb0 : x / 2 ^ j % 2 = 0 := by omega
        rw [hb0, Nat.add_zero] at hstep
        have xb : (t : Int) % 2 = 0 := by omega
        rw [xb] at x2
        by_cases hge : ell ≤ r + r
        · have hel : (r + r) < 2 * ell := by omega
          have CC : Hid (∀ (W : World) (u v : Value), Num W u (r + r) → Num W v ell → Calls Try.prog 51 #[u, v] W fun e w' => e = .returned (.int .i64 (cmpN (r + r) ell)) ∧ Below W.heap.size W w') := fun W u v h1 h2 => cmp_num h1 h2 (ell_64 (by omega)) (ell_64 hell)
          have hc0 : (0 : Int) ≤ cmpN (r + r) ell := by unfold cmpN; rw [if_neg (by omega)]; split <;> omega
          obtain ⟨c, hc⟩ : ∃ c, cmpN (r + r) ell = c := ⟨_, rfl⟩
          rw [hc] at CC hc0
          have CL : Hid (∀ (W : World) (u v : Value), Num W u (r + r) → Num W v ell → Calls Try.prog 69 #[u, v] W fun e w' => ∃ v, e = .returned v ∧ Num w' v f ∧ Below W.heap.size W w') := fun W u v h1 h2 => by have h := less_num h1 h2 (ell_64 (by omega)) hge; rwa [rest_more _ f hstep hel hge] at h
          clear hc
          obtain ⟨dd, hdd⟩ : ∃ ee, r + r = ee := ⟨_, rfl⟩
          rw [hdd] at CP CC
          rw [hdd] at CL
          have NU_0 := HU
          have NO_0 := HO
          have HB_0 := (show Hid (Below wr.heap.size wr wr) from Below.refl _ _)
          have TK_0 := (show Hid True from trivial)
          clear hbt hlu htl hrl hstep hell hel hge HD HPOS HU HO hdd
          go_wp2_with (first
            | (have hq := TK_0; go_at_call 73; refine (CP.out _ _ _ (NU_0.out) (NU_0.out)).mono ?_; rintro e w1 ⟨vd, rfl, hn, hb⟩; have HB_1 := (show Hid (Below wr.heap.size wr w1) from HB_0.out.trans (hb.mono HB_0.out.size)); have NO_1 := (show Hid (Num w1 vo ell) from NO_0.out.below hb); have ND_1 := (show Hid (Num w1 vd dd) from hn); have TK_1 := (show Hid True from trivial); clear hq TK_0 hb HB_0 NU_0 NO_0 hn; have rc := HCE.out w1 (HB.out.trans (HB_1.out.mono HB.out.size)))
            | (have hq := TK_1; go_at_call 51; refine (CC.out _ _ _ (ND_1.out) (NO_1.out)).mono ?_; rintro e w2 ⟨rfl, hb⟩; have HB_2 := (show Hid (Below wr.heap.size wr w2) from HB_1.out.trans (hb.mono HB_1.out.size)); have NO_2 := (show Hid (Num w2 vo ell) from NO_1.out.below hb); have ND_2 := (show Hid (Num w2 vd dd) from ND_1.out.below hb); have TK_2 := (show Hid True from trivial); clear hq TK_1 hb HB_1 NO_1 ND_1)
            | (have hq := TK_2; go_at_call 69; refine (CL.out _ _ _ (ND_2.out) (NO_2.out)).mono ?_; rintro e w3 ⟨vf, rfl, hn, hb⟩; have HB_3 := (show Hid (Below wr.heap.size wr w3) from HB_2.out.trans (hb.mono HB_2.out.size)); have NO_3 := (show Hid (Num w3 vo ell) from NO_2.out.below hb); have NF_3 := (show Hid (Num w3 vf f) from hn); have TK_3 := (show Hid True from trivial); clear hq TK_2 hb HB_2 NO_2 ND_2 hn))
          go_roundw
          case rel => exact ⟨j, rfl, by omega, (by show Num _ _ _; rw [HF.out]; exact NF_3.out), NO_3, HB.out.trans (HB_3.out.mono HB.out.size)⟩
          case measure => simp [numOf1]
        · have hel : (r + r) < 2 * ell := by omega
          have CC : Hid (∀ (W : World) (u v : Value), Num W u (r + r) → Num W v ell → Calls Try.prog 51 #[u, v] W fun e w' => e = .returned (.int .i64 (cmpN (r + r) ell)) ∧ Below W.heap.size W w') := fun W u v h1 h2 => cmp_num h1 h2 (ell_64 (by omega)) (ell_64 hell)
          have hc0 : cmpN (r + r) ell = -1 := by unfold cmpN; rw [if_pos (by omega)]
          rw [hc0] at CC
          have hef : (r + r) = f := by rw [← hstep]; exact (Nat.mod_eq_of_lt (by omega)).symm
          clear hc0
          obtain ⟨dd, hdd⟩ : ∃ ee, r + r = ee := ⟨_, rfl⟩
          rw [hdd] at CP CC
          rw [hdd] at hef
          have NU_0 := HU
          have NO_0 := HO
          have HB_0 := (show Hid (Below wr.heap.size wr wr) from Below.refl _ _)
          have TK_0 := (show Hid True from trivial)
          clear hbt hlu htl hrl hstep hell hel hge HD HPOS HU HO hdd
          go_wp2_with (first
            | (have hq := TK_0; go_at_call 73; refine (CP.out _ _ _ (NU_0.out) (NU_0.out)).mono ?_; rintro e w1 ⟨vd, rfl, hn, hb⟩; have HB_1 := (show Hid (Below wr.heap.size wr w1) from HB_0.out.trans (hb.mono HB_0.out.size)); have NO_1 := (show Hid (Num w1 vo ell) from NO_0.out.below hb); have ND_1 := (show Hid (Num w1 vd dd) from hn); have TK_1 := (show Hid True from trivial); clear hq TK_0 hb HB_0 NU_0 NO_0 hn; have rc := HCE.out w1 (HB.out.trans (HB_1.out.mono HB.out.size)))
            | (have hq := TK_1; go_at_call 51; refine (CC.out _ _ _ (ND_1.out) (NO_1.out)).mono ?_; rintro e w2 ⟨rfl, hb⟩; have HB_2 := (show Hid (Below wr.heap.size wr w2) from HB_1.out.trans (hb.mono HB_1.out.size)); have NO_2 := (show Hid (Num w2 vo ell) from NO_1.out.below hb); have ND_2 := (show Hid (Num w2 vd dd) from ND_1.out.below hb); have TK_2 := (show Hid True from trivial); clear hq TK_1 hb HB_1 NO_1 ND_1))
          go_roundw
          case rel => exact ⟨j, rfl, by omega, (by show Num _ _ _; rw [HF.out, ← hef]; exact ND_2.out), NO_2, HB.out.trans (HB_2.out.mono HB.out.size)⟩
          case measure => simp [numOf1]
end Dt
end Go.Proofs.Ytgdekigdbbldoaa
