/- The reference's Encode: a contract, by walking its text. CurveBytes: the walk. -/
import Derived.Test.YtgdekigdbbldoaaG31
import Derived.Test.YtgdekigdbbldoaaG38
import Derived.Test.YtgdekigdbbldoaaG41
namespace Go.Proofs.Ytgdekigdbbldoaa
open Go.RowKit
namespace Dt
open Rg Go.Proofs.Ytgdekigdbbldoaa.Fd

set_option maxHeartbeats 1000000 in
set_option maxRecDepth 4000 in
theorem rencode_any (x y : Nat) (w : World) (hx : x < 115792089237316195423570985008687907853269984665640564039457584007913129639936) (hy : y < 115792089237316195423570985008687907853269984665640564039457584007913129639936) :
    Calls Try.prog 47 #[pv x y] w fun e w' => e = .returned (bv (encp x y)) ∧ Below w.heap.size w w' := by
  have CX : Hid (∀ W : World, Calls Try.prog 14 #[.agg (bvc x).toArray] W fun e w' => ∃ r, e = .returned r ∧ Num w' r (x % p) ∧ Below W.heap.size W w') := fun W => in_any x W (two256' hx)
  have CY : Hid (∀ W : World, Calls Try.prog 14 #[.agg (bvc y).toArray] W fun e w' => ∃ r, e = .returned r ∧ Num w' r (y % p) ∧ Below W.heap.size W w') := fun W => in_any y W (two256' hy)
  have C3 : Hid (∀ (W : World) (u : Value), Num W u (x % p) → Calls Try.prog 16 #[u] W fun e w' => e = .returned (.agg (bvc (x % p)).toArray) ∧ Below W.heap.size W w') := fun W u h => bytes_num h
  have C4 : Hid (∀ (W : World) (u : Value), Num W u (y % p) → Calls Try.prog 16 #[u] W fun e w' => e = .returned (.agg (bvc (y % p)).toArray) ∧ Below W.heap.size W w') := fun W u h => bytes_num h
  have hb0 : by_ (x % p) 0 < 256 := Nat.mod_lt _ (by decide)
  have hp0 : by_ (x % p) 0 % 2 = redp x % 2 := by
    have e : by_ (x % p) 0 = x % p / 1 % 256 := rfl
    rw [e, Nat.div_one]
    unfold redp
    omega
  have hm2 : redp x % 2 < 2 := Nat.mod_lt _ (by decide)
  have hb31 : by_ (y % p) 31 < 128 := by
    have e : by_ (y % p) 31 = y % p / 452312848583266388373324160190187140051835877600158453279131187530910662656 % 256 := rfl
    have h := redp_255 y
    unfold redp at h
    rw [e]
    omega
  have HEN : Hid (∀ j, j < 32 → upd (by_ (y % p)) 31 (by_ (y % p) 31 + 128 * (redp x % 2)) j = by_ (encp x y) j) := fun j hj => by_enc (y % p) (redp x % 2) j (redp_255 y) hm2 hj
  obtain ⟨m, hm⟩ : ∃ m, redp x % 2 = m := ⟨_, rfl⟩
  rw [hm] at HEN hm2 hp0
  have HC0 : Hid (∀ {W : World} {b : Nat}, Rp W b 0 (bvc (x % p)) → W.cell? ⟨b, 0, none⟩ = some (.int .u8 ((by_ (x % p) 0 : Nat) : Int))) := fun {W b} h => by have h2 := h.1 0 _ (bvc_at _ 0 (by decide)); rwa [Nat.zero_add] at h2
  have HCN : Hid (∀ W : World, Below w.heap.size w W → Cs .u8 32 w.heap.size w ((W.alloc (.cells z22 22)).setCells W.heap.size 0 (bvc (y % p))) W.heap.size (by_ (y % p))) := fun W h => cs_new w W (y % p) h
  unfold pv
  unfold bv
  have LX : Hid (L32 (bvc x)) := l32 x
  have LY : Hid (L32 (bvc y)) := l32 y
  have LR : Hid (L32 (bvc (y % p))) := l32 _
  have LS : Hid (L32 (bvc (x % p))) := l32 _
  have LE : Hid (L32 (bvc (encp x y))) := l32 _
  have HRA : Hid (∀ {W : World} {g : Nat} {M : Nat → Nat}, Cs .u8 32 w.heap.size w W g M → (∀ j, j < 32 → M j = by_ (encp x y) j) → W.rangeAt g 0 (bvc (encp x y))) := fun h1 h2 => h1.range _ h2
  have HS := (show Hid _ from startp22 w (bvc x ++ bvc y))
  have HPX : Hid (∀ {W : World} {b : Nat}, Rp W b 0 (bvc x ++ bvc y) → Rp W b 0 (bvc x) ∧ Rp W b 32 (bvc y)) := fun {W b} h => ⟨⟨range_left h.1, h.2⟩, ⟨by have h2 := range_right (m := 32) h.1 (bvc_len x); rwa [Nat.zero_add] at h2, h.2⟩⟩
  obtain ⟨V, hV⟩ : ∃ V, bvc x ++ bvc y = V := ⟨_, rfl⟩
  obtain ⟨X, hX⟩ : ∃ V, bvc x = V := ⟨_, rfl⟩
  obtain ⟨Y, hY⟩ : ∃ V, bvc y = V := ⟨_, rfl⟩
  obtain ⟨R, hR⟩ : ∃ V, bvc (y % p) = V := ⟨_, rfl⟩
  obtain ⟨S, hS⟩ : ∃ V, bvc (x % p) = V := ⟨_, rfl⟩
  obtain ⟨E, hE⟩ : ∃ V, bvc (encp x y) = V := ⟨_, rfl⟩
  rw [hV] at HS HPX ⊢
  rw [hX] at LX CX HPX
  rw [hY] at LY CY HPX
  rw [hR] at LR C4 HCN
  rw [hS] at LS C3 HC0
  rw [hE] at LE HRA ⊢
  obtain ⟨b0, hbb⟩ : ∃ b, by_ (x % p) 0 = b := ⟨_, rfl⟩
  rw [hbb] at HC0 hb0 hp0
  obtain ⟨B, hB⟩ : ∃ b, by_ (y % p) = b := ⟨_, rfl⟩
  rw [hB] at HCN HEN hb31
  obtain ⟨e, he⟩ : ∃ e, encp x y = e := ⟨_, rfl⟩
  rw [he] at HEN HRA
  obtain ⟨b31, hb3⟩ : ∃ b, B 31 = b := ⟨_, rfl⟩
  have HB31 : Hid (B 31 = b31) := hb3
  rw [hb3] at HEN hb31
  obtain ⟨v, hv⟩ : ∃ b, b31 + 128 * m = b := ⟨_, rfl⟩
  rw [hv] at HEN
  obtain ⟨u, hu⟩ : ∃ b, 128 * m = b := ⟨_, rfl⟩
  have f1 : Int.tmod (b0 : Int) 2 = (m : Int) := by rw [Int.tmod_eq_emod_of_nonneg (by omega)]; omega
  have f3 : (m : Int) * 128 = (u : Int) := by omega
  have f4 : IntKind.u8.wrap (u : Int) = (u : Int) := by rw [IntKind.wrap_u8]; omega
  have f5 : (b31 : Int) + (u : Int) = (v : Int) := by omega
  have f6 : IntKind.u8.wrap (v : Int) = (v : Int) := by rw [IntKind.wrap_u8]; omega
  have f7 : IntKind.u8.wrap (m : Int) = (m : Int) := by rw [IntKind.wrap_u8]; omega
  obtain ⟨a, ha⟩ : ∃ a, x % p = a := ⟨_, rfl⟩
  obtain ⟨c, hc⟩ : ∃ a, y % p = a := ⟨_, rfl⟩
  rw [ha] at CX C3
  rw [hc] at CY C4
  clear hV hX hY hR hS hE hbb hB he hb3 hv hu hm hx hy hb0 hp0 hb31 hm2 ha hc
  have hz2 := zero22
  have HBN22 : Hid _ := box22
  have HTH22 : Hid _ := th22
  obtain ⟨Z22, hZ2⟩ : ∃ Z, z22 = Z := ⟨_, rfl⟩
  rw [hZ2] at hz2 HS HCN HBN22 HTH22
  clear hZ2
  obtain ⟨n, hn⟩ : ∃ n, w.heap.size = n := ⟨_, rfl⟩
  have HN : Hid (w.heap.size = n) := hn
  obtain ⟨we, hwe⟩ : ∃ v, (w.alloc (.cells V.toArray 43)).alloc (.cells Z22 22) = v := ⟨_, rfl⟩
  have BV : Hid (Rp we n 0 V) := by have h := HS.out.1; rw [hwe, HN.out] at h; exact h
  have AO : Hid (Ao w.heap.size we (n + 1) 32) := by have h := HS.out.2.1; rw [hwe] at h; show Ao _ _ _ _; rw [HN.out] at h ⊢; exact h
  have HBE : Hid (Below w.heap.size w we) := by have h := HS.out.2.2; rw [hwe] at h; exact h
  clear HS
  have BV_0 := BV
  have AO_0 := AO
  have HB_0 := (show Hid (Below we.heap.size we we) from Below.refl _ _)
  have TK_0 := (show Hid True from trivial)
  clear BV AO
  go_enter Try.func47, Try.ntmps47
  go_wp2_with (first
    | (refine wpList_load_mid rfl 22 (.tmp 5) rfl n 0 rfl X _ (HPX.out BV_0.out).1.1 Try.underlying22 rfl LX.out.i ?_)
    | (refine wpList_load_mid rfl 22 (.tmp 9) rfl n 32 rfl Y _ (HPX.out BV_0.out).2.1 Try.underlying22 rfl LY.out.i ?_)
    | (refine wpList_load_mid rfl 22 (.tmp 3) rfl bBS 0 rfl S _ BS_3.out.1 Try.underlying22 rfl LS.out.i ?_)
    | (refine wpList_load_mid rfl 22 (.tmp 5) rfl n 0 rfl X _ (HPX.out BV_3.out).1.1 Try.underlying22 rfl LX.out.i ?_)
    | (refine wpList_load_mid rfl 22 (.tmp 9) rfl n 32 rfl Y _ (HPX.out BV_3.out).2.1 Try.underlying22 rfl LY.out.i ?_)
    | (refine wpList_load_mid rfl 22 (.tmp 3) rfl bBS 0 rfl S _ BS_4.out.1 Try.underlying22 rfl LS.out.i ?_)
    | (refine wpList_load_mid rfl 22 (.tmp 3) rfl bBS 0 rfl S _ BS_5.out.1 Try.underlying22 rfl LS.out.i ?_)
    | (have hq := TK_0; go_at_call 14; refine (CX.out _).mono ?_; rintro e w1 ⟨vx, rfl, hn, hb⟩; have HB_1 := (show Hid (Below we.heap.size we w1) from HB_0.out.trans (hb.mono HB_0.out.size)); have BV_1 := (show Hid (Rp w1 n 0 V) from BV_0.out.below hb); have AO_1 := (show Hid (Ao w.heap.size w1 (n + 1) 32) from AO_0.out.below hb); have NX_1 := (show Hid (Num w1 vx a) from hn); have TK_1 := (show Hid True from trivial); clear hq TK_0 hb HB_0 BV_0 AO_0 hn)
    | (have hq := TK_1; go_at_call 16; refine (C3.out _ _ (NX_1.out)).mono ?_; rintro e w2 ⟨rfl, hb⟩; have HB_2 := (show Hid (Below we.heap.size we w2) from HB_1.out.trans (hb.mono HB_1.out.size)); have BV_2 := (show Hid (Rp w2 n 0 V) from BV_1.out.below hb); have AO_2 := (show Hid (Ao w.heap.size w2 (n + 1) 32) from AO_1.out.below hb); have TK_2 := (show Hid True from trivial); clear hq TK_1 hb HB_1 BV_1 AO_1 NX_1)
    | (have hq := TK_2; refine wpList_store_mid rfl 22 (.tmp 3) (.tmp 8) rfl w2.heap.size 0 S.toArray rfl rfl (HTH22.out S LS.out w2) LS.out.j LS.out.o ?_; simp only; have hbx := HBN22.out S LS.out w2; obtain ⟨w3, hw3⟩ : ∃ v, (w2.alloc (.cells Z22 22)).setCells w2.heap.size 0 S = v := ⟨_, rfl⟩; rw [hw3] at hbx ⊢; clear hw3; have hb := hbx.2; replace hbx := hbx.1; obtain ⟨bBS, hbBS⟩ : ∃ b, w2.heap.size = b := ⟨_, rfl⟩; rw [hbBS] at hbx ⊢; clear hbBS; have HB_3 := (show Hid (Below we.heap.size we w3) from HB_2.out.trans (hb.mono HB_2.out.size)); have BV_3 := (show Hid (Rp w3 n 0 V) from BV_2.out.below hb); have AO_3 := (show Hid (Ao w.heap.size w3 (n + 1) 32) from AO_2.out.below hb); have BS_3 := (show Hid (Rp w3 bBS 0 S) from hbx); have TK_3 := (show Hid True from trivial); clear hq TK_2 hb hbx HB_2 BV_2 AO_2)
    | (have hq := TK_3; go_at_call 14; refine (CY.out _).mono ?_; rintro e w4 ⟨vy, rfl, hn, hb⟩; have HB_4 := (show Hid (Below we.heap.size we w4) from HB_3.out.trans (hb.mono HB_3.out.size)); have BV_4 := (show Hid (Rp w4 n 0 V) from BV_3.out.below hb); have AO_4 := (show Hid (Ao w.heap.size w4 (n + 1) 32) from AO_3.out.below hb); have BS_4 := (show Hid (Rp w4 bBS 0 S) from BS_3.out.below hb); have NY_4 := (show Hid (Num w4 vy c) from hn); have TK_4 := (show Hid True from trivial); clear hq TK_3 hb HB_3 BV_3 AO_3 BS_3 hn)
    | (have hq := TK_4; go_at_call 16; refine (C4.out _ _ (NY_4.out)).mono ?_; rintro e w5 ⟨rfl, hb⟩; have HB_5 := (show Hid (Below we.heap.size we w5) from HB_4.out.trans (hb.mono HB_4.out.size)); have BV_5 := (show Hid (Rp w5 n 0 V) from BV_4.out.below hb); have AO_5 := (show Hid (Ao w.heap.size w5 (n + 1) 32) from AO_4.out.below hb); have BS_5 := (show Hid (Rp w5 bBS 0 S) from BS_4.out.below hb); have TK_5 := (show Hid True from trivial); clear hq TK_4 hb HB_4 BV_4 AO_4 BS_4 NY_4)
    | (have hq := TK_5; refine wpList_store_mid rfl 22 (.tmp 4) (.tmp 12) rfl w5.heap.size 0 R.toArray rfl rfl (HTH22.out R LR.out w5) LR.out.j LR.out.o ?_; simp only; have hbx := HBN22.out R LR.out w5; have hcx := HCN.out w5 (HBE.out.trans (HB_5.out.mono HBE.out.size)); obtain ⟨w6, hw6⟩ : ∃ v, (w5.alloc (.cells Z22 22)).setCells w5.heap.size 0 R = v := ⟨_, rfl⟩; rw [hw6] at hbx hcx ⊢; clear hw6; have hb := hbx.2; clear hbx; obtain ⟨b4, hb4⟩ : ∃ b, w5.heap.size = b := ⟨_, rfl⟩; rw [hb4] at hcx ⊢; clear hb4; have HCS := (show Hid (Cs .u8 32 w.heap.size w w6 b4 B) from hcx); have AO_6 := (show Hid (Ao w.heap.size w6 (n + 1) 32) from AO_5.out.below hb); have BS_6 := (show Hid (Rp w6 bBS 0 S) from BS_5.out.below hb); have r0 := HCS.out.c 31 (by decide); rw [HB31.out] at r0; have r1 := (HCS.out.t 31 (by decide)).2; simp only [Nat.zero_add] at r1; have r2 := HC0.out BS_6.out; have HC5 := (show Hid (Cs .u8 32 w.heap.size w (w6.setCell ⟨b4, 31, none⟩ (.int .u8 (v : Int))) b4 (upd B 31 v)) from HCS.out.set (by decide) v); have HE5 := (show Hid ((w6.setCell ⟨b4, 31, none⟩ (.int .u8 (v : Int))).rangeAt b4 0 E) from HRA.out HC5.out HEN.out); have HA5 := (show Hid (Ao w.heap.size (w6.setCell ⟨b4, 31, none⟩ (.int .u8 (v : Int))) (n + 1) 32) from ⟨AO_6.out.1, (by simpa using AO_6.out.2.1), World.there_setCells (vs := [.int .u8 (v : Int)]) AO_6.out.2.2 b4 31⟩); have HT5 := (show Hid _ from LE.out.s HA5.out); clear hq TK_5 hb hcx HB_5 BV_5 AO_5 BS_5)
    | (refine wpList_load_mid rfl 22 (.tmp 4) rfl b4 0 rfl E _ HE5.out Try.underlying22 rfl LE.out.i ?_)
    | (refine wpList_store_mid rfl 22 (.tmp 2) (.tmp 21) rfl (n + 1) 0 E.toArray rfl rfl HT5.out LE.out.j LE.out.o ?_; simp only))
  exact bodyPost_ret (results_cell Try.results47 rfl (end22 LE.out HA5.out)) rfl ⟨rfl, below_setCells HC5.out.b HA5.out.1⟩
end Dt
end Go.Proofs.Ytgdekigdbbldoaa

namespace Go.Proofs.Ytgdekigdbbldoaa
open Go.RowKit
namespace Fd
open Rg Pratt

/-- A value is built under a guard that lets it by. -/
theorem build_tow {P : Program} {ops : Array Oper} {rest : List Oper} {o : Oper} {a : Act} {w : World} {Q : Exit → Act → World → Prop} (hw : Region.wanted o (yielded ops a.tmps) = true) (t : TypeId) (parts : Array (Nat × Operand)) (ho : o.op = .build t parts)
    (L : List (Nat × Value)) (hL : (parts.map fun ((i, x) : Nat × Operand) => (i, a.eval x)).toList = L) (cells : List Value) (hb : P.built t L = some cells.toArray) (h : wpList P ops Q rest (a.put o.dst (.agg cells.toArray)) w) : wpList P ops Q (o :: rest) a w :=
  wpList_step fun K hK => by
    rw [← hL] at hb
    simp only [hw, if_true]
    unfold Oper.wp execOp
    simp only [ho, Sem.run_bind, run_build w t _ _ hb, Result.andThen_ok]
    exact hK _ _ h
theorem eq43_same (x y : Nat) (hx : x < 115792089237316195423570985008687907853269984665640564039457584007913129639936) (hy : y < 115792089237316195423570985008687907853269984665640564039457584007913129639936) (W : World) : (Op.equalIn 10000 43 (.agg (bvc x ++ bvc y).toArray) (.agg (bvc x ++ bvc y).toArray)).run Try.prog W = .ok true W := by
  have h := eq43 x y x y W hx hy hx hy
  rwa [decide_eq_true ⟨rfl, rfl⟩] at h
theorem ne_err (a : Int) (W : World) : (binOp .neq 32 (.iface 35 (.int .i64 a)) (.iface 35 (.int .i64 a))).run Try.prog W = .ok (.bool false) W := by
  simp only [binOp]
  simp [Op.equal, Op.maxDepth, eq_err a a W]
/-- A box of 32 bytes and one of a point. -/
theorem start22_43 (w : World) (B V : List Value) :
    let e := (w.alloc (.cells B.toArray 22)).alloc (.cells V.toArray 43)
    Rp e w.heap.size 0 B ∧ Rp e (w.heap.size + 1) 0 V ∧ Below w.heap.size w e := by
  intro e
  have s2 : e.heap.size = w.heap.size + 2 := by show (World.alloc _ _).heap.size = _; rw [size_alloc, size_alloc]
  exact ⟨⟨World.rangeAt_alloc (Rg.range_new w B 22) _, by omega⟩, ⟨range_new1 w _ V 43, by omega⟩, ((Below.refl _ _).alloc (Nat.le_refl _) _).alloc (by simp) _⟩
set_option maxHeartbeats 2000000 in
set_option maxRecDepth 8000 in
theorem bytes_some_on (b x y px py : Nat) (cD : ∀ W : World, Calls Try.prog 43 #[bv b] W fun e w' => e = .returned (.tuple #[pv px py, .nilIface]) ∧ Below W.heap.size W w') (cR : ∀ W : World, Calls Try.prog 44 #[bv b] W fun e w' => e = .returned (.tuple #[pv px py, .bool true]) ∧ Below W.heap.size W w') (lpx : px < 115792089237316195423570985008687907853269984665640564039457584007913129639936) (lpy : py < 115792089237316195423570985008687907853269984665640564039457584007913129639936) (lx : x < 115792089237316195423570985008687907853269984665640564039457584007913129639936) (ly : y < 115792089237316195423570985008687907853269984665640564039457584007913129639936) (hon : OnC x y) (w : World) :
    Calls Try.prog 10 #[bv b, pv x y] w fun e w' => e = .returned (.bool true) ∧ Below w.heap.size w w' := by
  have cE : ∀ W : World, Calls Try.prog 45 #[pv x y] W fun e w' => e = .returned (.tuple #[bv (encp x y), .nilIface]) ∧ Below W.heap.size W w' := fun W => encode_ok x y W lx ly hon
  have cG : ∀ W : World, Calls Try.prog 47 #[pv x y] W fun e w' => e = .returned (bv (encp x y)) ∧ Below W.heap.size W w' := fun W => Dt.rencode_any x y W lx ly
  have le : encp x y < 115792089237316195423570985008687907853269984665640564039457584007913129639936 := by have h1 := redp_255 y; have h2 := Nat.mod_lt (redp x) (show 0 < 2 by decide); unfold encp; omega
  obtain ⟨ec, he⟩ : ∃ e, encp x y = e := ⟨_, rfl⟩
  rw [he] at cE cG le
  have cJ : ∀ W : World, Calls Try.prog 31 #[pv x y] W fun e w' => e = .returned (.bool true) ∧ Below W.heap.size W w' := fun W => by have h := Dt.ris_any x y W lx ly; rwa [decide_eq_true hon] at h
  have qE := eq22_same' ec le
  have cS := shown7_any
  have en := eq_nil
  have ex := eq_err_nil
  have e29 : ∀ W : World, (binOp .eql 32 (.iface 35 (.int .i64 29)) (.iface 35 (.int .i64 29))).run Try.prog W = .ok (.bool true) W := fun W => bin_err 29 29 W
  have n29 := ne_err 29
  have q43 := eq43_same px py lpx lpy
  have LB : Hid (L32 (bvc b)) := l32 b
  have LV : Hid (L64 (bvc x ++ bvc y)) := l64 x y
  have LP : Hid (L64 (bvc px ++ bvc py)) := l64 _ _
  have LE : Hid (L32 (bvc ec)) := l32 ec
  unfold pv at cD cR cE cJ cG ⊢
  unfold bv at cD cR cE cG ⊢
  have HS := (show Hid _ from start22_43 w (bvc b) (bvc x ++ bvc y))
  obtain ⟨V, hV⟩ : ∃ X, bvc x ++ bvc y = X := ⟨_, rfl⟩
  rw [hV] at cE cJ LV HS cG ⊢
  obtain ⟨P, hP⟩ : ∃ X, bvc px ++ bvc py = X := ⟨_, rfl⟩
  rw [hP] at cD cR q43 LP
  obtain ⟨B, hB⟩ : ∃ X, bvc b = X := ⟨_, rfl⟩
  rw [hB] at cD cR LB HS ⊢
  obtain ⟨E, hE⟩ : ∃ X, bvc ec = X := ⟨_, rfl⟩
  rw [hE] at cE qE LE cG
  clear hV hP hB hE he le hon lx ly lpx lpy
  have hz22 := zero22
  have hz43 := zero43
  have HBN22 : Hid _ := box22
  have HTH22 : Hid _ := th22
  have HBN43 : Hid _ := box43
  have HTH43 : Hid _ := th43
  obtain ⟨Z22, hZ22⟩ : ∃ Z, z22 = Z := ⟨_, rfl⟩
  rw [hZ22] at hz22 HBN22 HTH22
  obtain ⟨Z43, hZ43⟩ : ∃ Z, z43 = Z := ⟨_, rfl⟩
  rw [hZ43] at hz43 HBN43 HTH43
  clear hZ22 hZ43
  obtain ⟨n, hn⟩ : ∃ n, w.heap.size = n := ⟨_, rfl⟩
  have HN : Hid (w.heap.size = n) := hn
  obtain ⟨we, hwe⟩ : ∃ v, (w.alloc (.cells B.toArray 22)).alloc (.cells V.toArray 43) = v := ⟨_, rfl⟩
  have BB : Hid (Rp we n 0 B) := by have h := HS.out.1; rw [hwe, HN.out] at h; exact h
  have BV : Hid (Rp we (n + 1) 0 V) := by have h := HS.out.2.1; rw [hwe, HN.out] at h; exact h
  have HBE : Hid (Below w.heap.size w we) := by have h := HS.out.2.2; rw [hwe] at h; exact h
  clear HS
  have BB_0 := BB
  have BV_0 := BV
  have HB_0 := (show Hid (Below we.heap.size we we) from Below.refl _ _)
  have TK_0 := (show Hid True from trivial)
  clear BB BV
  go_enter Try.func10, Try.ntmps10
  go_wp2_with (first
    | (refine wpList_load_mid rfl 22 (.tmp 2) rfl n 0 rfl B _ BB_0.out.1 Try.underlying22 rfl LB.out.i ?_)
    | (refine wpList_load_mid rfl 43 (.tmp 3) rfl (n + 1) 0 rfl V _ BV_0.out.1 Try.underlying43 rfl LV.out.i ?_)
    | (refine wpList_load_mid rfl 22 (.tmp 2) rfl n 0 rfl B _ BB_1.out.1 Try.underlying22 rfl LB.out.i ?_)
    | (refine wpList_load_mid rfl 43 (.tmp 3) rfl (n + 1) 0 rfl V _ BV_1.out.1 Try.underlying43 rfl LV.out.i ?_)
    | (refine wpList_load_mid rfl 22 (.tmp 2) rfl n 0 rfl B _ BB_2.out.1 Try.underlying22 rfl LB.out.i ?_)
    | (refine wpList_load_mid rfl 43 (.tmp 3) rfl (n + 1) 0 rfl V _ BV_2.out.1 Try.underlying43 rfl LV.out.i ?_)
    | (refine wpList_load_mid rfl 22 (.tmp 2) rfl n 0 rfl B _ BB_3.out.1 Try.underlying22 rfl LB.out.i ?_)
    | (refine wpList_load_mid rfl 43 (.tmp 3) rfl (n + 1) 0 rfl V _ BV_3.out.1 Try.underlying43 rfl LV.out.i ?_)
    | (refine wpList_load_mid rfl 43 (.tmp 6) rfl bBP 0 rfl P _ BP_3.out.1 Try.underlying43 rfl LP.out.i ?_)
    | (refine wpList_load_mid rfl 22 (.tmp 2) rfl n 0 rfl B _ BB_4.out.1 Try.underlying22 rfl LB.out.i ?_)
    | (refine wpList_load_mid rfl 43 (.tmp 3) rfl (n + 1) 0 rfl V _ BV_4.out.1 Try.underlying43 rfl LV.out.i ?_)
    | (refine wpList_load_mid rfl 43 (.tmp 6) rfl bBP 0 rfl P _ BP_4.out.1 Try.underlying43 rfl LP.out.i ?_)
    | (refine wpList_load_mid rfl 22 (.tmp 2) rfl n 0 rfl B _ BB_5.out.1 Try.underlying22 rfl LB.out.i ?_)
    | (refine wpList_load_mid rfl 43 (.tmp 3) rfl (n + 1) 0 rfl V _ BV_5.out.1 Try.underlying43 rfl LV.out.i ?_)
    | (refine wpList_load_mid rfl 43 (.tmp 6) rfl bBP 0 rfl P _ BP_5.out.1 Try.underlying43 rfl LP.out.i ?_)
    | (refine wpList_load_mid rfl 43 (.tmp 8) rfl bBQ 0 rfl P _ BQ_5.out.1 Try.underlying43 rfl LP.out.i ?_)
    | (refine wpList_loadw (by rfl) 43 (.tmp 6) rfl bBP 0 rfl P _ BP_5.out.1 Try.underlying43 rfl LP.out.i ?_)
    | (refine wpList_loadw (by rfl) 43 (.tmp 8) rfl bBQ 0 rfl P _ BQ_5.out.1 Try.underlying43 rfl LP.out.i ?_)
    | (refine wpList_load_mid rfl 22 (.tmp 2) rfl n 0 rfl B _ BB_6.out.1 Try.underlying22 rfl LB.out.i ?_)
    | (refine wpList_load_mid rfl 43 (.tmp 3) rfl (n + 1) 0 rfl V _ BV_6.out.1 Try.underlying43 rfl LV.out.i ?_)
    | (refine wpList_load_mid rfl 43 (.tmp 6) rfl bBP 0 rfl P _ BP_6.out.1 Try.underlying43 rfl LP.out.i ?_)
    | (refine wpList_load_mid rfl 43 (.tmp 8) rfl bBQ 0 rfl P _ BQ_6.out.1 Try.underlying43 rfl LP.out.i ?_)
    | (refine wpList_load_mid rfl 22 (.tmp 2) rfl n 0 rfl B _ BB_7.out.1 Try.underlying22 rfl LB.out.i ?_)
    | (refine wpList_load_mid rfl 43 (.tmp 3) rfl (n + 1) 0 rfl V _ BV_7.out.1 Try.underlying43 rfl LV.out.i ?_)
    | (refine wpList_load_mid rfl 43 (.tmp 6) rfl bBP 0 rfl P _ BP_7.out.1 Try.underlying43 rfl LP.out.i ?_)
    | (refine wpList_load_mid rfl 43 (.tmp 8) rfl bBQ 0 rfl P _ BQ_7.out.1 Try.underlying43 rfl LP.out.i ?_)
    | (refine wpList_load_mid rfl 22 (.tmp 10) rfl bBE 0 rfl E _ BE_7.out.1 Try.underlying22 rfl LE.out.i ?_)
    | (refine wpList_load_mid rfl 22 (.tmp 2) rfl n 0 rfl B _ BB_8.out.1 Try.underlying22 rfl LB.out.i ?_)
    | (refine wpList_load_mid rfl 43 (.tmp 3) rfl (n + 1) 0 rfl V _ BV_8.out.1 Try.underlying43 rfl LV.out.i ?_)
    | (refine wpList_load_mid rfl 43 (.tmp 6) rfl bBP 0 rfl P _ BP_8.out.1 Try.underlying43 rfl LP.out.i ?_)
    | (refine wpList_load_mid rfl 43 (.tmp 8) rfl bBQ 0 rfl P _ BQ_8.out.1 Try.underlying43 rfl LP.out.i ?_)
    | (refine wpList_load_mid rfl 22 (.tmp 10) rfl bBE 0 rfl E _ BE_8.out.1 Try.underlying22 rfl LE.out.i ?_)
    | (have hq := TK_0; go_at_call 28; refine (cS _).mono ?_; rintro e w1 ⟨rfl, hb⟩; have HB_1 := (show Hid (Below we.heap.size we w1) from HB_0.out.trans (hb.mono HB_0.out.size)); have BB_1 := (show Hid (Rp w1 n 0 B) from BB_0.out.below hb); have BV_1 := (show Hid (Rp w1 (n + 1) 0 V) from BV_0.out.below hb); have TK_1 := (show Hid True from trivial); clear hq TK_0 hb HB_0 BB_0 BV_0)
    | (have hq := TK_1; go_at_call 43; refine (cD _).mono ?_; rintro e w2 ⟨rfl, hb⟩; have HB_2 := (show Hid (Below we.heap.size we w2) from HB_1.out.trans (hb.mono HB_1.out.size)); have BB_2 := (show Hid (Rp w2 n 0 B) from BB_1.out.below hb); have BV_2 := (show Hid (Rp w2 (n + 1) 0 V) from BV_1.out.below hb); have TK_2 := (show Hid True from trivial); clear hq TK_1 hb HB_1 BB_1 BV_1)
    | (have hq := TK_2; refine wpList_store_mid rfl 43 (.tmp 6) (.tmp 17) rfl w2.heap.size 0 P.toArray rfl rfl (HTH43.out P LP.out w2) LP.out.j LP.out.o ?_; simp only; have hbx := HBN43.out P LP.out w2; obtain ⟨w3, hw3⟩ : ∃ v, (w2.alloc (.cells Z43 43)).setCells w2.heap.size 0 P = v := ⟨_, rfl⟩; rw [hw3] at hbx ⊢; clear hw3; have hb := hbx.2; replace hbx := hbx.1; obtain ⟨bBP, hbBP⟩ : ∃ b, w2.heap.size = b := ⟨_, rfl⟩; rw [hbBP] at hbx ⊢; clear hbBP; have HB_3 := (show Hid (Below we.heap.size we w3) from HB_2.out.trans (hb.mono HB_2.out.size)); have BB_3 := (show Hid (Rp w3 n 0 B) from BB_2.out.below hb); have BV_3 := (show Hid (Rp w3 (n + 1) 0 V) from BV_2.out.below hb); have BP_3 := (show Hid (Rp w3 bBP 0 P) from hbx); have TK_3 := (show Hid True from trivial); clear hq TK_2 hb hbx HB_2 BB_2 BV_2)
    | (have hq := TK_3; go_at_call 44; refine (cR _).mono ?_; rintro e w4 ⟨rfl, hb⟩; have HB_4 := (show Hid (Below we.heap.size we w4) from HB_3.out.trans (hb.mono HB_3.out.size)); have BB_4 := (show Hid (Rp w4 n 0 B) from BB_3.out.below hb); have BV_4 := (show Hid (Rp w4 (n + 1) 0 V) from BV_3.out.below hb); have BP_4 := (show Hid (Rp w4 bBP 0 P) from BP_3.out.below hb); have TK_4 := (show Hid True from trivial); clear hq TK_3 hb HB_3 BB_3 BV_3 BP_3)
    | (have hq := TK_4; refine wpList_store_mid rfl 43 (.tmp 8) (.tmp 22) rfl w4.heap.size 0 P.toArray rfl rfl (HTH43.out P LP.out w4) LP.out.j LP.out.o ?_; simp only; have hbx := HBN43.out P LP.out w4; obtain ⟨w5, hw5⟩ : ∃ v, (w4.alloc (.cells Z43 43)).setCells w4.heap.size 0 P = v := ⟨_, rfl⟩; rw [hw5] at hbx ⊢; clear hw5; have hb := hbx.2; replace hbx := hbx.1; obtain ⟨bBQ, hbBQ⟩ : ∃ b, w4.heap.size = b := ⟨_, rfl⟩; rw [hbBQ] at hbx ⊢; clear hbBQ; have HB_5 := (show Hid (Below we.heap.size we w5) from HB_4.out.trans (hb.mono HB_4.out.size)); have BB_5 := (show Hid (Rp w5 n 0 B) from BB_4.out.below hb); have BV_5 := (show Hid (Rp w5 (n + 1) 0 V) from BV_4.out.below hb); have BP_5 := (show Hid (Rp w5 bBP 0 P) from BP_4.out.below hb); have BQ_5 := (show Hid (Rp w5 bBQ 0 P) from hbx); have TK_5 := (show Hid True from trivial); clear hq TK_4 hb hbx HB_4 BB_4 BV_4 BP_4)
    | (have hq := TK_5; go_at_call 45; refine (cE _).mono ?_; rintro e w6 ⟨rfl, hb⟩; have HB_6 := (show Hid (Below we.heap.size we w6) from HB_5.out.trans (hb.mono HB_5.out.size)); have BB_6 := (show Hid (Rp w6 n 0 B) from BB_5.out.below hb); have BV_6 := (show Hid (Rp w6 (n + 1) 0 V) from BV_5.out.below hb); have BP_6 := (show Hid (Rp w6 bBP 0 P) from BP_5.out.below hb); have BQ_6 := (show Hid (Rp w6 bBQ 0 P) from BQ_5.out.below hb); have TK_6 := (show Hid True from trivial); clear hq TK_5 hb HB_5 BB_5 BV_5 BP_5 BQ_5)
    | (have hq := TK_6; refine wpList_store_mid rfl 22 (.tmp 10) (.tmp 53) rfl w6.heap.size 0 E.toArray rfl rfl (HTH22.out E LE.out w6) LE.out.j LE.out.o ?_; simp only; have hbx := HBN22.out E LE.out w6; obtain ⟨w7, hw7⟩ : ∃ v, (w6.alloc (.cells Z22 22)).setCells w6.heap.size 0 E = v := ⟨_, rfl⟩; rw [hw7] at hbx ⊢; clear hw7; have hb := hbx.2; replace hbx := hbx.1; obtain ⟨bBE, hbBE⟩ : ∃ b, w6.heap.size = b := ⟨_, rfl⟩; rw [hbBE] at hbx ⊢; clear hbBE; have HB_7 := (show Hid (Below we.heap.size we w7) from HB_6.out.trans (hb.mono HB_6.out.size)); have BB_7 := (show Hid (Rp w7 n 0 B) from BB_6.out.below hb); have BV_7 := (show Hid (Rp w7 (n + 1) 0 V) from BV_6.out.below hb); have BP_7 := (show Hid (Rp w7 bBP 0 P) from BP_6.out.below hb); have BQ_7 := (show Hid (Rp w7 bBQ 0 P) from BQ_6.out.below hb); have BE_7 := (show Hid (Rp w7 bBE 0 E) from hbx); have TK_7 := (show Hid True from trivial); clear hq TK_6 hb hbx HB_6 BB_6 BV_6 BP_6 BQ_6)
    | (have hq := TK_7; go_at_call 31; refine (cJ _).mono ?_; rintro e w8 ⟨rfl, hb⟩; have HB_8 := (show Hid (Below we.heap.size we w8) from HB_7.out.trans (hb.mono HB_7.out.size)); have BB_8 := (show Hid (Rp w8 n 0 B) from BB_7.out.below hb); have BV_8 := (show Hid (Rp w8 (n + 1) 0 V) from BV_7.out.below hb); have BP_8 := (show Hid (Rp w8 bBP 0 P) from BP_7.out.below hb); have BQ_8 := (show Hid (Rp w8 bBQ 0 P) from BQ_7.out.below hb); have BE_8 := (show Hid (Rp w8 bBE 0 E) from BE_7.out.below hb); have TK_8 := (show Hid True from trivial); clear hq TK_7 hb HB_7 BB_7 BV_7 BP_7 BQ_7 BE_7))
  have HQBE := (show Hid _ from BE_8.out.cl)
  have HQBV := (show Hid _ from BV_8.out.cl)
  have hne := Cl.ne w8.heap.size w8
  refine region_cl (N := w8.heap.size) (W := w8) (by kernel_rfl) (by kernel_rfl) (Below.refl _ _) ?_
  go_big_quiet_step (fail)
  go_big_quiet_step (fail)
  go_big_quiet_step (fail)
  go_big_quiet_step (fail)
  go_big_quiet_step (fail)
  go_big_quiet_step (fail)
  go_big_quiet_want
  refine quiet_load 22 _ rfl bBE 0 rfl E _ HQBE.out Try.underlying22 rfl LE.out.i ?_
  simp only [Act.put, List.setIfInBounds_toArray, List.set_cons_zero, List.set_cons_succ]
  go_big_quiet_on
  go_big_quiet_want
  refine quiet_load 43 _ rfl (n + 1) 0 rfl V _ HQBV.out Try.underlying43 rfl LV.out.i ?_
  simp only [Act.put, List.setIfInBounds_toArray, List.set_cons_zero, List.set_cons_succ]
  go_big_quiet_on
  go_big_quiet_step ((go_at_call 47; exact cl_of (cG _) (Nat.le_refl _)))
  go_big_quiet_step (fail)
  go_big_quiet_step (fail)
  go_big_quiet_step (fail)
  refine wpQuiet_nil ?_
  rintro _ ⟨xq, rfl⟩
  have hb := xq.h
  have HBF := (show Hid (Below we.heap.size we xq.u) from HB_8.out.trans (hb.mono HB_8.out.size))
  go_wp2
  go_ret
  exact ⟨rfl, HBE.out.trans (HBF.out.mono HBE.out.size)⟩
set_option maxHeartbeats 2000000 in
set_option maxRecDepth 8000 in
theorem bytes_some_off (b x y px py : Nat) (cD : ∀ W : World, Calls Try.prog 43 #[bv b] W fun e w' => e = .returned (.tuple #[pv px py, .nilIface]) ∧ Below W.heap.size W w') (cR : ∀ W : World, Calls Try.prog 44 #[bv b] W fun e w' => e = .returned (.tuple #[pv px py, .bool true]) ∧ Below W.heap.size W w') (lpx : px < 115792089237316195423570985008687907853269984665640564039457584007913129639936) (lpy : py < 115792089237316195423570985008687907853269984665640564039457584007913129639936) (lx : x < 115792089237316195423570985008687907853269984665640564039457584007913129639936) (ly : y < 115792089237316195423570985008687907853269984665640564039457584007913129639936) (hon : ¬ OnC x y) (w : World) :
    Calls Try.prog 10 #[bv b, pv x y] w fun e w' => e = .returned (.bool true) ∧ Below w.heap.size w w' := by
  have cE : ∀ W : World, Calls Try.prog 45 #[pv x y] W fun e w' => e = .returned (.tuple #[bv 0, .iface 35 (.int .i64 29)]) ∧ Below W.heap.size W w' := fun W => encode_no x y W lx ly hon
  have cZ : ∀ W : World, Calls Try.prog 46 #[.int .u8 0] W fun e w' => e = .returned (bv 0) ∧ Below W.heap.size W w' := fun W => small7_any 0 W (by decide)
  have le : 0 < 115792089237316195423570985008687907853269984665640564039457584007913129639936 := by decide
  obtain ⟨ec, he⟩ : ∃ e : Nat, 0 = e := ⟨_, rfl⟩
  rw [he] at le
  replace cE : ∀ W : World, Calls Try.prog 45 #[pv x y] W fun e w' => e = .returned (.tuple #[bv ec, .iface 35 (.int .i64 29)]) ∧ Below W.heap.size W w' := fun W => by rw [← he]; exact cE W
  replace cZ : ∀ W : World, Calls Try.prog 46 #[.int .u8 0] W fun e w' => e = .returned (bv ec) ∧ Below W.heap.size W w' := fun W => by rw [← he]; exact cZ W
  have cJ : ∀ W : World, Calls Try.prog 31 #[pv x y] W fun e w' => e = .returned (.bool false) ∧ Below W.heap.size W w' := fun W => by have h := Dt.ris_any x y W lx ly; rwa [decide_eq_false hon] at h
  have qE := eq22_same' ec le
  have cS := shown7_any
  have en := eq_nil
  have ex := eq_err_nil
  have e29 : ∀ W : World, (binOp .eql 32 (.iface 35 (.int .i64 29)) (.iface 35 (.int .i64 29))).run Try.prog W = .ok (.bool true) W := fun W => bin_err 29 29 W
  have n29 := ne_err 29
  have q43 := eq43_same px py lpx lpy
  have LB : Hid (L32 (bvc b)) := l32 b
  have LV : Hid (L64 (bvc x ++ bvc y)) := l64 x y
  have LP : Hid (L64 (bvc px ++ bvc py)) := l64 _ _
  have LE : Hid (L32 (bvc ec)) := l32 ec
  unfold pv at cD cR cE cJ ⊢
  unfold bv at cD cR cE cZ ⊢
  have HS := (show Hid _ from start22_43 w (bvc b) (bvc x ++ bvc y))
  obtain ⟨V, hV⟩ : ∃ X, bvc x ++ bvc y = X := ⟨_, rfl⟩
  rw [hV] at cE cJ LV HS ⊢
  obtain ⟨P, hP⟩ : ∃ X, bvc px ++ bvc py = X := ⟨_, rfl⟩
  rw [hP] at cD cR q43 LP
  obtain ⟨B, hB⟩ : ∃ X, bvc b = X := ⟨_, rfl⟩
  rw [hB] at cD cR LB HS ⊢
  obtain ⟨E, hE⟩ : ∃ X, bvc ec = X := ⟨_, rfl⟩
  rw [hE] at cE qE LE cZ
  clear hV hP hB hE he le hon lx ly lpx lpy
  have hz22 := zero22
  have hz43 := zero43
  have HBN22 : Hid _ := box22
  have HTH22 : Hid _ := th22
  have HBN43 : Hid _ := box43
  have HTH43 : Hid _ := th43
  obtain ⟨Z22, hZ22⟩ : ∃ Z, z22 = Z := ⟨_, rfl⟩
  rw [hZ22] at hz22 HBN22 HTH22
  obtain ⟨Z43, hZ43⟩ : ∃ Z, z43 = Z := ⟨_, rfl⟩
  rw [hZ43] at hz43 HBN43 HTH43
  clear hZ22 hZ43
  obtain ⟨n, hn⟩ : ∃ n, w.heap.size = n := ⟨_, rfl⟩
  have HN : Hid (w.heap.size = n) := hn
  obtain ⟨we, hwe⟩ : ∃ v, (w.alloc (.cells B.toArray 22)).alloc (.cells V.toArray 43) = v := ⟨_, rfl⟩
  have BB : Hid (Rp we n 0 B) := by have h := HS.out.1; rw [hwe, HN.out] at h; exact h
  have BV : Hid (Rp we (n + 1) 0 V) := by have h := HS.out.2.1; rw [hwe, HN.out] at h; exact h
  have HBE : Hid (Below w.heap.size w we) := by have h := HS.out.2.2; rw [hwe] at h; exact h
  clear HS
  have BB_0 := BB
  have BV_0 := BV
  have HB_0 := (show Hid (Below we.heap.size we we) from Below.refl _ _)
  have TK_0 := (show Hid True from trivial)
  clear BB BV
  go_enter Try.func10, Try.ntmps10
  go_wp2_with (first
    | (refine wpList_load_mid rfl 22 (.tmp 2) rfl n 0 rfl B _ BB_0.out.1 Try.underlying22 rfl LB.out.i ?_)
    | (refine wpList_load_mid rfl 43 (.tmp 3) rfl (n + 1) 0 rfl V _ BV_0.out.1 Try.underlying43 rfl LV.out.i ?_)
    | (refine wpList_load_mid rfl 22 (.tmp 2) rfl n 0 rfl B _ BB_1.out.1 Try.underlying22 rfl LB.out.i ?_)
    | (refine wpList_load_mid rfl 43 (.tmp 3) rfl (n + 1) 0 rfl V _ BV_1.out.1 Try.underlying43 rfl LV.out.i ?_)
    | (refine wpList_load_mid rfl 22 (.tmp 2) rfl n 0 rfl B _ BB_2.out.1 Try.underlying22 rfl LB.out.i ?_)
    | (refine wpList_load_mid rfl 43 (.tmp 3) rfl (n + 1) 0 rfl V _ BV_2.out.1 Try.underlying43 rfl LV.out.i ?_)
    | (refine wpList_load_mid rfl 22 (.tmp 2) rfl n 0 rfl B _ BB_3.out.1 Try.underlying22 rfl LB.out.i ?_)
    | (refine wpList_load_mid rfl 43 (.tmp 3) rfl (n + 1) 0 rfl V _ BV_3.out.1 Try.underlying43 rfl LV.out.i ?_)
    | (refine wpList_load_mid rfl 43 (.tmp 6) rfl bBP 0 rfl P _ BP_3.out.1 Try.underlying43 rfl LP.out.i ?_)
    | (refine wpList_load_mid rfl 22 (.tmp 2) rfl n 0 rfl B _ BB_4.out.1 Try.underlying22 rfl LB.out.i ?_)
    | (refine wpList_load_mid rfl 43 (.tmp 3) rfl (n + 1) 0 rfl V _ BV_4.out.1 Try.underlying43 rfl LV.out.i ?_)
    | (refine wpList_load_mid rfl 43 (.tmp 6) rfl bBP 0 rfl P _ BP_4.out.1 Try.underlying43 rfl LP.out.i ?_)
    | (refine wpList_load_mid rfl 22 (.tmp 2) rfl n 0 rfl B _ BB_5.out.1 Try.underlying22 rfl LB.out.i ?_)
    | (refine wpList_load_mid rfl 43 (.tmp 3) rfl (n + 1) 0 rfl V _ BV_5.out.1 Try.underlying43 rfl LV.out.i ?_)
    | (refine wpList_load_mid rfl 43 (.tmp 6) rfl bBP 0 rfl P _ BP_5.out.1 Try.underlying43 rfl LP.out.i ?_)
    | (refine wpList_load_mid rfl 43 (.tmp 8) rfl bBQ 0 rfl P _ BQ_5.out.1 Try.underlying43 rfl LP.out.i ?_)
    | (refine wpList_loadw (by rfl) 43 (.tmp 6) rfl bBP 0 rfl P _ BP_5.out.1 Try.underlying43 rfl LP.out.i ?_)
    | (refine wpList_loadw (by rfl) 43 (.tmp 8) rfl bBQ 0 rfl P _ BQ_5.out.1 Try.underlying43 rfl LP.out.i ?_)
    | (refine wpList_load_mid rfl 22 (.tmp 2) rfl n 0 rfl B _ BB_6.out.1 Try.underlying22 rfl LB.out.i ?_)
    | (refine wpList_load_mid rfl 43 (.tmp 3) rfl (n + 1) 0 rfl V _ BV_6.out.1 Try.underlying43 rfl LV.out.i ?_)
    | (refine wpList_load_mid rfl 43 (.tmp 6) rfl bBP 0 rfl P _ BP_6.out.1 Try.underlying43 rfl LP.out.i ?_)
    | (refine wpList_load_mid rfl 43 (.tmp 8) rfl bBQ 0 rfl P _ BQ_6.out.1 Try.underlying43 rfl LP.out.i ?_)
    | (refine wpList_load_mid rfl 22 (.tmp 2) rfl n 0 rfl B _ BB_7.out.1 Try.underlying22 rfl LB.out.i ?_)
    | (refine wpList_load_mid rfl 43 (.tmp 3) rfl (n + 1) 0 rfl V _ BV_7.out.1 Try.underlying43 rfl LV.out.i ?_)
    | (refine wpList_load_mid rfl 43 (.tmp 6) rfl bBP 0 rfl P _ BP_7.out.1 Try.underlying43 rfl LP.out.i ?_)
    | (refine wpList_load_mid rfl 43 (.tmp 8) rfl bBQ 0 rfl P _ BQ_7.out.1 Try.underlying43 rfl LP.out.i ?_)
    | (refine wpList_load_mid rfl 22 (.tmp 10) rfl bBE 0 rfl E _ BE_7.out.1 Try.underlying22 rfl LE.out.i ?_)
    | (refine wpList_load_mid rfl 22 (.tmp 2) rfl n 0 rfl B _ BB_8.out.1 Try.underlying22 rfl LB.out.i ?_)
    | (refine wpList_load_mid rfl 43 (.tmp 3) rfl (n + 1) 0 rfl V _ BV_8.out.1 Try.underlying43 rfl LV.out.i ?_)
    | (refine wpList_load_mid rfl 43 (.tmp 6) rfl bBP 0 rfl P _ BP_8.out.1 Try.underlying43 rfl LP.out.i ?_)
    | (refine wpList_load_mid rfl 43 (.tmp 8) rfl bBQ 0 rfl P _ BQ_8.out.1 Try.underlying43 rfl LP.out.i ?_)
    | (refine wpList_load_mid rfl 22 (.tmp 10) rfl bBE 0 rfl E _ BE_8.out.1 Try.underlying22 rfl LE.out.i ?_)
    | (have hq := TK_0; go_at_call 28; refine (cS _).mono ?_; rintro e w1 ⟨rfl, hb⟩; have HB_1 := (show Hid (Below we.heap.size we w1) from HB_0.out.trans (hb.mono HB_0.out.size)); have BB_1 := (show Hid (Rp w1 n 0 B) from BB_0.out.below hb); have BV_1 := (show Hid (Rp w1 (n + 1) 0 V) from BV_0.out.below hb); have TK_1 := (show Hid True from trivial); clear hq TK_0 hb HB_0 BB_0 BV_0)
    | (have hq := TK_1; go_at_call 43; refine (cD _).mono ?_; rintro e w2 ⟨rfl, hb⟩; have HB_2 := (show Hid (Below we.heap.size we w2) from HB_1.out.trans (hb.mono HB_1.out.size)); have BB_2 := (show Hid (Rp w2 n 0 B) from BB_1.out.below hb); have BV_2 := (show Hid (Rp w2 (n + 1) 0 V) from BV_1.out.below hb); have TK_2 := (show Hid True from trivial); clear hq TK_1 hb HB_1 BB_1 BV_1)
    | (have hq := TK_2; refine wpList_store_mid rfl 43 (.tmp 6) (.tmp 17) rfl w2.heap.size 0 P.toArray rfl rfl (HTH43.out P LP.out w2) LP.out.j LP.out.o ?_; simp only; have hbx := HBN43.out P LP.out w2; obtain ⟨w3, hw3⟩ : ∃ v, (w2.alloc (.cells Z43 43)).setCells w2.heap.size 0 P = v := ⟨_, rfl⟩; rw [hw3] at hbx ⊢; clear hw3; have hb := hbx.2; replace hbx := hbx.1; obtain ⟨bBP, hbBP⟩ : ∃ b, w2.heap.size = b := ⟨_, rfl⟩; rw [hbBP] at hbx ⊢; clear hbBP; have HB_3 := (show Hid (Below we.heap.size we w3) from HB_2.out.trans (hb.mono HB_2.out.size)); have BB_3 := (show Hid (Rp w3 n 0 B) from BB_2.out.below hb); have BV_3 := (show Hid (Rp w3 (n + 1) 0 V) from BV_2.out.below hb); have BP_3 := (show Hid (Rp w3 bBP 0 P) from hbx); have TK_3 := (show Hid True from trivial); clear hq TK_2 hb hbx HB_2 BB_2 BV_2)
    | (have hq := TK_3; go_at_call 44; refine (cR _).mono ?_; rintro e w4 ⟨rfl, hb⟩; have HB_4 := (show Hid (Below we.heap.size we w4) from HB_3.out.trans (hb.mono HB_3.out.size)); have BB_4 := (show Hid (Rp w4 n 0 B) from BB_3.out.below hb); have BV_4 := (show Hid (Rp w4 (n + 1) 0 V) from BV_3.out.below hb); have BP_4 := (show Hid (Rp w4 bBP 0 P) from BP_3.out.below hb); have TK_4 := (show Hid True from trivial); clear hq TK_3 hb HB_3 BB_3 BV_3 BP_3)
    | (have hq := TK_4; refine wpList_store_mid rfl 43 (.tmp 8) (.tmp 22) rfl w4.heap.size 0 P.toArray rfl rfl (HTH43.out P LP.out w4) LP.out.j LP.out.o ?_; simp only; have hbx := HBN43.out P LP.out w4; obtain ⟨w5, hw5⟩ : ∃ v, (w4.alloc (.cells Z43 43)).setCells w4.heap.size 0 P = v := ⟨_, rfl⟩; rw [hw5] at hbx ⊢; clear hw5; have hb := hbx.2; replace hbx := hbx.1; obtain ⟨bBQ, hbBQ⟩ : ∃ b, w4.heap.size = b := ⟨_, rfl⟩; rw [hbBQ] at hbx ⊢; clear hbBQ; have HB_5 := (show Hid (Below we.heap.size we w5) from HB_4.out.trans (hb.mono HB_4.out.size)); have BB_5 := (show Hid (Rp w5 n 0 B) from BB_4.out.below hb); have BV_5 := (show Hid (Rp w5 (n + 1) 0 V) from BV_4.out.below hb); have BP_5 := (show Hid (Rp w5 bBP 0 P) from BP_4.out.below hb); have BQ_5 := (show Hid (Rp w5 bBQ 0 P) from hbx); have TK_5 := (show Hid True from trivial); clear hq TK_4 hb hbx HB_4 BB_4 BV_4 BP_4)
    | (have hq := TK_5; go_at_call 45; refine (cE _).mono ?_; rintro e w6 ⟨rfl, hb⟩; have HB_6 := (show Hid (Below we.heap.size we w6) from HB_5.out.trans (hb.mono HB_5.out.size)); have BB_6 := (show Hid (Rp w6 n 0 B) from BB_5.out.below hb); have BV_6 := (show Hid (Rp w6 (n + 1) 0 V) from BV_5.out.below hb); have BP_6 := (show Hid (Rp w6 bBP 0 P) from BP_5.out.below hb); have BQ_6 := (show Hid (Rp w6 bBQ 0 P) from BQ_5.out.below hb); have TK_6 := (show Hid True from trivial); clear hq TK_5 hb HB_5 BB_5 BV_5 BP_5 BQ_5)
    | (have hq := TK_6; refine wpList_store_mid rfl 22 (.tmp 10) (.tmp 53) rfl w6.heap.size 0 E.toArray rfl rfl (HTH22.out E LE.out w6) LE.out.j LE.out.o ?_; simp only; have hbx := HBN22.out E LE.out w6; obtain ⟨w7, hw7⟩ : ∃ v, (w6.alloc (.cells Z22 22)).setCells w6.heap.size 0 E = v := ⟨_, rfl⟩; rw [hw7] at hbx ⊢; clear hw7; have hb := hbx.2; replace hbx := hbx.1; obtain ⟨bBE, hbBE⟩ : ∃ b, w6.heap.size = b := ⟨_, rfl⟩; rw [hbBE] at hbx ⊢; clear hbBE; have HB_7 := (show Hid (Below we.heap.size we w7) from HB_6.out.trans (hb.mono HB_6.out.size)); have BB_7 := (show Hid (Rp w7 n 0 B) from BB_6.out.below hb); have BV_7 := (show Hid (Rp w7 (n + 1) 0 V) from BV_6.out.below hb); have BP_7 := (show Hid (Rp w7 bBP 0 P) from BP_6.out.below hb); have BQ_7 := (show Hid (Rp w7 bBQ 0 P) from BQ_6.out.below hb); have BE_7 := (show Hid (Rp w7 bBE 0 E) from hbx); have TK_7 := (show Hid True from trivial); clear hq TK_6 hb hbx HB_6 BB_6 BV_6 BP_6 BQ_6)
    | (have hq := TK_7; go_at_call 31; refine (cJ _).mono ?_; rintro e w8 ⟨rfl, hb⟩; have HB_8 := (show Hid (Below we.heap.size we w8) from HB_7.out.trans (hb.mono HB_7.out.size)); have BB_8 := (show Hid (Rp w8 n 0 B) from BB_7.out.below hb); have BV_8 := (show Hid (Rp w8 (n + 1) 0 V) from BV_7.out.below hb); have BP_8 := (show Hid (Rp w8 bBP 0 P) from BP_7.out.below hb); have BQ_8 := (show Hid (Rp w8 bBQ 0 P) from BQ_7.out.below hb); have BE_8 := (show Hid (Rp w8 bBE 0 E) from BE_7.out.below hb); have TK_8 := (show Hid True from trivial); clear hq TK_7 hb HB_7 BB_7 BV_7 BP_7 BQ_7 BE_7))
  have HQBE := (show Hid _ from BE_8.out.cl)
  have hne := Cl.ne w8.heap.size w8
  refine region_cl (N := w8.heap.size) (W := w8) (by kernel_rfl) (by kernel_rfl) (Below.refl _ _) ?_
  go_big_quiet_step (fail)
  go_big_quiet_step (fail)
  go_big_quiet_step (fail)
  go_big_quiet_step (fail)
  go_big_quiet_step (fail)
  go_big_quiet_step (fail)
  go_big_quiet_step (fail)
  go_big_quiet_want
  refine quiet_load 22 _ rfl bBE 0 rfl E _ HQBE.out Try.underlying22 rfl LE.out.i ?_
  simp only [Act.put, List.setIfInBounds_toArray, List.set_cons_zero, List.set_cons_succ]
  go_big_quiet_on
  go_big_quiet_step ((go_at_call 46; exact cl_of (cZ _) (Nat.le_refl _)))
  go_big_quiet_step (fail)
  go_big_quiet_step (fail)
  go_big_quiet_step (fail)
  refine wpQuiet_nil ?_
  rintro _ ⟨xq, rfl⟩
  have hb := xq.h
  have HBF := (show Hid (Below we.heap.size we xq.u) from HB_8.out.trans (hb.mono HB_8.out.size))
  go_wp2
  go_ret
  exact ⟨rfl, HBE.out.trans (HBF.out.mono HBE.out.size)⟩
end Fd
end Go.Proofs.Ytgdekigdbbldoaa
