/- What '==' says of two arrays of 32 bytes; what Root does at every number; the statements' small. Boxes of 32 bytes; what '==' says of two errors; numbers that the examples need. -/
import Derived.Test.YtgdekigdbbldoaaG21
import Derived.Test.YtgdekigdbbldoaaG24
import Derived.ChangeKeysEq
namespace Go.Proofs.Ytgdekigdbbldoaa
open Go.RowKit
namespace Fd
open Rg Pratt

theorem plain5 : Try.prog.plainKey 5 = true := by kernel_rfl
theorem cells5 : Try.prog.cellsOf 5 = 1 := by kernel_rfl
theorem items (x y : Nat) (W : World) : ∀ (is : List Nat), (∀ i ∈ is, i < 32) → (Op.eqItems 9999 5 1 (bvc x).toArray (bvc y).toArray is).run Try.prog W = .ok (is.all fun i => decide (by_ x i = by_ y i)) W
  | [], _ => by simp [Op.eqItems]
  | i :: is, h => by
    have hi := h i (by simp)
    have p1 : (part 5 (bvc x).toArray (i * 1)).run Try.prog W = .ok (.int .u8 ((by_ x i : Nat) : Int)) W := run_part_plain W plain5 (by rw [Nat.mul_one, List.getElem?_toArray]; exact bvc_at x i hi)
    have p2 : (part 5 (bvc y).toArray (i * 1)).run Try.prog W = .ok (.int .u8 ((by_ y i : Nat) : Int)) W := run_part_plain W plain5 (by rw [Nat.mul_one, List.getElem?_toArray]; exact bvc_at y i hi)
    have p3 := run_equalIn_int (P := Try.prog) W 9998 5 .u8 .u8 ((by_ x i : Nat) : Int) ((by_ y i : Nat) : Int) Try.underlying5
    have ih := items x y W is (fun j hj => h j (by simp [hj]))
    simp only [Op.eqItems, Sem.run_bind, p1, p2, Result.andThen_ok]
    rw [show (9999 : Nat) = 9998 + 1 from rfl, p3]
    simp only [Result.andThen_ok]
    by_cases e : by_ x i = by_ y i
    · simp [e, ih]
    · have e2 : ¬ ((by_ x i : Nat) : Int) = ((by_ y i : Nat) : Int) := by omega
      simp [e, e2]
theorem all_bytes {x y : Nat} (hx : x < 115792089237316195423570985008687907853269984665640564039457584007913129639936) (hy : y < 115792089237316195423570985008687907853269984665640564039457584007913129639936) : ((List.range 32).all fun i => decide (by_ x i = by_ y i)) = decide (x = y) := by
  by_cases e : x = y
  · subst e; simp
  · rw [decide_eq_false e]
    refine Bool.eq_false_iff.2 fun h => e ?_
    have h2 : Dt.bl x 32 = Dt.bl y 32 := List.map_congr_left fun i hi => by
      have := (List.all_eq_true.1 h) i hi
      simpa using this
    have h3 := Dt.ofB_bl x 32
    have h4 := Dt.ofB_bl y 32
    rw [h2, h4, Dt.b256, Nat.mod_eq_of_lt (by rw [← Dt.two256]; exact hy), Nat.mod_eq_of_lt (by rw [← Dt.two256]; exact hx)] at h3
    exact h3.symm
theorem info5' : (Try.prog.info? 5).map (fun i => (i.zero, i.size, i.bytes)) = some (some (.int .u8 0), 1, 1) := by kernel_rfl
/-- '==' of two arrays of 32 bytes. -/
theorem eq22 (x y : Nat) (W : World) (hx : x < 115792089237316195423570985008687907853269984665640564039457584007913129639936) (hy : y < 115792089237316195423570985008687907853269984665640564039457584007913129639936) :
    (Op.equalIn 10000 22 (.agg (bvc x).toArray) (.agg (bvc y).toArray)).run Try.prog W = .ok (decide (x = y)) W := by
  obtain ⟨i0, hi, _⟩ := info_parts info5'
  rw [show (10000 : Nat) = 9999 + 1 from rfl, run_equalIn_array W 9999 (bvc x).toArray (bvc y).toArray Try.underlying22 hi, cells5, items x y W _ (fun i hi => List.mem_range.1 hi), all_bytes hx hy]
/-- Root, where there is one. -/
theorem proot_some (a : Nat) (w : World) (ha : a < 115792089237316195423570985008687907853269984665640564039457584007913129639936) (h : rt (a % p) * rt (a % p) % p = a % p) :
    Calls Try.prog 26 #[bv a] w fun e w' => e = .returned (.tuple #[bv (evn (rt (a % p))), .nilIface]) ∧ Below w.heap.size w w' := by
  by_cases h0 : r0 (a % p) * r0 (a % p) % p = a % p
  · have e : rt (a % p) = r0 (a % p) := by unfold rt; rw [if_pos h0]
    rw [e]
    exact proot_a a w ha h0
  · have e : rt (a % p) = r0 (a % p) * rootOfMinusOne % p := by unfold rt; rw [if_neg h0]
    rw [e] at h ⊢
    exact proot_b a w ha ⟨h0, h⟩
theorem proot_none (a : Nat) (w : World) (ha : a < 115792089237316195423570985008687907853269984665640564039457584007913129639936) (h : ¬ rt (a % p) * rt (a % p) % p = a % p) :
    Calls Try.prog 26 #[bv a] w fun e w' => e = .returned (.tuple #[bv 0, .iface 35 (.int .i64 9)]) ∧ Below w.heap.size w w' := by
  by_cases h0 : r0 (a % p) * r0 (a % p) % p = a % p
  · have e : rt (a % p) = r0 (a % p) := by unfold rt; rw [if_pos h0]
    rw [e] at h
    exact absurd h0 h
  · have e : rt (a % p) = r0 (a % p) * rootOfMinusOne % p := by unfold rt; rw [if_neg h0]
    rw [e] at h
    exact proot_c a w ha ⟨h0, h⟩
theorem by_small {k : Nat} (hk : k < 256) (j : Nat) : Dt.upTo k 1 j = by_ k j := by
  unfold Dt.upTo
  by_cases h : j < 1
  · rw [if_pos h]
  · rw [if_neg h]
    unfold by_
    have h1 : 2 ^ 8 ≤ 2 ^ (8 * j) := Nat.pow_le_pow_right (by decide) (by omega)
    rw [Nat.div_eq_of_lt (by omega)]
def z22 : Array Value := Array.replicate 32 (.int .u8 0)
theorem zero22 (W : World) : (zeroValue 22).run Try.prog W = .ok (.agg z22) W := by
  have h : (Try.prog.info? 22).map (·.zero) = some (some (.agg z22)) := by kernel_rfl
  cases hq : Try.prog.info? 22 with
  | none => simp [hq] at h
  | some i =>
    have hz : i.zero = some (.agg z22) := by simpa [hq] using h
    simp [zeroValue, Sem.run_bind, typeInfo, hq, hz]
theorem z22_set {k : Nat} (hk : k < 256) : z22.setIfInBounds 0 (.int .u8 (k : Int)) = (bvc k).toArray := by
  refine Array.ext_getElem? fun j => ?_
  have hr : (bvc k).toArray[j]? = (bvc k)[j]? := by simp
  rw [Array.getElem?_setIfInBounds, hr]
  rcases Nat.lt_or_ge j 32 with hj | hj
  · rw [bvc_at k j hj, ← by_small hk]
    unfold Dt.upTo
    by_cases h : j < 1
    · have h0 : 0 = j := by omega
      rw [if_pos h0, if_pos h, ← h0]
      unfold by_
      rw [Nat.mul_zero, Nat.pow_zero, Nat.div_one, Nat.mod_eq_of_lt hk]
      simp [z22]
    · rw [if_neg (by omega), if_neg h]
      simp [z22, hj]
  · have hn : (bvc k)[j]? = none := List.getElem?_eq_none (by rw [bvc_len]; exact hj)
    rw [if_neg (by omega), hn]
    simp [z22, hj]

set_option maxHeartbeats 2000000 in
set_option maxRecDepth 4000 in
theorem small_any (k : Nat) (w : World) (hk : k < 256) : Calls Try.prog 24 #[.int .u8 (k : Int)] w fun e w' => e = .returned (bv k) ∧ Below w.heap.size w w' := by
  have hz := zero22
  have e1 : (w.alloc (.cells z22 22)).heap.size = w.heap.size + 1 := size_alloc _ _
  have hR : ((w.alloc (.cells z22 22)).alloc (.cells (z22.setIfInBounds 0 (.int .u8 (k : Int))) 22)).rangeAt (w.heap.size + 1) 0 (bvc k) := by
    rw [z22_set hk]
    exact range_new1 _ _ _ _
  have hT : ((w.alloc (.cells z22 22)).alloc (.cells (z22.setIfInBounds 0 (.int .u8 (k : Int))) 22)).there w.heap.size 0 32 := World.there_alloc (there_new w z22 22 (m := 32) fun j hj => by simp [z22, hj]) _
  have hB : Below w.heap.size w ((w.alloc (.cells z22 22)).alloc (.cells (z22.setIfInBounds 0 (.int .u8 (k : Int))) 22)) := ((Below.refl _ _).alloc (Nat.le_refl _) _).alloc (by simp) _
  have hc : ((w.alloc (.cells z22 22)).alloc (.cells z22 22)).cell? ⟨w.heap.size + 1, 0, none⟩ = some (.int .u8 0) := cell_new1 w _ z22 22 (i := 0) (by simp [z22])
  have hf := ((there_new (w.alloc (.cells z22 22)) z22 22 (m := 32) fun j hj => by simp [z22, hj]) 0 (by decide)).2
  rw [Nat.zero_add, e1] at hf
  obtain ⟨Z, hZ⟩ : ∃ Z, z22 = Z := ⟨_, rfl⟩
  rw [hZ] at hz hR hT hB hc hf
  obtain ⟨n, hn⟩ : ∃ n, w.heap.size = n := ⟨_, rfl⟩
  rw [hn] at hR hT hB hc hf
  have HB := (show Hid (Below n w _) from hB)
  have HT := (show Hid (World.there _ n 0 32) from hT)
  have HR := (show Hid (World.rangeAt _ (n + 1) 0 (bvc k)) from hR)
  have HN : Hid (w.heap.size = n) := hn
  clear hR hT hB hZ e1
  unfold bv
  have HI : Hid ((Try.prog.info? 22).map (·.size) = some (bvc k).length) := info22l k
  have HI2 : Hid ((Try.prog.info? 22).map (·.size) = some (bvc k).toArray.size) := info22s k
  have H32 : Hid ((bvc k).toArray.all (·.oneCell') = true) := one32 k
  have HLN : Hid ((bvc k).toArray.size = 32) := by show _ = _; rw [List.size_toArray, bvc_len]
  obtain ⟨R, hRR⟩ : ∃ R, bvc k = R := ⟨_, rfl⟩
  rw [hRR] at HR HI HI2 H32 HLN ⊢
  rw [← HLN.out] at HT
  clear hRR
  go_enter Try.func24, Try.ntmps24
  go_wp2_with (first
    | (refine wpList_load_mid rfl 22 (.tmp 3) rfl (n + 1) 0 rfl R _ HR.out Try.underlying22 rfl HI.out ?_)
    | (refine wpList_store_mid rfl 22 (.tmp 2) (.tmp 6) rfl n 0 R.toArray rfl rfl HT.out HI2.out H32.out ?_; simp only))
  exact bodyPost_ret (results_cell Try.results24 rfl (run_loadVar_mid (P := Try.prog) _ n 0 22 R _ (World.rangeAt_setCells_same _ _ _ _ (by rw [← List.size_toArray]; exact HT.out)) Try.underlying22 rfl HI.out)) rfl ⟨rfl, by first | exact below_setCells HB.out (Nat.le_refl _) | (rw [HN.out]; exact below_setCells HB.out (Nat.le_refl _))⟩
end Fd
end Go.Proofs.Ytgdekigdbbldoaa

namespace Go.Proofs.Ytgdekigdbbldoaa
open Go.RowKit
namespace Fd
open Rg Pratt

/-- A box of 32 bytes. -/
def Bo (w : World) (b : Nat) (R : List Value) : Prop := w.rangeAt b 0 R ∧ b < w.heap.size
theorem Bo.below {w w' : World} {b : Nat} {R : List Value} (h : Bo w b R) (hb : Below w.heap.size w w') : Bo w' b R := ⟨Rg.Below.range hb h.1 h.2, Nat.lt_of_lt_of_le h.2 hb.size⟩
theorem Bo.cl {w : World} {b : Nat} {R : List Value} (h : Bo w b R) : ∀ w', (∃ x : Cl w.heap.size w, w' = x.u) → w'.rangeAt b 0 R := fun _ ⟨x, hx⟩ => hx ▸ x.range h.1 h.2
theorem z22_there (W : World) : (W.alloc (.cells z22 22)).there W.heap.size 0 32 := there_new W z22 22 (m := 32) fun j hj => by simp [z22, hj]
theorem box_new (W : World) (R : List Value) (hR : R.length = 32) : Bo ((W.alloc (.cells z22 22)).setCells W.heap.size 0 R) W.heap.size R ∧ Below W.heap.size W ((W.alloc (.cells z22 22)).setCells W.heap.size 0 R) :=
  ⟨⟨World.rangeAt_setCells_same _ _ _ _ (by rw [hR]; exact z22_there W), by rw [size_setCells, size_alloc]; omega⟩, below_setCells ((Below.refl _ _).alloc (Nat.le_refl _) _) (Nat.le_refl _)⟩
/-- What the walk wants of a letter for 32 bytes. -/
structure L32 (R : List Value) : Prop where
  l : R.length = 32
  o : R.toArray.all (·.oneCell') = true
  i : (Try.prog.info? 22).map (·.size) = some R.length
  j : (Try.prog.info? 22).map (·.size) = some R.toArray.size
  t : ∀ W : World, (W.alloc (.cells z22 22)).there W.heap.size 0 R.toArray.size
theorem l32 (x : Nat) : L32 (bvc x) := ⟨bvc_len x, one32 x, info22l x, info22s x, fun W => by rw [show (bvc x).toArray.size = 32 by rw [List.size_toArray, bvc_len]]; exact z22_there W⟩
theorem eq_nil (W : World) : (Op.equalIn 10000 32 .nilIface .nilIface).run Try.prog W = .ok true W := by
  rw [show (10000 : Nat) = 9999 + 1 from rfl, Op.equalIn]
  simp only [Sem.run_bind, run_underlying Try.underlying32, Result.andThen_ok]
  rfl
theorem eq_err_nil (t : TypeId) (v : Value) (W : World) : (Op.equalIn 10000 32 (.iface t v) .nilIface).run Try.prog W = .ok false W := by
  rw [show (10000 : Nat) = 9999 + 1 from rfl, Op.equalIn]
  simp only [Sem.run_bind, run_underlying Try.underlying32, Result.andThen_ok]
  rfl
theorem comp35 : (Try.prog.info? 35).map (·.comparable) = some true := by kernel_rfl
theorem eq_err (a b : Int) (W : World) : (Op.equalIn 10000 32 (.iface 35 (.int .i64 a)) (.iface 35 (.int .i64 b))).run Try.prog W = .ok (a == b) W := by
  obtain ⟨i, hi, hc⟩ := Option.map_eq_some_iff.1 comp35
  rw [show (10000 : Nat) = 9999 + 1 from rfl, Op.equalIn]
  simp only [Sem.run_bind, run_underlying Try.underlying32, Result.andThen_ok]
  simp [typeInfo, hi, hc]
  rw [show (9999 : Nat) = 9998 + 1 from rfl]
  exact run_equalIn_int (P := Try.prog) W 9998 35 .i64 .i64 a b Try.underlying35

theorem bin_err (a b : Int) (W : World) : (binOp .eql 32 (.iface 35 (.int .i64 a)) (.iface 35 (.int .i64 b))).run Try.prog W = .ok (.bool (a == b)) W := by
  simp only [binOp]
  simp [Op.equal, Op.maxDepth, eq_err a b W]
theorem r0_pm (x : Nat) : r0 x = pm p 256 x rootExponent := (pm_eq p 256 x rootExponent (by decide +kernel)).symm
theorem rt4 : evn (rt 4) = 2 ∧ rt 4 * rt 4 % p = 4 := by
  have e : rt 4 = if pm p 256 4 rootExponent * pm p 256 4 rootExponent % p = 4 then pm p 256 4 rootExponent else pm p 256 4 rootExponent * rootOfMinusOne % p := by unfold rt; rw [r0_pm]
  rw [e]
  decide +kernel
theorem rt2 : ¬ rt 2 * rt 2 % p = 2 := by
  have e : rt 2 = if pm p 256 2 rootExponent * pm p 256 2 rootExponent % p = 2 then pm p 256 2 rootExponent else pm p 256 2 rootExponent * rootOfMinusOne % p := by unfold rt; rw [r0_pm]
  rw [e]
  decide +kernel
/-- Inv, where there is one. -/
theorem inv_at (a : Nat) (ha : a < 115792089237316195423570985008687907853269984665640564039457584007913129639936) (hz : ¬ a % p = 0) : ∃ i, i < p ∧ a * i % p = 1 ∧ i = (a % p) ^ (p - 2) % p ∧ ∀ w : World, Calls Try.prog 23 #[bv a] w fun e w' => e = .returned (.tuple #[bv i, .nilIface]) ∧ Below w.heap.size w w' := by
  refine ⟨(a % p) ^ inverseExponent % p, Nat.mod_lt _ (by decide), ?_, by rw [inverseExponent_eq], fun w => inv_some a w ha hz⟩
  have h := inv_mul (a % p) (Nat.pos_of_ne_zero hz) (Nat.mod_lt _ (by decide))
  rw [inverseExponent_eq, ← Nat.mod_mul_mod]
  exact h
theorem root_at (a r : Nat) (ha : a < 115792089237316195423570985008687907853269984665640564039457584007913129639936) (hr : evn (rt (a % p)) = r) (h : rt (a % p) * rt (a % p) % p = a % p) (w : World) : Calls Try.prog 26 #[bv a] w fun e w' => e = .returned (.tuple #[bv r, .nilIface]) ∧ Below w.heap.size w w' := by
  rw [← hr]
  exact proot_some a w ha h
theorem lt4 : 4 % p = 4 := by decide
theorem lt2 : 2 % p = 2 := by decide
theorem root4 (w : World) : Calls Try.prog 26 #[bv 4] w fun e w' => e = .returned (.tuple #[bv 2, .nilIface]) ∧ Below w.heap.size w w' := root_at 4 2 (by decide) (by rw [lt4]; exact rt4.1) (by rw [lt4]; exact rt4.2) w
theorem root2 (w : World) : Calls Try.prog 26 #[bv 2] w fun e w' => e = .returned (.tuple #[bv 0, .iface 35 (.int .i64 9)]) ∧ Below w.heap.size w w' := proot_none 2 w (by decide) (by rw [lt2]; exact rt2)
end Fd
end Go.Proofs.Ytgdekigdbbldoaa
