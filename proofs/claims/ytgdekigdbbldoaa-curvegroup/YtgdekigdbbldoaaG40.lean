/- What '==' says of two points. What shown of layer 7 answers: true. -/
import Derived.Test.YtgdekigdbbldoaaG30
import Derived.Laws.StructEq
import Derived.Test.YtgdekigdbbldoaaG39
import Derived.Test.YtgdekigdbbldoaaG31
namespace Go.Proofs.Ytgdekigdbbldoaa
open Go.RowKit
namespace Fd
open Rg

theorem items_d (d x y : Nat) (W : World) : ∀ (is : List Nat), (∀ i ∈ is, i < 32) → (Op.eqItems (d + 1) 5 1 (bvc x).toArray (bvc y).toArray is).run Try.prog W = .ok (is.all fun i => decide (by_ x i = by_ y i)) W
  | [], _ => by simp [Op.eqItems]
  | i :: is, h => by
    have hi := h i (by simp)
    have p1 : (part 5 (bvc x).toArray (i * 1)).run Try.prog W = .ok (.int .u8 ((by_ x i : Nat) : Int)) W := run_part_plain W plain5 (by rw [Nat.mul_one, List.getElem?_toArray]; exact bvc_at x i hi)
    have p2 : (part 5 (bvc y).toArray (i * 1)).run Try.prog W = .ok (.int .u8 ((by_ y i : Nat) : Int)) W := run_part_plain W plain5 (by rw [Nat.mul_one, List.getElem?_toArray]; exact bvc_at y i hi)
    have p3 := run_equalIn_int (P := Try.prog) W d 5 .u8 .u8 ((by_ x i : Nat) : Int) ((by_ y i : Nat) : Int) Try.underlying5
    have ih := items_d d x y W is (fun j hj => h j (by simp [hj]))
    simp only [Op.eqItems, Sem.run_bind, p1, p2, Result.andThen_ok]
    rw [p3]
    simp only [Result.andThen_ok]
    by_cases e : by_ x i = by_ y i
    · simp [e, ih]
    · have e2 : ¬ ((by_ x i : Nat) : Int) = ((by_ y i : Nat) : Int) := by omega
      simp [e, e2]
theorem eq22_d (d x y : Nat) (W : World) (hx : x < 115792089237316195423570985008687907853269984665640564039457584007913129639936) (hy : y < 115792089237316195423570985008687907853269984665640564039457584007913129639936) :
    (Op.equalIn (d + 2) 22 (.agg (bvc x).toArray) (.agg (bvc y).toArray)).run Try.prog W = .ok (decide (x = y)) W := by
  obtain ⟨i0, hi, _⟩ := info_parts info5'
  rw [show d + 2 = d + 1 + 1 from rfl, run_equalIn_array W (d + 1) (bvc x).toArray (bvc y).toArray Try.underlying22 hi, cells5, items_d d x y W _ (fun i hi => List.mem_range.1 hi), all_bytes hx hy]
theorem stood43 : Try.prog.stoodInHeld 43 = false := by kernel_rfl
theorem fields43 : (Try.prog.fieldsOf 43).toList.map (fun f => (f.name, f.type, f.offset)) = [("X", 22, 0), ("Y", 22, 32)] := by kernel_rfl
theorem under43 : Try.prog.underlying 43 = some (.struct (Try.prog.fieldsOf 43)) := by kernel_rfl
theorem part_x (X Y : List Value) (W : World) (hX : X.length = 32) : (part 22 (X ++ Y).toArray 0).run Try.prog W = .ok (.agg X.toArray) W := by
  have hq : (Try.prog.info? 22).map (·.size) = some 32 := info22
  obtain ⟨t, ht⟩ : ∃ t, Try.prog.info? 22 = some t := by
    cases h : Try.prog.info? 22 with
    | none => simp [h] at hq
    | some t => exact ⟨t, rfl⟩
  have hs : t.size = 32 := by simpa [ht] using hq
  simp [part, sizeOf, typeInfo, ht, hs, run_underlying Try.underlying22, isAgg, hX]
theorem part_y (X Y : List Value) (W : World) (hX : X.length = 32) (hY : Y.length = 32) : (part 22 (X ++ Y).toArray 32).run Try.prog W = .ok (.agg Y.toArray) W := by
  have hq : (Try.prog.info? 22).map (·.size) = some 32 := info22
  obtain ⟨t, ht⟩ : ∃ t, Try.prog.info? 22 = some t := by
    cases h : Try.prog.info? 22 with
    | none => simp [h] at hq
    | some t => exact ⟨t, rfl⟩
  have hs : t.size = 32 := by simpa [ht] using hq
  simp [part, sizeOf, typeInfo, ht, hs, run_underlying Try.underlying22, isAgg, hX]
  rw [List.take_of_length_le (by omega)]
theorem eq22_k (k d : Nat) (hk : k = d + 2) (x y : Nat) (W : World) (hx : x < 115792089237316195423570985008687907853269984665640564039457584007913129639936) (hy : y < 115792089237316195423570985008687907853269984665640564039457584007913129639936) :
    (Op.equalIn k 22 (.agg (bvc x).toArray) (.agg (bvc y).toArray)).run Try.prog W = .ok (decide (x = y)) W := by
  subst hk
  exact eq22_d d x y W hx hy
theorem flds43 {fs : List Field} (hf : fs.map (fun f => (f.name, f.type, f.offset)) = [("X", 22, 0), ("Y", 22, 32)]) (k : Nat) (xs ys : Array Value) (W : World) (a b c d : Value) (r s : Bool)
    (h1 : (part 22 xs 0).run Try.prog W = .ok a W) (h2 : (part 22 ys 0).run Try.prog W = .ok b W) (h3 : (part 22 xs 32).run Try.prog W = .ok c W) (h4 : (part 22 ys 32).run Try.prog W = .ok d W)
    (h5 : (Op.equalIn k 22 a b).run Try.prog W = .ok r W) (h6 : (Op.equalIn k 22 c d).run Try.prog W = .ok s W) : (Op.eqFields k xs ys fs).run Try.prog W = .ok (r && s) W := by
  obtain ⟨f1, f2, hfs⟩ : ∃ f1 f2, fs = [f1, f2] := by
    match fs, hf with
    | [], hf => simp at hf
    | [_], hf => simp at hf
    | [a, b], _ => exact ⟨a, b, rfl⟩
    | _ :: _ :: _ :: _, hf => simp at hf
  rw [hfs] at hf ⊢
  simp only [List.map_cons, List.map_nil, List.cons.injEq, Prod.mk.injEq, and_true] at hf
  obtain ⟨⟨n1, t1, o1⟩, n2, t2, o2⟩ := hf
  rw [Op.eqFields, if_pos (by rw [n1]; decide), t1, o1]
  simp only [Sem.run_bind, h1, h2, Result.andThen_ok, h5]
  cases r
  · simp
  · simp only [Bool.not_true, Bool.false_eq_true, if_false]
    rw [Op.eqFields, if_pos (by rw [n2]; decide), t2, o2]
    simp only [Sem.run_bind, h3, h4, Result.andThen_ok, h6]
    cases s
    · simp
    · simp [Op.eqFields]
set_option maxHeartbeats 400000 in
/-- '==' of two points. -/
theorem eq43 (x y x' y' : Nat) (W : World) (hx : x < 115792089237316195423570985008687907853269984665640564039457584007913129639936) (hy : y < 115792089237316195423570985008687907853269984665640564039457584007913129639936) (hx' : x' < 115792089237316195423570985008687907853269984665640564039457584007913129639936) (hy' : y' < 115792089237316195423570985008687907853269984665640564039457584007913129639936) :
    (Op.equalIn 10000 43 (.agg (bvc x ++ bvc y).toArray) (.agg (bvc x' ++ bvc y').toArray)).run Try.prog W = .ok (decide (x = x' ∧ y = y')) W := by
  rw [show (10000 : Nat) = 9999 + 1 from rfl, run_equalIn_struct W 9999 43 _ _ under43 stood43]
  have h := flds43 fields43 9999 (bvc x ++ bvc y).toArray (bvc x' ++ bvc y').toArray W _ _ _ _ _ _ (part_x (bvc x) (bvc y) W (bvc_len x)) (part_x (bvc x') (bvc y') W (bvc_len x')) (part_y (bvc x) (bvc y) W (bvc_len x) (bvc_len y)) (part_y (bvc x') (bvc y') W (bvc_len x') (bvc_len y')) (eq22_k 9999 9997 rfl x x' W hx hx') (eq22_k 9999 9997 rfl y y' W hy hy')
  rw [h, ← Bool.decide_and]
end Fd
end Go.Proofs.Ytgdekigdbbldoaa

namespace Go.Proofs.Ytgdekigdbbldoaa
open Go.RowKit
namespace Fd
open Rg Pratt

theorem box43 (R : List Value) (h : L64 R) (W : World) : Rp ((W.alloc (.cells z43 43)).setCells W.heap.size 0 R) W.heap.size 0 R ∧ Below W.heap.size W ((W.alloc (.cells z43 43)).setCells W.heap.size 0 R) :=
  ⟨⟨World.rangeAt_setCells_same _ _ _ _ (by rw [h.l]; exact there43 W), by rw [size_setCells, size_alloc]; omega⟩, below_setCells ((Below.refl _ _).alloc (Nat.le_refl _) _) (Nat.le_refl _)⟩
theorem box22 (R : List Value) (h : L32 R) (W : World) : Rp ((W.alloc (.cells z22 22)).setCells W.heap.size 0 R) W.heap.size 0 R ∧ Below W.heap.size W ((W.alloc (.cells z22 22)).setCells W.heap.size 0 R) := box_new W R h.l
theorem th43 (R : List Value) (h : L64 R) (W : World) : (W.alloc (.cells z43 43)).there W.heap.size 0 R.toArray.size := by have e : R.toArray.size = 64 := (List.size_toArray ..).trans h.l; rw [e]; exact there43 W
theorem th22 (R : List Value) (h : L32 R) (W : World) : (W.alloc (.cells z22 22)).there W.heap.size 0 R.toArray.size := h.t W
theorem base_on : OnC baseX baseY := by decide +kernel
theorem nbase_on : OnC (subp 0 baseX) (redp baseY) := by decide +kernel
theorem bx_lt : baseX < 115792089237316195423570985008687907853269984665640564039457584007913129639936 := by decide
theorem by_lt' : baseY < 115792089237316195423570985008687907853269984665640564039457584007913129639936 := by decide
/-- What the base point and its negative come to. -/
theorem base_sum (s : Frac) (hs : sumF ⟨baseX, baseY, cone⟩ ⟨subp 0 baseX, redp baseY, cone⟩ = s) : ¬ s.u % p = 0 ∧ mulp s.x (invp s.u) = 0 ∧ mulp s.y (invp s.u) = 1 := by
  have h1 : s.x = 0 := by rw [← hs]; decide +kernel
  have h2 : s.y = s.u := by rw [← hs]; decide +kernel
  have h3 : s.u < p ∧ 0 < s.u := by rw [← hs]; decide +kernel
  have h4 : s.u % p = s.u := Nat.mod_eq_of_lt h3.1
  refine ⟨by rw [h4]; omega, by rw [h1]; unfold mulp; rw [Nat.zero_mul]; rfl, ?_⟩
  rw [h2]
  unfold mulp invp
  rw [h4, inverseExponent_eq]
  exact inv_mul s.u h3.2 h3.1
theorem enc_base : by_ (encp baseX baseY) 0 = 88 ∧ by_ (encp baseX baseY) 1 = 102 ∧ by_ (encp baseX baseY) 31 = 102 := by decide +kernel
set_option maxHeartbeats 4000000 in
set_option maxRecDepth 8000 in
theorem shown7_any (w : World) : Calls Try.prog 28 #[] w fun e w' => e = .returned (.bool true) ∧ Below w.heap.size w w' := by
  have cB : ∀ W : World, Calls Try.prog 30 #[] W fun e w' => e = .returned (pv baseX baseY) ∧ Below W.heap.size W w' := base_any
  have cE : ∀ W : World, Calls Try.prog 45 #[pv baseX baseY] W fun e w' => e = .returned (.tuple #[bv (encp baseX baseY), .nilIface]) ∧ Below W.heap.size W w' := fun W => encode_ok baseX baseY W bx_lt by_lt' base_on
  have cN : ∀ W : World, Calls Try.prog 36 #[pv baseX baseY] W fun e w' => e = .returned (.tuple #[pv (subp 0 baseX) (redp baseY), .nilIface]) ∧ Below W.heap.size W w' := fun W => neg_ok baseX baseY W bx_lt by_lt' base_on
  obtain ⟨s, hs⟩ : ∃ s, sumF ⟨baseX, baseY, cone⟩ ⟨subp 0 baseX, redp baseY, cone⟩ = s := ⟨_, rfl⟩
  obtain ⟨hs1, hs2, hs3⟩ := base_sum s hs
  have cA : ∀ W : World, Calls Try.prog 35 #[pv baseX baseY, pv (subp 0 baseX) (redp baseY)] W fun e w' => e = .returned (.tuple #[pv 0 1, .nilIface]) ∧ Below W.heap.size W w' := fun W => by
    have h := add_ok baseX baseY (subp 0 baseX) (redp baseY) W bx_lt by_lt' (subp_lt _ _) (redp_lt _) base_on nbase_on s hs hs1
    rwa [hs2, hs3] at h
  clear hs hs1 hs2 hs3 s
  have HO : Hid (∀ W : World, Calls Try.prog 53 #[] W fun e w' => ∃ v, e = .returned v ∧ Dt.Num w' v ell ∧ Below W.heap.size W w') := Dt.order_num
  have HBY : Hid (∀ (W : World) (v : Value), Dt.Num W v ell → Calls Try.prog 16 #[v] W fun e w' => e = .returned (bv ell) ∧ Below W.heap.size W w') := fun W v h => Dt.bytes_num h
  have cL : ∀ W : World, Calls Try.prog 49 #[bv ell] W fun e w' => e = .returned (.bool false) ∧ Below W.heap.size W w' := fun W => by have h := low_any ell W ell_lt; rwa [decide_eq_false (Nat.lt_irrefl _)] at h
  have cM : ∀ W : World, Calls Try.prog 50 #[bv 2, bv 3, bv 4] W fun e w' => e = .returned (bv 10) ∧ Below W.heap.size W w' := fun W => by have h := mulAdd_any 2 3 4 W (by decide) (by decide) (by decide); rwa [show (2 * 3 + 4) % ell = 10 from by decide] at h
  have c1 : ∀ W : World, Calls Try.prog 46 #[.int .u8 1] W fun e w' => e = .returned (bv 1) ∧ Below W.heap.size W w' := fun W => small7_any 1 W (by decide)
  have c2 : ∀ W : World, Calls Try.prog 46 #[.int .u8 2] W fun e w' => e = .returned (bv 2) ∧ Below W.heap.size W w' := fun W => small7_any 2 W (by decide)
  have c3 : ∀ W : World, Calls Try.prog 46 #[.int .u8 3] W fun e w' => e = .returned (bv 3) ∧ Below W.heap.size W w' := fun W => small7_any 3 W (by decide)
  have c4 : ∀ W : World, Calls Try.prog 46 #[.int .u8 4] W fun e w' => e = .returned (bv 4) ∧ Below W.heap.size W w' := fun W => small7_any 4 W (by decide)
  have c10 : ∀ W : World, Calls Try.prog 46 #[.int .u8 10] W fun e w' => e = .returned (bv 10) ∧ Below W.heap.size W w' := fun W => small7_any 10 W (by decide)
  have q43 : ∀ W : World, (Op.equalIn 10000 43 (.agg (bvc 0 ++ bvc 1).toArray) (.agg (bvc 0 ++ bvc 1).toArray)).run Try.prog W = .ok true W := fun W => by have h := eq43 0 1 0 1 W (by decide) (by decide) (by decide) (by decide); rwa [decide_eq_true (show 0 = 0 ∧ 1 = 1 from ⟨rfl, rfl⟩)] at h
  have q22 : ∀ W : World, (Op.equalIn 10000 22 (.agg (bvc 10).toArray) (.agg (bvc 10).toArray)).run Try.prog W = .ok true W := fun W => by have h := eq22 10 10 W (by decide) (by decide); rwa [decide_eq_true rfl] at h
  have en := eq_nil
  have ez : zl 32 = bvc 0 := by rfl
  have HBP : Hid (Try.prog.built 43 [(1, .agg (bvc 1).toArray)] = some (bvc 0 ++ bvc 1).toArray) := by have h := build_pointY (bvc 1) (bvc_len 1); rwa [ez] at h
  have LV : Hid (L64 (bvc baseX ++ bvc baseY)) := l64 _ _
  have LVN : Hid (L64 (bvc (subp 0 baseX) ++ bvc (redp baseY))) := l64 _ _
  have LVZ : Hid (L64 (bvc 0 ++ bvc 1)) := l64 _ _
  have LE : Hid (L32 (bvc (encp baseX baseY))) := l32 _
  have LL : Hid (L32 (bvc ell)) := l32 _
  have HCE : Hid (∀ {W : World} {b : Nat}, Rp W b 0 (bvc (encp baseX baseY)) → (∀ x : Cl W.heap.size W, x.u.cell? ⟨b, 0, none⟩ = some (.int .u8 88)) ∧ (∀ x : Cl W.heap.size W, x.u.cell? ⟨b, 1, none⟩ = some (.int .u8 102)) ∧ (∀ x : Cl W.heap.size W, x.u.cell? ⟨b, 31, none⟩ = some (.int .u8 102))) := fun {W b} h => by
    have g0 := h.1 0 _ (bvc_at _ 0 (by decide))
    have g1 := h.1 1 _ (bvc_at _ 1 (by decide))
    have g2 := h.1 31 _ (bvc_at _ 31 (by decide))
    rw [enc_base.1, Nat.zero_add] at g0
    rw [enc_base.2.1, Nat.zero_add] at g1
    rw [enc_base.2.2, Nat.zero_add] at g2
    exact ⟨fun x => x.cell g0 h.2, fun x => x.cell g1 h.2, fun x => x.cell g2 h.2⟩
  unfold pv at cB cE cN cA
  unfold bv at cE HBY cL cM c1 c2 c3 c4 c10
  obtain ⟨V, hV⟩ : ∃ X, bvc baseX ++ bvc baseY = X := ⟨_, rfl⟩
  rw [hV] at cB cE cN cA LV
  obtain ⟨VN, hVN⟩ : ∃ X, bvc (subp 0 baseX) ++ bvc (redp baseY) = X := ⟨_, rfl⟩
  rw [hVN] at cN cA LVN
  obtain ⟨VZ, hVZ⟩ : ∃ X, bvc 0 ++ bvc 1 = X := ⟨_, rfl⟩
  rw [hVZ] at cA q43 HBP LVZ
  obtain ⟨E, hE⟩ : ∃ X, bvc (encp baseX baseY) = X := ⟨_, rfl⟩
  rw [hE] at cE LE HCE
  obtain ⟨L, hL⟩ : ∃ X, bvc ell = X := ⟨_, rfl⟩
  rw [hL] at HBY cL LL
  obtain ⟨X1, hX1⟩ : ∃ X, bvc 1 = X := ⟨_, rfl⟩
  rw [hX1] at c1 HBP
  obtain ⟨X2, hX2⟩ : ∃ X, bvc 2 = X := ⟨_, rfl⟩
  rw [hX2] at c2 cM
  obtain ⟨X3, hX3⟩ : ∃ X, bvc 3 = X := ⟨_, rfl⟩
  rw [hX3] at c3 cM
  obtain ⟨X4, hX4⟩ : ∃ X, bvc 4 = X := ⟨_, rfl⟩
  rw [hX4] at c4 cM
  obtain ⟨X10, hX10⟩ : ∃ X, bvc 10 = X := ⟨_, rfl⟩
  rw [hX10] at c10 cM q22
  clear hV hVN hVZ hE hL hX1 hX2 hX3 hX4 hX10 ez
  have hz43 := zero43
  have hz22 := zero22
  have HBN43 : Hid _ := box43
  have HBN22 : Hid _ := box22
  have HTH43 : Hid _ := th43
  have HTH22 : Hid _ := th22
  obtain ⟨Z43, hZ43⟩ : ∃ Z, z43 = Z := ⟨_, rfl⟩
  obtain ⟨Z22, hZ22⟩ : ∃ Z, z22 = Z := ⟨_, rfl⟩
  rw [hZ43] at hz43 HBN43 HTH43
  rw [hZ22] at hz22 HBN22 HTH22
  clear hZ43 hZ22
  have HB_0 := (show Hid (Below w.heap.size w w) from Below.refl _ _)
  have TK_0 := (show Hid True from trivial)
  go_enter Try.func28, Try.ntmps28
  go_wp2_with (first
    | (refine wpList_load_mid rfl 43 (.tmp 1) rfl bBB 0 rfl V _ BB_2.out.1 Try.underlying43 rfl LV.out.i ?_)
    | (refine wpList_load_mid rfl 43 (.tmp 1) rfl bBB 0 rfl V _ BB_3.out.1 Try.underlying43 rfl LV.out.i ?_)
    | (refine wpList_load_mid rfl 43 (.tmp 1) rfl bBB 0 rfl V _ BB_4.out.1 Try.underlying43 rfl LV.out.i ?_)
    | (refine wpList_load_mid rfl 22 (.tmp 2) rfl bBE 0 rfl E _ BE_4.out.1 Try.underlying22 rfl LE.out.i ?_)
    | (refine wpList_load_mid rfl 43 (.tmp 1) rfl bBB 0 rfl V _ BB_5.out.1 Try.underlying43 rfl LV.out.i ?_)
    | (refine wpList_load_mid rfl 22 (.tmp 2) rfl bBE 0 rfl E _ BE_5.out.1 Try.underlying22 rfl LE.out.i ?_)
    | (refine wpList_load_mid rfl 43 (.tmp 1) rfl bBB 0 rfl V _ BB_6.out.1 Try.underlying43 rfl LV.out.i ?_)
    | (refine wpList_load_mid rfl 22 (.tmp 2) rfl bBE 0 rfl E _ BE_6.out.1 Try.underlying22 rfl LE.out.i ?_)
    | (refine wpList_load_mid rfl 43 (.tmp 4) rfl bBN 0 rfl VN _ BN_6.out.1 Try.underlying43 rfl LVN.out.i ?_)
    | (refine wpList_load_mid rfl 43 (.tmp 1) rfl bBB 0 rfl V _ BB_7.out.1 Try.underlying43 rfl LV.out.i ?_)
    | (refine wpList_load_mid rfl 22 (.tmp 2) rfl bBE 0 rfl E _ BE_7.out.1 Try.underlying22 rfl LE.out.i ?_)
    | (refine wpList_load_mid rfl 43 (.tmp 4) rfl bBN 0 rfl VN _ BN_7.out.1 Try.underlying43 rfl LVN.out.i ?_)
    | (refine wpList_load_mid rfl 43 (.tmp 1) rfl bBB 0 rfl V _ BB_8.out.1 Try.underlying43 rfl LV.out.i ?_)
    | (refine wpList_load_mid rfl 22 (.tmp 2) rfl bBE 0 rfl E _ BE_8.out.1 Try.underlying22 rfl LE.out.i ?_)
    | (refine wpList_load_mid rfl 43 (.tmp 4) rfl bBN 0 rfl VN _ BN_8.out.1 Try.underlying43 rfl LVN.out.i ?_)
    | (refine wpList_load_mid rfl 43 (.tmp 6) rfl bBZ 0 rfl VZ _ BZ_8.out.1 Try.underlying43 rfl LVZ.out.i ?_)
    | (refine wpList_load_mid rfl 43 (.tmp 1) rfl bBB 0 rfl V _ BB_9.out.1 Try.underlying43 rfl LV.out.i ?_)
    | (refine wpList_load_mid rfl 22 (.tmp 2) rfl bBE 0 rfl E _ BE_9.out.1 Try.underlying22 rfl LE.out.i ?_)
    | (refine wpList_load_mid rfl 43 (.tmp 4) rfl bBN 0 rfl VN _ BN_9.out.1 Try.underlying43 rfl LVN.out.i ?_)
    | (refine wpList_load_mid rfl 43 (.tmp 6) rfl bBZ 0 rfl VZ _ BZ_9.out.1 Try.underlying43 rfl LVZ.out.i ?_)
    | (refine wpList_load_mid rfl 43 (.tmp 1) rfl bBB 0 rfl V _ BB_10.out.1 Try.underlying43 rfl LV.out.i ?_)
    | (refine wpList_load_mid rfl 22 (.tmp 2) rfl bBE 0 rfl E _ BE_10.out.1 Try.underlying22 rfl LE.out.i ?_)
    | (refine wpList_load_mid rfl 43 (.tmp 4) rfl bBN 0 rfl VN _ BN_10.out.1 Try.underlying43 rfl LVN.out.i ?_)
    | (refine wpList_load_mid rfl 43 (.tmp 6) rfl bBZ 0 rfl VZ _ BZ_10.out.1 Try.underlying43 rfl LVZ.out.i ?_)
    | (refine wpList_load_mid rfl 43 (.tmp 1) rfl bBB 0 rfl V _ BB_11.out.1 Try.underlying43 rfl LV.out.i ?_)
    | (refine wpList_load_mid rfl 22 (.tmp 2) rfl bBE 0 rfl E _ BE_11.out.1 Try.underlying22 rfl LE.out.i ?_)
    | (refine wpList_load_mid rfl 43 (.tmp 4) rfl bBN 0 rfl VN _ BN_11.out.1 Try.underlying43 rfl LVN.out.i ?_)
    | (refine wpList_load_mid rfl 43 (.tmp 6) rfl bBZ 0 rfl VZ _ BZ_11.out.1 Try.underlying43 rfl LVZ.out.i ?_)
    | (refine wpList_load_mid rfl 22 (.tmp 8) rfl bBL 0 rfl L _ BL_11.out.1 Try.underlying22 rfl LL.out.i ?_)
    | (have hq := TK_0; go_at_call 30; refine (cB _).mono ?_; rintro e w1 ⟨rfl, hb⟩; have HB_1 := (show Hid (Below w.heap.size w w1) from HB_0.out.trans (hb.mono HB_0.out.size)); have TK_1 := (show Hid True from trivial); clear hq TK_0 hb HB_0 )
    | (have hq := TK_1; refine wpList_store_mid rfl 43 (.tmp 1) (.tmp 9) rfl w1.heap.size 0 V.toArray rfl rfl (HTH43.out V LV.out w1) LV.out.j LV.out.o ?_; simp only; have hbx := HBN43.out V LV.out w1; obtain ⟨w2, hw2⟩ : ∃ v, (w1.alloc (.cells Z43 43)).setCells w1.heap.size 0 V = v := ⟨_, rfl⟩; rw [hw2] at hbx ⊢; clear hw2; have hb := hbx.2; replace hbx := hbx.1; obtain ⟨bBB, hbBB⟩ : ∃ b, w1.heap.size = b := ⟨_, rfl⟩; rw [hbBB] at hbx ⊢; clear hbBB; have HB_2 := (show Hid (Below w.heap.size w w2) from HB_1.out.trans (hb.mono HB_1.out.size)); have BB_2 := (show Hid (Rp w2 bBB 0 V) from hbx); have TK_2 := (show Hid True from trivial); clear hq TK_1 hb hbx HB_1 )
    | (have hq := TK_2; go_at_call 45; refine (cE _).mono ?_; rintro e w3 ⟨rfl, hb⟩; have HB_3 := (show Hid (Below w.heap.size w w3) from HB_2.out.trans (hb.mono HB_2.out.size)); have BB_3 := (show Hid (Rp w3 bBB 0 V) from BB_2.out.below hb); have TK_3 := (show Hid True from trivial); clear hq TK_2 hb HB_2 BB_2)
    | (have hq := TK_3; refine wpList_store_mid rfl 22 (.tmp 2) (.tmp 13) rfl w3.heap.size 0 E.toArray rfl rfl (HTH22.out E LE.out w3) LE.out.j LE.out.o ?_; simp only; have hbx := HBN22.out E LE.out w3; obtain ⟨w4, hw4⟩ : ∃ v, (w3.alloc (.cells Z22 22)).setCells w3.heap.size 0 E = v := ⟨_, rfl⟩; rw [hw4] at hbx ⊢; clear hw4; have hb := hbx.2; replace hbx := hbx.1; obtain ⟨bBE, hbBE⟩ : ∃ b, w3.heap.size = b := ⟨_, rfl⟩; rw [hbBE] at hbx ⊢; clear hbBE; have HB_4 := (show Hid (Below w.heap.size w w4) from HB_3.out.trans (hb.mono HB_3.out.size)); have BB_4 := (show Hid (Rp w4 bBB 0 V) from BB_3.out.below hb); have BE_4 := (show Hid (Rp w4 bBE 0 E) from hbx); have TK_4 := (show Hid True from trivial); clear hq TK_3 hb hbx HB_3 BB_3)
    | (have hq := TK_4; go_at_call 36; refine (cN _).mono ?_; rintro e w5 ⟨rfl, hb⟩; have HB_5 := (show Hid (Below w.heap.size w w5) from HB_4.out.trans (hb.mono HB_4.out.size)); have BB_5 := (show Hid (Rp w5 bBB 0 V) from BB_4.out.below hb); have BE_5 := (show Hid (Rp w5 bBE 0 E) from BE_4.out.below hb); have TK_5 := (show Hid True from trivial); clear hq TK_4 hb HB_4 BB_4 BE_4)
    | (have hq := TK_5; refine wpList_store_mid rfl 43 (.tmp 4) (.tmp 18) rfl w5.heap.size 0 VN.toArray rfl rfl (HTH43.out VN LVN.out w5) LVN.out.j LVN.out.o ?_; simp only; have hbx := HBN43.out VN LVN.out w5; obtain ⟨w6, hw6⟩ : ∃ v, (w5.alloc (.cells Z43 43)).setCells w5.heap.size 0 VN = v := ⟨_, rfl⟩; rw [hw6] at hbx ⊢; clear hw6; have hb := hbx.2; replace hbx := hbx.1; obtain ⟨bBN, hbBN⟩ : ∃ b, w5.heap.size = b := ⟨_, rfl⟩; rw [hbBN] at hbx ⊢; clear hbBN; have HB_6 := (show Hid (Below w.heap.size w w6) from HB_5.out.trans (hb.mono HB_5.out.size)); have BB_6 := (show Hid (Rp w6 bBB 0 V) from BB_5.out.below hb); have BE_6 := (show Hid (Rp w6 bBE 0 E) from BE_5.out.below hb); have BN_6 := (show Hid (Rp w6 bBN 0 VN) from hbx); have TK_6 := (show Hid True from trivial); clear hq TK_5 hb hbx HB_5 BB_5 BE_5)
    | (have hq := TK_6; go_at_call 35; refine (cA _).mono ?_; rintro e w7 ⟨rfl, hb⟩; have HB_7 := (show Hid (Below w.heap.size w w7) from HB_6.out.trans (hb.mono HB_6.out.size)); have BB_7 := (show Hid (Rp w7 bBB 0 V) from BB_6.out.below hb); have BE_7 := (show Hid (Rp w7 bBE 0 E) from BE_6.out.below hb); have BN_7 := (show Hid (Rp w7 bBN 0 VN) from BN_6.out.below hb); have TK_7 := (show Hid True from trivial); clear hq TK_6 hb HB_6 BB_6 BE_6 BN_6)
    | (have hq := TK_7; refine wpList_store_mid rfl 43 (.tmp 6) (.tmp 24) rfl w7.heap.size 0 VZ.toArray rfl rfl (HTH43.out VZ LVZ.out w7) LVZ.out.j LVZ.out.o ?_; simp only; have hbx := HBN43.out VZ LVZ.out w7; obtain ⟨w8, hw8⟩ : ∃ v, (w7.alloc (.cells Z43 43)).setCells w7.heap.size 0 VZ = v := ⟨_, rfl⟩; rw [hw8] at hbx ⊢; clear hw8; have hb := hbx.2; replace hbx := hbx.1; obtain ⟨bBZ, hbBZ⟩ : ∃ b, w7.heap.size = b := ⟨_, rfl⟩; rw [hbBZ] at hbx ⊢; clear hbBZ; have HB_8 := (show Hid (Below w.heap.size w w8) from HB_7.out.trans (hb.mono HB_7.out.size)); have BB_8 := (show Hid (Rp w8 bBB 0 V) from BB_7.out.below hb); have BE_8 := (show Hid (Rp w8 bBE 0 E) from BE_7.out.below hb); have BN_8 := (show Hid (Rp w8 bBN 0 VN) from BN_7.out.below hb); have BZ_8 := (show Hid (Rp w8 bBZ 0 VZ) from hbx); have TK_8 := (show Hid True from trivial); clear hq TK_7 hb hbx HB_7 BB_7 BE_7 BN_7)
    | (have hq := TK_8; go_at_call 53; refine (HO.out _).mono ?_; rintro e w9 ⟨vo, rfl, hn, hb⟩; have HB_9 := (show Hid (Below w.heap.size w w9) from HB_8.out.trans (hb.mono HB_8.out.size)); have BB_9 := (show Hid (Rp w9 bBB 0 V) from BB_8.out.below hb); have BE_9 := (show Hid (Rp w9 bBE 0 E) from BE_8.out.below hb); have BN_9 := (show Hid (Rp w9 bBN 0 VN) from BN_8.out.below hb); have BZ_9 := (show Hid (Rp w9 bBZ 0 VZ) from BZ_8.out.below hb); have NO_9 := (show Hid (Dt.Num w9 vo ell) from hn); have TK_9 := (show Hid True from trivial); clear hq TK_8 hb HB_8 BB_8 BE_8 BN_8 BZ_8 hn)
    | (have hq := TK_9; go_at_call 16; refine (HBY.out _ _ (NO_9.out)).mono ?_; rintro e w10 ⟨rfl, hb⟩; have HB_10 := (show Hid (Below w.heap.size w w10) from HB_9.out.trans (hb.mono HB_9.out.size)); have BB_10 := (show Hid (Rp w10 bBB 0 V) from BB_9.out.below hb); have BE_10 := (show Hid (Rp w10 bBE 0 E) from BE_9.out.below hb); have BN_10 := (show Hid (Rp w10 bBN 0 VN) from BN_9.out.below hb); have BZ_10 := (show Hid (Rp w10 bBZ 0 VZ) from BZ_9.out.below hb); have TK_10 := (show Hid True from trivial); clear hq TK_9 hb HB_9 BB_9 BE_9 BN_9 BZ_9 NO_9)
    | (have hq := TK_10; refine wpList_store_mid rfl 22 (.tmp 8) (.tmp 27) rfl w10.heap.size 0 L.toArray rfl rfl (HTH22.out L LL.out w10) LL.out.j LL.out.o ?_; simp only [Act.put]; have hbx := HBN22.out L LL.out w10; obtain ⟨w11, hw11⟩ : ∃ v, (w10.alloc (.cells Z22 22)).setCells w10.heap.size 0 L = v := ⟨_, rfl⟩; rw [hw11] at hbx ⊢; clear hw11; have hb := hbx.2; replace hbx := hbx.1; obtain ⟨bBL, hbBL⟩ : ∃ b, w10.heap.size = b := ⟨_, rfl⟩; rw [hbBL] at hbx ⊢; clear hbBL; have HB_11 := (show Hid (Below w.heap.size w w11) from HB_10.out.trans (hb.mono HB_10.out.size)); have BB_11 := (show Hid (Rp w11 bBB 0 V) from BB_10.out.below hb); have BE_11 := (show Hid (Rp w11 bBE 0 E) from BE_10.out.below hb); have BN_11 := (show Hid (Rp w11 bBN 0 VN) from BN_10.out.below hb); have BZ_11 := (show Hid (Rp w11 bBZ 0 VZ) from BZ_10.out.below hb); have BL_11 := (show Hid (Rp w11 bBL 0 L) from hbx); have TK_11 := (show Hid True from trivial); clear hq TK_10 hb hbx HB_10 BB_10 BE_10 BN_10 BZ_10))
  have HQBZ := (show Hid _ from BZ_11.out.cl)
  have HQBL := (show Hid _ from BL_11.out.cl)
  obtain ⟨g0, g1, g2⟩ := HCE.out BE_11.out
  have hne := Cl.ne w11.heap.size w11
  refine region_cl (N := w11.heap.size) (W := w11) (by kernel_rfl) (by kernel_rfl) (Below.refl _ _) ?_
  go_big_quiet_step (fail)
  go_big_quiet_step (fail)
  go_big_quiet_step (fail)
  go_big_quiet_step (fail)
  go_big_quiet_step (fail)
  go_big_quiet_step (fail)
  go_big_quiet_step (fail)
  go_big_quiet_step (fail)
  go_big_quiet_step (fail)
  go_big_quiet_step (fail)
  go_big_quiet_step (fail)
  go_big_quiet_step (fail)
  go_big_quiet_step (fail)
  go_big_quiet_step (fail)
  go_big_quiet_step (fail)
  go_big_quiet_step (fail)
  go_big_quiet_step (fail)
  go_big_quiet_step (fail)
  go_big_quiet_step (fail)
  go_big_quiet_step (fail)
  go_big_quiet_step (fail)
  go_big_quiet_step (fail)
  go_big_quiet_step (fail)
  go_big_quiet_step (fail)
  go_big_quiet_step (fail)
  go_big_quiet_step (fail)
  go_big_quiet_want
  refine quiet_load 43 _ rfl bBZ 0 rfl VZ _ HQBZ.out Try.underlying43 rfl LVZ.out.i ?_
  simp only [Act.put, List.setIfInBounds_toArray, List.set_cons_zero, List.set_cons_succ]
  go_big_quiet_on
  go_big_quiet_step ((go_at_call 46; exact cl_of (c1 _) (Nat.le_refl _)))
  go_big_quiet_want
  refine quiet_build 43 _ rfl [(1, .agg X1.toArray)] (by kernel_rfl) VZ HBP.out ?_
  simp only [Act.put, List.setIfInBounds_toArray, List.set_cons_zero, List.set_cons_succ]
  go_big_quiet_on
  go_big_quiet_step (fail)
  go_big_quiet_step (fail)
  go_big_quiet_step (fail)
  go_big_quiet_want
  refine quiet_load 22 _ rfl bBL 0 rfl L _ HQBL.out Try.underlying22 rfl LL.out.i ?_
  simp only [Act.put, List.setIfInBounds_toArray, List.set_cons_zero, List.set_cons_succ]
  go_big_quiet_on
  go_big_quiet_step ((go_at_call 49; exact cl_of (cL _) (Nat.le_refl _)))
  go_big_quiet_step (fail)
  go_big_quiet_step (fail)
  go_big_quiet_step (fail)
  go_big_quiet_step ((go_at_call 46; exact cl_of (c2 _) (Nat.le_refl _)))
  go_big_quiet_step ((go_at_call 46; exact cl_of (c3 _) (Nat.le_refl _)))
  go_big_quiet_step ((go_at_call 46; exact cl_of (c4 _) (Nat.le_refl _)))
  go_big_quiet_step ((go_at_call 50; exact cl_of (cM _) (Nat.le_refl _)))
  go_big_quiet_step ((go_at_call 46; exact cl_of (c10 _) (Nat.le_refl _)))
  go_big_quiet_step (fail)
  go_big_quiet_step (fail)
  go_big_quiet_step (fail)
  refine wpQuiet_nil ?_
  rintro _ ⟨xq, rfl⟩
  have hb := xq.h
  have HBF := (show Hid (Below w.heap.size w xq.u) from HB_11.out.trans (hb.mono HB_11.out.size))
  go_wp2
  go_ret
  exact ⟨rfl, HBF.out⟩
end Fd
end Go.Proofs.Ytgdekigdbbldoaa
