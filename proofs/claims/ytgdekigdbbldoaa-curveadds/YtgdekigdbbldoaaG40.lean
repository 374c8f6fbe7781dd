/- The reference's Order; the statements' small: contracts, by walking their texts. What '==' says of two points. -/
import Derived.Test.YtgdekigdbbldoaaG28
import Derived.Test.YtgdekigdbbldoaaG39
import Derived.Test.YtgdekigdbbldoaaG30
import Derived.Laws.StructEq
namespace Go.Proofs.Ytgdekigdbbldoaa
open Go.RowKit
namespace Dt
open Rg Go.Proofs.Ytgdekigdbbldoaa.Fd

/-- What Order begins with. -/
theorem order_start (w : World) :
    let e := (w.alloc (.cells (Array.replicate 32 (.int .u8 0)) 22)).alloc (.cells #[.int .u8 237, .int .u8 211, .int .u8 245, .int .u8 92, .int .u8 26, .int .u8 99, .int .u8 18, .int .u8 88, .int .u8 214, .int .u8 156, .int .u8 247, .int .u8 162, .int .u8 222, .int .u8 249, .int .u8 222, .int .u8 20] 5)
    Cs .u8 32 w.heap.size w e w.heap.size (fun _ => 0) ∧ ∀ j, j < 16 → e.cell? ⟨w.heap.size + 1, j, none⟩ = some (.int .u8 ((by_ ell j : Nat) : Int)) := by
  intro e
  have hb : Below (w.alloc (.cells (Array.replicate 32 (.int .u8 0)) 22)).heap.size (w.alloc (.cells (Array.replicate 32 (.int .u8 0)) 22)) e := (Below.refl _ _).alloc (Nat.le_refl _) _
  have h0 : Cs .u8 32 w.heap.size w (w.alloc (.cells (Array.replicate 32 (.int .u8 0)) 22)) w.heap.size (fun _ => 0) :=
    ⟨(Below.refl _ _).alloc (Nat.le_refl _) _, fun j hj => cell_new w (Array.replicate 32 (.int .u8 0)) 22 (i := j) (v := .int .u8 0) (by simp [hj]), there_new w (Array.replicate 32 (.int .u8 0)) 22 (m := 32) fun j hj => by simp [hj], Nat.le_refl _, by rw [size_alloc]; omega⟩
  refine ⟨h0.below hb, fun j hj => ?_⟩
  have h2 := cell_new (w.alloc (.cells (Array.replicate 32 (.int .u8 0)) 22)) #[.int .u8 237, .int .u8 211, .int .u8 245, .int .u8 92, .int .u8 26, .int .u8 99, .int .u8 18, .int .u8 88, .int .u8 214, .int .u8 156, .int .u8 247, .int .u8 162, .int .u8 222, .int .u8 249, .int .u8 222, .int .u8 20] 5 (i := j) (v := .int .u8 ((by_ ell j : Nat) : Int)) (by
    match j, hj with
    | 0, _ => rfl
    | 1, _ => rfl
    | 2, _ => rfl
    | 3, _ => rfl
    | 4, _ => rfl
    | 5, _ => rfl
    | 6, _ => rfl
    | 7, _ => rfl
    | 8, _ => rfl
    | 9, _ => rfl
    | 10, _ => rfl
    | 11, _ => rfl
    | 12, _ => rfl
    | 13, _ => rfl
    | 14, _ => rfl
    | 15, _ => rfl
    | i + 16, h => exact absurd h (by omega))
  rw [size_alloc] at h2
  exact h2
theorem order_bytes : ∀ j, j < 32 → upd (tabs (by_ ell) 16) 31 16 j = by_ ell j := by decide +kernel

set_option maxHeartbeats 1000000 in
set_option maxRecDepth 4000 in
theorem order_num (w : World) : Calls Try.prog 53 #[] w fun e w' => ∃ v, e = .returned v ∧ Num w' v ell ∧ Below w.heap.size w w' := by
  obtain ⟨n, hn⟩ : ∃ n, w.heap.size = n := ⟨_, rfl⟩
  have hS := order_start w
  rw [hn, ← tabs_zero (by_ ell)] at hS
  have HS : Hid (_ ∧ _) := hS
  have HOB : Hid (∀ j, j < 32 → upd (tabs (by_ ell) 16) 31 16 j = by_ ell j) := order_bytes
  have hv : ofB (bl ell 32) = ell := by rw [ofB_bl, b256, Nat.mod_eq_of_lt (by rw [← two256]; exact ell_lt)]
  have CO : Hid (∀ W : World, W.rangeAt n 0 (bvc ell) → n < W.heap.size → Calls Try.prog 52 #[.slice (some ⟨n, 0, none⟩) 32 32] W fun e w' => ∃ v, e = .returned v ∧ Num w' v ell ∧ Below W.heap.size W w') := fun W hr hl => by
    have h := of_any (some ⟨n, 0, none⟩) (bl ell 32) 32 W (.inr ⟨_, _, rfl, hl, by rw [← bvc_bc]; exact hr⟩) (bl_lt ell 32) (by rw [bl_len]; decide)
    rwa [hv, bl_len] at h
  have HEL : Hid (∀ j, by_ ell j < 256) := fun j => Nat.mod_lt _ (by decide)
  obtain ⟨B, hB⟩ : ∃ B, by_ ell = B := ⟨_, rfl⟩
  have HRG : Hid (∀ {W : World} {M : Nat → Nat}, Cs .u8 32 n w W n M → (∀ j, j < 32 → M j = B j) → W.rangeAt n 0 (bvc ell)) := fun h1 h2 => h1.range ell (by rw [hB]; exact h2)
  rw [hB] at HS HOB HEL
  clear hS hv hB
  go_enter Try.func53, Try.ntmps53
  go_wp2
  go_loopw [3] (fun y wr => ∃ k : Nat, y = .int .i64 (k : Int) ∧ k ≤ 16 ∧ Hid (Cs .u8 32 n w wr n (tabs B k) ∧ n + 1 < wr.heap.size ∧ ∀ j, j < 16 → wr.cell? ⟨n + 1, j, none⟩ = some (.int .u8 ((B j : Nat) : Int)))) (fun y _ => 16 - numOf y)
  case atStart => exact ⟨0, rfl, Nat.zero_le _, ⟨HS.out.1, by simp [hn], HS.out.2⟩⟩
  case round =>
    clear HS
    obtain ⟨k, rfl, hk, HR⟩ := hrel
    by_cases hlt : k < 16
    · have hlt' : (k : Int) < 16 := by omega
      have hlt0 : (0 : Int) ≤ (k : Int) := by omega
      have hlt3 : (k : Int) < 32 := by omega
      have pk := HR.out.2.2 k hlt
      have HV : Hid (Cs .u8 32 n w (wr.setCell ⟨n, k, none⟩ (.int .u8 ((B k : Nat) : Int))) n (tabs B (k + 1)) ∧ n + 1 < (wr.setCell ⟨n, k, none⟩ (.int .u8 ((B k : Nat) : Int))).heap.size ∧ ∀ j, j < 16 → (wr.setCell ⟨n, k, none⟩ (.int .u8 ((B k : Nat) : Int))).cell? ⟨n + 1, j, none⟩ = some (.int .u8 ((B j : Nat) : Int))) := by
        have h := HR.out.1.set (show k < 32 by omega) (B k)
        rw [tabs_succ] at h
        refine ⟨h, by simpa using HR.out.2.1, fun j hj => ?_⟩
        rw [World.cell?_setCell_other _ _ _ _ (fun e => by cases e)]
        exact HR.out.2.2 j hj
      have r0 := HR.out.1.c k (by omega)
      have r1 := (HR.out.1.t k (by omega)).2
      simp only [Nat.zero_add] at r1
      obtain ⟨b, hb⟩ : ∃ b, B k = b := ⟨_, rfl⟩
      rw [hb] at pk HV
      clear hb HR HOB CO HEL HRG
      go_wp2
      go_roundw
      case rel => exact ⟨k + 1, by go_num, hlt, HV⟩
      case measure => simp [numOf]; omega
    · have hk4 : k = 16 := by omega
      subst hk4
      have hlt' : ¬ ((16 : Nat) : Int) < 16 := by omega
      have r0 := HR.out.1.c 31 (by decide)
      have r1 := (HR.out.1.t 31 (by decide)).2
      simp only [Nat.zero_add] at r1
      have HC := (show Hid (Cs .u8 32 n w (wr.setCell ⟨n, 31, none⟩ (.int .u8 16)) n (upd (tabs B 16) 31 16)) from HR.out.1.set (by decide) 16)
      have c1 := CO.out _ (HRG.out HC.out HOB.out) HC.out.l.2
      clear HR HOB CO HEL HRG
      go_wp2_with (go_at_call 52; refine c1.mono ?_; rintro e w1 ⟨v1, rfl, hn1, hb1⟩; have HN1 := (show Hid (Num w1 v1 ell) from hn1); have HB1 := (show Hid (Below n w w1) from HC.out.b.trans (hb1.mono (Nat.le_of_lt HC.out.l.2))); clear hn1 hb1 c1)
      go_ret
      exact ⟨_, rfl, HN1.out, by rw [hn]; exact HB1.out⟩
end Dt
namespace Fd
open Rg
set_option maxHeartbeats 1000000 in
set_option maxRecDepth 4000 in
theorem small7_any (k : Nat) (w : World) (hk : k < 256) : Calls Try.prog 46 #[.int .u8 (k : Int)] w fun e w' => e = .returned (bv k) ∧ Below w.heap.size w w' := by
  have hz := zero22
  have e1 : (w.alloc (.cells z22 22)).heap.size = w.heap.size + 1 := size_alloc _ _
  have hR : ((w.alloc (.cells z22 22)).alloc (.cells (z22.setIfInBounds 0 (.int .u8 (k : Int))) 22)).rangeAt (w.heap.size + 1) 0 (bvc k) := by
    rw [z22_set hk]
    exact range_new1 _ _ _ _
  have hT : ((w.alloc (.cells z22 22)).alloc (.cells (z22.setIfInBounds 0 (.int .u8 (k : Int))) 22)).there w.heap.size 0 32 := World.there_alloc (there_new w z22 22 (m := 32) fun j hj => by simp [z22, hj]) _
  have hB : Below w.heap.size w ((w.alloc (.cells z22 22)).alloc (.cells (z22.setIfInBounds 0 (.int .u8 (k : Int))) 22)) := ((Below.refl _ _).alloc (Nat.le_refl _) _).alloc (by simp) _
  have hc : ((w.alloc (.cells z22 22)).alloc (.cells z22 22)).cell? ⟨w.heap.size + 1, 0, none⟩ = some (.int .u8 0) := cell_new1 w _ z22 22 (i := 0) (by simp [z22])
  have hf := ((there_new (w.alloc (.cells z22 22)) z22 22 (m := 32) fun j hj => by simp [z22, hj]) 0 (by decide)).2
  rw [Nat.zero_add, e1] at hf
  obtain ⟨Z, hZ⟩ : ∃ Z, z22 = Z := ⟨_, rfl⟩
  rw [hZ] at hz hR hT hB hc hf
  obtain ⟨n, hn⟩ : ∃ n, w.heap.size = n := ⟨_, rfl⟩
  rw [hn] at hR hT hB hc hf
  have HB := (show Hid (Below n w _) from hB)
  have HT := (show Hid (World.there _ n 0 32) from hT)
  have HR := (show Hid (World.rangeAt _ (n + 1) 0 (bvc k)) from hR)
  have HN : Hid (w.heap.size = n) := hn
  clear hR hT hB hZ e1
  unfold bv
  have HI : Hid ((Try.prog.info? 22).map (·.size) = some (bvc k).length) := info22l k
  have HI2 : Hid ((Try.prog.info? 22).map (·.size) = some (bvc k).toArray.size) := info22s k
  have H32 : Hid ((bvc k).toArray.all (·.oneCell') = true) := one32 k
  have HLN : Hid ((bvc k).toArray.size = 32) := by show _ = _; rw [List.size_toArray, bvc_len]
  obtain ⟨R, hRR⟩ : ∃ R, bvc k = R := ⟨_, rfl⟩
  rw [hRR] at HR HI HI2 H32 HLN ⊢
  rw [← HLN.out] at HT
  clear hRR
  go_enter Try.func46, Try.ntmps46
  go_wp2_with (first
    | (refine wpList_load_mid rfl 22 (.tmp 3) rfl (n + 1) 0 rfl R _ HR.out Try.underlying22 rfl HI.out ?_)
    | (refine wpList_store_mid rfl 22 (.tmp 2) (.tmp 6) rfl n 0 R.toArray rfl rfl HT.out HI2.out H32.out ?_; simp only))
  exact bodyPost_ret (results_cell Try.results46 rfl (run_loadVar_mid (P := Try.prog) _ n 0 22 R _ (World.rangeAt_setCells_same _ _ _ _ (by rw [← List.size_toArray]; exact HT.out)) Try.underlying22 rfl HI.out)) rfl ⟨rfl, by first | exact below_setCells HB.out (Nat.le_refl _) | (rw [HN.out]; exact below_setCells HB.out (Nat.le_refl _))⟩
end Fd
end Go.Proofs.Ytgdekigdbbldoaa

namespace Go.Proofs.Ytgdekigdbbldoaa
open Go.RowKit
namespace Fd
open Rg

theorem items_d (d x y : Nat) (W : World) : ∀ (is : List Nat), (∀ i ∈ is, i < 32) → (Op.eqItems (d + 1) 5 1 (bvc x).toArray (bvc y).toArray is).run Try.prog W = .ok (is.all fun i => decide (by_ x i = by_ y i)) W
  | [], _ => by simp [Op.eqItems]
  | i :: is, h => by
    have hi := h i (by simp)
    have p1 : (part 5 (bvc x).toArray (i * 1)).run Try.prog W = .ok (.int .u8 ((by_ x i : Nat) : Int)) W := run_part_plain W plain5 (by rw [Nat.mul_one, List.getElem?_toArray]; exact bvc_at x i hi)
    have p2 : (part 5 (bvc y).toArray (i * 1)).run Try.prog W = .ok (.int .u8 ((by_ y i : Nat) : Int)) W := run_part_plain W plain5 (by rw [Nat.mul_one, List.getElem?_toArray]; exact bvc_at y i hi)
    have p3 := run_equalIn_int (P := Try.prog) W d 5 .u8 .u8 ((by_ x i : Nat) : Int) ((by_ y i : Nat) : Int) Try.underlying5
    have ih := items_d d x y W is (fun j hj => h j (by simp [hj]))
    simp only [Op.eqItems, Sem.run_bind, p1, p2, Result.andThen_ok]
    rw [p3]
    simp only [Result.andThen_ok]
    by_cases e : by_ x i = by_ y i
    · simp [e, ih]
    · have e2 : ¬ ((by_ x i : Nat) : Int) = ((by_ y i : Nat) : Int) := by omega
      simp [e, e2]
theorem eq22_d (d x y : Nat) (W : World) (hx : x < 115792089237316195423570985008687907853269984665640564039457584007913129639936) (hy : y < 115792089237316195423570985008687907853269984665640564039457584007913129639936) :
    (Op.equalIn (d + 2) 22 (.agg (bvc x).toArray) (.agg (bvc y).toArray)).run Try.prog W = .ok (decide (x = y)) W := by
  obtain ⟨i0, hi, _⟩ := info_parts info5'
  rw [show d + 2 = d + 1 + 1 from rfl, run_equalIn_array W (d + 1) (bvc x).toArray (bvc y).toArray Try.underlying22 hi, cells5, items_d d x y W _ (fun i hi => List.mem_range.1 hi), all_bytes hx hy]
theorem stood43 : Try.prog.stoodInHeld 43 = false := by kernel_rfl
theorem fields43 : (Try.prog.fieldsOf 43).toList.map (fun f => (f.name, f.type, f.offset)) = [("X", 22, 0), ("Y", 22, 32)] := by kernel_rfl
theorem under43 : Try.prog.underlying 43 = some (.struct (Try.prog.fieldsOf 43)) := by kernel_rfl
theorem part_x (X Y : List Value) (W : World) (hX : X.length = 32) : (part 22 (X ++ Y).toArray 0).run Try.prog W = .ok (.agg X.toArray) W := by
  have hq : (Try.prog.info? 22).map (·.size) = some 32 := info22
  obtain ⟨t, ht⟩ : ∃ t, Try.prog.info? 22 = some t := by
    cases h : Try.prog.info? 22 with
    | none => simp [h] at hq
    | some t => exact ⟨t, rfl⟩
  have hs : t.size = 32 := by simpa [ht] using hq
  simp [part, sizeOf, typeInfo, ht, hs, run_underlying Try.underlying22, isAgg, hX]
theorem part_y (X Y : List Value) (W : World) (hX : X.length = 32) (hY : Y.length = 32) : (part 22 (X ++ Y).toArray 32).run Try.prog W = .ok (.agg Y.toArray) W := by
  have hq : (Try.prog.info? 22).map (·.size) = some 32 := info22
  obtain ⟨t, ht⟩ : ∃ t, Try.prog.info? 22 = some t := by
    cases h : Try.prog.info? 22 with
    | none => simp [h] at hq
    | some t => exact ⟨t, rfl⟩
  have hs : t.size = 32 := by simpa [ht] using hq
  simp [part, sizeOf, typeInfo, ht, hs, run_underlying Try.underlying22, isAgg, hX]
  rw [List.take_of_length_le (by omega)]
theorem eq22_k (k d : Nat) (hk : k = d + 2) (x y : Nat) (W : World) (hx : x < 115792089237316195423570985008687907853269984665640564039457584007913129639936) (hy : y < 115792089237316195423570985008687907853269984665640564039457584007913129639936) :
    (Op.equalIn k 22 (.agg (bvc x).toArray) (.agg (bvc y).toArray)).run Try.prog W = .ok (decide (x = y)) W := by
  subst hk
  exact eq22_d d x y W hx hy
theorem flds43 {fs : List Field} (hf : fs.map (fun f => (f.name, f.type, f.offset)) = [("X", 22, 0), ("Y", 22, 32)]) (k : Nat) (xs ys : Array Value) (W : World) (a b c d : Value) (r s : Bool)
    (h1 : (part 22 xs 0).run Try.prog W = .ok a W) (h2 : (part 22 ys 0).run Try.prog W = .ok b W) (h3 : (part 22 xs 32).run Try.prog W = .ok c W) (h4 : (part 22 ys 32).run Try.prog W = .ok d W)
    (h5 : (Op.equalIn k 22 a b).run Try.prog W = .ok r W) (h6 : (Op.equalIn k 22 c d).run Try.prog W = .ok s W) : (Op.eqFields k xs ys fs).run Try.prog W = .ok (r && s) W := by
  obtain ⟨f1, f2, hfs⟩ : ∃ f1 f2, fs = [f1, f2] := by
    match fs, hf with
    | [], hf => simp at hf
    | [_], hf => simp at hf
    | [a, b], _ => exact ⟨a, b, rfl⟩
    | _ :: _ :: _ :: _, hf => simp at hf
  rw [hfs] at hf ⊢
  simp only [List.map_cons, List.map_nil, List.cons.injEq, Prod.mk.injEq, and_true] at hf
  obtain ⟨⟨n1, t1, o1⟩, n2, t2, o2⟩ := hf
  rw [Op.eqFields, if_pos (by rw [n1]; decide), t1, o1]
  simp only [Sem.run_bind, h1, h2, Result.andThen_ok, h5]
  cases r
  · simp
  · simp only [Bool.not_true, Bool.false_eq_true, if_false]
    rw [Op.eqFields, if_pos (by rw [n2]; decide), t2, o2]
    simp only [Sem.run_bind, h3, h4, Result.andThen_ok, h6]
    cases s
    · simp
    · simp [Op.eqFields]
set_option maxHeartbeats 400000 in
/-- '==' of two points. -/
theorem eq43 (x y x' y' : Nat) (W : World) (hx : x < 115792089237316195423570985008687907853269984665640564039457584007913129639936) (hy : y < 115792089237316195423570985008687907853269984665640564039457584007913129639936) (hx' : x' < 115792089237316195423570985008687907853269984665640564039457584007913129639936) (hy' : y' < 115792089237316195423570985008687907853269984665640564039457584007913129639936) :
    (Op.equalIn 10000 43 (.agg (bvc x ++ bvc y).toArray) (.agg (bvc x' ++ bvc y').toArray)).run Try.prog W = .ok (decide (x = x' ∧ y = y')) W := by
  rw [show (10000 : Nat) = 9999 + 1 from rfl, run_equalIn_struct W 9999 43 _ _ under43 stood43]
  have h := flds43 fields43 9999 (bvc x ++ bvc y).toArray (bvc x' ++ bvc y').toArray W _ _ _ _ _ _ (part_x (bvc x) (bvc y) W (bvc_len x)) (part_x (bvc x') (bvc y') W (bvc_len x')) (part_y (bvc x) (bvc y) W (bvc_len x) (bvc_len y)) (part_y (bvc x') (bvc y') W (bvc_len x') (bvc_len y')) (eq22_k 9999 9997 rfl x x' W hx hx') (eq22_k 9999 9997 rfl y y' W hy hy')
  rw [h, ← Bool.decide_and]
end Fd
end Go.Proofs.Ytgdekigdbbldoaa
