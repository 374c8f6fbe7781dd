/- The walks of the statements of layer 6: each answers true. -/
import Derived.Test.YtgdekigdbbldoaaFx
namespace Go.Proofs.Ytgdekigdbbldoaa
open Go.RowKit
namespace Fd
open Rg Pratt

theorem bo1 (w : World) (A : List Value) : Bo (w.alloc (.cells A.toArray 22)) w.heap.size A := ⟨range_new _ _ _, by rw [size_alloc]; omega⟩
theorem bo2 (w : World) (A B : List Value) : Bo ((w.alloc (.cells A.toArray 22)).alloc (.cells B.toArray 22)) w.heap.size A ∧ Bo ((w.alloc (.cells A.toArray 22)).alloc (.cells B.toArray 22)) (w.heap.size + 1) B :=
  ⟨⟨World.rangeAt_alloc (range_new _ _ _) _, by rw [size_alloc, size_alloc]; omega⟩, ⟨range_new1 _ _ _ _, by rw [size_alloc, size_alloc]; omega⟩⟩
theorem bo3 (w : World) (A B C : List Value) : Bo (((w.alloc (.cells A.toArray 22)).alloc (.cells B.toArray 22)).alloc (.cells C.toArray 22)) w.heap.size A ∧ Bo (((w.alloc (.cells A.toArray 22)).alloc (.cells B.toArray 22)).alloc (.cells C.toArray 22)) (w.heap.size + 1) B ∧ Bo (((w.alloc (.cells A.toArray 22)).alloc (.cells B.toArray 22)).alloc (.cells C.toArray 22)) (w.heap.size + 2) C := by
  have h := bo2 w A B
  have hb : Below ((w.alloc (.cells A.toArray 22)).alloc (.cells B.toArray 22)).heap.size ((w.alloc (.cells A.toArray 22)).alloc (.cells B.toArray 22)) (((w.alloc (.cells A.toArray 22)).alloc (.cells B.toArray 22)).alloc (.cells C.toArray 22)) := (Below.refl _ _).alloc (Nat.le_refl _) _
  refine ⟨h.1.below hb, h.2.below hb, ?_⟩
  have h3 := bo1 ((w.alloc (.cells A.toArray 22)).alloc (.cells B.toArray 22)) C
  rwa [size_alloc, size_alloc] at h3
theorem load_want {P : Program} {ops : Array Oper} {rest : List Oper} {op : Oper} {a : Act} {w : World} {Q : Exit → Act → World → Prop} (hw : Region.wanted op (yielded ops a.tmps) = true) (ty : TypeId) (x : Operand) (ho : op.op = .load ty x)
    (b o : Nat) (hx : a.eval x = .pointer (some ⟨b, o, none⟩)) (cs : List Value) (d : TypeDesc) (hc : w.rangeAt b o cs) (hu : P.underlying ty = some d) (hd : d.isRow = true) (hi : (P.info? ty).map (·.size) = some cs.length)
    (h : wpList P ops Q rest (a.put op.dst (.agg cs.toArray)) w) : wpList P ops Q (op :: rest) a w := BigFrame.wpList_want hw fun _ hK => wp_load_mid ty x ho b o hx cs d hc hu hd hi (hK _ _ h)
theorem plt : p < 115792089237316195423570985008687907853269984665640564039457584007913129639936 := by decide
theorem evn_lt (r : Nat) (h : r < p) : evn r < p := by
  unfold evn
  split
  · exact Nat.mod_lt _ (by decide)
  · exact h

set_option maxHeartbeats 8000000 in
set_option maxRecDepth 8000 in
theorem sums_law (a b : Nat) (ha : a < 115792089237316195423570985008687907853269984665640564039457584007913129639936) (hb : b < 115792089237316195423570985008687907853269984665640564039457584007913129639936) (w : World) :
    Calls Try.prog 3 #[bv a, bv b] w fun e w' => e = .returned (.bool true) ∧ Below w.heap.size w w' := by
  have cS := fun W => shown_any W
  obtain ⟨x, hap⟩ : ∃ x, a % p = x := ⟨_, rfl⟩
  obtain ⟨y, hbp⟩ : ∃ y, b % p = y := ⟨_, rfl⟩
  have hxl : x < p := by rw [← hap]; exact Nat.mod_lt _ (by decide)
  have hyl : y < p := by rw [← hbp]; exact Nat.mod_lt _ (by decide)
  have hsl : (x + y) % p < p := Nat.mod_lt _ (by decide)
  have hdl : (x + p - y) % p < p := Nat.mod_lt _ (by decide)
  have hml : x * y % p < p := Nat.mod_lt _ (by decide)
  have cA : ∀ W : World, Calls Try.prog 15 #[bv a, bv b] W fun e w' => e = .returned (bv ((x + y) % p)) ∧ Below W.heap.size W w' := fun W => by have h := add_any a b W ha hb; rwa [hap, hbp] at h
  have cD : ∀ W : World, Calls Try.prog 18 #[bv a, bv b] W fun e w' => e = .returned (bv ((x + p - y) % p)) ∧ Below W.heap.size W w' := fun W => by have h := sub_any a b W ha hb; rwa [hap, hbp] at h
  have cM : ∀ W : World, Calls Try.prog 20 #[bv a, bv b] W fun e w' => e = .returned (bv (x * y % p)) ∧ Below W.heap.size W w' := fun W => by have h := mul_any a b W ha hb; rwa [Nat.mul_mod, hap, hbp] at h
  have cR : ∀ W : World, Calls Try.prog 22 #[bv a] W fun e w' => e = .returned (bv x) ∧ Below W.heap.size W w' := fun W => by have h := reduce_any a W ha; rwa [hap] at h
  have HIA : Hid (∀ W : World, Calls Try.prog 14 #[.agg (bvc a).toArray] W fun e w' => ∃ v, e = .returned v ∧ Dt.Num w' v x ∧ Below W.heap.size W w') := fun W => by have h := Dt.in_any a W (by rw [← Dt.two256]; exact ha); rwa [hap] at h
  have HIB : Hid (∀ W : World, Calls Try.prog 14 #[.agg (bvc b).toArray] W fun e w' => ∃ v, e = .returned v ∧ Dt.Num w' v y ∧ Below W.heap.size W w') := fun W => by have h := Dt.in_any b W (by rw [← Dt.two256]; exact hb); rwa [hbp] at h
  obtain ⟨s, hs⟩ : ∃ s, (x + y) % p = s := ⟨_, rfl⟩
  obtain ⟨d, hd⟩ : ∃ s, (x + p - y) % p = s := ⟨_, rfl⟩
  obtain ⟨m, hm⟩ : ∃ s, x * y % p = s := ⟨_, rfl⟩
  rw [hs] at cA hsl
  rw [hd] at cD hdl
  rw [hm] at cM hml
  have HAN : Hid (∀ (W : World) (u v : Value), Dt.Num W u x → Dt.Num W v y → Calls Try.prog 17 #[u, v] W fun e w' => ∃ v, e = .returned v ∧ Dt.Num w' v s ∧ Below W.heap.size W w') := fun W u v h1 h2 => by have h := Dt.add_num h1 h2 hxl hyl; rwa [hs] at h
  have HDN : Hid (∀ (W : World) (u v : Value), Dt.Num W u x → Dt.Num W v y → Calls Try.prog 19 #[u, v] W fun e w' => ∃ v, e = .returned v ∧ Dt.Num w' v d ∧ Below W.heap.size W w') := fun W u v h1 h2 => by have h := Dt.sub_num h1 h2 hxl hyl; rwa [hd] at h
  have HMN : Hid (∀ (W : World) (u v : Value), Dt.Num W u x → Dt.Num W v y → Calls Try.prog 21 #[u, v] W fun e w' => ∃ v, e = .returned v ∧ Dt.Num w' v m ∧ Below W.heap.size W w') := fun W u v h1 h2 => by have h := Dt.mul_num h1 h2 hxl hyl; rwa [hm] at h
  have HBS : Hid (∀ (W : World) (v : Value), Dt.Num W v s → Calls Try.prog 16 #[v] W fun e w' => e = .returned (.agg (bvc s).toArray) ∧ Below W.heap.size W w') := fun W v h => Dt.bytes_num h
  have HBD : Hid (∀ (W : World) (v : Value), Dt.Num W v d → Calls Try.prog 16 #[v] W fun e w' => e = .returned (.agg (bvc d).toArray) ∧ Below W.heap.size W w') := fun W v h => Dt.bytes_num h
  have HBM : Hid (∀ (W : World) (v : Value), Dt.Num W v m → Calls Try.prog 16 #[v] W fun e w' => e = .returned (.agg (bvc m).toArray) ∧ Below W.heap.size W w') := fun W v h => Dt.bytes_num h
  have HBX : Hid (∀ (W : World) (v : Value), Dt.Num W v x → Calls Try.prog 16 #[v] W fun e w' => e = .returned (.agg (bvc x).toArray) ∧ Below W.heap.size W w') := fun W v h => Dt.bytes_num h
  have qs : ∀ W : World, (Op.equalIn 10000 22 (.agg (bvc s).toArray) (.agg (bvc s).toArray)).run Try.prog W = .ok true W := fun W => by have h := eq22 s s W (Nat.lt_trans hsl plt) (Nat.lt_trans hsl plt); rwa [decide_eq_true rfl] at h
  have qd : ∀ W : World, (Op.equalIn 10000 22 (.agg (bvc d).toArray) (.agg (bvc d).toArray)).run Try.prog W = .ok true W := fun W => by have h := eq22 d d W (Nat.lt_trans hdl plt) (Nat.lt_trans hdl plt); rwa [decide_eq_true rfl] at h
  have qm : ∀ W : World, (Op.equalIn 10000 22 (.agg (bvc m).toArray) (.agg (bvc m).toArray)).run Try.prog W = .ok true W := fun W => by have h := eq22 m m W (Nat.lt_trans hml plt) (Nat.lt_trans hml plt); rwa [decide_eq_true rfl] at h
  have qx : ∀ W : World, (Op.equalIn 10000 22 (.agg (bvc x).toArray) (.agg (bvc x).toArray)).run Try.prog W = .ok true W := fun W => by have h := eq22 x x W (Nat.lt_trans hxl plt) (Nat.lt_trans hxl plt); rwa [decide_eq_true rfl] at h
  unfold bv at cA cD cM cR ⊢
  have LA : Hid (L32 (bvc a)) := l32 a
  have LB : Hid (L32 (bvc b)) := l32 b
  have LS : Hid (L32 (bvc s)) := l32 s
  have LD : Hid (L32 (bvc d)) := l32 d
  have LM : Hid (L32 (bvc m)) := l32 m
  have LX : Hid (L32 (bvc x)) := l32 x
  obtain ⟨A, hA⟩ : ∃ X, bvc a = X := ⟨_, rfl⟩
  obtain ⟨B, hB⟩ : ∃ X, bvc b = X := ⟨_, rfl⟩
  obtain ⟨S, hS⟩ : ∃ X, bvc s = X := ⟨_, rfl⟩
  obtain ⟨D, hD⟩ : ∃ X, bvc d = X := ⟨_, rfl⟩
  obtain ⟨M, hM⟩ : ∃ X, bvc m = X := ⟨_, rfl⟩
  obtain ⟨X, hX⟩ : ∃ X, bvc x = X := ⟨_, rfl⟩
  rw [hA] at LA cA cD cM cR HIA ⊢
  rw [hB] at LB cA cD cM HIB ⊢
  rw [hS] at LS cA HBS qs
  rw [hD] at LD cD HBD qd
  rw [hM] at LM cM HBM qm
  rw [hX] at LX cR HBX qx
  clear hA hB hS hD hM hX
  clear hap hbp hxl hyl hsl hdl hml hs hd hm ha hb
  obtain ⟨n, hn⟩ : ∃ n, w.heap.size = n := ⟨_, rfl⟩
  have BA : Hid (Bo ((w.alloc (.cells A.toArray 22)).alloc (.cells B.toArray 22)) n A) := by show Bo _ _ _; rw [← hn]; exact (bo2 _ _ _).1
  have BB : Hid (Bo ((w.alloc (.cells A.toArray 22)).alloc (.cells B.toArray 22)) (n + 1) B) := by show Bo _ _ _; rw [← hn]; exact (bo2 _ _ _).2
  have HBW : Hid (Below w.heap.size w ((w.alloc (.cells A.toArray 22)).alloc (.cells B.toArray 22))) := (((Below.refl _ _).alloc (by simp) _).alloc (by simp) _)
  have BA_0 := BA
  have BB_0 := BB
  have HB_0 := (show Hid (Below w.heap.size w ((w.alloc (.cells A.toArray 22)).alloc (.cells B.toArray 22))) from HBW.out)
  have TK_0 := (show Hid True from trivial)
  go_enter Try.func3, Try.ntmps3
  go_wp2_with (first
    | (refine wpList_load_mid rfl 22 (.tmp 2) rfl n 0 rfl A _ BA_0.out.1 Try.underlying22 rfl LA.out.i ?_)
    | (refine load_want (by kernel_rfl) 22 (.tmp 2) rfl n 0 rfl A _ BA_0.out.1 Try.underlying22 rfl LA.out.i ?_)
    | (refine wpList_load_mid rfl 22 (.tmp 3) rfl (n + 1) 0 rfl B _ BB_0.out.1 Try.underlying22 rfl LB.out.i ?_)
    | (refine load_want (by kernel_rfl) 22 (.tmp 3) rfl (n + 1) 0 rfl B _ BB_0.out.1 Try.underlying22 rfl LB.out.i ?_)
    | (refine wpList_load_mid rfl 22 (.tmp 2) rfl n 0 rfl A _ BA_1.out.1 Try.underlying22 rfl LA.out.i ?_)
    | (refine load_want (by kernel_rfl) 22 (.tmp 2) rfl n 0 rfl A _ BA_1.out.1 Try.underlying22 rfl LA.out.i ?_)
    | (refine wpList_load_mid rfl 22 (.tmp 3) rfl (n + 1) 0 rfl B _ BB_1.out.1 Try.underlying22 rfl LB.out.i ?_)
    | (refine load_want (by kernel_rfl) 22 (.tmp 3) rfl (n + 1) 0 rfl B _ BB_1.out.1 Try.underlying22 rfl LB.out.i ?_)
    | (refine wpList_load_mid rfl 22 (.tmp 2) rfl n 0 rfl A _ BA_2.out.1 Try.underlying22 rfl LA.out.i ?_)
    | (refine load_want (by kernel_rfl) 22 (.tmp 2) rfl n 0 rfl A _ BA_2.out.1 Try.underlying22 rfl LA.out.i ?_)
    | (refine wpList_load_mid rfl 22 (.tmp 3) rfl (n + 1) 0 rfl B _ BB_2.out.1 Try.underlying22 rfl LB.out.i ?_)
    | (refine load_want (by kernel_rfl) 22 (.tmp 3) rfl (n + 1) 0 rfl B _ BB_2.out.1 Try.underlying22 rfl LB.out.i ?_)
    | (refine wpList_load_mid rfl 22 (.tmp 2) rfl n 0 rfl A _ BA_3.out.1 Try.underlying22 rfl LA.out.i ?_)
    | (refine load_want (by kernel_rfl) 22 (.tmp 2) rfl n 0 rfl A _ BA_3.out.1 Try.underlying22 rfl LA.out.i ?_)
    | (refine wpList_load_mid rfl 22 (.tmp 3) rfl (n + 1) 0 rfl B _ BB_3.out.1 Try.underlying22 rfl LB.out.i ?_)
    | (refine load_want (by kernel_rfl) 22 (.tmp 3) rfl (n + 1) 0 rfl B _ BB_3.out.1 Try.underlying22 rfl LB.out.i ?_)
    | (refine wpList_load_mid rfl 22 (.tmp 2) rfl n 0 rfl A _ BA_4.out.1 Try.underlying22 rfl LA.out.i ?_)
    | (refine load_want (by kernel_rfl) 22 (.tmp 2) rfl n 0 rfl A _ BA_4.out.1 Try.underlying22 rfl LA.out.i ?_)
    | (refine wpList_load_mid rfl 22 (.tmp 3) rfl (n + 1) 0 rfl B _ BB_4.out.1 Try.underlying22 rfl LB.out.i ?_)
    | (refine load_want (by kernel_rfl) 22 (.tmp 3) rfl (n + 1) 0 rfl B _ BB_4.out.1 Try.underlying22 rfl LB.out.i ?_)
    | (refine wpList_load_mid rfl 22 (.tmp 2) rfl n 0 rfl A _ BA_5.out.1 Try.underlying22 rfl LA.out.i ?_)
    | (refine load_want (by kernel_rfl) 22 (.tmp 2) rfl n 0 rfl A _ BA_5.out.1 Try.underlying22 rfl LA.out.i ?_)
    | (refine wpList_load_mid rfl 22 (.tmp 3) rfl (n + 1) 0 rfl B _ BB_5.out.1 Try.underlying22 rfl LB.out.i ?_)
    | (refine load_want (by kernel_rfl) 22 (.tmp 3) rfl (n + 1) 0 rfl B _ BB_5.out.1 Try.underlying22 rfl LB.out.i ?_)
    | (refine wpList_load_mid rfl 22 (.tmp 2) rfl n 0 rfl A _ BA_6.out.1 Try.underlying22 rfl LA.out.i ?_)
    | (refine load_want (by kernel_rfl) 22 (.tmp 2) rfl n 0 rfl A _ BA_6.out.1 Try.underlying22 rfl LA.out.i ?_)
    | (refine wpList_load_mid rfl 22 (.tmp 3) rfl (n + 1) 0 rfl B _ BB_6.out.1 Try.underlying22 rfl LB.out.i ?_)
    | (refine load_want (by kernel_rfl) 22 (.tmp 3) rfl (n + 1) 0 rfl B _ BB_6.out.1 Try.underlying22 rfl LB.out.i ?_)
    | (refine wpList_load_mid rfl 22 (.tmp 2) rfl n 0 rfl A _ BA_7.out.1 Try.underlying22 rfl LA.out.i ?_)
    | (refine load_want (by kernel_rfl) 22 (.tmp 2) rfl n 0 rfl A _ BA_7.out.1 Try.underlying22 rfl LA.out.i ?_)
    | (refine wpList_load_mid rfl 22 (.tmp 3) rfl (n + 1) 0 rfl B _ BB_7.out.1 Try.underlying22 rfl LB.out.i ?_)
    | (refine load_want (by kernel_rfl) 22 (.tmp 3) rfl (n + 1) 0 rfl B _ BB_7.out.1 Try.underlying22 rfl LB.out.i ?_)
    | (refine wpList_load_mid rfl 22 (.tmp 2) rfl n 0 rfl A _ BA_8.out.1 Try.underlying22 rfl LA.out.i ?_)
    | (refine load_want (by kernel_rfl) 22 (.tmp 2) rfl n 0 rfl A _ BA_8.out.1 Try.underlying22 rfl LA.out.i ?_)
    | (refine wpList_load_mid rfl 22 (.tmp 3) rfl (n + 1) 0 rfl B _ BB_8.out.1 Try.underlying22 rfl LB.out.i ?_)
    | (refine load_want (by kernel_rfl) 22 (.tmp 3) rfl (n + 1) 0 rfl B _ BB_8.out.1 Try.underlying22 rfl LB.out.i ?_)
    | (refine wpList_load_mid rfl 22 (.tmp 2) rfl n 0 rfl A _ BA_9.out.1 Try.underlying22 rfl LA.out.i ?_)
    | (refine load_want (by kernel_rfl) 22 (.tmp 2) rfl n 0 rfl A _ BA_9.out.1 Try.underlying22 rfl LA.out.i ?_)
    | (refine wpList_load_mid rfl 22 (.tmp 3) rfl (n + 1) 0 rfl B _ BB_9.out.1 Try.underlying22 rfl LB.out.i ?_)
    | (refine load_want (by kernel_rfl) 22 (.tmp 3) rfl (n + 1) 0 rfl B _ BB_9.out.1 Try.underlying22 rfl LB.out.i ?_)
    | (refine wpList_load_mid rfl 22 (.tmp 2) rfl n 0 rfl A _ BA_10.out.1 Try.underlying22 rfl LA.out.i ?_)
    | (refine load_want (by kernel_rfl) 22 (.tmp 2) rfl n 0 rfl A _ BA_10.out.1 Try.underlying22 rfl LA.out.i ?_)
    | (refine wpList_load_mid rfl 22 (.tmp 3) rfl (n + 1) 0 rfl B _ BB_10.out.1 Try.underlying22 rfl LB.out.i ?_)
    | (refine load_want (by kernel_rfl) 22 (.tmp 3) rfl (n + 1) 0 rfl B _ BB_10.out.1 Try.underlying22 rfl LB.out.i ?_)
    | (refine wpList_load_mid rfl 22 (.tmp 2) rfl n 0 rfl A _ BA_11.out.1 Try.underlying22 rfl LA.out.i ?_)
    | (refine load_want (by kernel_rfl) 22 (.tmp 2) rfl n 0 rfl A _ BA_11.out.1 Try.underlying22 rfl LA.out.i ?_)
    | (refine wpList_load_mid rfl 22 (.tmp 3) rfl (n + 1) 0 rfl B _ BB_11.out.1 Try.underlying22 rfl LB.out.i ?_)
    | (refine load_want (by kernel_rfl) 22 (.tmp 3) rfl (n + 1) 0 rfl B _ BB_11.out.1 Try.underlying22 rfl LB.out.i ?_)
    | (refine wpList_load_mid rfl 22 (.tmp 2) rfl n 0 rfl A _ BA_12.out.1 Try.underlying22 rfl LA.out.i ?_)
    | (refine load_want (by kernel_rfl) 22 (.tmp 2) rfl n 0 rfl A _ BA_12.out.1 Try.underlying22 rfl LA.out.i ?_)
    | (refine wpList_load_mid rfl 22 (.tmp 3) rfl (n + 1) 0 rfl B _ BB_12.out.1 Try.underlying22 rfl LB.out.i ?_)
    | (refine load_want (by kernel_rfl) 22 (.tmp 3) rfl (n + 1) 0 rfl B _ BB_12.out.1 Try.underlying22 rfl LB.out.i ?_)
    | (refine wpList_load_mid rfl 22 (.tmp 2) rfl n 0 rfl A _ BA_13.out.1 Try.underlying22 rfl LA.out.i ?_)
    | (refine load_want (by kernel_rfl) 22 (.tmp 2) rfl n 0 rfl A _ BA_13.out.1 Try.underlying22 rfl LA.out.i ?_)
    | (refine wpList_load_mid rfl 22 (.tmp 3) rfl (n + 1) 0 rfl B _ BB_13.out.1 Try.underlying22 rfl LB.out.i ?_)
    | (refine load_want (by kernel_rfl) 22 (.tmp 3) rfl (n + 1) 0 rfl B _ BB_13.out.1 Try.underlying22 rfl LB.out.i ?_)
    | (refine wpList_load_mid rfl 22 (.tmp 2) rfl n 0 rfl A _ BA_14.out.1 Try.underlying22 rfl LA.out.i ?_)
    | (refine load_want (by kernel_rfl) 22 (.tmp 2) rfl n 0 rfl A _ BA_14.out.1 Try.underlying22 rfl LA.out.i ?_)
    | (refine wpList_load_mid rfl 22 (.tmp 3) rfl (n + 1) 0 rfl B _ BB_14.out.1 Try.underlying22 rfl LB.out.i ?_)
    | (refine load_want (by kernel_rfl) 22 (.tmp 3) rfl (n + 1) 0 rfl B _ BB_14.out.1 Try.underlying22 rfl LB.out.i ?_)
    | (have hq := TK_0; go_at_call 13; refine (cS _).mono ?_; rintro e w1 ⟨rfl, hb⟩; have HB_1 := (show Hid (Below w.heap.size w w1) from HB_0.out.trans (hb.mono HB_0.out.size)); have BA_1 := (show Hid (Bo w1 n A) from BA_0.out.below hb); have BB_1 := (show Hid (Bo w1 (n + 1) B) from BB_0.out.below hb); have TK_1 := (show Hid True from trivial); clear hq TK_0 hb HB_0 BA_0 BB_0)
    | (have hq := TK_1; go_at_call 14; refine (HIA.out _).mono ?_; rintro e w2 ⟨vx, rfl, hn, hb⟩; have HB_2 := (show Hid (Below w.heap.size w w2) from HB_1.out.trans (hb.mono HB_1.out.size)); have BA_2 := (show Hid (Bo w2 n A) from BA_1.out.below hb); have BB_2 := (show Hid (Bo w2 (n + 1) B) from BB_1.out.below hb); have NX_2 := (show Hid (Dt.Num w2 vx x) from hn); have TK_2 := (show Hid True from trivial); clear hq TK_1 hb HB_1 BA_1 BB_1 hn)
    | (have hq := TK_2; go_at_call 14; refine (HIB.out _).mono ?_; rintro e w3 ⟨vy, rfl, hn, hb⟩; have HB_3 := (show Hid (Below w.heap.size w w3) from HB_2.out.trans (hb.mono HB_2.out.size)); have BA_3 := (show Hid (Bo w3 n A) from BA_2.out.below hb); have BB_3 := (show Hid (Bo w3 (n + 1) B) from BB_2.out.below hb); have NX_3 := (show Hid (Dt.Num w3 vx x) from NX_2.out.below hb); have NY_3 := (show Hid (Dt.Num w3 vy y) from hn); have TK_3 := (show Hid True from trivial); clear hq TK_2 hb HB_2 BA_2 BB_2 NX_2 hn)
    | (have hq := TK_3; go_at_call 15; refine (cA _).mono ?_; rintro e w4 ⟨rfl, hb⟩; have HB_4 := (show Hid (Below w.heap.size w w4) from HB_3.out.trans (hb.mono HB_3.out.size)); have BA_4 := (show Hid (Bo w4 n A) from BA_3.out.below hb); have BB_4 := (show Hid (Bo w4 (n + 1) B) from BB_3.out.below hb); have NX_4 := (show Hid (Dt.Num w4 vx x) from NX_3.out.below hb); have NY_4 := (show Hid (Dt.Num w4 vy y) from NY_3.out.below hb); have TK_4 := (show Hid True from trivial); clear hq TK_3 hb HB_3 BA_3 BB_3 NX_3 NY_3)
    | (have hq := TK_4; go_at_call 17; refine (HAN.out _ _ _ (NX_4.out) (NY_4.out)).mono ?_; rintro e w5 ⟨vs, rfl, hn, hb⟩; have HB_5 := (show Hid (Below w.heap.size w w5) from HB_4.out.trans (hb.mono HB_4.out.size)); have BA_5 := (show Hid (Bo w5 n A) from BA_4.out.below hb); have BB_5 := (show Hid (Bo w5 (n + 1) B) from BB_4.out.below hb); have NX_5 := (show Hid (Dt.Num w5 vx x) from NX_4.out.below hb); have NY_5 := (show Hid (Dt.Num w5 vy y) from NY_4.out.below hb); have NS_5 := (show Hid (Dt.Num w5 vs s) from hn); have TK_5 := (show Hid True from trivial); clear hq TK_4 hb HB_4 BA_4 BB_4 NX_4 NY_4 hn)
    | (have hq := TK_5; go_at_call 16; refine (HBS.out _ _ (NS_5.out)).mono ?_; rintro e w6 ⟨rfl, hb⟩; have HB_6 := (show Hid (Below w.heap.size w w6) from HB_5.out.trans (hb.mono HB_5.out.size)); have BA_6 := (show Hid (Bo w6 n A) from BA_5.out.below hb); have BB_6 := (show Hid (Bo w6 (n + 1) B) from BB_5.out.below hb); have NX_6 := (show Hid (Dt.Num w6 vx x) from NX_5.out.below hb); have NY_6 := (show Hid (Dt.Num w6 vy y) from NY_5.out.below hb); have TK_6 := (show Hid True from trivial); clear hq TK_5 hb HB_5 BA_5 BB_5 NX_5 NY_5 NS_5)
    | (have hq := TK_6; go_at_call 18; refine (cD _).mono ?_; rintro e w7 ⟨rfl, hb⟩; have HB_7 := (show Hid (Below w.heap.size w w7) from HB_6.out.trans (hb.mono HB_6.out.size)); have BA_7 := (show Hid (Bo w7 n A) from BA_6.out.below hb); have BB_7 := (show Hid (Bo w7 (n + 1) B) from BB_6.out.below hb); have NX_7 := (show Hid (Dt.Num w7 vx x) from NX_6.out.below hb); have NY_7 := (show Hid (Dt.Num w7 vy y) from NY_6.out.below hb); have TK_7 := (show Hid True from trivial); clear hq TK_6 hb HB_6 BA_6 BB_6 NX_6 NY_6)
    | (have hq := TK_7; go_at_call 19; refine (HDN.out _ _ _ (NX_7.out) (NY_7.out)).mono ?_; rintro e w8 ⟨vd, rfl, hn, hb⟩; have HB_8 := (show Hid (Below w.heap.size w w8) from HB_7.out.trans (hb.mono HB_7.out.size)); have BA_8 := (show Hid (Bo w8 n A) from BA_7.out.below hb); have BB_8 := (show Hid (Bo w8 (n + 1) B) from BB_7.out.below hb); have NX_8 := (show Hid (Dt.Num w8 vx x) from NX_7.out.below hb); have NY_8 := (show Hid (Dt.Num w8 vy y) from NY_7.out.below hb); have ND_8 := (show Hid (Dt.Num w8 vd d) from hn); have TK_8 := (show Hid True from trivial); clear hq TK_7 hb HB_7 BA_7 BB_7 NX_7 NY_7 hn)
    | (have hq := TK_8; go_at_call 16; refine (HBD.out _ _ (ND_8.out)).mono ?_; rintro e w9 ⟨rfl, hb⟩; have HB_9 := (show Hid (Below w.heap.size w w9) from HB_8.out.trans (hb.mono HB_8.out.size)); have BA_9 := (show Hid (Bo w9 n A) from BA_8.out.below hb); have BB_9 := (show Hid (Bo w9 (n + 1) B) from BB_8.out.below hb); have NX_9 := (show Hid (Dt.Num w9 vx x) from NX_8.out.below hb); have NY_9 := (show Hid (Dt.Num w9 vy y) from NY_8.out.below hb); have TK_9 := (show Hid True from trivial); clear hq TK_8 hb HB_8 BA_8 BB_8 NX_8 NY_8 ND_8)
    | (have hq := TK_9; go_at_call 20; refine (cM _).mono ?_; rintro e w10 ⟨rfl, hb⟩; have HB_10 := (show Hid (Below w.heap.size w w10) from HB_9.out.trans (hb.mono HB_9.out.size)); have BA_10 := (show Hid (Bo w10 n A) from BA_9.out.below hb); have BB_10 := (show Hid (Bo w10 (n + 1) B) from BB_9.out.below hb); have NX_10 := (show Hid (Dt.Num w10 vx x) from NX_9.out.below hb); have NY_10 := (show Hid (Dt.Num w10 vy y) from NY_9.out.below hb); have TK_10 := (show Hid True from trivial); clear hq TK_9 hb HB_9 BA_9 BB_9 NX_9 NY_9)
    | (have hq := TK_10; go_at_call 21; refine (HMN.out _ _ _ (NX_10.out) (NY_10.out)).mono ?_; rintro e w11 ⟨vm, rfl, hn, hb⟩; have HB_11 := (show Hid (Below w.heap.size w w11) from HB_10.out.trans (hb.mono HB_10.out.size)); have BA_11 := (show Hid (Bo w11 n A) from BA_10.out.below hb); have BB_11 := (show Hid (Bo w11 (n + 1) B) from BB_10.out.below hb); have NX_11 := (show Hid (Dt.Num w11 vx x) from NX_10.out.below hb); have NY_11 := (show Hid (Dt.Num w11 vy y) from NY_10.out.below hb); have NM_11 := (show Hid (Dt.Num w11 vm m) from hn); have TK_11 := (show Hid True from trivial); clear hq TK_10 hb HB_10 BA_10 BB_10 NX_10 NY_10 hn)
    | (have hq := TK_11; go_at_call 16; refine (HBM.out _ _ (NM_11.out)).mono ?_; rintro e w12 ⟨rfl, hb⟩; have HB_12 := (show Hid (Below w.heap.size w w12) from HB_11.out.trans (hb.mono HB_11.out.size)); have BA_12 := (show Hid (Bo w12 n A) from BA_11.out.below hb); have BB_12 := (show Hid (Bo w12 (n + 1) B) from BB_11.out.below hb); have NX_12 := (show Hid (Dt.Num w12 vx x) from NX_11.out.below hb); have NY_12 := (show Hid (Dt.Num w12 vy y) from NY_11.out.below hb); have TK_12 := (show Hid True from trivial); clear hq TK_11 hb HB_11 BA_11 BB_11 NX_11 NY_11 NM_11)
    | (have hq := TK_12; go_at_call 22; refine (cR _).mono ?_; rintro e w13 ⟨rfl, hb⟩; have HB_13 := (show Hid (Below w.heap.size w w13) from HB_12.out.trans (hb.mono HB_12.out.size)); have BA_13 := (show Hid (Bo w13 n A) from BA_12.out.below hb); have BB_13 := (show Hid (Bo w13 (n + 1) B) from BB_12.out.below hb); have NX_13 := (show Hid (Dt.Num w13 vx x) from NX_12.out.below hb); have NY_13 := (show Hid (Dt.Num w13 vy y) from NY_12.out.below hb); have TK_13 := (show Hid True from trivial); clear hq TK_12 hb HB_12 BA_12 BB_12 NX_12 NY_12)
    | (have hq := TK_13; go_at_call 16; refine (HBX.out _ _ (NX_13.out)).mono ?_; rintro e w14 ⟨rfl, hb⟩; have HB_14 := (show Hid (Below w.heap.size w w14) from HB_13.out.trans (hb.mono HB_13.out.size)); have BA_14 := (show Hid (Bo w14 n A) from BA_13.out.below hb); have BB_14 := (show Hid (Bo w14 (n + 1) B) from BB_13.out.below hb); have NX_14 := (show Hid (Dt.Num w14 vx x) from NX_13.out.below hb); have NY_14 := (show Hid (Dt.Num w14 vy y) from NY_13.out.below hb); have TK_14 := (show Hid True from trivial); clear hq TK_13 hb HB_13 BA_13 BB_13 NX_13 NY_13))
  go_ret
  exact ⟨rfl, HB_14.out⟩

set_option maxHeartbeats 8000000 in
set_option maxRecDepth 8000 in
theorem roots_some (a : Nat) (ha : a < 115792089237316195423570985008687907853269984665640564039457584007913129639936) (hyp : rt (a % p) * rt (a % p) % p = a % p) (w : World) :
    Calls Try.prog 5 #[bv a] w fun e w' => e = .returned (.bool true) ∧ Below w.heap.size w w' := by
  have cS := fun W => shown_any W
  obtain ⟨x, hap⟩ : ∃ x, a % p = x := ⟨_, rfl⟩
  rw [hap] at hyp
  have hxl : x < p := by rw [← hap]; exact Nat.mod_lt _ (by decide)
  have hrl : evn (rt x) < p := evn_lt _ (rt_lt x)
  have cR : ∀ W : World, Calls Try.prog 26 #[bv a] W fun e w' => e = .returned (.tuple #[bv (evn (rt x)), .nilIface]) ∧ Below W.heap.size W w' := fun W => by have h := proot_some a W ha (by rw [hap]; exact hyp); rwa [hap] at h
  have HRN : Hid (∀ (W : World) (u : Value), Dt.Num W u x → Calls Try.prog 27 #[u] W fun e w' => ∃ v, e = .returned (.tuple #[v, .bool true]) ∧ Dt.Num w' v (evn (rt x)) ∧ Below W.heap.size W w') := fun W u h1 => (Dt.root_num h1 hxl).mono fun e w' ⟨v, h2, h3, h4, h5⟩ => ⟨v, by rw [h2, decide_eq_true hyp], h3 hyp, h5⟩
  have HIA : Hid (∀ W : World, Calls Try.prog 14 #[.agg (bvc a).toArray] W fun e w' => ∃ v, e = .returned v ∧ Dt.Num w' v x ∧ Below W.heap.size W w') := fun W => by have h := Dt.in_any a W (by rw [← Dt.two256]; exact ha); rwa [hap] at h
  obtain ⟨r, hr⟩ : ∃ s, evn (rt x) = s := ⟨_, rfl⟩
  rw [hr] at cR HRN hrl
  have HBR : Hid (∀ (W : World) (v : Value), Dt.Num W v r → Calls Try.prog 16 #[v] W fun e w' => e = .returned (.agg (bvc r).toArray) ∧ Below W.heap.size W w') := fun W v h => Dt.bytes_num h
  have qr : ∀ W : World, (Op.equalIn 10000 22 (.agg (bvc r).toArray) (.agg (bvc r).toArray)).run Try.prog W = .ok true W := fun W => by have h := eq22 r r W (Nat.lt_trans hrl plt) (Nat.lt_trans hrl plt); rwa [decide_eq_true rfl] at h
  have en := eq_nil
  unfold bv at cR ⊢
  have LA : Hid (L32 (bvc a)) := l32 a
  have LR : Hid (L32 (bvc r)) := l32 r
  obtain ⟨A, hA⟩ : ∃ X, bvc a = X := ⟨_, rfl⟩
  obtain ⟨R, hR⟩ : ∃ X, bvc r = X := ⟨_, rfl⟩
  rw [hA] at LA cR HIA ⊢
  rw [hR] at LR cR HBR qr
  clear hA hR
  clear hap hxl hrl hr ha hyp
  have hz := zero22
  have HBN : Hid (∀ (W : World) (R : List Value), R.length = 32 → Bo ((W.alloc (.cells z22 22)).setCells W.heap.size 0 R) W.heap.size R ∧ Below W.heap.size W ((W.alloc (.cells z22 22)).setCells W.heap.size 0 R)) := box_new
  have HLT : Hid (∀ (R : List Value), L32 R → ∀ W : World, (W.alloc (.cells z22 22)).there W.heap.size 0 R.toArray.size) := fun R h => h.t
  obtain ⟨Z, hZ⟩ : ∃ Z, z22 = Z := ⟨_, rfl⟩
  rw [hZ] at hz HBN HLT
  clear hZ
  obtain ⟨n, hn⟩ : ∃ n, w.heap.size = n := ⟨_, rfl⟩
  have BA : Hid (Bo (w.alloc (.cells A.toArray 22)) n A) := by show Bo _ _ _; rw [← hn]; exact bo1 _ _
  have HBW : Hid (Below w.heap.size w (w.alloc (.cells A.toArray 22))) := ((Below.refl _ _).alloc (by simp) _)
  have BA_0 := BA
  have HB_0 := (show Hid (Below w.heap.size w (w.alloc (.cells A.toArray 22))) from HBW.out)
  have TK_0 := (show Hid True from trivial)
  go_enter Try.func5, Try.ntmps5
  go_wp2_with (first
    | (refine wpList_load_mid rfl 22 (.tmp 1) rfl n 0 rfl A _ BA_0.out.1 Try.underlying22 rfl LA.out.i ?_)
    | (refine wpList_load_mid rfl 22 (.tmp 1) rfl n 0 rfl A _ BA_1.out.1 Try.underlying22 rfl LA.out.i ?_)
    | (refine wpList_load_mid rfl 22 (.tmp 1) rfl n 0 rfl A _ BA_2.out.1 Try.underlying22 rfl LA.out.i ?_)
    | (refine wpList_load_mid rfl 22 (.tmp 1) rfl n 0 rfl A _ BA_3.out.1 Try.underlying22 rfl LA.out.i ?_)
    | (refine wpList_load_mid rfl 22 (.tmp 4) rfl bBR 0 rfl R _ BR_3.out.1 Try.underlying22 rfl LR.out.i ?_)
    | (refine wpList_load_mid rfl 22 (.tmp 1) rfl n 0 rfl A _ BA_4.out.1 Try.underlying22 rfl LA.out.i ?_)
    | (refine wpList_load_mid rfl 22 (.tmp 4) rfl bBR 0 rfl R _ BR_4.out.1 Try.underlying22 rfl LR.out.i ?_)
    | (refine wpList_load_mid rfl 22 (.tmp 1) rfl n 0 rfl A _ BA_5.out.1 Try.underlying22 rfl LA.out.i ?_)
    | (refine wpList_load_mid rfl 22 (.tmp 4) rfl bBR 0 rfl R _ BR_5.out.1 Try.underlying22 rfl LR.out.i ?_)
    | (have hq := TK_0; go_at_call 13; refine (cS _).mono ?_; rintro e w1 ⟨rfl, hb⟩; have HB_1 := (show Hid (Below w.heap.size w w1) from HB_0.out.trans (hb.mono HB_0.out.size)); have BA_1 := (show Hid (Bo w1 n A) from BA_0.out.below hb); have TK_1 := (show Hid True from trivial); clear hq TK_0 hb HB_0 BA_0)
    | (have hq := TK_1; go_at_call 26; refine (cR _).mono ?_; rintro e w2 ⟨rfl, hb⟩; have HB_2 := (show Hid (Below w.heap.size w w2) from HB_1.out.trans (hb.mono HB_1.out.size)); have BA_2 := (show Hid (Bo w2 n A) from BA_1.out.below hb); have TK_2 := (show Hid True from trivial); clear hq TK_1 hb HB_1 BA_1)
    | (have hq := TK_2; refine wpList_store_mid rfl 22 (.tmp 4) (.tmp 12) rfl w2.heap.size 0 R.toArray rfl rfl (HLT.out R LR.out w2) LR.out.j LR.out.o ?_; simp only; have hbx := HBN.out w2 R LR.out.l; obtain ⟨w3, hw3⟩ : ∃ v, (w2.alloc (.cells Z 22)).setCells w2.heap.size 0 R = v := ⟨_, rfl⟩; rw [hw3] at hbx ⊢; clear hw3; have hb := hbx.2; replace hbx := hbx.1; obtain ⟨bBR, hbBR⟩ : ∃ b, w2.heap.size = b := ⟨_, rfl⟩; rw [hbBR] at hbx ⊢; clear hbBR; have HB_3 := (show Hid (Below w.heap.size w w3) from HB_2.out.trans (hb.mono HB_2.out.size)); have BA_3 := (show Hid (Bo w3 n A) from BA_2.out.below hb); have BR_3 := (show Hid (Bo w3 bBR R) from hbx); have TK_3 := (show Hid True from trivial); clear hq TK_2 hb HB_2 BA_2 hbx)
    | (have hq := TK_3; go_at_call 14; refine (HIA.out _).mono ?_; rintro e w4 ⟨vx, rfl, hn, hb⟩; have HB_4 := (show Hid (Below w.heap.size w w4) from HB_3.out.trans (hb.mono HB_3.out.size)); have BA_4 := (show Hid (Bo w4 n A) from BA_3.out.below hb); have BR_4 := (show Hid (Bo w4 bBR R) from BR_3.out.below hb); have NX_4 := (show Hid (Dt.Num w4 vx x) from hn); have TK_4 := (show Hid True from trivial); clear hq TK_3 hb HB_3 BA_3 BR_3 hn)
    | (have hq := TK_4; go_at_call 27; refine (HRN.out _ _ (NX_4.out)).mono ?_; rintro e w5 ⟨vr, rfl, hn, hb⟩; have HB_5 := (show Hid (Below w.heap.size w w5) from HB_4.out.trans (hb.mono HB_4.out.size)); have BA_5 := (show Hid (Bo w5 n A) from BA_4.out.below hb); have BR_5 := (show Hid (Bo w5 bBR R) from BR_4.out.below hb); have NR_5 := (show Hid (Dt.Num w5 vr r) from hn); have TK_5 := (show Hid True from trivial); clear hq TK_4 hb HB_4 BA_4 BR_4 NX_4 hn))
  have kb : ∀ y : Cl w5.heap.size w5, Calls Try.prog 16 #[vr] y.u fun e w' => e = .returned (.agg R.toArray) ∧ Below y.u.heap.size y.u w' := fun y => HBR.out y.u vr (NR_5.out.below y.h)
  have HQBA := (show Hid _ from BA_5.out.cl)
  have HQBR := (show Hid _ from BR_5.out.cl)
  have hne := Cl.ne w5.heap.size w5
  refine region_cl (N := w5.heap.size) (W := w5) (by kernel_rfl) (by kernel_rfl) (Below.refl _ _) ?_
  repeat (first
    | (go_big_quiet_want; (first | (refine quiet_load 22 _ rfl n 0 rfl A _ HQBA.out Try.underlying22 rfl LA.out.i ?_) | (refine quiet_load 22 _ rfl bBR 0 rfl R _ HQBR.out Try.underlying22 rfl LR.out.i ?_)); simp only [Act.put, List.setIfInBounds_toArray, List.set_cons_zero, List.set_cons_succ]; go_big_quiet_on)
    | go_big_quiet_step ((first | (go_at_call 16; exact cl_of (kb _) (Nat.le_refl _)))))
  refine wpQuiet_nil ?_
  rintro _ ⟨xq, rfl⟩
  have hb := xq.h
  have HB_6 := (show Hid (Below w.heap.size w xq.u) from HB_5.out.trans (hb.mono HB_5.out.size))
  have BA_6 := (show Hid (Bo xq.u n A) from BA_5.out.below hb)
  have BR_6 := (show Hid (Bo xq.u bBR R) from BR_5.out.below hb)
  have NR_6 := (show Hid (Dt.Num xq.u vr r) from NR_5.out.below hb)
  obtain ⟨w6, hw6⟩ : ∃ v, xq.u = v := ⟨_, rfl⟩
  rw [hw6] at HB_6 BA_6 BR_6 NR_6 ⊢
  clear hw6 hb xq hne HB_5 BA_5 BR_5 NR_5 HQBA HQBR
  go_wp2
  go_ret
  exact ⟨rfl, HB_6.out⟩

set_option maxHeartbeats 8000000 in
set_option maxRecDepth 8000 in
theorem roots_none (a : Nat) (ha : a < 115792089237316195423570985008687907853269984665640564039457584007913129639936) (hyp : ¬ rt (a % p) * rt (a % p) % p = a % p) (w : World) :
    Calls Try.prog 5 #[bv a] w fun e w' => e = .returned (.bool true) ∧ Below w.heap.size w w' := by
  have cS := fun W => shown_any W
  obtain ⟨x, hap⟩ : ∃ x, a % p = x := ⟨_, rfl⟩
  rw [hap] at hyp
  have hxl : x < p := by rw [← hap]; exact Nat.mod_lt _ (by decide)
  have cR : ∀ W : World, Calls Try.prog 26 #[bv a] W fun e w' => e = .returned (.tuple #[bv 0, .iface 35 (.int .i64 9)]) ∧ Below W.heap.size W w' := fun W => proot_none a W ha (by rw [hap]; exact hyp)
  have HRN : Hid (∀ (W : World) (u : Value), Dt.Num W u x → Calls Try.prog 27 #[u] W fun e w' => e = .returned (.tuple #[.slice none 0 0, .bool false]) ∧ Below W.heap.size W w') := fun W u h1 => (Dt.root_num h1 hxl).mono fun e w' ⟨v, h2, h3, h4, h5⟩ => ⟨by rw [h2, decide_eq_false hyp, h4 hyp], h5⟩
  have c0 : ∀ W : World, Calls Try.prog 24 #[.int .u8 0] W fun e w' => e = .returned (bv 0) ∧ Below W.heap.size W w' := fun W => small_any 0 W (by decide)
  have e9 : ∀ W : World, (binOp .eql 32 (.iface 35 (.int .i64 9)) (.iface 35 (.int .i64 9))).run Try.prog W = .ok (.bool true) W := fun W => bin_err 9 9 W
  have HIA : Hid (∀ W : World, Calls Try.prog 14 #[.agg (bvc a).toArray] W fun e w' => ∃ v, e = .returned v ∧ Dt.Num w' v x ∧ Below W.heap.size W w') := fun W => by have h := Dt.in_any a W (by rw [← Dt.two256]; exact ha); rwa [hap] at h
  have qr : ∀ W : World, (Op.equalIn 10000 22 (.agg (bvc 0).toArray) (.agg (bvc 0).toArray)).run Try.prog W = .ok true W := fun W => by have h := eq22 0 0 W (by decide) (by decide); rwa [decide_eq_true rfl] at h
  unfold bv at cR c0 ⊢
  have LA : Hid (L32 (bvc a)) := l32 a
  have LR : Hid (L32 (bvc 0)) := l32 0
  obtain ⟨A, hA⟩ : ∃ X, bvc a = X := ⟨_, rfl⟩
  obtain ⟨R, hR⟩ : ∃ X, bvc 0 = X := ⟨_, rfl⟩
  rw [hA] at LA cR HIA ⊢
  rw [hR] at LR cR c0 qr
  clear hA hR
  clear hap hxl ha hyp
  have hz := zero22
  have HBN : Hid (∀ (W : World) (R : List Value), R.length = 32 → Bo ((W.alloc (.cells z22 22)).setCells W.heap.size 0 R) W.heap.size R ∧ Below W.heap.size W ((W.alloc (.cells z22 22)).setCells W.heap.size 0 R)) := box_new
  have HLT : Hid (∀ (R : List Value), L32 R → ∀ W : World, (W.alloc (.cells z22 22)).there W.heap.size 0 R.toArray.size) := fun R h => h.t
  obtain ⟨Z, hZ⟩ : ∃ Z, z22 = Z := ⟨_, rfl⟩
  rw [hZ] at hz HBN HLT
  clear hZ
  obtain ⟨n, hn⟩ : ∃ n, w.heap.size = n := ⟨_, rfl⟩
  have BA : Hid (Bo (w.alloc (.cells A.toArray 22)) n A) := by show Bo _ _ _; rw [← hn]; exact bo1 _ _
  have HBW : Hid (Below w.heap.size w (w.alloc (.cells A.toArray 22))) := ((Below.refl _ _).alloc (by simp) _)
  have BA_0 := BA
  have HB_0 := (show Hid (Below w.heap.size w (w.alloc (.cells A.toArray 22))) from HBW.out)
  have TK_0 := (show Hid True from trivial)
  go_enter Try.func5, Try.ntmps5
  go_wp2_with (first
    | (refine wpList_load_mid rfl 22 (.tmp 1) rfl n 0 rfl A _ BA_0.out.1 Try.underlying22 rfl LA.out.i ?_)
    | (refine wpList_load_mid rfl 22 (.tmp 1) rfl n 0 rfl A _ BA_1.out.1 Try.underlying22 rfl LA.out.i ?_)
    | (refine wpList_load_mid rfl 22 (.tmp 1) rfl n 0 rfl A _ BA_2.out.1 Try.underlying22 rfl LA.out.i ?_)
    | (refine wpList_load_mid rfl 22 (.tmp 1) rfl n 0 rfl A _ BA_3.out.1 Try.underlying22 rfl LA.out.i ?_)
    | (refine wpList_load_mid rfl 22 (.tmp 4) rfl bBR 0 rfl R _ BR_3.out.1 Try.underlying22 rfl LR.out.i ?_)
    | (refine wpList_load_mid rfl 22 (.tmp 1) rfl n 0 rfl A _ BA_4.out.1 Try.underlying22 rfl LA.out.i ?_)
    | (refine wpList_load_mid rfl 22 (.tmp 4) rfl bBR 0 rfl R _ BR_4.out.1 Try.underlying22 rfl LR.out.i ?_)
    | (refine wpList_load_mid rfl 22 (.tmp 1) rfl n 0 rfl A _ BA_5.out.1 Try.underlying22 rfl LA.out.i ?_)
    | (refine wpList_load_mid rfl 22 (.tmp 4) rfl bBR 0 rfl R _ BR_5.out.1 Try.underlying22 rfl LR.out.i ?_)
    | (have hq := TK_0; go_at_call 13; refine (cS _).mono ?_; rintro e w1 ⟨rfl, hb⟩; have HB_1 := (show Hid (Below w.heap.size w w1) from HB_0.out.trans (hb.mono HB_0.out.size)); have BA_1 := (show Hid (Bo w1 n A) from BA_0.out.below hb); have TK_1 := (show Hid True from trivial); clear hq TK_0 hb HB_0 BA_0)
    | (have hq := TK_1; go_at_call 26; refine (cR _).mono ?_; rintro e w2 ⟨rfl, hb⟩; have HB_2 := (show Hid (Below w.heap.size w w2) from HB_1.out.trans (hb.mono HB_1.out.size)); have BA_2 := (show Hid (Bo w2 n A) from BA_1.out.below hb); have TK_2 := (show Hid True from trivial); clear hq TK_1 hb HB_1 BA_1)
    | (have hq := TK_2; refine wpList_store_mid rfl 22 (.tmp 4) (.tmp 12) rfl w2.heap.size 0 R.toArray rfl rfl (HLT.out R LR.out w2) LR.out.j LR.out.o ?_; simp only; have hbx := HBN.out w2 R LR.out.l; obtain ⟨w3, hw3⟩ : ∃ v, (w2.alloc (.cells Z 22)).setCells w2.heap.size 0 R = v := ⟨_, rfl⟩; rw [hw3] at hbx ⊢; clear hw3; have hb := hbx.2; replace hbx := hbx.1; obtain ⟨bBR, hbBR⟩ : ∃ b, w2.heap.size = b := ⟨_, rfl⟩; rw [hbBR] at hbx ⊢; clear hbBR; have HB_3 := (show Hid (Below w.heap.size w w3) from HB_2.out.trans (hb.mono HB_2.out.size)); have BA_3 := (show Hid (Bo w3 n A) from BA_2.out.below hb); have BR_3 := (show Hid (Bo w3 bBR R) from hbx); have TK_3 := (show Hid True from trivial); clear hq TK_2 hb HB_2 BA_2 hbx)
    | (have hq := TK_3; go_at_call 14; refine (HIA.out _).mono ?_; rintro e w4 ⟨vx, rfl, hn, hb⟩; have HB_4 := (show Hid (Below w.heap.size w w4) from HB_3.out.trans (hb.mono HB_3.out.size)); have BA_4 := (show Hid (Bo w4 n A) from BA_3.out.below hb); have BR_4 := (show Hid (Bo w4 bBR R) from BR_3.out.below hb); have NX_4 := (show Hid (Dt.Num w4 vx x) from hn); have TK_4 := (show Hid True from trivial); clear hq TK_3 hb HB_3 BA_3 BR_3 hn)
    | (have hq := TK_4; go_at_call 27; refine (HRN.out _ _ (NX_4.out)).mono ?_; rintro e w5 ⟨rfl, hb⟩; have HB_5 := (show Hid (Below w.heap.size w w5) from HB_4.out.trans (hb.mono HB_4.out.size)); have BA_5 := (show Hid (Bo w5 n A) from BA_4.out.below hb); have BR_5 := (show Hid (Bo w5 bBR R) from BR_4.out.below hb); have TK_5 := (show Hid True from trivial); clear hq TK_4 hb HB_4 BA_4 BR_4 NX_4))
  have HQBA := (show Hid _ from BA_5.out.cl)
  have HQBR := (show Hid _ from BR_5.out.cl)
  have hne := Cl.ne w5.heap.size w5
  refine region_cl (N := w5.heap.size) (W := w5) (by kernel_rfl) (by kernel_rfl) (Below.refl _ _) ?_
  repeat (first
    | (go_big_quiet_want; (first | (refine quiet_load 22 _ rfl n 0 rfl A _ HQBA.out Try.underlying22 rfl LA.out.i ?_) | (refine quiet_load 22 _ rfl bBR 0 rfl R _ HQBR.out Try.underlying22 rfl LR.out.i ?_)); simp only [Act.put, List.setIfInBounds_toArray, List.set_cons_zero, List.set_cons_succ]; go_big_quiet_on)
    | go_big_quiet_step ((first | (go_at_call 24; exact cl_of (c0 _) (Nat.le_refl _)))))
  refine wpQuiet_nil ?_
  rintro _ ⟨xq, rfl⟩
  have hb := xq.h
  have HB_6 := (show Hid (Below w.heap.size w xq.u) from HB_5.out.trans (hb.mono HB_5.out.size))
  have BA_6 := (show Hid (Bo xq.u n A) from BA_5.out.below hb)
  have BR_6 := (show Hid (Bo xq.u bBR R) from BR_5.out.below hb)
  obtain ⟨w6, hw6⟩ : ∃ v, xq.u = v := ⟨_, rfl⟩
  rw [hw6] at HB_6 BA_6 BR_6 ⊢
  clear hw6 hb xq hne HB_5 BA_5 BR_5 HQBA HQBR
  go_wp2
  go_ret
  exact ⟨rfl, HB_6.out⟩
end Fd
end Go.Proofs.Ytgdekigdbbldoaa
