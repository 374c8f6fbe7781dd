/- What the walks of curve carry along: parts of boxes, the answer's box. A contract of a function of curve over fractions, by walking its text (printed by a program). -/
import Derived.Test.YtgdekigdbbldoaaG27
namespace Go.Proofs.Ytgdekigdbbldoaa
open Go.RowKit
namespace Fd
open Rg

def mulp (a b : Nat) : Nat := a * b % p
def addp (a b : Nat) : Nat := (a % p + b % p) % p
def subp (a b : Nat) : Nat := (a % p + p - b % p) % p
theorem mulp_lt (a b : Nat) : mulp a b < 115792089237316195423570985008687907853269984665640564039457584007913129639936 := Nat.lt_trans (Nat.mod_lt _ (by decide)) (by decide : p < _)
theorem addp_lt (a b : Nat) : addp a b < 115792089237316195423570985008687907853269984665640564039457584007913129639936 := Nat.lt_trans (Nat.mod_lt _ (by decide)) (by decide : p < _)
theorem subp_lt (a b : Nat) : subp a b < 115792089237316195423570985008687907853269984665640564039457584007913129639936 := Nat.lt_trans (Nat.mod_lt _ (by decide)) (by decide : p < _)
/-- A part of a box. -/
def Rp (w : World) (b o : Nat) (R : List Value) : Prop := w.rangeAt b o R ∧ b < w.heap.size
theorem Rp.below {w w' : World} {b o : Nat} {R : List Value} (h : Rp w b o R) (hb : Below w.heap.size w w') : Rp w' b o R := ⟨Rg.Below.range hb h.1 h.2, Nat.lt_of_lt_of_le h.2 hb.size⟩
theorem Rp.cl {w : World} {b o : Nat} {R : List Value} (h : Rp w b o R) : ∀ w', (∃ x : Cl w.heap.size w, w' = x.u) → w'.rangeAt b o R := fun _ ⟨x, hx⟩ => hx ▸ x.range h.1 h.2
theorem Rp.cl2 {w : World} {b o : Nat} {R : List Value} (h : Rp w b o R) {N2 : Nat} {W2 : World} (h1 : w.heap.size ≤ N2) (h2 : Below w.heap.size w W2) : ∀ w', (∃ x : Cl N2 W2, w' = x.u) → w'.rangeAt b o R := Fd.cl2 h1 h2 h.1 h.2
theorem Bo.rp {w : World} {b : Nat} {R : List Value} (h : Bo w b R) : Rp w b 0 R := h
/-- The answer's box, above a mark. -/
def Ao (N : Nat) (w : World) (b n : Nat) : Prop := N ≤ b ∧ b < w.heap.size ∧ w.there b 0 n
theorem Ao.below {N : Nat} {w w' : World} {b n : Nat} (h : Ao N w b n) (hb : Below w.heap.size w w') : Ao N w' b n := ⟨h.1, Nat.lt_of_lt_of_le h.2.1 hb.size, there_below hb h.2.2 h.2.1⟩
def fv (x y u : Nat) : Value := .agg ((bvc x ++ bvc y) ++ bvc u).toArray
theorem one_box {N : Nat} {W w : World} {b : Nat} {R : List Value} (hb : Below N W w) (h1 : N ≤ b ∧ b < w.heap.size ∧ w.there b 0 32) (hR : R.length = 32) : Bo (w.setCells b 0 R) b R ∧ Below N W (w.setCells b 0 R) :=
  ⟨⟨World.rangeAt_setCells_same _ _ _ _ (by rw [hR]; exact h1.2.2), by rw [size_setCells]; exact h1.2.1⟩, below_setCells hb h1.1⟩
def z84 : Array Value := (zl 96).toArray
theorem zero84 (W : World) : (zeroValue 84).run Try.prog W = .ok (.agg z84) W := by
  have h := zero84_info
  cases hq : Try.prog.info? 84 with
  | none => rw [hq] at h; cases h
  | some i =>
    have hz : i.zero = some (.agg z84) := by simpa [hq, z84] using h
    simp [zeroValue, typeInfo, hq, hz]
def z43 : Array Value := (zl 64).toArray
theorem zero43 (W : World) : (zeroValue 43).run Try.prog W = .ok (.agg z43) W := by
  have h := zero43_info
  cases hq : Try.prog.info? 43 with
  | none => rw [hq] at h; cases h
  | some i =>
    have hz : i.zero = some (.agg z43) := by simpa [hq, z43] using h
    simp [zeroValue, typeInfo, hq, hz]
theorem there84 (w : World) : (w.alloc (.cells z84 84)).there w.heap.size 0 96 := there_new w z84 84 (m := 96) fun j hj => by simp [z84, zl, hj]
theorem there43 (w : World) : (w.alloc (.cells z43 43)).there w.heap.size 0 64 := there_new w z43 43 (m := 64) fun j hj => by simp [z43, zl, hj]
theorem info84 : (Try.prog.info? 84).map (·.size) = some 96 := by kernel_rfl
theorem info43 : (Try.prog.info? 43).map (·.size) = some 64 := by kernel_rfl
theorem one_app {X Y : List Value} (hX : X.toArray.all (·.oneCell') = true) (hY : Y.toArray.all (·.oneCell') = true) : (X ++ Y).toArray.all (·.oneCell') = true := by
  simp only [List.all_toArray, List.all_append, Bool.and_eq_true] at hX hY ⊢
  exact ⟨hX, hY⟩
/-- Two boxes of fractions and the answer's. -/
theorem start2 (w : World) (X Y U X' Y' U' : List Value) (h1 : X.length = 32) (h2 : Y.length = 32) (h1' : X'.length = 32) (h2' : Y'.length = 32) :
    let e := ((w.alloc (.cells ((X ++ Y) ++ U).toArray 84)).alloc (.cells ((X' ++ Y') ++ U').toArray 84)).alloc (.cells z84 84)
    Rp e w.heap.size 0 X ∧ Rp e w.heap.size 32 Y ∧ Rp e w.heap.size 64 U ∧ Rp e (w.heap.size + 1) 0 X' ∧ Rp e (w.heap.size + 1) 32 Y' ∧ Rp e (w.heap.size + 1) 64 U' ∧ Ao w.heap.size e (w.heap.size + 2) 96 ∧ Below w.heap.size w e := by
  intro e
  have b1 : Below (w.alloc (.cells ((X ++ Y) ++ U).toArray 84)).heap.size (w.alloc (.cells ((X ++ Y) ++ U).toArray 84)) e := ((Below.refl _ _).alloc (Nat.le_refl _) _).alloc (by simp) _
  have b2 : Below ((w.alloc (.cells ((X ++ Y) ++ U).toArray 84)).alloc (.cells ((X' ++ Y') ++ U').toArray 84)).heap.size ((w.alloc (.cells ((X ++ Y) ++ U).toArray 84)).alloc (.cells ((X' ++ Y') ++ U').toArray 84)) e := (Below.refl _ _).alloc (Nat.le_refl _) _
  have r1 := Rg.range_new w ((X ++ Y) ++ U) 84
  have r2 := Rg.range_new (w.alloc (.cells ((X ++ Y) ++ U).toArray 84)) ((X' ++ Y') ++ U') 84
  rw [size_alloc] at r2
  have s1 : w.heap.size < (w.alloc (.cells ((X ++ Y) ++ U).toArray 84)).heap.size := by rw [size_alloc]; omega
  have s2 : w.heap.size + 1 < ((w.alloc (.cells ((X ++ Y) ++ U).toArray 84)).alloc (.cells ((X' ++ Y') ++ U').toArray 84)).heap.size := by rw [size_alloc, size_alloc]; omega
  have ry := range_right (m := 32) (range_left r1) h1
  have ry' := range_right (m := 32) (range_left r2) h1'
  have ru := range_right (m := 64) r1 (by rw [List.length_append, h1, h2])
  have ru' := range_right (m := 64) r2 (by rw [List.length_append, h1', h2'])
  rw [Nat.zero_add] at ry ry' ru ru'
  have ht := there84 ((w.alloc (.cells ((X ++ Y) ++ U).toArray 84)).alloc (.cells ((X' ++ Y') ++ U').toArray 84))
  rw [size_alloc, size_alloc] at ht
  refine ⟨Rp.below ⟨range_left (range_left r1), s1⟩ b1, Rp.below ⟨ry, s1⟩ b1, Rp.below ⟨ru, s1⟩ b1, Rp.below ⟨range_left (range_left r2), s2⟩ b2, Rp.below ⟨ry', s2⟩ b2, Rp.below ⟨ru', s2⟩ b2, ⟨by omega, ?_, ht⟩, ?_⟩
  · show _ < (World.alloc _ _).heap.size
    rw [size_alloc, size_alloc, size_alloc]
    omega
  · exact (((Below.refl _ _).alloc (Nat.le_refl _) _).alloc (by simp) _).alloc (by simp; omega) _
/-- One box of a fraction and the answer's. -/
theorem start1 (w : World) (X Y U : List Value) (h1 : X.length = 32) (h2 : Y.length = 32) :
    let e := (w.alloc (.cells ((X ++ Y) ++ U).toArray 84)).alloc (.cells z84 84)
    Rp e w.heap.size 0 X ∧ Rp e w.heap.size 32 Y ∧ Rp e w.heap.size 64 U ∧ Ao w.heap.size e (w.heap.size + 1) 96 ∧ Below w.heap.size w e := by
  intro e
  have b1 : Below (w.alloc (.cells ((X ++ Y) ++ U).toArray 84)).heap.size (w.alloc (.cells ((X ++ Y) ++ U).toArray 84)) e := (Below.refl _ _).alloc (Nat.le_refl _) _
  have r1 := Rg.range_new w ((X ++ Y) ++ U) 84
  have s1 : w.heap.size < (w.alloc (.cells ((X ++ Y) ++ U).toArray 84)).heap.size := by rw [size_alloc]; omega
  have ry := range_right (m := 32) (range_left r1) h1
  have ru := range_right (m := 64) r1 (by rw [List.length_append, h1, h2])
  rw [Nat.zero_add] at ry ru
  have ht := there84 (w.alloc (.cells ((X ++ Y) ++ U).toArray 84))
  rw [size_alloc] at ht
  refine ⟨Rp.below ⟨range_left (range_left r1), s1⟩ b1, Rp.below ⟨ry, s1⟩ b1, Rp.below ⟨ru, s1⟩ b1, ⟨by omega, ?_, ht⟩, ?_⟩
  · show _ < (World.alloc _ _).heap.size
    rw [size_alloc, size_alloc]
    omega
  · exact ((Below.refl _ _).alloc (Nat.le_refl _) _).alloc (by simp) _
/-- One box of a fraction and the answer's, a point. -/
theorem start1p (w : World) (X Y U : List Value) (h1 : X.length = 32) (h2 : Y.length = 32) :
    let e := (w.alloc (.cells ((X ++ Y) ++ U).toArray 84)).alloc (.cells z43 43)
    Rp e w.heap.size 0 X ∧ Rp e w.heap.size 32 Y ∧ Rp e w.heap.size 64 U ∧ Ao w.heap.size e (w.heap.size + 1) 64 ∧ Below w.heap.size w e := by
  intro e
  have b1 : Below (w.alloc (.cells ((X ++ Y) ++ U).toArray 84)).heap.size (w.alloc (.cells ((X ++ Y) ++ U).toArray 84)) e := (Below.refl _ _).alloc (Nat.le_refl _) _
  have r1 := Rg.range_new w ((X ++ Y) ++ U) 84
  have s1 : w.heap.size < (w.alloc (.cells ((X ++ Y) ++ U).toArray 84)).heap.size := by rw [size_alloc]; omega
  have ry := range_right (m := 32) (range_left r1) h1
  have ru := range_right (m := 64) r1 (by rw [List.length_append, h1, h2])
  rw [Nat.zero_add] at ry ru
  have ht := there43 (w.alloc (.cells ((X ++ Y) ++ U).toArray 84))
  rw [size_alloc] at ht
  refine ⟨Rp.below ⟨range_left (range_left r1), s1⟩ b1, Rp.below ⟨ry, s1⟩ b1, Rp.below ⟨ru, s1⟩ b1, ⟨by omega, ?_, ht⟩, ?_⟩
  · show _ < (World.alloc _ _).heap.size
    rw [size_alloc, size_alloc]
    omega
  · exact ((Below.refl _ _).alloc (Nat.le_refl _) _).alloc (by simp) _
def redp (a : Nat) : Nat := a % p
theorem redp_lt (a : Nat) : redp a < 115792089237316195423570985008687907853269984665640564039457584007913129639936 := Nat.lt_trans (Nat.mod_lt _ (by decide)) (by decide : p < _)
/-- One box of a point and the answer's, a point. -/
theorem startp (w : World) (X Y : List Value) (h1 : X.length = 32) :
    let e := (w.alloc (.cells (X ++ Y).toArray 43)).alloc (.cells z43 43)
    Rp e w.heap.size 0 X ∧ Rp e w.heap.size 32 Y ∧ Ao w.heap.size e (w.heap.size + 1) 64 ∧ Below w.heap.size w e := by
  intro e
  have b1 : Below (w.alloc (.cells (X ++ Y).toArray 43)).heap.size (w.alloc (.cells (X ++ Y).toArray 43)) e := (Below.refl _ _).alloc (Nat.le_refl _) _
  have r1 := Rg.range_new w (X ++ Y) 43
  have s1 : w.heap.size < (w.alloc (.cells (X ++ Y).toArray 43)).heap.size := by rw [size_alloc]; omega
  have ry := range_right (m := 32) r1 h1
  rw [Nat.zero_add] at ry
  have ht := there43 (w.alloc (.cells (X ++ Y).toArray 43))
  rw [size_alloc] at ht
  refine ⟨Rp.below ⟨range_left r1, s1⟩ b1, Rp.below ⟨ry, s1⟩ b1, ⟨by omega, ?_, ht⟩, ?_⟩
  · show _ < (World.alloc _ _).heap.size
    rw [size_alloc, size_alloc]
    omega
  · exact ((Below.refl _ _).alloc (Nat.le_refl _) _).alloc (by simp) _
theorem quiet_build {P : Program} {C : World → Prop} {K : Act → Prop} {o : Oper} {a : Act} (t : TypeId) (parts : Array (Nat × Operand)) (ho : o.op = .build t parts) (L : List (Nat × Value)) (hL : (parts.map fun ((i, x) : Nat × Operand) => (i, a.eval x)).toList = L) (cells : List Value) (hb : P.built t L = some cells.toArray)
    (hk : K (a.put o.dst (.agg cells.toArray))) : o.quiet P a C K :=
  ⟨_, fun w hw => by
    rw [← hL] at hb
    unfold Oper.quietAt execOp
    simp only [ho, Sem.run_bind, run_build w t _ _ hb, Result.andThen_ok]
    exact ⟨rfl, rfl⟩, hk⟩
theorem build_to {P : Program} {ops : Array Oper} {rest : List Oper} {o : Oper} {a : Act} {w : World} {Q : Exit → Act → World → Prop} (hg : o.guard = none) (t : TypeId) (parts : Array (Nat × Operand)) (ho : o.op = .build t parts) (d : Option Tmp) (hd : o.dst = d)
    (L : List (Nat × Value)) (hL : (parts.map fun ((i, x) : Nat × Operand) => (i, a.eval x)).toList = L) (cells : List Value) (hb : P.built t L = some cells.toArray) (h : wpList P ops Q rest (a.put d (.agg cells.toArray)) w) : wpList P ops Q (o :: rest) a w :=
  wpList_buildTo hg t parts ho d hd cells.toArray (by rw [← hb, ← hL]) h
end Fd
end Go.Proofs.Ytgdekigdbbldoaa

namespace Go.Proofs.Ytgdekigdbbldoaa
open Go.RowKit
namespace Fd
open Rg

set_option maxHeartbeats 4000000 in
set_option maxRecDepth 4000 in
theorem sum_at (a0 a1 a2 b0 b1 b2 k18 k21 k28 k35 k36 k39 k40 k43 k46 k53 k60 k61 k64 k67 k69 k72 k74 k78 : Nat) (h_k18 : mulp a2 b2 = k18) (h_k21 : mulp k18 k18 = k21) (h_k28 : mulp a0 b0 = k28) (h_k35 : mulp a1 b1 = k35) (h_k36 : factor = k36) (h_k39 : mulp k28 k35 = k39) (h_k40 : mulp k36 k39 = k40) (h_k43 : addp k21 k40 = k43) (h_k46 : subp k21 k40 = k46) (h_k53 : mulp a0 b1 = k53) (h_k60 : mulp b0 a1 = k60) (h_k61 : addp k53 k60 = k61) (h_k64 : addp k35 k28 = k64) (h_k67 : mulp k18 k61 = k67) (h_k69 : mulp k67 k46 = k69) (h_k72 : mulp k18 k64 = k72) (h_k74 : mulp k72 k43 = k74) (h_k78 : mulp k43 k46 = k78) (l_a0 : a0 < 115792089237316195423570985008687907853269984665640564039457584007913129639936) (l_a1 : a1 < 115792089237316195423570985008687907853269984665640564039457584007913129639936) (l_a2 : a2 < 115792089237316195423570985008687907853269984665640564039457584007913129639936) (l_b0 : b0 < 115792089237316195423570985008687907853269984665640564039457584007913129639936) (l_b1 : b1 < 115792089237316195423570985008687907853269984665640564039457584007913129639936) (l_b2 : b2 < 115792089237316195423570985008687907853269984665640564039457584007913129639936) (w : World) :
    Calls Try.prog 81 #[fv a0 a1 a2, fv b0 b1 b2] w fun e w' => e = .returned (fv k69 k74 k78) ∧ Below w.heap.size w w' := by
  have l_k18 : k18 < 115792089237316195423570985008687907853269984665640564039457584007913129639936 := h_k18 ▸ mulp_lt _ _
  have c_k18 : ∀ W : World, Calls Try.prog 20 #[.agg (bvc a2).toArray, .agg (bvc b2).toArray] W fun e w' => e = .returned (.agg (bvc k18).toArray) ∧ Below W.heap.size W w' := fun W => by have h := mul_any a2 b2 W l_a2 l_b2; rw [← h_k18]; exact h
  have l_k21 : k21 < 115792089237316195423570985008687907853269984665640564039457584007913129639936 := h_k21 ▸ mulp_lt _ _
  have c_k21 : ∀ W : World, Calls Try.prog 20 #[.agg (bvc k18).toArray, .agg (bvc k18).toArray] W fun e w' => e = .returned (.agg (bvc k21).toArray) ∧ Below W.heap.size W w' := fun W => by have h := mul_any k18 k18 W l_k18 l_k18; rw [← h_k21]; exact h
  have l_k28 : k28 < 115792089237316195423570985008687907853269984665640564039457584007913129639936 := h_k28 ▸ mulp_lt _ _
  have c_k28 : ∀ W : World, Calls Try.prog 20 #[.agg (bvc a0).toArray, .agg (bvc b0).toArray] W fun e w' => e = .returned (.agg (bvc k28).toArray) ∧ Below W.heap.size W w' := fun W => by have h := mul_any a0 b0 W l_a0 l_b0; rw [← h_k28]; exact h
  have l_k35 : k35 < 115792089237316195423570985008687907853269984665640564039457584007913129639936 := h_k35 ▸ mulp_lt _ _
  have c_k35 : ∀ W : World, Calls Try.prog 20 #[.agg (bvc a1).toArray, .agg (bvc b1).toArray] W fun e w' => e = .returned (.agg (bvc k35).toArray) ∧ Below W.heap.size W w' := fun W => by have h := mul_any a1 b1 W l_a1 l_b1; rw [← h_k35]; exact h
  have l_k36 : k36 < 115792089237316195423570985008687907853269984665640564039457584007913129639936 := h_k36 ▸ (by decide)
  have c_k36 : ∀ W : World, Calls Try.prog 76 #[] W fun e w' => e = .returned (.agg (bvc k36).toArray) ∧ Below W.heap.size W w' := fun W => by rw [← h_k36]; exact factor_any W
  have l_k39 : k39 < 115792089237316195423570985008687907853269984665640564039457584007913129639936 := h_k39 ▸ mulp_lt _ _
  have c_k39 : ∀ W : World, Calls Try.prog 20 #[.agg (bvc k28).toArray, .agg (bvc k35).toArray] W fun e w' => e = .returned (.agg (bvc k39).toArray) ∧ Below W.heap.size W w' := fun W => by have h := mul_any k28 k35 W l_k28 l_k35; rw [← h_k39]; exact h
  have l_k40 : k40 < 115792089237316195423570985008687907853269984665640564039457584007913129639936 := h_k40 ▸ mulp_lt _ _
  have c_k40 : ∀ W : World, Calls Try.prog 20 #[.agg (bvc k36).toArray, .agg (bvc k39).toArray] W fun e w' => e = .returned (.agg (bvc k40).toArray) ∧ Below W.heap.size W w' := fun W => by have h := mul_any k36 k39 W l_k36 l_k39; rw [← h_k40]; exact h
  have l_k43 : k43 < 115792089237316195423570985008687907853269984665640564039457584007913129639936 := h_k43 ▸ addp_lt _ _
  have c_k43 : ∀ W : World, Calls Try.prog 15 #[.agg (bvc k21).toArray, .agg (bvc k40).toArray] W fun e w' => e = .returned (.agg (bvc k43).toArray) ∧ Below W.heap.size W w' := fun W => by have h := add_any k21 k40 W l_k21 l_k40; rw [← h_k43]; exact h
  have l_k46 : k46 < 115792089237316195423570985008687907853269984665640564039457584007913129639936 := h_k46 ▸ subp_lt _ _
  have c_k46 : ∀ W : World, Calls Try.prog 18 #[.agg (bvc k21).toArray, .agg (bvc k40).toArray] W fun e w' => e = .returned (.agg (bvc k46).toArray) ∧ Below W.heap.size W w' := fun W => by have h := sub_any k21 k40 W l_k21 l_k40; rw [← h_k46]; exact h
  have l_k53 : k53 < 115792089237316195423570985008687907853269984665640564039457584007913129639936 := h_k53 ▸ mulp_lt _ _
  have c_k53 : ∀ W : World, Calls Try.prog 20 #[.agg (bvc a0).toArray, .agg (bvc b1).toArray] W fun e w' => e = .returned (.agg (bvc k53).toArray) ∧ Below W.heap.size W w' := fun W => by have h := mul_any a0 b1 W l_a0 l_b1; rw [← h_k53]; exact h
  have l_k60 : k60 < 115792089237316195423570985008687907853269984665640564039457584007913129639936 := h_k60 ▸ mulp_lt _ _
  have c_k60 : ∀ W : World, Calls Try.prog 20 #[.agg (bvc b0).toArray, .agg (bvc a1).toArray] W fun e w' => e = .returned (.agg (bvc k60).toArray) ∧ Below W.heap.size W w' := fun W => by have h := mul_any b0 a1 W l_b0 l_a1; rw [← h_k60]; exact h
  have l_k61 : k61 < 115792089237316195423570985008687907853269984665640564039457584007913129639936 := h_k61 ▸ addp_lt _ _
  have c_k61 : ∀ W : World, Calls Try.prog 15 #[.agg (bvc k53).toArray, .agg (bvc k60).toArray] W fun e w' => e = .returned (.agg (bvc k61).toArray) ∧ Below W.heap.size W w' := fun W => by have h := add_any k53 k60 W l_k53 l_k60; rw [← h_k61]; exact h
  have l_k64 : k64 < 115792089237316195423570985008687907853269984665640564039457584007913129639936 := h_k64 ▸ addp_lt _ _
  have c_k64 : ∀ W : World, Calls Try.prog 15 #[.agg (bvc k35).toArray, .agg (bvc k28).toArray] W fun e w' => e = .returned (.agg (bvc k64).toArray) ∧ Below W.heap.size W w' := fun W => by have h := add_any k35 k28 W l_k35 l_k28; rw [← h_k64]; exact h
  have l_k67 : k67 < 115792089237316195423570985008687907853269984665640564039457584007913129639936 := h_k67 ▸ mulp_lt _ _
  have c_k67 : ∀ W : World, Calls Try.prog 20 #[.agg (bvc k18).toArray, .agg (bvc k61).toArray] W fun e w' => e = .returned (.agg (bvc k67).toArray) ∧ Below W.heap.size W w' := fun W => by have h := mul_any k18 k61 W l_k18 l_k61; rw [← h_k67]; exact h
  have l_k69 : k69 < 115792089237316195423570985008687907853269984665640564039457584007913129639936 := h_k69 ▸ mulp_lt _ _
  have c_k69 : ∀ W : World, Calls Try.prog 20 #[.agg (bvc k67).toArray, .agg (bvc k46).toArray] W fun e w' => e = .returned (.agg (bvc k69).toArray) ∧ Below W.heap.size W w' := fun W => by have h := mul_any k67 k46 W l_k67 l_k46; rw [← h_k69]; exact h
  have l_k72 : k72 < 115792089237316195423570985008687907853269984665640564039457584007913129639936 := h_k72 ▸ mulp_lt _ _
  have c_k72 : ∀ W : World, Calls Try.prog 20 #[.agg (bvc k18).toArray, .agg (bvc k64).toArray] W fun e w' => e = .returned (.agg (bvc k72).toArray) ∧ Below W.heap.size W w' := fun W => by have h := mul_any k18 k64 W l_k18 l_k64; rw [← h_k72]; exact h
  have l_k74 : k74 < 115792089237316195423570985008687907853269984665640564039457584007913129639936 := h_k74 ▸ mulp_lt _ _
  have c_k74 : ∀ W : World, Calls Try.prog 20 #[.agg (bvc k72).toArray, .agg (bvc k43).toArray] W fun e w' => e = .returned (.agg (bvc k74).toArray) ∧ Below W.heap.size W w' := fun W => by have h := mul_any k72 k43 W l_k72 l_k43; rw [← h_k74]; exact h
  have l_k78 : k78 < 115792089237316195423570985008687907853269984665640564039457584007913129639936 := h_k78 ▸ mulp_lt _ _
  have c_k78 : ∀ W : World, Calls Try.prog 20 #[.agg (bvc k43).toArray, .agg (bvc k46).toArray] W fun e w' => e = .returned (.agg (bvc k78).toArray) ∧ Below W.heap.size W w' := fun W => by have h := mul_any k43 k46 W l_k43 l_k46; rw [← h_k78]; exact h
  clear h_k18 h_k21 h_k28 h_k35 h_k36 h_k39 h_k40 h_k43 h_k46 h_k53 h_k60 h_k61 h_k64 h_k67 h_k69 h_k72 h_k74 h_k78 l_a0 l_a1 l_a2 l_b0 l_b1 l_b2 l_k18 l_k21 l_k28 l_k35 l_k36 l_k39 l_k40 l_k43 l_k46 l_k53 l_k60 l_k61 l_k64 l_k67 l_k69 l_k72 l_k74 l_k78
  unfold fv
  have LA0 : Hid (L32 (bvc a0)) := l32 a0
  have LA1 : Hid (L32 (bvc a1)) := l32 a1
  have LA2 : Hid (L32 (bvc a2)) := l32 a2
  have LB0 : Hid (L32 (bvc b0)) := l32 b0
  have LB1 : Hid (L32 (bvc b1)) := l32 b1
  have LB2 : Hid (L32 (bvc b2)) := l32 b2
  have LK18 : Hid (L32 (bvc k18)) := l32 k18
  have LK21 : Hid (L32 (bvc k21)) := l32 k21
  have LK28 : Hid (L32 (bvc k28)) := l32 k28
  have LK35 : Hid (L32 (bvc k35)) := l32 k35
  have LK36 : Hid (L32 (bvc k36)) := l32 k36
  have LK39 : Hid (L32 (bvc k39)) := l32 k39
  have LK40 : Hid (L32 (bvc k40)) := l32 k40
  have LK43 : Hid (L32 (bvc k43)) := l32 k43
  have LK46 : Hid (L32 (bvc k46)) := l32 k46
  have LK53 : Hid (L32 (bvc k53)) := l32 k53
  have LK60 : Hid (L32 (bvc k60)) := l32 k60
  have LK61 : Hid (L32 (bvc k61)) := l32 k61
  have LK64 : Hid (L32 (bvc k64)) := l32 k64
  have LK67 : Hid (L32 (bvc k67)) := l32 k67
  have LK69 : Hid (L32 (bvc k69)) := l32 k69
  have LK72 : Hid (L32 (bvc k72)) := l32 k72
  have LK74 : Hid (L32 (bvc k74)) := l32 k74
  have LK78 : Hid (L32 (bvc k78)) := l32 k78
  obtain ⟨A0, hA0⟩ : ∃ Z, bvc a0 = Z := ⟨_, rfl⟩
  obtain ⟨A1, hA1⟩ : ∃ Z, bvc a1 = Z := ⟨_, rfl⟩
  obtain ⟨A2, hA2⟩ : ∃ Z, bvc a2 = Z := ⟨_, rfl⟩
  obtain ⟨B0, hB0⟩ : ∃ Z, bvc b0 = Z := ⟨_, rfl⟩
  obtain ⟨B1, hB1⟩ : ∃ Z, bvc b1 = Z := ⟨_, rfl⟩
  obtain ⟨B2, hB2⟩ : ∃ Z, bvc b2 = Z := ⟨_, rfl⟩
  obtain ⟨K18, hK18⟩ : ∃ Z, bvc k18 = Z := ⟨_, rfl⟩
  obtain ⟨K21, hK21⟩ : ∃ Z, bvc k21 = Z := ⟨_, rfl⟩
  obtain ⟨K28, hK28⟩ : ∃ Z, bvc k28 = Z := ⟨_, rfl⟩
  obtain ⟨K35, hK35⟩ : ∃ Z, bvc k35 = Z := ⟨_, rfl⟩
  obtain ⟨K36, hK36⟩ : ∃ Z, bvc k36 = Z := ⟨_, rfl⟩
  obtain ⟨K39, hK39⟩ : ∃ Z, bvc k39 = Z := ⟨_, rfl⟩
  obtain ⟨K40, hK40⟩ : ∃ Z, bvc k40 = Z := ⟨_, rfl⟩
  obtain ⟨K43, hK43⟩ : ∃ Z, bvc k43 = Z := ⟨_, rfl⟩
  obtain ⟨K46, hK46⟩ : ∃ Z, bvc k46 = Z := ⟨_, rfl⟩
  obtain ⟨K53, hK53⟩ : ∃ Z, bvc k53 = Z := ⟨_, rfl⟩
  obtain ⟨K60, hK60⟩ : ∃ Z, bvc k60 = Z := ⟨_, rfl⟩
  obtain ⟨K61, hK61⟩ : ∃ Z, bvc k61 = Z := ⟨_, rfl⟩
  obtain ⟨K64, hK64⟩ : ∃ Z, bvc k64 = Z := ⟨_, rfl⟩
  obtain ⟨K67, hK67⟩ : ∃ Z, bvc k67 = Z := ⟨_, rfl⟩
  obtain ⟨K69, hK69⟩ : ∃ Z, bvc k69 = Z := ⟨_, rfl⟩
  obtain ⟨K72, hK72⟩ : ∃ Z, bvc k72 = Z := ⟨_, rfl⟩
  obtain ⟨K74, hK74⟩ : ∃ Z, bvc k74 = Z := ⟨_, rfl⟩
  obtain ⟨K78, hK78⟩ : ∃ Z, bvc k78 = Z := ⟨_, rfl⟩
  rw [hA0] at LA0 c_k28 c_k53
  rw [hA1] at LA1 c_k35 c_k60
  rw [hA2] at LA2 c_k18
  rw [hB0] at LB0 c_k28 c_k60
  rw [hB1] at LB1 c_k35 c_k53
  rw [hB2] at LB2 c_k18
  rw [hK18] at LK18 c_k18 c_k21 c_k67 c_k72
  rw [hK21] at LK21 c_k21 c_k43 c_k46
  rw [hK28] at LK28 c_k28 c_k39 c_k64
  rw [hK35] at LK35 c_k35 c_k39 c_k64
  rw [hK36] at LK36 c_k36 c_k40
  rw [hK39] at LK39 c_k39 c_k40
  rw [hK40] at LK40 c_k40 c_k43 c_k46
  rw [hK43] at LK43 c_k43 c_k74 c_k78
  rw [hK46] at LK46 c_k46 c_k69 c_k78
  rw [hK53] at LK53 c_k53 c_k61
  rw [hK60] at LK60 c_k60 c_k61
  rw [hK61] at LK61 c_k61 c_k67
  rw [hK64] at LK64 c_k64 c_k72
  rw [hK67] at LK67 c_k67 c_k69
  rw [hK69] at LK69 c_k69
  rw [hK72] at LK72 c_k72 c_k74
  rw [hK74] at LK74 c_k74
  rw [hK78] at LK78 c_k78
  rw [hA0, hA1, hA2, hB0, hB1, hB2, hK69, hK74, hK78]
  clear hA0 hA1 hA2 hB0 hB1 hB2 hK18 hK21 hK28 hK35 hK36 hK39 hK40 hK43 hK46 hK53 hK60 hK61 hK64 hK67 hK69 hK72 hK74 hK78 a0 a1 a2 b0 b1 b2 k18 k21 k28 k35 k36 k39 k40 k43 k46 k53 k60 k61 k64 k67 k69 k72 k74 k78
  have HBP : Hid (Try.prog.built 43 [(0, .agg K69.toArray), (1, .agg K74.toArray)] = some (K69 ++ K74).toArray) := build_point K69 K74 LK69.out.l LK74.out.l
  have HBF : Hid (Try.prog.built 84 [(0, .agg (K69 ++ K74).toArray), (1, .agg K78.toArray)] = some ((K69 ++ K74) ++ K78).toArray) := build_frac (K69 ++ K74) K78 (by rw [List.length_append, LK69.out.l, LK74.out.l]) LK78.out.l
  have HVL : Hid (((K69 ++ K74) ++ K78).length = 96) := by show _ = _; rw [List.length_append, List.length_append, LK69.out.l, LK74.out.l, LK78.out.l]
  have HVO : Hid (((K69 ++ K74) ++ K78).toArray.all (·.oneCell') = true) := one_app (one_app LK69.out.o LK74.out.o) LK78.out.o
  obtain ⟨VP, hVP⟩ : ∃ V, K69 ++ K74 = V := ⟨_, rfl⟩
  rw [hVP] at HBP HBF HVL HVO ⊢
  obtain ⟨VF, hVF⟩ : ∃ V, VP ++ K78 = V := ⟨_, rfl⟩
  rw [hVF] at HBF HVL HVO ⊢
  clear hVP hVF
  have HS0 := (show Hid _ from start2 w A0 A1 A2 B0 B1 B2 LA0.out.l LA1.out.l LB0.out.l LB1.out.l)
  have hz := zero22
  have HBN : Hid (∀ (W : World) (R : List Value), R.length = 32 → Bo ((W.alloc (.cells z22 22)).setCells W.heap.size 0 R) W.heap.size R ∧ Below W.heap.size W ((W.alloc (.cells z22 22)).setCells W.heap.size 0 R)) := box_new
  have HLT : Hid (∀ (R : List Value), L32 R → ∀ W : World, (W.alloc (.cells z22 22)).there W.heap.size 0 R.toArray.size) := fun R h => h.t
  obtain ⟨Z, hZ⟩ : ∃ Z, z22 = Z := ⟨_, rfl⟩
  rw [hZ] at hz HBN HLT
  clear hZ
  have hz2 := zero84
  obtain ⟨Z2, hZ2⟩ : ∃ Z, z84 = Z := ⟨_, rfl⟩
  rw [hZ2] at hz2 HS0
  clear hZ2
  obtain ⟨VA, hVA⟩ : ∃ V, (A0 ++ A1) ++ A2 = V := ⟨_, rfl⟩
  obtain ⟨VB, hVB⟩ : ∃ V, (B0 ++ B1) ++ B2 = V := ⟨_, rfl⟩
  rw [hVA, hVB] at HS0 ⊢
  clear hVA hVB
  obtain ⟨n, hn⟩ : ∃ n, w.heap.size = n := ⟨_, rfl⟩
  have HN : Hid (w.heap.size = n) := hn
  have HS1 : Hid (Rp (((w.alloc (.cells VA.toArray 84)).alloc (.cells VB.toArray 84)).alloc (.cells Z2 84)) n 0 A0 ∧ Rp (((w.alloc (.cells VA.toArray 84)).alloc (.cells VB.toArray 84)).alloc (.cells Z2 84)) n 32 A1 ∧ Rp (((w.alloc (.cells VA.toArray 84)).alloc (.cells VB.toArray 84)).alloc (.cells Z2 84)) n 64 A2 ∧ Rp (((w.alloc (.cells VA.toArray 84)).alloc (.cells VB.toArray 84)).alloc (.cells Z2 84)) (n + 1) 0 B0 ∧ Rp (((w.alloc (.cells VA.toArray 84)).alloc (.cells VB.toArray 84)).alloc (.cells Z2 84)) (n + 1) 32 B1 ∧ Rp (((w.alloc (.cells VA.toArray 84)).alloc (.cells VB.toArray 84)).alloc (.cells Z2 84)) (n + 1) 64 B2 ∧ Ao w.heap.size (((w.alloc (.cells VA.toArray 84)).alloc (.cells VB.toArray 84)).alloc (.cells Z2 84)) (n + 2) 96 ∧ Below w.heap.size w (((w.alloc (.cells VA.toArray 84)).alloc (.cells VB.toArray 84)).alloc (.cells Z2 84))) := by
    have h := HS0.out
    rw [HN.out] at h
    show _ ∧ _
    rw [HN.out]
    exact h
  clear HS0
  have Pn_0_0 := (show Hid (Rp (((w.alloc (.cells VA.toArray 84)).alloc (.cells VB.toArray 84)).alloc (.cells Z2 84)) n 0 A0) from HS1.out.1)
  have Pn_32_0 := (show Hid (Rp (((w.alloc (.cells VA.toArray 84)).alloc (.cells VB.toArray 84)).alloc (.cells Z2 84)) n 32 A1) from HS1.out.2.1)
  have Pn_64_0 := (show Hid (Rp (((w.alloc (.cells VA.toArray 84)).alloc (.cells VB.toArray 84)).alloc (.cells Z2 84)) n 64 A2) from HS1.out.2.2.1)
  have Pn_1_0_0 := (show Hid (Rp (((w.alloc (.cells VA.toArray 84)).alloc (.cells VB.toArray 84)).alloc (.cells Z2 84)) (n + 1) 0 B0) from HS1.out.2.2.2.1)
  have Pn_1_32_0 := (show Hid (Rp (((w.alloc (.cells VA.toArray 84)).alloc (.cells VB.toArray 84)).alloc (.cells Z2 84)) (n + 1) 32 B1) from HS1.out.2.2.2.2.1)
  have Pn_1_64_0 := (show Hid (Rp (((w.alloc (.cells VA.toArray 84)).alloc (.cells VB.toArray 84)).alloc (.cells Z2 84)) (n + 1) 64 B2) from HS1.out.2.2.2.2.2.1)
  have AN_0 := (show Hid (Ao w.heap.size (((w.alloc (.cells VA.toArray 84)).alloc (.cells VB.toArray 84)).alloc (.cells Z2 84)) (n + 2) 96) from HS1.out.2.2.2.2.2.2.1)
  have HB_0 := (show Hid (Below w.heap.size w (((w.alloc (.cells VA.toArray 84)).alloc (.cells VB.toArray 84)).alloc (.cells Z2 84))) from HS1.out.2.2.2.2.2.2.2)
  have TK_0 := (show Hid True from trivial)
  clear HS1
  go_enter Try.func81, Try.ntmps81
  go_wp2_with (first
    | (refine wpList_load_mid rfl 22 (.tmp 14) rfl n 64 rfl A2 _ Pn_64_0.out.1 Try.underlying22 rfl LA2.out.i ?_)
    | (refine wpList_load_mid rfl 22 (.tmp 16) rfl (n + 1) 64 rfl B2 _ Pn_1_64_0.out.1 Try.underlying22 rfl LB2.out.i ?_)
    | (refine wpList_load_mid rfl 22 (.tmp 5) rfl b5 0 rfl K18 _ Pb5_0_2.out.1 Try.underlying22 rfl LK18.out.i ?_)
    | (refine wpList_load_mid rfl 22 (.tmp 5) rfl b5 0 rfl K18 _ Pb5_0_2.out.1 Try.underlying22 rfl LK18.out.i ?_)
    | (have hq := TK_0; go_at_call 20; refine (c_k18 _).mono ?_; rintro e wv1 ⟨rfl, hb⟩; have HB_1 := (show Hid (Below w.heap.size w wv1) from HB_0.out.trans (hb.mono HB_0.out.size)); have Pn_0_1 := (show Hid (Rp wv1 n 0 A0) from Pn_0_0.out.below hb); have Pn_32_1 := (show Hid (Rp wv1 n 32 A1) from Pn_32_0.out.below hb); have Pn_64_1 := (show Hid (Rp wv1 n 64 A2) from Pn_64_0.out.below hb); have Pn_1_0_1 := (show Hid (Rp wv1 (n + 1) 0 B0) from Pn_1_0_0.out.below hb); have Pn_1_32_1 := (show Hid (Rp wv1 (n + 1) 32 B1) from Pn_1_32_0.out.below hb); have Pn_1_64_1 := (show Hid (Rp wv1 (n + 1) 64 B2) from Pn_1_64_0.out.below hb); have AN_1 := (show Hid (Ao w.heap.size wv1 (n + 2) 96) from AN_0.out.below hb); clear HB_0 AN_0 Pn_0_0 Pn_32_0 Pn_64_0 Pn_1_0_0 Pn_1_32_0 Pn_1_64_0 hb; have TK_1 := (show Hid True from trivial); clear hq TK_0)
    | (have hq := TK_1; refine wpList_store_mid rfl 22 (.tmp 5) (.tmp 18) rfl wv1.heap.size 0 K18.toArray rfl rfl (HLT.out K18 LK18.out wv1) LK18.out.j LK18.out.o ?_; simp only [Act.put]; have hbx := HBN.out wv1 K18 LK18.out.l; obtain ⟨wv2, hwv2⟩ : ∃ v, (wv1.alloc (.cells Z 22)).setCells wv1.heap.size 0 K18 = v := ⟨_, rfl⟩; rw [hwv2] at hbx ⊢; clear hwv2; have hb := hbx.2; replace hbx := hbx.1; obtain ⟨b5, hb5⟩ : ∃ b, wv1.heap.size = b := ⟨_, rfl⟩; rw [hb5] at hbx ⊢; clear hb5; have HB_2 := (show Hid (Below w.heap.size w wv2) from HB_1.out.trans (hb.mono HB_1.out.size)); have Pn_0_2 := (show Hid (Rp wv2 n 0 A0) from Pn_0_1.out.below hb); have Pn_32_2 := (show Hid (Rp wv2 n 32 A1) from Pn_32_1.out.below hb); have Pn_64_2 := (show Hid (Rp wv2 n 64 A2) from Pn_64_1.out.below hb); have Pn_1_0_2 := (show Hid (Rp wv2 (n + 1) 0 B0) from Pn_1_0_1.out.below hb); have Pn_1_32_2 := (show Hid (Rp wv2 (n + 1) 32 B1) from Pn_1_32_1.out.below hb); have Pn_1_64_2 := (show Hid (Rp wv2 (n + 1) 64 B2) from Pn_1_64_1.out.below hb); have AN_2 := (show Hid (Ao w.heap.size wv2 (n + 2) 96) from AN_1.out.below hb); have Pb5_0_2 := (show Hid (Rp wv2 b5 0 K18) from hbx.rp); clear HB_1 AN_1 Pn_0_1 Pn_32_1 Pn_64_1 Pn_1_0_1 Pn_1_32_1 Pn_1_64_1 hb; have TK_2 := (show Hid True from trivial); clear hq TK_1 hbx)
    | (have hq := TK_2; go_at_call 20; refine (c_k21 _).mono ?_; rintro e wv3 ⟨rfl, hb⟩; have HB_3 := (show Hid (Below w.heap.size w wv3) from HB_2.out.trans (hb.mono HB_2.out.size)); have Pn_0_3 := (show Hid (Rp wv3 n 0 A0) from Pn_0_2.out.below hb); have Pn_32_3 := (show Hid (Rp wv3 n 32 A1) from Pn_32_2.out.below hb); have Pn_64_3 := (show Hid (Rp wv3 n 64 A2) from Pn_64_2.out.below hb); have Pn_1_0_3 := (show Hid (Rp wv3 (n + 1) 0 B0) from Pn_1_0_2.out.below hb); have Pn_1_32_3 := (show Hid (Rp wv3 (n + 1) 32 B1) from Pn_1_32_2.out.below hb); have Pn_1_64_3 := (show Hid (Rp wv3 (n + 1) 64 B2) from Pn_1_64_2.out.below hb); have Pb5_0_3 := (show Hid (Rp wv3 b5 0 K18) from Pb5_0_2.out.below hb); have AN_3 := (show Hid (Ao w.heap.size wv3 (n + 2) 96) from AN_2.out.below hb); clear HB_2 AN_2 Pn_0_2 Pn_32_2 Pn_64_2 Pn_1_0_2 Pn_1_32_2 Pn_1_64_2 Pb5_0_2 hb; have TK_3 := (show Hid True from trivial); clear hq TK_2)
    | (have hq := TK_3; refine wpList_store_mid rfl 22 (.tmp 6) (.tmp 21) rfl wv3.heap.size 0 K21.toArray rfl rfl (HLT.out K21 LK21.out wv3) LK21.out.j LK21.out.o ?_; simp only [Act.put]; have hbx := HBN.out wv3 K21 LK21.out.l; obtain ⟨wv4, hwv4⟩ : ∃ v, (wv3.alloc (.cells Z 22)).setCells wv3.heap.size 0 K21 = v := ⟨_, rfl⟩; rw [hwv4] at hbx ⊢; clear hwv4; have hb := hbx.2; replace hbx := hbx.1; obtain ⟨b6, hb6⟩ : ∃ b, wv3.heap.size = b := ⟨_, rfl⟩; rw [hb6] at hbx ⊢; clear hb6; have HB_4 := (show Hid (Below w.heap.size w wv4) from HB_3.out.trans (hb.mono HB_3.out.size)); have Pn_0_4 := (show Hid (Rp wv4 n 0 A0) from Pn_0_3.out.below hb); have Pn_32_4 := (show Hid (Rp wv4 n 32 A1) from Pn_32_3.out.below hb); have Pn_64_4 := (show Hid (Rp wv4 n 64 A2) from Pn_64_3.out.below hb); have Pn_1_0_4 := (show Hid (Rp wv4 (n + 1) 0 B0) from Pn_1_0_3.out.below hb); have Pn_1_32_4 := (show Hid (Rp wv4 (n + 1) 32 B1) from Pn_1_32_3.out.below hb); have Pn_1_64_4 := (show Hid (Rp wv4 (n + 1) 64 B2) from Pn_1_64_3.out.below hb); have Pb5_0_4 := (show Hid (Rp wv4 b5 0 K18) from Pb5_0_3.out.below hb); have AN_4 := (show Hid (Ao w.heap.size wv4 (n + 2) 96) from AN_3.out.below hb); have Pb6_0_4 := (show Hid (Rp wv4 b6 0 K21) from hbx.rp); clear HB_3 AN_3 Pn_0_3 Pn_32_3 Pn_64_3 Pn_1_0_3 Pn_1_32_3 Pn_1_64_3 Pb5_0_3 hb; have TK_4 := (show Hid True from trivial); clear hq TK_3 hbx))
  apply region_float (N := wv4.heap.size) (W := wv4) (ty := 22) [7, 8] 16 16 (by kernel_rfl) (Below.refl _ _) (Nat.le_refl _) alloc22 there22
  case hl => simp only [List.take_succ_cons, List.take_zero]; rfl
  case ht => simp only [List.drop_succ_cons, List.drop_zero]; rfl
  case hB => kernel_rfl
  case hT => kernel_rfl
  case hF => kernel_rfl
  case hS => kernel_rfl
  case h =>
    apply Exists.intro
    constructor
    case left =>
      intro N2 W2 q1 q2 q3
      have HQPn_0 := (show Hid _ from Pn_0_4.out.cl2 q1 q2)
      have HQPn_1_0 := (show Hid _ from Pn_1_0_4.out.cl2 q1 q2)
      have HQPn_32 := (show Hid _ from Pn_32_4.out.cl2 q1 q2)
      have HQPn_1_32 := (show Hid _ from Pn_1_32_4.out.cl2 q1 q2)
      have hne := Cl.ne N2 W2
      have HC1 : Hid (N2 ≤ W2.heap.size) := q3
      clear q1 q2 q3
      simp only [List.map_cons, List.map_nil, hush, isAl, beq_self_eq_true, if_true, Bool.false_eq_true, if_false]
      go_big_quiet_step (fail)
      go_big_quiet_step (fail)
      go_big_quiet_want
      refine quiet_load 22 _ rfl n 0 rfl A0 _ HQPn_0.out Try.underlying22 rfl LA0.out.i ?_
      simp only [Act.put, List.setIfInBounds_toArray, List.set_cons_zero, List.set_cons_succ]
      go_big_quiet_on
      go_big_quiet_step (fail)
      go_big_quiet_step (fail)
      go_big_quiet_want
      refine quiet_load 22 _ rfl (n + 1) 0 rfl B0 _ HQPn_1_0.out Try.underlying22 rfl LB0.out.i ?_
      simp only [Act.put, List.setIfInBounds_toArray, List.set_cons_zero, List.set_cons_succ]
      go_big_quiet_on
      go_big_quiet_step ((go_at_call 20; exact cl_of (c_k28 _) HC1.out))
      go_big_quiet_step (fail)
      go_big_quiet_step (fail)
      go_big_quiet_want
      refine quiet_load 22 _ rfl n 32 rfl A1 _ HQPn_32.out Try.underlying22 rfl LA1.out.i ?_
      simp only [Act.put, List.setIfInBounds_toArray, List.set_cons_zero, List.set_cons_succ]
      go_big_quiet_on
      go_big_quiet_step (fail)
      go_big_quiet_step (fail)
      go_big_quiet_want
      refine quiet_load 22 _ rfl (n + 1) 32 rfl B1 _ HQPn_1_32.out Try.underlying22 rfl LB1.out.i ?_
      simp only [Act.put, List.setIfInBounds_toArray, List.set_cons_zero, List.set_cons_succ]
      go_big_quiet_on
      go_big_quiet_step ((go_at_call 20; exact cl_of (c_k35 _) HC1.out))
      go_big_quiet_step (fail)
      go_big_quiet_step (fail)
      refine wpQuiet_nil ?_
      rfl
    case right =>
      intro g wv5 hb hf hd
      have h7 := hf 7 (by decide)
      have h8 := hf 8 (by decide)
      have hne := hd 7 (by decide) 8 (by decide) (by decide)
      clear hf hd
      simp only [putsT, List.foldl_cons, List.foldl_nil, Act.put, List.setIfInBounds_toArray, List.set_cons_zero, List.set_cons_succ]
      obtain ⟨b7, hb7⟩ : ∃ b, g 7 = b := ⟨_, rfl⟩
      rw [hb7] at h7 hne ⊢
      obtain ⟨b8, hb8⟩ : ∃ b, g 8 = b := ⟨_, rfl⟩
      rw [hb8] at h8 hne ⊢
      clear hb7 hb8 g
      have HT := (show Hid _ from two_boxes hb h7 h8 hne LK28.out.l LK35.out.l)
      have HT1 : Hid (wv5.there b7 0 K28.toArray.size) := by show World.there _ _ _ _; rw [List.size_toArray, LK28.out.l]; exact h7.2.2
      have HT2 : Hid ((wv5.setCells b7 0 K28).there b8 0 K35.toArray.size) := by show World.there _ _ _ _; rw [List.size_toArray, LK35.out.l]; exact World.there_setCells h8.2.2 _ _ _
      clear h7 h8 hne hb
      go_wp2_with (first
        | (refine wpList_store_mid rfl 22 (.tmp 7) (.tmp 28) rfl b7 0 K28.toArray rfl rfl HT1.out LK28.out.j LK28.out.o ?_; simp only)
        | (refine wpList_store_mid rfl 22 (.tmp 8) (.tmp 35) rfl b8 0 K35.toArray rfl rfl HT2.out LK35.out.j LK35.out.o ?_; simp only [Act.put]; obtain ⟨wv6, hwv6⟩ : ∃ v, (wv5.setCells b7 0 K28).setCells b8 0 K35 = v := ⟨_, rfl⟩; rw [hwv6] at HT ⊢; clear hwv6; have hb := HT.out.2.2; have HB_5 := (show Hid (Below w.heap.size w wv6) from HB_4.out.trans (hb.mono HB_4.out.size)); have Pn_0_5 := (show Hid (Rp wv6 n 0 A0) from Pn_0_4.out.below hb); have Pn_32_5 := (show Hid (Rp wv6 n 32 A1) from Pn_32_4.out.below hb); have Pn_64_5 := (show Hid (Rp wv6 n 64 A2) from Pn_64_4.out.below hb); have Pn_1_0_5 := (show Hid (Rp wv6 (n + 1) 0 B0) from Pn_1_0_4.out.below hb); have Pn_1_32_5 := (show Hid (Rp wv6 (n + 1) 32 B1) from Pn_1_32_4.out.below hb); have Pn_1_64_5 := (show Hid (Rp wv6 (n + 1) 64 B2) from Pn_1_64_4.out.below hb); have Pb5_0_5 := (show Hid (Rp wv6 b5 0 K18) from Pb5_0_4.out.below hb); have Pb6_0_5 := (show Hid (Rp wv6 b6 0 K21) from Pb6_0_4.out.below hb); have AN_5 := (show Hid (Ao w.heap.size wv6 (n + 2) 96) from AN_4.out.below hb); have Pb7_0_5 := (show Hid (Rp wv6 b7 0 K28) from (HT.out.1).rp); have Pb8_0_5 := (show Hid (Rp wv6 b8 0 K35) from (HT.out.2.1).rp); clear HB_4 AN_4 Pn_0_4 Pn_32_4 Pn_64_4 Pn_1_0_4 Pn_1_32_4 Pn_1_64_4 Pb5_0_4 Pb6_0_4 hb; have TK_5 := (show Hid True from trivial); clear TK_4 HT HT1 HT2 wv5))
      apply region_float (N := wv6.heap.size) (W := wv6) (ty := 22) [9] 6 6 (by kernel_rfl) (Below.refl _ _) (Nat.le_refl _) alloc22 there22
      case hl => simp only [List.take_succ_cons, List.take_zero]; rfl
      case ht => simp only [List.drop_succ_cons, List.drop_zero]; rfl
      case hB => kernel_rfl
      case hT => kernel_rfl
      case hF => kernel_rfl
      case hS => kernel_rfl
      case h =>
        apply Exists.intro
        constructor
        case left =>
          intro N2 W2 q1 q2 q3
          have HQPb7_0 := (show Hid _ from Pb7_0_5.out.cl2 q1 q2)
          have HQPb8_0 := (show Hid _ from Pb8_0_5.out.cl2 q1 q2)
          have hne := Cl.ne N2 W2
          have HC1 : Hid (N2 ≤ W2.heap.size) := q3
          clear q1 q2 q3
          simp only [List.map_cons, List.map_nil, hush, isAl, beq_self_eq_true, if_true, Bool.false_eq_true, if_false]
          go_big_quiet_step ((go_at_call 76; exact cl_of (c_k36 _) HC1.out))
          go_big_quiet_want
          refine quiet_load 22 _ rfl b7 0 rfl K28 _ HQPb7_0.out Try.underlying22 rfl LK28.out.i ?_
          simp only [Act.put, List.setIfInBounds_toArray, List.set_cons_zero, List.set_cons_succ]
          go_big_quiet_on
          go_big_quiet_want
          refine quiet_load 22 _ rfl b8 0 rfl K35 _ HQPb8_0.out Try.underlying22 rfl LK35.out.i ?_
          simp only [Act.put, List.setIfInBounds_toArray, List.set_cons_zero, List.set_cons_succ]
          go_big_quiet_on
          go_big_quiet_step ((go_at_call 20; exact cl_of (c_k39 _) HC1.out))
          go_big_quiet_step ((go_at_call 20; exact cl_of (c_k40 _) HC1.out))
          go_big_quiet_step (fail)
          refine wpQuiet_nil ?_
          rfl
        case right =>
          intro g wv7 hb hf hd
          have h9 := hf 9 (by decide)
          clear hf hd
          simp only [putsT, List.foldl_cons, List.foldl_nil, Act.put, List.setIfInBounds_toArray, List.set_cons_zero, List.set_cons_succ]
          obtain ⟨b9, hb9⟩ : ∃ b, g 9 = b := ⟨_, rfl⟩
          rw [hb9] at h9 ⊢
          clear hb9 g
          have HT := (show Hid _ from one_box hb h9 LK40.out.l)
          have HT1 : Hid (wv7.there b9 0 K40.toArray.size) := by show World.there _ _ _ _; rw [List.size_toArray, LK40.out.l]; exact h9.2.2
          clear h9 hb
          go_wp2_with (first
            | (have hq := HT1; clear hq; refine wpList_store_mid rfl 22 (.tmp 9) (.tmp 40) rfl b9 0 K40.toArray rfl rfl HT1.out LK40.out.j LK40.out.o ?_; simp only [Act.put]; obtain ⟨wv8, hwv8⟩ : ∃ v, wv7.setCells b9 0 K40 = v := ⟨_, rfl⟩; rw [hwv8] at HT ⊢; clear hwv8; have hb := HT.out.2; have HB_6 := (show Hid (Below w.heap.size w wv8) from HB_5.out.trans (hb.mono HB_5.out.size)); have Pn_0_6 := (show Hid (Rp wv8 n 0 A0) from Pn_0_5.out.below hb); have Pn_32_6 := (show Hid (Rp wv8 n 32 A1) from Pn_32_5.out.below hb); have Pn_64_6 := (show Hid (Rp wv8 n 64 A2) from Pn_64_5.out.below hb); have Pn_1_0_6 := (show Hid (Rp wv8 (n + 1) 0 B0) from Pn_1_0_5.out.below hb); have Pn_1_32_6 := (show Hid (Rp wv8 (n + 1) 32 B1) from Pn_1_32_5.out.below hb); have Pn_1_64_6 := (show Hid (Rp wv8 (n + 1) 64 B2) from Pn_1_64_5.out.below hb); have Pb5_0_6 := (show Hid (Rp wv8 b5 0 K18) from Pb5_0_5.out.below hb); have Pb6_0_6 := (show Hid (Rp wv8 b6 0 K21) from Pb6_0_5.out.below hb); have Pb7_0_6 := (show Hid (Rp wv8 b7 0 K28) from Pb7_0_5.out.below hb); have Pb8_0_6 := (show Hid (Rp wv8 b8 0 K35) from Pb8_0_5.out.below hb); have AN_6 := (show Hid (Ao w.heap.size wv8 (n + 2) 96) from AN_5.out.below hb); have Pb9_0_6 := (show Hid (Rp wv8 b9 0 K40) from (HT.out.1).rp); clear HB_5 AN_5 Pn_0_5 Pn_32_5 Pn_64_5 Pn_1_0_5 Pn_1_32_5 Pn_1_64_5 Pb5_0_5 Pb6_0_5 Pb7_0_5 Pb8_0_5 hb; have TK_6 := (show Hid True from trivial); clear TK_5 HT HT1 wv7))
          apply region_float (N := wv8.heap.size) (W := wv8) (ty := 22) [10, 11] 8 8 (by kernel_rfl) (Below.refl _ _) (Nat.le_refl _) alloc22 there22
          case hl => simp only [List.take_succ_cons, List.take_zero]; rfl
          case ht => simp only [List.drop_succ_cons, List.drop_zero]; rfl
          case hB => kernel_rfl
          case hT => kernel_rfl
          case hF => kernel_rfl
          case hS => kernel_rfl
          case h =>
            apply Exists.intro
            constructor
            case left =>
              intro N2 W2 q1 q2 q3
              have HQPb6_0 := (show Hid _ from Pb6_0_6.out.cl2 q1 q2)
              have HQPb9_0 := (show Hid _ from Pb9_0_6.out.cl2 q1 q2)
              have hne := Cl.ne N2 W2
              have HC1 : Hid (N2 ≤ W2.heap.size) := q3
              clear q1 q2 q3
              simp only [List.map_cons, List.map_nil, hush, isAl, beq_self_eq_true, if_true, Bool.false_eq_true, if_false]
              go_big_quiet_want
              refine quiet_load 22 _ rfl b6 0 rfl K21 _ HQPb6_0.out Try.underlying22 rfl LK21.out.i ?_
              simp only [Act.put, List.setIfInBounds_toArray, List.set_cons_zero, List.set_cons_succ]
              go_big_quiet_on
              go_big_quiet_want
              refine quiet_load 22 _ rfl b9 0 rfl K40 _ HQPb9_0.out Try.underlying22 rfl LK40.out.i ?_
              simp only [Act.put, List.setIfInBounds_toArray, List.set_cons_zero, List.set_cons_succ]
              go_big_quiet_on
              go_big_quiet_step ((go_at_call 15; exact cl_of (c_k43 _) HC1.out))
              go_big_quiet_want
              refine quiet_load 22 _ rfl b6 0 rfl K21 _ HQPb6_0.out Try.underlying22 rfl LK21.out.i ?_
              simp only [Act.put, List.setIfInBounds_toArray, List.set_cons_zero, List.set_cons_succ]
              go_big_quiet_on
              go_big_quiet_want
              refine quiet_load 22 _ rfl b9 0 rfl K40 _ HQPb9_0.out Try.underlying22 rfl LK40.out.i ?_
              simp only [Act.put, List.setIfInBounds_toArray, List.set_cons_zero, List.set_cons_succ]
              go_big_quiet_on
              go_big_quiet_step ((go_at_call 18; exact cl_of (c_k46 _) HC1.out))
              go_big_quiet_step (fail)
              go_big_quiet_step (fail)
              refine wpQuiet_nil ?_
              rfl
            case right =>
              intro g wv9 hb hf hd
              have h10 := hf 10 (by decide)
              have h11 := hf 11 (by decide)
              have hne := hd 10 (by decide) 11 (by decide) (by decide)
              clear hf hd
              simp only [putsT, List.foldl_cons, List.foldl_nil, Act.put, List.setIfInBounds_toArray, List.set_cons_zero, List.set_cons_succ]
              obtain ⟨b10, hb10⟩ : ∃ b, g 10 = b := ⟨_, rfl⟩
              rw [hb10] at h10 hne ⊢
              obtain ⟨b11, hb11⟩ : ∃ b, g 11 = b := ⟨_, rfl⟩
              rw [hb11] at h11 hne ⊢
              clear hb10 hb11 g
              have HT := (show Hid _ from two_boxes hb h10 h11 hne LK43.out.l LK46.out.l)
              have HT1 : Hid (wv9.there b10 0 K43.toArray.size) := by show World.there _ _ _ _; rw [List.size_toArray, LK43.out.l]; exact h10.2.2
              have HT2 : Hid ((wv9.setCells b10 0 K43).there b11 0 K46.toArray.size) := by show World.there _ _ _ _; rw [List.size_toArray, LK46.out.l]; exact World.there_setCells h11.2.2 _ _ _
              clear h10 h11 hne hb
              go_wp2_with (first
                | (refine wpList_store_mid rfl 22 (.tmp 10) (.tmp 43) rfl b10 0 K43.toArray rfl rfl HT1.out LK43.out.j LK43.out.o ?_; simp only)
                | (refine wpList_store_mid rfl 22 (.tmp 11) (.tmp 46) rfl b11 0 K46.toArray rfl rfl HT2.out LK46.out.j LK46.out.o ?_; simp only [Act.put]; obtain ⟨wv10, hwv10⟩ : ∃ v, (wv9.setCells b10 0 K43).setCells b11 0 K46 = v := ⟨_, rfl⟩; rw [hwv10] at HT ⊢; clear hwv10; have hb := HT.out.2.2; have HB_7 := (show Hid (Below w.heap.size w wv10) from HB_6.out.trans (hb.mono HB_6.out.size)); have Pn_0_7 := (show Hid (Rp wv10 n 0 A0) from Pn_0_6.out.below hb); have Pn_32_7 := (show Hid (Rp wv10 n 32 A1) from Pn_32_6.out.below hb); have Pn_64_7 := (show Hid (Rp wv10 n 64 A2) from Pn_64_6.out.below hb); have Pn_1_0_7 := (show Hid (Rp wv10 (n + 1) 0 B0) from Pn_1_0_6.out.below hb); have Pn_1_32_7 := (show Hid (Rp wv10 (n + 1) 32 B1) from Pn_1_32_6.out.below hb); have Pn_1_64_7 := (show Hid (Rp wv10 (n + 1) 64 B2) from Pn_1_64_6.out.below hb); have Pb5_0_7 := (show Hid (Rp wv10 b5 0 K18) from Pb5_0_6.out.below hb); have Pb6_0_7 := (show Hid (Rp wv10 b6 0 K21) from Pb6_0_6.out.below hb); have Pb7_0_7 := (show Hid (Rp wv10 b7 0 K28) from Pb7_0_6.out.below hb); have Pb8_0_7 := (show Hid (Rp wv10 b8 0 K35) from Pb8_0_6.out.below hb); have Pb9_0_7 := (show Hid (Rp wv10 b9 0 K40) from Pb9_0_6.out.below hb); have AN_7 := (show Hid (Ao w.heap.size wv10 (n + 2) 96) from AN_6.out.below hb); have Pb10_0_7 := (show Hid (Rp wv10 b10 0 K43) from (HT.out.1).rp); have Pb11_0_7 := (show Hid (Rp wv10 b11 0 K46) from (HT.out.2.1).rp); clear HB_6 AN_6 Pn_0_6 Pn_32_6 Pn_64_6 Pn_1_0_6 Pn_1_32_6 Pn_1_64_6 Pb5_0_6 Pb6_0_6 Pb7_0_6 Pb8_0_6 Pb9_0_6 hb; have TK_7 := (show Hid True from trivial); clear TK_6 HT HT1 HT2 wv9))
              apply region_float (N := wv10.heap.size) (W := wv10) (ty := 22) [12] 16 16 (by kernel_rfl) (Below.refl _ _) (Nat.le_refl _) alloc22 there22
              case hl => simp only [List.take_succ_cons, List.take_zero]; rfl
              case ht => simp only [List.drop_succ_cons, List.drop_zero]; rfl
              case hB => kernel_rfl
              case hT => kernel_rfl
              case hF => kernel_rfl
              case hS => kernel_rfl
              case h =>
                apply Exists.intro
                constructor
                case left =>
                  intro N2 W2 q1 q2 q3
                  have HQPn_0 := (show Hid _ from Pn_0_7.out.cl2 q1 q2)
                  have HQPn_1_32 := (show Hid _ from Pn_1_32_7.out.cl2 q1 q2)
                  have HQPn_1_0 := (show Hid _ from Pn_1_0_7.out.cl2 q1 q2)
                  have HQPn_32 := (show Hid _ from Pn_32_7.out.cl2 q1 q2)
                  have hne := Cl.ne N2 W2
                  have HC1 : Hid (N2 ≤ W2.heap.size) := q3
                  clear q1 q2 q3
                  simp only [List.map_cons, List.map_nil, hush, isAl, beq_self_eq_true, if_true, Bool.false_eq_true, if_false]
                  go_big_quiet_step (fail)
                  go_big_quiet_step (fail)
                  go_big_quiet_want
                  refine quiet_load 22 _ rfl n 0 rfl A0 _ HQPn_0.out Try.underlying22 rfl LA0.out.i ?_
                  simp only [Act.put, List.setIfInBounds_toArray, List.set_cons_zero, List.set_cons_succ]
                  go_big_quiet_on
                  go_big_quiet_step (fail)
                  go_big_quiet_step (fail)
                  go_big_quiet_want
                  refine quiet_load 22 _ rfl (n + 1) 32 rfl B1 _ HQPn_1_32.out Try.underlying22 rfl LB1.out.i ?_
                  simp only [Act.put, List.setIfInBounds_toArray, List.set_cons_zero, List.set_cons_succ]
                  go_big_quiet_on
                  go_big_quiet_step ((go_at_call 20; exact cl_of (c_k53 _) HC1.out))
                  go_big_quiet_step (fail)
                  go_big_quiet_step (fail)
                  go_big_quiet_want
                  refine quiet_load 22 _ rfl (n + 1) 0 rfl B0 _ HQPn_1_0.out Try.underlying22 rfl LB0.out.i ?_
                  simp only [Act.put, List.setIfInBounds_toArray, List.set_cons_zero, List.set_cons_succ]
                  go_big_quiet_on
                  go_big_quiet_step (fail)
                  go_big_quiet_step (fail)
                  go_big_quiet_want
                  refine quiet_load 22 _ rfl n 32 rfl A1 _ HQPn_32.out Try.underlying22 rfl LA1.out.i ?_
                  simp only [Act.put, List.setIfInBounds_toArray, List.set_cons_zero, List.set_cons_succ]
                  go_big_quiet_on
                  go_big_quiet_step ((go_at_call 20; exact cl_of (c_k60 _) HC1.out))
                  go_big_quiet_step ((go_at_call 15; exact cl_of (c_k61 _) HC1.out))
                  go_big_quiet_step (fail)
                  refine wpQuiet_nil ?_
                  rfl
                case right =>
                  intro g wv11 hb hf hd
                  have h12 := hf 12 (by decide)
                  clear hf hd
                  simp only [putsT, List.foldl_cons, List.foldl_nil, Act.put, List.setIfInBounds_toArray, List.set_cons_zero, List.set_cons_succ]
                  obtain ⟨b12, hb12⟩ : ∃ b, g 12 = b := ⟨_, rfl⟩
                  rw [hb12] at h12 ⊢
                  clear hb12 g
                  have HT := (show Hid _ from one_box hb h12 LK61.out.l)
                  have HT1 : Hid (wv11.there b12 0 K61.toArray.size) := by show World.there _ _ _ _; rw [List.size_toArray, LK61.out.l]; exact h12.2.2
                  clear h12 hb
                  go_wp2_with (first
                    | (refine wpList_load_mid rfl 22 (.tmp 8) rfl b8 0 rfl K35 _ Pb8_0_8.out.1 Try.underlying22 rfl LK35.out.i ?_)
                    | (refine wpList_load_mid rfl 22 (.tmp 7) rfl b7 0 rfl K28 _ Pb7_0_8.out.1 Try.underlying22 rfl LK28.out.i ?_)
                    | (have hq := HT1; clear hq; refine wpList_store_mid rfl 22 (.tmp 12) (.tmp 61) rfl b12 0 K61.toArray rfl rfl HT1.out LK61.out.j LK61.out.o ?_; simp only [Act.put]; obtain ⟨wv12, hwv12⟩ : ∃ v, wv11.setCells b12 0 K61 = v := ⟨_, rfl⟩; rw [hwv12] at HT ⊢; clear hwv12; have hb := HT.out.2; have HB_8 := (show Hid (Below w.heap.size w wv12) from HB_7.out.trans (hb.mono HB_7.out.size)); have Pn_0_8 := (show Hid (Rp wv12 n 0 A0) from Pn_0_7.out.below hb); have Pn_32_8 := (show Hid (Rp wv12 n 32 A1) from Pn_32_7.out.below hb); have Pn_64_8 := (show Hid (Rp wv12 n 64 A2) from Pn_64_7.out.below hb); have Pn_1_0_8 := (show Hid (Rp wv12 (n + 1) 0 B0) from Pn_1_0_7.out.below hb); have Pn_1_32_8 := (show Hid (Rp wv12 (n + 1) 32 B1) from Pn_1_32_7.out.below hb); have Pn_1_64_8 := (show Hid (Rp wv12 (n + 1) 64 B2) from Pn_1_64_7.out.below hb); have Pb5_0_8 := (show Hid (Rp wv12 b5 0 K18) from Pb5_0_7.out.below hb); have Pb6_0_8 := (show Hid (Rp wv12 b6 0 K21) from Pb6_0_7.out.below hb); have Pb7_0_8 := (show Hid (Rp wv12 b7 0 K28) from Pb7_0_7.out.below hb); have Pb8_0_8 := (show Hid (Rp wv12 b8 0 K35) from Pb8_0_7.out.below hb); have Pb9_0_8 := (show Hid (Rp wv12 b9 0 K40) from Pb9_0_7.out.below hb); have Pb10_0_8 := (show Hid (Rp wv12 b10 0 K43) from Pb10_0_7.out.below hb); have Pb11_0_8 := (show Hid (Rp wv12 b11 0 K46) from Pb11_0_7.out.below hb); have AN_8 := (show Hid (Ao w.heap.size wv12 (n + 2) 96) from AN_7.out.below hb); have Pb12_0_8 := (show Hid (Rp wv12 b12 0 K61) from (HT.out.1).rp); clear HB_7 AN_7 Pn_0_7 Pn_32_7 Pn_64_7 Pn_1_0_7 Pn_1_32_7 Pn_1_64_7 Pb5_0_7 Pb6_0_7 Pb7_0_7 Pb8_0_7 Pb9_0_7 Pb10_0_7 Pb11_0_7 hb; have TK_8 := (show Hid True from trivial); clear TK_7 HT HT1 wv11)
                    | (have hq := TK_8; go_at_call 15; refine (c_k64 _).mono ?_; rintro e wv13 ⟨rfl, hb⟩; have HB_9 := (show Hid (Below w.heap.size w wv13) from HB_8.out.trans (hb.mono HB_8.out.size)); have Pn_0_9 := (show Hid (Rp wv13 n 0 A0) from Pn_0_8.out.below hb); have Pn_32_9 := (show Hid (Rp wv13 n 32 A1) from Pn_32_8.out.below hb); have Pn_64_9 := (show Hid (Rp wv13 n 64 A2) from Pn_64_8.out.below hb); have Pn_1_0_9 := (show Hid (Rp wv13 (n + 1) 0 B0) from Pn_1_0_8.out.below hb); have Pn_1_32_9 := (show Hid (Rp wv13 (n + 1) 32 B1) from Pn_1_32_8.out.below hb); have Pn_1_64_9 := (show Hid (Rp wv13 (n + 1) 64 B2) from Pn_1_64_8.out.below hb); have Pb5_0_9 := (show Hid (Rp wv13 b5 0 K18) from Pb5_0_8.out.below hb); have Pb6_0_9 := (show Hid (Rp wv13 b6 0 K21) from Pb6_0_8.out.below hb); have Pb7_0_9 := (show Hid (Rp wv13 b7 0 K28) from Pb7_0_8.out.below hb); have Pb8_0_9 := (show Hid (Rp wv13 b8 0 K35) from Pb8_0_8.out.below hb); have Pb9_0_9 := (show Hid (Rp wv13 b9 0 K40) from Pb9_0_8.out.below hb); have Pb10_0_9 := (show Hid (Rp wv13 b10 0 K43) from Pb10_0_8.out.below hb); have Pb11_0_9 := (show Hid (Rp wv13 b11 0 K46) from Pb11_0_8.out.below hb); have Pb12_0_9 := (show Hid (Rp wv13 b12 0 K61) from Pb12_0_8.out.below hb); have AN_9 := (show Hid (Ao w.heap.size wv13 (n + 2) 96) from AN_8.out.below hb); clear HB_8 AN_8 Pn_0_8 Pn_32_8 Pn_64_8 Pn_1_0_8 Pn_1_32_8 Pn_1_64_8 Pb5_0_8 Pb6_0_8 Pb7_0_8 Pb8_0_8 Pb9_0_8 Pb10_0_8 Pb11_0_8 Pb12_0_8 hb; have TK_9 := (show Hid True from trivial); clear hq TK_8)
                    | (have hq := TK_9; refine wpList_store_mid rfl 22 (.tmp 13) (.tmp 64) rfl wv13.heap.size 0 K64.toArray rfl rfl (HLT.out K64 LK64.out wv13) LK64.out.j LK64.out.o ?_; simp only [Act.put]; have hbx := HBN.out wv13 K64 LK64.out.l; obtain ⟨wv14, hwv14⟩ : ∃ v, (wv13.alloc (.cells Z 22)).setCells wv13.heap.size 0 K64 = v := ⟨_, rfl⟩; rw [hwv14] at hbx ⊢; clear hwv14; have hb := hbx.2; replace hbx := hbx.1; obtain ⟨b13, hb13⟩ : ∃ b, wv13.heap.size = b := ⟨_, rfl⟩; rw [hb13] at hbx ⊢; clear hb13; have HB_10 := (show Hid (Below w.heap.size w wv14) from HB_9.out.trans (hb.mono HB_9.out.size)); have Pn_0_10 := (show Hid (Rp wv14 n 0 A0) from Pn_0_9.out.below hb); have Pn_32_10 := (show Hid (Rp wv14 n 32 A1) from Pn_32_9.out.below hb); have Pn_64_10 := (show Hid (Rp wv14 n 64 A2) from Pn_64_9.out.below hb); have Pn_1_0_10 := (show Hid (Rp wv14 (n + 1) 0 B0) from Pn_1_0_9.out.below hb); have Pn_1_32_10 := (show Hid (Rp wv14 (n + 1) 32 B1) from Pn_1_32_9.out.below hb); have Pn_1_64_10 := (show Hid (Rp wv14 (n + 1) 64 B2) from Pn_1_64_9.out.below hb); have Pb5_0_10 := (show Hid (Rp wv14 b5 0 K18) from Pb5_0_9.out.below hb); have Pb6_0_10 := (show Hid (Rp wv14 b6 0 K21) from Pb6_0_9.out.below hb); have Pb7_0_10 := (show Hid (Rp wv14 b7 0 K28) from Pb7_0_9.out.below hb); have Pb8_0_10 := (show Hid (Rp wv14 b8 0 K35) from Pb8_0_9.out.below hb); have Pb9_0_10 := (show Hid (Rp wv14 b9 0 K40) from Pb9_0_9.out.below hb); have Pb10_0_10 := (show Hid (Rp wv14 b10 0 K43) from Pb10_0_9.out.below hb); have Pb11_0_10 := (show Hid (Rp wv14 b11 0 K46) from Pb11_0_9.out.below hb); have Pb12_0_10 := (show Hid (Rp wv14 b12 0 K61) from Pb12_0_9.out.below hb); have AN_10 := (show Hid (Ao w.heap.size wv14 (n + 2) 96) from AN_9.out.below hb); have Pb13_0_10 := (show Hid (Rp wv14 b13 0 K64) from hbx.rp); clear HB_9 AN_9 Pn_0_9 Pn_32_9 Pn_64_9 Pn_1_0_9 Pn_1_32_9 Pn_1_64_9 Pb5_0_9 Pb6_0_9 Pb7_0_9 Pb8_0_9 Pb9_0_9 Pb10_0_9 Pb11_0_9 Pb12_0_9 hb; have TK_10 := (show Hid True from trivial); clear hq TK_9 hbx))
                  have HQPb5_0 := (show Hid _ from Pb5_0_10.out.cl)
                  have HQPb12_0 := (show Hid _ from Pb12_0_10.out.cl)
                  have HQPb11_0 := (show Hid _ from Pb11_0_10.out.cl)
                  have HQPb13_0 := (show Hid _ from Pb13_0_10.out.cl)
                  have HQPb10_0 := (show Hid _ from Pb10_0_10.out.cl)
                  have hne := Cl.ne wv14.heap.size wv14
                  apply region_cl_tail (N := wv14.heap.size) (W := wv14) 14 14 (by kernel_rfl) (Below.refl _ _)
                  case hl => simp only [List.take_succ_cons, List.take_zero]; rfl
                  case ht => simp only [List.drop_succ_cons, List.drop_zero]; rfl
                  case hB => kernel_rfl
                  case hT => kernel_rfl
                  case h =>
                    go_big_quiet_want
                    refine quiet_load 22 _ rfl b5 0 rfl K18 _ HQPb5_0.out Try.underlying22 rfl LK18.out.i ?_
                    simp only [Act.put, List.setIfInBounds_toArray, List.set_cons_zero, List.set_cons_succ]
                    go_big_quiet_on
                    go_big_quiet_want
                    refine quiet_load 22 _ rfl b12 0 rfl K61 _ HQPb12_0.out Try.underlying22 rfl LK61.out.i ?_
                    simp only [Act.put, List.setIfInBounds_toArray, List.set_cons_zero, List.set_cons_succ]
                    go_big_quiet_on
                    go_big_quiet_step ((go_at_call 20; exact cl_of (c_k67 _) (Nat.le_refl _)))
                    go_big_quiet_want
                    refine quiet_load 22 _ rfl b11 0 rfl K46 _ HQPb11_0.out Try.underlying22 rfl LK46.out.i ?_
                    simp only [Act.put, List.setIfInBounds_toArray, List.set_cons_zero, List.set_cons_succ]
                    go_big_quiet_on
                    go_big_quiet_step ((go_at_call 20; exact cl_of (c_k69 _) (Nat.le_refl _)))
                    go_big_quiet_want
                    refine quiet_load 22 _ rfl b5 0 rfl K18 _ HQPb5_0.out Try.underlying22 rfl LK18.out.i ?_
                    simp only [Act.put, List.setIfInBounds_toArray, List.set_cons_zero, List.set_cons_succ]
                    go_big_quiet_on
                    go_big_quiet_want
                    refine quiet_load 22 _ rfl b13 0 rfl K64 _ HQPb13_0.out Try.underlying22 rfl LK64.out.i ?_
                    simp only [Act.put, List.setIfInBounds_toArray, List.set_cons_zero, List.set_cons_succ]
                    go_big_quiet_on
                    go_big_quiet_step ((go_at_call 20; exact cl_of (c_k72 _) (Nat.le_refl _)))
                    go_big_quiet_want
                    refine quiet_load 22 _ rfl b10 0 rfl K43 _ HQPb10_0.out Try.underlying22 rfl LK43.out.i ?_
                    simp only [Act.put, List.setIfInBounds_toArray, List.set_cons_zero, List.set_cons_succ]
                    go_big_quiet_on
                    go_big_quiet_step ((go_at_call 20; exact cl_of (c_k74 _) (Nat.le_refl _)))
                    go_big_quiet_want
                    refine quiet_build 43 _ rfl [(0, .agg K69.toArray), (1, .agg K74.toArray)] (by kernel_rfl) VP HBP.out ?_
                    simp only [Act.put, List.setIfInBounds_toArray, List.set_cons_zero, List.set_cons_succ]
                    go_big_quiet_on
                    go_big_quiet_want
                    refine quiet_load 22 _ rfl b10 0 rfl K43 _ HQPb10_0.out Try.underlying22 rfl LK43.out.i ?_
                    simp only [Act.put, List.setIfInBounds_toArray, List.set_cons_zero, List.set_cons_succ]
                    go_big_quiet_on
                    go_big_quiet_want
                    refine quiet_load 22 _ rfl b11 0 rfl K46 _ HQPb11_0.out Try.underlying22 rfl LK46.out.i ?_
                    simp only [Act.put, List.setIfInBounds_toArray, List.set_cons_zero, List.set_cons_succ]
                    go_big_quiet_on
                    go_big_quiet_step ((go_at_call 20; exact cl_of (c_k78 _) (Nat.le_refl _)))
                    refine wpQuiet_nil ?_
                    rintro _ ⟨xq, rfl⟩
                    have hb := xq.h
                    have HBE := (show Hid (Below w.heap.size w xq.u) from HB_10.out.trans (hb.mono HB_10.out.size))
                    have AE := (show Hid (Ao w.heap.size xq.u (n + 2) 96) from AN_10.out.below hb)
                    have HTE : Hid (xq.u.there (n + 2) 0 VF.toArray.size) := by have e : VF.toArray.size = 96 := (List.size_toArray ..).trans HVL.out; show World.there _ _ _ _; rw [e]; exact AE.out.2.2
                    have HI : Hid ((Try.prog.info? 84).map (·.size) = some VF.toArray.size) := by have e : VF.toArray.size = 96 := (List.size_toArray ..).trans HVL.out; show _ = _; rw [e]; exact info84
                    clear hb
                    go_wp2_with (first
                      | (refine build_to rfl 84 _ rfl (some 79) rfl [(0, .agg VP.toArray), (1, .agg K78.toArray)] (by kernel_rfl) VF HBF.out ?_; simp only [Act.put, List.setIfInBounds_toArray, List.set_cons_zero, List.set_cons_succ])
                      | (refine wpList_store_mid rfl 84 (.tmp 4) (.tmp 79) rfl (n + 2) 0 VF.toArray rfl rfl HTE.out HI.out HVO.out ?_; simp only [Act.put]))
                    exact bodyPost_ret (results_cell Try.results81 rfl (run_loadVar_mid (P := Try.prog) _ (n + 2) 0 84 VF _ (World.rangeAt_setCells_same _ _ _ _ (by have e : VF.length = VF.toArray.size := (List.size_toArray ..).symm; rw [e]; exact HTE.out)) Try.underlying84 rfl (by have e : VF.length = VF.toArray.size := (List.size_toArray ..).symm; rw [e]; exact HI.out))) rfl ⟨rfl, below_setCells HBE.out AE.out.1⟩
end Fd
end Go.Proofs.Ytgdekigdbbldoaa
