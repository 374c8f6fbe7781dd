/- What the walks of curve carry along: parts of boxes, the answer's box. What Base does: a contract, by walking its text. -/
import Derived.Test.YtgdekigdbbldoaaG28
namespace Go.Proofs.Ytgdekigdbbldoaa
open Go.RowKit
namespace Fd
open Rg

def mulp (a b : Nat) : Nat := a * b % p
def addp (a b : Nat) : Nat := (a % p + b % p) % p
def subp (a b : Nat) : Nat := (a % p + p - b % p) % p
theorem mulp_lt (a b : Nat) : mulp a b < 115792089237316195423570985008687907853269984665640564039457584007913129639936 := Nat.lt_trans (Nat.mod_lt _ (by decide)) (by decide : p < _)
theorem addp_lt (a b : Nat) : addp a b < 115792089237316195423570985008687907853269984665640564039457584007913129639936 := Nat.lt_trans (Nat.mod_lt _ (by decide)) (by decide : p < _)
theorem subp_lt (a b : Nat) : subp a b < 115792089237316195423570985008687907853269984665640564039457584007913129639936 := Nat.lt_trans (Nat.mod_lt _ (by decide)) (by decide : p < _)
/-- A part of a box. -/
def Rp (w : World) (b o : Nat) (R : List Value) : Prop := w.rangeAt b o R ∧ b < w.heap.size
theorem Rp.below {w w' : World} {b o : Nat} {R : List Value} (h : Rp w b o R) (hb : Below w.heap.size w w') : Rp w' b o R := ⟨Rg.Below.range hb h.1 h.2, Nat.lt_of_lt_of_le h.2 hb.size⟩
theorem Rp.cl {w : World} {b o : Nat} {R : List Value} (h : Rp w b o R) : ∀ w', (∃ x : Cl w.heap.size w, w' = x.u) → w'.rangeAt b o R := fun _ ⟨x, hx⟩ => hx ▸ x.range h.1 h.2
theorem Rp.cl2 {w : World} {b o : Nat} {R : List Value} (h : Rp w b o R) {N2 : Nat} {W2 : World} (h1 : w.heap.size ≤ N2) (h2 : Below w.heap.size w W2) : ∀ w', (∃ x : Cl N2 W2, w' = x.u) → w'.rangeAt b o R := Fd.cl2 h1 h2 h.1 h.2
theorem Bo.rp {w : World} {b : Nat} {R : List Value} (h : Bo w b R) : Rp w b 0 R := h
/-- The answer's box, above a mark. -/
def Ao (N : Nat) (w : World) (b n : Nat) : Prop := N ≤ b ∧ b < w.heap.size ∧ w.there b 0 n
theorem Ao.below {N : Nat} {w w' : World} {b n : Nat} (h : Ao N w b n) (hb : Below w.heap.size w w') : Ao N w' b n := ⟨h.1, Nat.lt_of_lt_of_le h.2.1 hb.size, there_below hb h.2.2 h.2.1⟩
def fv (x y u : Nat) : Value := .agg ((bvc x ++ bvc y) ++ bvc u).toArray
theorem one_box {N : Nat} {W w : World} {b : Nat} {R : List Value} (hb : Below N W w) (h1 : N ≤ b ∧ b < w.heap.size ∧ w.there b 0 32) (hR : R.length = 32) : Bo (w.setCells b 0 R) b R ∧ Below N W (w.setCells b 0 R) :=
  ⟨⟨World.rangeAt_setCells_same _ _ _ _ (by rw [hR]; exact h1.2.2), by rw [size_setCells]; exact h1.2.1⟩, below_setCells hb h1.1⟩
def z84 : Array Value := (zl 96).toArray
theorem zero84 (W : World) : (zeroValue 84).run Try.prog W = .ok (.agg z84) W := by
  have h := zero84_info
  cases hq : Try.prog.info? 84 with
  | none => rw [hq] at h; cases h
  | some i =>
    have hz : i.zero = some (.agg z84) := by simpa [hq, z84] using h
    simp [zeroValue, typeInfo, hq, hz]
def z43 : Array Value := (zl 64).toArray
theorem zero43 (W : World) : (zeroValue 43).run Try.prog W = .ok (.agg z43) W := by
  have h := zero43_info
  cases hq : Try.prog.info? 43 with
  | none => rw [hq] at h; cases h
  | some i =>
    have hz : i.zero = some (.agg z43) := by simpa [hq, z43] using h
    simp [zeroValue, typeInfo, hq, hz]
theorem there84 (w : World) : (w.alloc (.cells z84 84)).there w.heap.size 0 96 := there_new w z84 84 (m := 96) fun j hj => by simp [z84, zl, hj]
theorem there43 (w : World) : (w.alloc (.cells z43 43)).there w.heap.size 0 64 := there_new w z43 43 (m := 64) fun j hj => by simp [z43, zl, hj]
theorem info84 : (Try.prog.info? 84).map (·.size) = some 96 := by kernel_rfl
theorem info43 : (Try.prog.info? 43).map (·.size) = some 64 := by kernel_rfl
theorem one_app {X Y : List Value} (hX : X.toArray.all (·.oneCell') = true) (hY : Y.toArray.all (·.oneCell') = true) : (X ++ Y).toArray.all (·.oneCell') = true := by
  simp only [List.all_toArray, List.all_append, Bool.and_eq_true] at hX hY ⊢
  exact ⟨hX, hY⟩
/-- Two boxes of fractions and the answer's. -/
theorem start2 (w : World) (X Y U X' Y' U' : List Value) (h1 : X.length = 32) (h2 : Y.length = 32) (h1' : X'.length = 32) (h2' : Y'.length = 32) :
    let e := ((w.alloc (.cells ((X ++ Y) ++ U).toArray 84)).alloc (.cells ((X' ++ Y') ++ U').toArray 84)).alloc (.cells z84 84)
    Rp e w.heap.size 0 X ∧ Rp e w.heap.size 32 Y ∧ Rp e w.heap.size 64 U ∧ Rp e (w.heap.size + 1) 0 X' ∧ Rp e (w.heap.size + 1) 32 Y' ∧ Rp e (w.heap.size + 1) 64 U' ∧ Ao w.heap.size e (w.heap.size + 2) 96 ∧ Below w.heap.size w e := by
  intro e
  have b1 : Below (w.alloc (.cells ((X ++ Y) ++ U).toArray 84)).heap.size (w.alloc (.cells ((X ++ Y) ++ U).toArray 84)) e := ((Below.refl _ _).alloc (Nat.le_refl _) _).alloc (by simp) _
  have b2 : Below ((w.alloc (.cells ((X ++ Y) ++ U).toArray 84)).alloc (.cells ((X' ++ Y') ++ U').toArray 84)).heap.size ((w.alloc (.cells ((X ++ Y) ++ U).toArray 84)).alloc (.cells ((X' ++ Y') ++ U').toArray 84)) e := (Below.refl _ _).alloc (Nat.le_refl _) _
  have r1 := Rg.range_new w ((X ++ Y) ++ U) 84
  have r2 := Rg.range_new (w.alloc (.cells ((X ++ Y) ++ U).toArray 84)) ((X' ++ Y') ++ U') 84
  rw [size_alloc] at r2
  have s1 : w.heap.size < (w.alloc (.cells ((X ++ Y) ++ U).toArray 84)).heap.size := by rw [size_alloc]; omega
  have s2 : w.heap.size + 1 < ((w.alloc (.cells ((X ++ Y) ++ U).toArray 84)).alloc (.cells ((X' ++ Y') ++ U').toArray 84)).heap.size := by rw [size_alloc, size_alloc]; omega
  have ry := range_right (m := 32) (range_left r1) h1
  have ry' := range_right (m := 32) (range_left r2) h1'
  have ru := range_right (m := 64) r1 (by rw [List.length_append, h1, h2])
  have ru' := range_right (m := 64) r2 (by rw [List.length_append, h1', h2'])
  rw [Nat.zero_add] at ry ry' ru ru'
  have ht := there84 ((w.alloc (.cells ((X ++ Y) ++ U).toArray 84)).alloc (.cells ((X' ++ Y') ++ U').toArray 84))
  rw [size_alloc, size_alloc] at ht
  refine ⟨Rp.below ⟨range_left (range_left r1), s1⟩ b1, Rp.below ⟨ry, s1⟩ b1, Rp.below ⟨ru, s1⟩ b1, Rp.below ⟨range_left (range_left r2), s2⟩ b2, Rp.below ⟨ry', s2⟩ b2, Rp.below ⟨ru', s2⟩ b2, ⟨by omega, ?_, ht⟩, ?_⟩
  · show _ < (World.alloc _ _).heap.size
    rw [size_alloc, size_alloc, size_alloc]
    omega
  · exact (((Below.refl _ _).alloc (Nat.le_refl _) _).alloc (by simp) _).alloc (by simp; omega) _
/-- One box of a fraction and the answer's. -/
theorem start1 (w : World) (X Y U : List Value) (h1 : X.length = 32) (h2 : Y.length = 32) :
    let e := (w.alloc (.cells ((X ++ Y) ++ U).toArray 84)).alloc (.cells z84 84)
    Rp e w.heap.size 0 X ∧ Rp e w.heap.size 32 Y ∧ Rp e w.heap.size 64 U ∧ Ao w.heap.size e (w.heap.size + 1) 96 ∧ Below w.heap.size w e := by
  intro e
  have b1 : Below (w.alloc (.cells ((X ++ Y) ++ U).toArray 84)).heap.size (w.alloc (.cells ((X ++ Y) ++ U).toArray 84)) e := (Below.refl _ _).alloc (Nat.le_refl _) _
  have r1 := Rg.range_new w ((X ++ Y) ++ U) 84
  have s1 : w.heap.size < (w.alloc (.cells ((X ++ Y) ++ U).toArray 84)).heap.size := by rw [size_alloc]; omega
  have ry := range_right (m := 32) (range_left r1) h1
  have ru := range_right (m := 64) r1 (by rw [List.length_append, h1, h2])
  rw [Nat.zero_add] at ry ru
  have ht := there84 (w.alloc (.cells ((X ++ Y) ++ U).toArray 84))
  rw [size_alloc] at ht
  refine ⟨Rp.below ⟨range_left (range_left r1), s1⟩ b1, Rp.below ⟨ry, s1⟩ b1, Rp.below ⟨ru, s1⟩ b1, ⟨by omega, ?_, ht⟩, ?_⟩
  · show _ < (World.alloc _ _).heap.size
    rw [size_alloc, size_alloc]
    omega
  · exact ((Below.refl _ _).alloc (Nat.le_refl _) _).alloc (by simp) _
/-- One box of a fraction and the answer's, a point. -/
theorem start1p (w : World) (X Y U : List Value) (h1 : X.length = 32) (h2 : Y.length = 32) :
    let e := (w.alloc (.cells ((X ++ Y) ++ U).toArray 84)).alloc (.cells z43 43)
    Rp e w.heap.size 0 X ∧ Rp e w.heap.size 32 Y ∧ Rp e w.heap.size 64 U ∧ Ao w.heap.size e (w.heap.size + 1) 64 ∧ Below w.heap.size w e := by
  intro e
  have b1 : Below (w.alloc (.cells ((X ++ Y) ++ U).toArray 84)).heap.size (w.alloc (.cells ((X ++ Y) ++ U).toArray 84)) e := (Below.refl _ _).alloc (Nat.le_refl _) _
  have r1 := Rg.range_new w ((X ++ Y) ++ U) 84
  have s1 : w.heap.size < (w.alloc (.cells ((X ++ Y) ++ U).toArray 84)).heap.size := by rw [size_alloc]; omega
  have ry := range_right (m := 32) (range_left r1) h1
  have ru := range_right (m := 64) r1 (by rw [List.length_append, h1, h2])
  rw [Nat.zero_add] at ry ru
  have ht := there43 (w.alloc (.cells ((X ++ Y) ++ U).toArray 84))
  rw [size_alloc] at ht
  refine ⟨Rp.below ⟨range_left (range_left r1), s1⟩ b1, Rp.below ⟨ry, s1⟩ b1, Rp.below ⟨ru, s1⟩ b1, ⟨by omega, ?_, ht⟩, ?_⟩
  · show _ < (World.alloc _ _).heap.size
    rw [size_alloc, size_alloc]
    omega
  · exact ((Below.refl _ _).alloc (Nat.le_refl _) _).alloc (by simp) _
def redp (a : Nat) : Nat := a % p
theorem redp_lt (a : Nat) : redp a < 115792089237316195423570985008687907853269984665640564039457584007913129639936 := Nat.lt_trans (Nat.mod_lt _ (by decide)) (by decide : p < _)
/-- One box of a point and the answer's, a point. -/
theorem startp (w : World) (X Y : List Value) (h1 : X.length = 32) :
    let e := (w.alloc (.cells (X ++ Y).toArray 43)).alloc (.cells z43 43)
    Rp e w.heap.size 0 X ∧ Rp e w.heap.size 32 Y ∧ Ao w.heap.size e (w.heap.size + 1) 64 ∧ Below w.heap.size w e := by
  intro e
  have b1 : Below (w.alloc (.cells (X ++ Y).toArray 43)).heap.size (w.alloc (.cells (X ++ Y).toArray 43)) e := (Below.refl _ _).alloc (Nat.le_refl _) _
  have r1 := Rg.range_new w (X ++ Y) 43
  have s1 : w.heap.size < (w.alloc (.cells (X ++ Y).toArray 43)).heap.size := by rw [size_alloc]; omega
  have ry := range_right (m := 32) r1 h1
  rw [Nat.zero_add] at ry
  have ht := there43 (w.alloc (.cells (X ++ Y).toArray 43))
  rw [size_alloc] at ht
  refine ⟨Rp.below ⟨range_left r1, s1⟩ b1, Rp.below ⟨ry, s1⟩ b1, ⟨by omega, ?_, ht⟩, ?_⟩
  · show _ < (World.alloc _ _).heap.size
    rw [size_alloc, size_alloc]
    omega
  · exact ((Below.refl _ _).alloc (Nat.le_refl _) _).alloc (by simp) _
theorem quiet_build {P : Program} {C : World → Prop} {K : Act → Prop} {o : Oper} {a : Act} (t : TypeId) (parts : Array (Nat × Operand)) (ho : o.op = .build t parts) (L : List (Nat × Value)) (hL : (parts.map fun ((i, x) : Nat × Operand) => (i, a.eval x)).toList = L) (cells : List Value) (hb : P.built t L = some cells.toArray)
    (hk : K (a.put o.dst (.agg cells.toArray))) : o.quiet P a C K :=
  ⟨_, fun w hw => by
    rw [← hL] at hb
    unfold Oper.quietAt execOp
    simp only [ho, Sem.run_bind, run_build w t _ _ hb, Result.andThen_ok]
    exact ⟨rfl, rfl⟩, hk⟩
theorem build_to {P : Program} {ops : Array Oper} {rest : List Oper} {o : Oper} {a : Act} {w : World} {Q : Exit → Act → World → Prop} (hg : o.guard = none) (t : TypeId) (parts : Array (Nat × Operand)) (ho : o.op = .build t parts) (d : Option Tmp) (hd : o.dst = d)
    (L : List (Nat × Value)) (hL : (parts.map fun ((i, x) : Nat × Operand) => (i, a.eval x)).toList = L) (cells : List Value) (hb : P.built t L = some cells.toArray) (h : wpList P ops Q rest (a.put d (.agg cells.toArray)) w) : wpList P ops Q (o :: rest) a w :=
  wpList_buildTo hg t parts ho d hd cells.toArray (by rw [← hb, ← hL]) h
end Fd
end Go.Proofs.Ytgdekigdbbldoaa

namespace Go.Proofs.Ytgdekigdbbldoaa
open Go.RowKit
namespace Fd
open Rg

def baseX : Nat := 15112221349535400772501151409588531511454012693041857206046113283949847762202
def baseY : Nat := 46316835694926478169428394003475163141307993866256225615783033603165251855960
theorem built_baseX : ∀ a : Act, Try.prog.built 22 (Array.map (fun ((i, x) : Nat × Operand) => (i, a.eval x)) #[(0, .const (.int .u8 26)), (1, .const (.int .u8 213)), (2, .const (.int .u8 37)), (3, .const (.int .u8 143)), (4, .const (.int .u8 96)), (5, .const (.int .u8 45)), (6, .const (.int .u8 86)), (7, .const (.int .u8 201)), (8, .const (.int .u8 178)), (9, .const (.int .u8 167)), (10, .const (.int .u8 37)), (11, .const (.int .u8 149)), (12, .const (.int .u8 96)), (13, .const (.int .u8 199)), (14, .const (.int .u8 44)), (15, .const (.int .u8 105)), (16, .const (.int .u8 92)), (17, .const (.int .u8 220)), (18, .const (.int .u8 214)), (19, .const (.int .u8 253)), (20, .const (.int .u8 49)), (21, .const (.int .u8 226)), (22, .const (.int .u8 164)), (23, .const (.int .u8 192)), (24, .const (.int .u8 254)), (25, .const (.int .u8 83)), (26, .const (.int .u8 110)), (27, .const (.int .u8 205)), (28, .const (.int .u8 211)), (29, .const (.int .u8 54)), (30, .const (.int .u8 105)), (31, .const (.int .u8 33))]).toList = some (bvc baseX).toArray := fun a => by kernel_rfl
theorem built_baseY : ∀ a : Act, Try.prog.built 22 (Array.map (fun ((i, x) : Nat × Operand) => (i, a.eval x)) #[(0, .const (.int .u8 88)), (1, .const (.int .u8 102)), (2, .const (.int .u8 102)), (3, .const (.int .u8 102)), (4, .const (.int .u8 102)), (5, .const (.int .u8 102)), (6, .const (.int .u8 102)), (7, .const (.int .u8 102)), (8, .const (.int .u8 102)), (9, .const (.int .u8 102)), (10, .const (.int .u8 102)), (11, .const (.int .u8 102)), (12, .const (.int .u8 102)), (13, .const (.int .u8 102)), (14, .const (.int .u8 102)), (15, .const (.int .u8 102)), (16, .const (.int .u8 102)), (17, .const (.int .u8 102)), (18, .const (.int .u8 102)), (19, .const (.int .u8 102)), (20, .const (.int .u8 102)), (21, .const (.int .u8 102)), (22, .const (.int .u8 102)), (23, .const (.int .u8 102)), (24, .const (.int .u8 102)), (25, .const (.int .u8 102)), (26, .const (.int .u8 102)), (27, .const (.int .u8 102)), (28, .const (.int .u8 102)), (29, .const (.int .u8 102)), (30, .const (.int .u8 102)), (31, .const (.int .u8 102))]).toList = some (bvc baseY).toArray := fun a => by kernel_rfl
set_option maxHeartbeats 400000 in
set_option maxRecDepth 4000 in
theorem base_any (w : World) : Calls Try.prog 30 #[] w fun e w' => e = .returned (pv baseX baseY) ∧ Below w.heap.size w w' := by
  have LX : Hid (L32 (bvc baseX)) := l32 baseX
  have LY : Hid (L32 (bvc baseY)) := l32 baseY
  have HX : Hid (∀ a : Act, Try.prog.built 22 (Array.map (fun ((i, x) : Nat × Operand) => (i, a.eval x)) #[(0, .const (.int .u8 26)), (1, .const (.int .u8 213)), (2, .const (.int .u8 37)), (3, .const (.int .u8 143)), (4, .const (.int .u8 96)), (5, .const (.int .u8 45)), (6, .const (.int .u8 86)), (7, .const (.int .u8 201)), (8, .const (.int .u8 178)), (9, .const (.int .u8 167)), (10, .const (.int .u8 37)), (11, .const (.int .u8 149)), (12, .const (.int .u8 96)), (13, .const (.int .u8 199)), (14, .const (.int .u8 44)), (15, .const (.int .u8 105)), (16, .const (.int .u8 92)), (17, .const (.int .u8 220)), (18, .const (.int .u8 214)), (19, .const (.int .u8 253)), (20, .const (.int .u8 49)), (21, .const (.int .u8 226)), (22, .const (.int .u8 164)), (23, .const (.int .u8 192)), (24, .const (.int .u8 254)), (25, .const (.int .u8 83)), (26, .const (.int .u8 110)), (27, .const (.int .u8 205)), (28, .const (.int .u8 211)), (29, .const (.int .u8 54)), (30, .const (.int .u8 105)), (31, .const (.int .u8 33))]).toList = some (bvc baseX).toArray) := built_baseX
  have HY : Hid (∀ a : Act, Try.prog.built 22 (Array.map (fun ((i, x) : Nat × Operand) => (i, a.eval x)) #[(0, .const (.int .u8 88)), (1, .const (.int .u8 102)), (2, .const (.int .u8 102)), (3, .const (.int .u8 102)), (4, .const (.int .u8 102)), (5, .const (.int .u8 102)), (6, .const (.int .u8 102)), (7, .const (.int .u8 102)), (8, .const (.int .u8 102)), (9, .const (.int .u8 102)), (10, .const (.int .u8 102)), (11, .const (.int .u8 102)), (12, .const (.int .u8 102)), (13, .const (.int .u8 102)), (14, .const (.int .u8 102)), (15, .const (.int .u8 102)), (16, .const (.int .u8 102)), (17, .const (.int .u8 102)), (18, .const (.int .u8 102)), (19, .const (.int .u8 102)), (20, .const (.int .u8 102)), (21, .const (.int .u8 102)), (22, .const (.int .u8 102)), (23, .const (.int .u8 102)), (24, .const (.int .u8 102)), (25, .const (.int .u8 102)), (26, .const (.int .u8 102)), (27, .const (.int .u8 102)), (28, .const (.int .u8 102)), (29, .const (.int .u8 102)), (30, .const (.int .u8 102)), (31, .const (.int .u8 102))]).toList = some (bvc baseY).toArray) := built_baseY
  unfold pv
  obtain ⟨X, hX⟩ : ∃ X, bvc baseX = X := ⟨_, rfl⟩
  obtain ⟨Y, hY⟩ : ∃ X, bvc baseY = X := ⟨_, rfl⟩
  rw [hX] at LX HX ⊢
  rw [hY] at LY HY ⊢
  clear hX hY
  have HBP : Hid (Try.prog.built 43 [(0, .agg X.toArray), (1, .agg Y.toArray)] = some (X ++ Y).toArray) := build_point X Y LX.out.l LY.out.l
  have HVL : Hid ((X ++ Y).length = 64) := by show _ = _; rw [List.length_append, LX.out.l, LY.out.l]
  have HVO : Hid ((X ++ Y).toArray.all (·.oneCell') = true) := one_app LX.out.o LY.out.o
  obtain ⟨VF, hVF⟩ : ∃ V, X ++ Y = V := ⟨_, rfl⟩
  rw [hVF] at HBP HVL HVO ⊢
  clear hVF
  have hz2 := zero43
  have HT := (show Hid _ from there43 w)
  obtain ⟨Z2, hZ2⟩ : ∃ Z, z43 = Z := ⟨_, rfl⟩
  rw [hZ2] at hz2 HT
  clear hZ2
  obtain ⟨n, hn⟩ : ∃ n, w.heap.size = n := ⟨_, rfl⟩
  have HN : Hid (w.heap.size = n) := hn
  have HTE : Hid ((w.alloc (.cells Z2 43)).there n 0 VF.toArray.size) := by have e : VF.toArray.size = 64 := (List.size_toArray ..).trans HVL.out; show World.there _ _ _ _; rw [e, ← HN.out]; exact HT.out
  have HI : Hid ((Try.prog.info? 43).map (·.size) = some VF.toArray.size) := by have e : VF.toArray.size = 64 := (List.size_toArray ..).trans HVL.out; show _ = _; rw [e]; exact info43
  clear HT
  go_enter Try.func30, Try.ntmps30
  go_wp2_with (first
    | (refine wpList_buildTo rfl 22 _ rfl (some 1) rfl X.toArray (HX.out _) ?_)
    | (refine wpList_buildTo rfl 22 _ rfl (some 2) rfl Y.toArray (HY.out _) ?_)
    | (refine build_to rfl 43 _ rfl (some 3) rfl [(0, .agg X.toArray), (1, .agg Y.toArray)] (by kernel_rfl) VF HBP.out ?_; simp only [Act.put, List.setIfInBounds_toArray, List.set_cons_zero, List.set_cons_succ])
    | (refine wpList_store_mid rfl 43 (.tmp 0) (.tmp 3) rfl n 0 VF.toArray rfl rfl HTE.out HI.out HVO.out ?_; simp only))
  exact bodyPost_ret (results_cell Try.results30 rfl (run_loadVar_mid (P := Try.prog) _ n 0 43 VF _ (World.rangeAt_setCells_same _ _ _ _ (by have e : VF.length = VF.toArray.size := (List.size_toArray ..).symm; rw [e]; exact HTE.out)) Try.underlying43 rfl (by have e : VF.length = VF.toArray.size := (List.size_toArray ..).symm; rw [e]; exact HI.out))) rfl ⟨rfl, below_setCells ((Below.refl _ _).alloc (Nat.le_of_eq hn.symm) _) (Nat.le_refl _)⟩
end Fd
end Go.Proofs.Ytgdekigdbbldoaa
