/- Where this program's slices.Contains and slices.IndexFunc stand among its functions and types, so that the library's own contracts on them speak of them (printed by the guide's tool lay-plain). A frame with exceptions (which blocks a call may turn), the reader's block, and what next, takes, want and blanks of the reader do. -/
import Derived.Shelf.SlicesG.Turned
import Derived.Shelf.SlicesQ.IndexFunc
import Derived.Ground.SlgnProg
import Derived.Ground.SlgfProg
import Derived.Test.YtiakidomcjpdhaaGreatDoorProg
import Derived.WalkKit
import Derived.WalkSpells
import Derived.WalkSmall
import Derived.Deep.QuietTactic
import Derived.Lib.OthersKept
import Derived.KernelRfl
namespace Go.Proofs.YtiakidomcjpdhaaGreatDoor
open Go.Shelf
def has43_ren : Go.Shelf.Ren := ⟨fun | 32 => 43 | 30 => 67 | n => n, fun | 25 => 44 | 26 => 9 | 4 => 4 | 3 => 3 | 0 => 0 | n => n, fun | n => n⟩
theorem has43 : Go.Proofs.SlLaysN.n32 Tryz.prog has43_ren := {
  mixed := by kernel_rfl
  f30 := ⟨Tryz.f67.name, by decide, Tryz.func67.trans (congrArg some (by kernel_rfl))⟩
  f32 := ⟨Tryz.f43.name, by decide, Tryz.func43.trans (congrArg some (by kernel_rfl))⟩
  t0 := Tryz.underlying0
  a0 := Tryz.isAgg0
  z0 := Tryz.sizeOf0
  v0 := Tryz.zeroValue0
  t3 := Tryz.underlying3
  a3 := Tryz.isAgg3
  z3 := Tryz.sizeOf3
  v3 := Tryz.zeroValue3
  t4 := Tryz.underlying4
  a4 := Tryz.isAgg4
  z4 := Tryz.sizeOf4
  v4 := Tryz.zeroValue4
  t25 := Tryz.underlying44
  a25 := Tryz.isAgg44
  z25 := Tryz.sizeOf44
  v25 := Tryz.zeroValue44
  t26 := Tryz.underlying9
  a26 := Tryz.isAgg9
  z26 := Tryz.sizeOf9
  v26 := Tryz.zeroValue9 }
def idx66_ren : Go.Shelf.Ren := ⟨fun | 6 => 66 | n => n, fun | 22 => 23 | 23 => 54 | 25 => 72 | 3 => 3 | 0 => 0 | 4 => 4 | n => n, fun | n => n⟩
theorem idx66 : Go.Proofs.SlLaysH0.n6 Tryz.prog idx66_ren := {
  mixed := by kernel_rfl
  f6 := ⟨Tryz.f66.name, by decide, Tryz.func66.trans (congrArg some (by kernel_rfl))⟩
  t0 := Tryz.underlying0
  a0 := Tryz.isAgg0
  z0 := Tryz.sizeOf0
  v0 := Tryz.zeroValue0
  t3 := Tryz.underlying3
  a3 := Tryz.isAgg3
  z3 := Tryz.sizeOf3
  v3 := Tryz.zeroValue3
  t4 := Tryz.underlying4
  a4 := Tryz.isAgg4
  z4 := Tryz.sizeOf4
  v4 := Tryz.zeroValue4
  t22 := Tryz.underlying23
  a22 := Tryz.isAgg23
  z22 := Tryz.sizeOf23
  v22 := Tryz.zeroValue23
  t25 := Tryz.underlying72
  a25 := Tryz.isAgg72
  z25 := Tryz.sizeOf72
  v25 := Tryz.zeroValue72 }
end Go.Proofs.YtiakidomcjpdhaaGreatDoor

namespace Go.Proofs.YtiakidomcjpdhaaGreatDoor
open Go.RowKit

/-- All blocks that were there are as they were, but those of S. -/
structure Fr (S : Nat → Prop) (w w' : World) : Prop where
  os : w'.os = w.os
  tape : w'.tape = w.tape
  output : w'.output = w.output
  size : w.heap.size ≤ w'.heap.size
  block : ∀ k, k < w.heap.size → ¬ S k → w'.heap[k]? = w.heap[k]?

theorem Fr.refl (S : Nat → Prop) (w : World) : Fr S w w := ⟨rfl, rfl, rfl, Nat.le_refl _, fun _ _ _ => rfl⟩
theorem Fr.trans {S : Nat → Prop} {a b c : World} (h : Fr S a b) (k : Fr S b c) : Fr S a c :=
  ⟨k.os.trans h.os, k.tape.trans h.tape, k.output.trans h.output, Nat.le_trans h.size k.size, fun i hi hs => (k.block i (Nat.lt_of_lt_of_le hi h.size) hs).trans (h.block i hi hs)⟩
theorem Fr.mono {S S' : Nat → Prop} {w w' : World} (h : Fr S w w') (hs : ∀ k, k < w.heap.size → S k → S' k) : Fr S' w w' :=
  ⟨h.os, h.tape, h.output, h.size, fun k hk hn => h.block k hk (fun x => hn (hs k hk x))⟩
theorem Fr.of_below {S : Nat → Prop} {w w' : World} (h : Below w.heap.size w w') : Fr S w w' := ⟨h.os, h.tape, h.output, h.size, fun k hk _ => h.block k hk⟩
theorem Fr.below {S : Nat → Prop} {B : Nat} {w w' : World} (h : Fr S w w') (hB : B ≤ w.heap.size) (hs : ∀ k, k < B → ¬ S k) : Below B w w' :=
  ⟨h.os, h.tape, h.output, h.size, fun k hk => h.block k (by omega) (hs k hk)⟩
theorem Fr.drewN (S : Nat → Prop) (w : World) (n : Nat) : Fr S w (w.drewN n) := .of_below (below_drewN (Below.refl _ _) _)
theorem Fr.alloc (S : Nat → Prop) (w : World) (o : Obj) : Fr S w (w.alloc o) := .of_below ((Below.refl _ _).alloc (Nat.le_refl _) _)
theorem Fr.setCell {S : Nat → Prop} (w : World) (a : Addr) (v : Value) (h : S a.block) : Fr S w (w.setCell a v) :=
  ⟨rfl, rfl, rfl, by simp, fun k _ hn => Below.heap_setCell _ _ _ _ (fun e => hn (e ▸ h))⟩
theorem Fr.grown {S : Nat → Prop} {w w' : World} {row : Option Nat} (h : w.grownBy w' row) (hs : ∀ k, row = some k → k < w.heap.size → S k) : Fr S w w' :=
  ⟨h.os, h.tape, h.output, h.size, fun k hk hn => h.block k hk (fun e => hn (hs k e.symm hk))⟩

theorem Fr.setNew {S : Nat → Prop} {w w1 : World} (h : Fr S w w1) {a : Addr} (v : Value) (ha : w.heap.size ≤ a.block) : Fr S w (w1.setCell a v) :=
  ⟨h.os, h.tape, h.output, by simpa using h.size, fun k hk hn => (Below.heap_setCell _ _ _ _ (by omega)).trans (h.block k hk hn)⟩
theorem Fr.allocNew {S : Nat → Prop} {w w1 : World} (h : Fr S w w1) (o : Obj) : Fr S w (w1.alloc o) := h.trans (Fr.alloc _ _ _)

/-- The reader of json in block rb. -/
def RdAt (w : World) (rb : Nat) (s : ByteArray) (p : Nat) (bad : Int) (dep : Nat) : Prop :=
  w.heap[rb]? = some (.cells #[.string s, .int .i64 (p : Int), .int .i64 bad, .int .i64 (dep : Int)] 99 (0, 0))

section
variable {w w' : World} {rb : Nat} {s : ByteArray} {p : Nat} {bad : Int} {dep : Nat}
theorem RdAt.c0 (h : RdAt w rb s p bad dep) : w.cell? ⟨rb, 0, none⟩ = some (.string s) := by simp [World.cell?, show w.heap[rb]? = _ from h]
theorem RdAt.c1 (h : RdAt w rb s p bad dep) : w.cell? ⟨rb, 1, none⟩ = some (.int .i64 (p : Int)) := by simp [World.cell?, show w.heap[rb]? = _ from h]
theorem RdAt.c2 (h : RdAt w rb s p bad dep) : w.cell? ⟨rb, 2, none⟩ = some (.int .i64 bad) := by simp [World.cell?, show w.heap[rb]? = _ from h]
theorem RdAt.c3 (h : RdAt w rb s p bad dep) : w.cell? ⟨rb, 3, none⟩ = some (.int .i64 (dep : Int)) := by simp [World.cell?, show w.heap[rb]? = _ from h]
theorem RdAt.fz (h : RdAt w rb s p bad dep) (i : Nat) : w.frozen? ⟨rb, i, none⟩ = false := by simp [World.frozen?, show w.heap[rb]? = _ from h]
theorem RdAt.lt (h : RdAt w rb s p bad dep) : rb < w.heap.size := lt_of_block h
theorem RdAt.drewN (h : RdAt w rb s p bad dep) (n : Nat) : RdAt (w.drewN n) rb s p bad dep := h
theorem RdAt.kept {S : Nat → Prop} (h : RdAt w rb s p bad dep) (f : Fr S w w') (hn : ¬ S rb) : RdAt w' rb s p bad dep := by
  unfold RdAt
  rw [f.block rb h.lt hn]
  exact h
theorem RdAt.other (h : RdAt w rb s p bad dep) {a : Addr} (v : Value) (ha : a.block ≠ rb) : RdAt (w.setCell a v) rb s p bad dep := by
  unfold RdAt
  rw [Below.heap_setCell _ _ _ _ (by omega)]
  exact h
theorem RdAt.alloc (h : RdAt w rb s p bad dep) (o : Obj) : RdAt (w.alloc o) rb s p bad dep := h.kept (Fr.alloc (fun _ => False) _ _) id
theorem RdAt.set1 (h : RdAt w rb s p bad dep) (q : Nat) : RdAt (w.setCell ⟨rb, 1, none⟩ (.int .i64 (q : Int))) rb s q bad dep := by
  have hl := h.lt
  unfold RdAt at h ⊢
  simp only [World.setCell, Array.getElem?_modify, h]
  simp
theorem RdAt.set3 (h : RdAt w rb s p bad dep) (q : Nat) : RdAt (w.setCell ⟨rb, 3, none⟩ (.int .i64 (q : Int))) rb s p bad q := by
  have hl := h.lt
  unfold RdAt at h ⊢
  simp only [World.setCell, Array.getElem?_modify, h]
  simp
end

/-- The byte at a place; 0 at the end. -/
def nx (s : ByteArray) (p : Nat) : Nat := if p < s.size then (s.get! p).toNat else 0

theorem get_bang (s : ByteArray) (p : Nat) (h : p < s.size) : s.get! p = s[p] := by
  cases s with
  | mk d => exact getElem!_pos d p h

set_option maxHeartbeats 2000000 in
theorem next_any (w : World) (rb : Nat) (s : ByteArray) (p : Nat) (bad : Int) (dep : Nat) (hr : RdAt w rb s p bad dep) (hp : p ≤ s.size) (_hs : s.size ≤ 140737488351232) :
    Calls Tryz.prog 99 #[.pointer (some ⟨rb, 0, none⟩)] w fun e w' => e = .returned (.int .u8 (nx s p : Int)) ∧ ∃ n, w' = w.drewN n := by
  have c0 := hr.c0
  have c1 := hr.c1
  by_cases h : p = s.size
  · have h' : ((p : Int) == (s.size : Int)) = true := by simp [h]
    have e : nx s p = 0 := by simp [nx, h]
    rw [e]
    clear e
    go_enter Tryz.func99, Tryz.ntmps99
    go_wp2
    go_quiet (fail)
    go_wp2
    go_ret
    exact ⟨rfl, _, rfl⟩
  · have h' : ((p : Int) == (s.size : Int)) = false := by simp; omega
    have hlt : p < s.size := by omega
    have e : nx s p = (s[p]).toNat := by simp [nx, hlt, get_bang]
    rw [e]
    clear e
    go_enter Tryz.func99, Tryz.ntmps99
    go_wp2
    go_quiet (fail)
    go_wp2
    go_quiet (fail)
    go_wp2
    go_ret
    exact ⟨rfl, _, World.drewN_drewN _ _ _⟩

/-- What a method of the reader may turn: the reader's own block. -/
abbrev Own (rb : Nat) : Nat → Prop := fun k => k = rb

theorem takes_yes (w : World) (rb : Nat) (s : ByteArray) (p : Nat) (bad : Int) (dep b : Nat) (hr : RdAt w rb s p bad dep) (hp : p ≤ s.size) (hs : s.size ≤ 140737488351232) (hb : nx s p = b) :
    Calls Tryz.prog 98 #[.pointer (some ⟨rb, 0, none⟩), .int .u8 (b : Int)] w fun e w' => e = .returned (.bool true) ∧ RdAt w' rb s (p + 1) bad dep ∧ Fr (Own rb) w w' := by
  have c1 := hr.c1
  have z1 := hr.fz 1
  have hx : ((nx s p : Int) != (b : Int)) = false := by simp [hb]
  go_enter Tryz.func98, Tryz.ntmps98
  go_wp2_with (go_at_call 99; refine (next_any _ _ _ _ _ _ hr hp hs).mono ?_; rintro e w1 ⟨rfl, n, rfl⟩)
  go_ret
  exact ⟨rfl, (hr.drewN n).set1 (p + 1), (Fr.drewN _ _ _).trans (Fr.setCell _ _ _ rfl)⟩
theorem takes_no (w : World) (rb : Nat) (s : ByteArray) (p : Nat) (bad : Int) (dep b : Nat) (hr : RdAt w rb s p bad dep) (hp : p ≤ s.size) (hs : s.size ≤ 140737488351232) (hb : nx s p ≠ b) :
    Calls Tryz.prog 98 #[.pointer (some ⟨rb, 0, none⟩), .int .u8 (b : Int)] w fun e w' => e = .returned (.bool false) ∧ RdAt w' rb s p bad dep ∧ Fr (Own rb) w w' := by
  have hx : ((nx s p : Int) != (b : Int)) = true := by simp; omega
  go_enter Tryz.func98, Tryz.ntmps98
  go_wp2_with (go_at_call 99; refine (next_any _ _ _ _ _ _ hr hp hs).mono ?_; rintro e w1 ⟨rfl, n, rfl⟩)
  go_ret
  exact ⟨rfl, hr.drewN n, Fr.drewN _ _ _⟩
/-- Both ways of takes. -/
theorem takes_any (w : World) (rb : Nat) (s : ByteArray) (p : Nat) (bad : Int) (dep b : Nat) (hr : RdAt w rb s p bad dep) (hp : p ≤ s.size) (hs : s.size ≤ 140737488351232) :
    Calls Tryz.prog 98 #[.pointer (some ⟨rb, 0, none⟩), .int .u8 (b : Int)] w fun e w' => e = .returned (.bool (nx s p == b)) ∧ RdAt w' rb s (if nx s p == b then p + 1 else p) bad dep ∧ Fr (Own rb) w w' := by
  by_cases h : nx s p = b
  · rw [show (nx s p == b) = true by simpa using h, if_pos rfl]
    exact takes_yes w rb s p bad dep b hr hp hs h
  · rw [show (nx s p == b) = false by simpa using h, if_neg (by simp)]
    exact takes_no w rb s p bad dep b hr hp hs h

/-- A panic with a fault at a place, of a number. -/
def Thrown (q c : Nat) (e : Ending) (w : World) : Prop :=
  ∃ b, e = .panicked [{ v := .iface 73 (.pointer (some ⟨b, 0, none⟩)), recovered := false }] ∧ w.heap[b]? = some (.cells #[.int .i64 (q : Int), .iface 31 (.int .i64 (c : Int))] 130 (0, 0))

theorem panics0 {fn : Func} {R : Ending → World → Prop} {chain : List PanicEntry} {tmps : Array Value} {w : World} (h : R (.panicked chain) w) : bodyPost Tryz.prog fn R (.panic chain) { tmps := tmps, defers := [] } w := ⟨rfl, h⟩

theorem amiss_any (q c : Nat) (w : World) :
    Calls Tryz.prog 71 #[.int .i64 (q : Int), .int .i64 (c : Int)] w fun e w' => e = .returned (.pointer (some ⟨w.heap.size, 0, none⟩)) ∧ w' = w.alloc (.cells #[.int .i64 (q : Int), .iface 31 (.int .i64 (c : Int))] 130 (0, 0)) := by
  go_enter Tryz.func71, Tryz.ntmps71
  go_wp2
  go_ret
  exact ⟨rfl, rfl⟩

theorem want_yes (w : World) (rb : Nat) (s : ByteArray) (p : Nat) (bad : Int) (dep b : Nat) (hr : RdAt w rb s p bad dep) (hp : p ≤ s.size) (hs : s.size ≤ 140737488351232) (hb : nx s p = b) :
    Calls Tryz.prog 129 #[.pointer (some ⟨rb, 0, none⟩), .int .u8 (b : Int)] w fun e w' => e = .returned (.tuple #[]) ∧ RdAt w' rb s (p + 1) bad dep ∧ Fr (Own rb) w w' := by
  go_enter Tryz.func129, Tryz.ntmps129
  go_wp2_with (go_at_call 98; refine (takes_yes _ _ _ _ _ _ _ hr hp hs hb).mono ?_; rintro e w1 ⟨rfl, hr1, f1⟩)
  go_end0
  exact ⟨rfl, hr1, f1⟩
theorem want_no (w : World) (rb : Nat) (s : ByteArray) (p : Nat) (bad : Int) (dep b : Nat) (hr : RdAt w rb s p bad dep) (hp : p ≤ s.size) (hs : s.size ≤ 140737488351232) (hb : nx s p ≠ b) :
    Calls Tryz.prog 129 #[.pointer (some ⟨rb, 0, none⟩), .int .u8 (b : Int)] w fun e w' => Thrown p 3 e w' ∧ Fr (Own rb) w w' := by
  go_enter Tryz.func129, Tryz.ntmps129
  go_wp2_with (first
    | (go_at_call 98; refine (takes_no _ _ _ _ _ _ _ hr hp hs hb).mono ?_; rintro e w1 ⟨rfl, hr1, f1⟩; have c1 := hr1.c1)
    | (go_at_call 71; refine (amiss_any _ _ _).mono ?_; rintro e w2 ⟨rfl, rfl⟩))
  exact panics0 ⟨⟨_, rfl, heap_alloc_new _ _⟩, f1.trans (Fr.alloc _ _ _)⟩
end Go.Proofs.YtiakidomcjpdhaaGreatDoor
