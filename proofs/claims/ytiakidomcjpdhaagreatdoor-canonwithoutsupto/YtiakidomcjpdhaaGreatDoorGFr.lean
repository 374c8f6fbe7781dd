/- A frame with exceptions (which blocks a call may turn), the reader's block, and what next, takes, want and blanks of the reader do. What blanks, word, isDigit, digits and number of the reader do: contracts, by walking their text. What isDigit, digits and number of the reader do: contracts, by walking their text. -/
import Derived.Test.YtiakidomcjpdhaaGreatDoorProg
import Derived.WalkKit
import Derived.WalkSpells
import Derived.WalkSmall
import Derived.Deep.QuietTactic
import Derived.Lib.OthersKept
import Derived.KernelRfl
namespace Go.Proofs.YtiakidomcjpdhaaGreatDoor
open Go.RowKit

/-- All blocks that were there are as they were, but those of S. -/
structure Fr (S : Nat → Prop) (w w' : World) : Prop where
  os : w'.os = w.os
  tape : w'.tape = w.tape
  output : w'.output = w.output
  size : w.heap.size ≤ w'.heap.size
  block : ∀ k, k < w.heap.size → ¬ S k → w'.heap[k]? = w.heap[k]?

theorem Fr.refl (S : Nat → Prop) (w : World) : Fr S w w := ⟨rfl, rfl, rfl, Nat.le_refl _, fun _ _ _ => rfl⟩
theorem Fr.trans {S : Nat → Prop} {a b c : World} (h : Fr S a b) (k : Fr S b c) : Fr S a c :=
  ⟨k.os.trans h.os, k.tape.trans h.tape, k.output.trans h.output, Nat.le_trans h.size k.size, fun i hi hs => (k.block i (Nat.lt_of_lt_of_le hi h.size) hs).trans (h.block i hi hs)⟩
theorem Fr.mono {S S' : Nat → Prop} {w w' : World} (h : Fr S w w') (hs : ∀ k, k < w.heap.size → S k → S' k) : Fr S' w w' :=
  ⟨h.os, h.tape, h.output, h.size, fun k hk hn => h.block k hk (fun x => hn (hs k hk x))⟩
theorem Fr.of_below {S : Nat → Prop} {w w' : World} (h : Below w.heap.size w w') : Fr S w w' := ⟨h.os, h.tape, h.output, h.size, fun k hk _ => h.block k hk⟩
theorem Fr.below {S : Nat → Prop} {B : Nat} {w w' : World} (h : Fr S w w') (hB : B ≤ w.heap.size) (hs : ∀ k, k < B → ¬ S k) : Below B w w' :=
  ⟨h.os, h.tape, h.output, h.size, fun k hk => h.block k (by omega) (hs k hk)⟩
theorem Fr.drewN (S : Nat → Prop) (w : World) (n : Nat) : Fr S w (w.drewN n) := .of_below (below_drewN (Below.refl _ _) _)
theorem Fr.alloc (S : Nat → Prop) (w : World) (o : Obj) : Fr S w (w.alloc o) := .of_below ((Below.refl _ _).alloc (Nat.le_refl _) _)
theorem Fr.setCell {S : Nat → Prop} (w : World) (a : Addr) (v : Value) (h : S a.block) : Fr S w (w.setCell a v) :=
  ⟨rfl, rfl, rfl, by simp, fun k _ hn => Below.heap_setCell _ _ _ _ (fun e => hn (e ▸ h))⟩
theorem Fr.grown {S : Nat → Prop} {w w' : World} {row : Option Nat} (h : w.grownBy w' row) (hs : ∀ k, row = some k → k < w.heap.size → S k) : Fr S w w' :=
  ⟨h.os, h.tape, h.output, h.size, fun k hk hn => h.block k hk (fun e => hn (hs k e.symm hk))⟩

theorem Fr.setNew {S : Nat → Prop} {w w1 : World} (h : Fr S w w1) {a : Addr} (v : Value) (ha : w.heap.size ≤ a.block) : Fr S w (w1.setCell a v) :=
  ⟨h.os, h.tape, h.output, by simpa using h.size, fun k hk hn => (Below.heap_setCell _ _ _ _ (by omega)).trans (h.block k hk hn)⟩
theorem Fr.allocNew {S : Nat → Prop} {w w1 : World} (h : Fr S w w1) (o : Obj) : Fr S w (w1.alloc o) := h.trans (Fr.alloc _ _ _)

/-- The reader of json in block rb. -/
def RdAt (w : World) (rb : Nat) (s : ByteArray) (p : Nat) (bad : Int) (dep : Nat) : Prop :=
  w.heap[rb]? = some (.cells #[.string s, .int .i64 (p : Int), .int .i64 bad, .int .i64 (dep : Int)] 99 (0, 0))

section
variable {w w' : World} {rb : Nat} {s : ByteArray} {p : Nat} {bad : Int} {dep : Nat}
theorem RdAt.c0 (h : RdAt w rb s p bad dep) : w.cell? ⟨rb, 0, none⟩ = some (.string s) := by simp [World.cell?, show w.heap[rb]? = _ from h]
theorem RdAt.c1 (h : RdAt w rb s p bad dep) : w.cell? ⟨rb, 1, none⟩ = some (.int .i64 (p : Int)) := by simp [World.cell?, show w.heap[rb]? = _ from h]
theorem RdAt.c2 (h : RdAt w rb s p bad dep) : w.cell? ⟨rb, 2, none⟩ = some (.int .i64 bad) := by simp [World.cell?, show w.heap[rb]? = _ from h]
theorem RdAt.c3 (h : RdAt w rb s p bad dep) : w.cell? ⟨rb, 3, none⟩ = some (.int .i64 (dep : Int)) := by simp [World.cell?, show w.heap[rb]? = _ from h]
theorem RdAt.fz (h : RdAt w rb s p bad dep) (i : Nat) : w.frozen? ⟨rb, i, none⟩ = false := by simp [World.frozen?, show w.heap[rb]? = _ from h]
theorem RdAt.lt (h : RdAt w rb s p bad dep) : rb < w.heap.size := lt_of_block h
theorem RdAt.drewN (h : RdAt w rb s p bad dep) (n : Nat) : RdAt (w.drewN n) rb s p bad dep := h
theorem RdAt.kept {S : Nat → Prop} (h : RdAt w rb s p bad dep) (f : Fr S w w') (hn : ¬ S rb) : RdAt w' rb s p bad dep := by
  unfold RdAt
  rw [f.block rb h.lt hn]
  exact h
theorem RdAt.other (h : RdAt w rb s p bad dep) {a : Addr} (v : Value) (ha : a.block ≠ rb) : RdAt (w.setCell a v) rb s p bad dep := by
  unfold RdAt
  rw [Below.heap_setCell _ _ _ _ (by omega)]
  exact h
theorem RdAt.alloc (h : RdAt w rb s p bad dep) (o : Obj) : RdAt (w.alloc o) rb s p bad dep := h.kept (Fr.alloc (fun _ => False) _ _) id
theorem RdAt.set1 (h : RdAt w rb s p bad dep) (q : Nat) : RdAt (w.setCell ⟨rb, 1, none⟩ (.int .i64 (q : Int))) rb s q bad dep := by
  have hl := h.lt
  unfold RdAt at h ⊢
  simp only [World.setCell, Array.getElem?_modify, h]
  simp
theorem RdAt.set3 (h : RdAt w rb s p bad dep) (q : Nat) : RdAt (w.setCell ⟨rb, 3, none⟩ (.int .i64 (q : Int))) rb s p bad q := by
  have hl := h.lt
  unfold RdAt at h ⊢
  simp only [World.setCell, Array.getElem?_modify, h]
  simp
end

/-- The byte at a place; 0 at the end. -/
def nx (s : ByteArray) (p : Nat) : Nat := if p < s.size then (s.get! p).toNat else 0

theorem get_bang (s : ByteArray) (p : Nat) (h : p < s.size) : s.get! p = s[p] := by
  cases s with
  | mk d => exact getElem!_pos d p h

set_option maxHeartbeats 2000000 in
theorem next_any (w : World) (rb : Nat) (s : ByteArray) (p : Nat) (bad : Int) (dep : Nat) (hr : RdAt w rb s p bad dep) (hp : p ≤ s.size) (_hs : s.size ≤ 140737488351232) :
    Calls Tryz.prog 99 #[.pointer (some ⟨rb, 0, none⟩)] w fun e w' => e = .returned (.int .u8 (nx s p : Int)) ∧ ∃ n, w' = w.drewN n := by
  have c0 := hr.c0
  have c1 := hr.c1
  by_cases h : p = s.size
  · have h' : ((p : Int) == (s.size : Int)) = true := by simp [h]
    have e : nx s p = 0 := by simp [nx, h]
    rw [e]
    clear e
    go_enter Tryz.func99, Tryz.ntmps99
    go_wp2
    go_quiet (fail)
    go_wp2
    go_ret
    exact ⟨rfl, _, rfl⟩
  · have h' : ((p : Int) == (s.size : Int)) = false := by simp; omega
    have hlt : p < s.size := by omega
    have e : nx s p = (s[p]).toNat := by simp [nx, hlt, get_bang]
    rw [e]
    clear e
    go_enter Tryz.func99, Tryz.ntmps99
    go_wp2
    go_quiet (fail)
    go_wp2
    go_quiet (fail)
    go_wp2
    go_ret
    exact ⟨rfl, _, World.drewN_drewN _ _ _⟩

/-- What a method of the reader may turn: the reader's own block. -/
abbrev Own (rb : Nat) : Nat → Prop := fun k => k = rb

theorem takes_yes (w : World) (rb : Nat) (s : ByteArray) (p : Nat) (bad : Int) (dep b : Nat) (hr : RdAt w rb s p bad dep) (hp : p ≤ s.size) (hs : s.size ≤ 140737488351232) (hb : nx s p = b) :
    Calls Tryz.prog 98 #[.pointer (some ⟨rb, 0, none⟩), .int .u8 (b : Int)] w fun e w' => e = .returned (.bool true) ∧ RdAt w' rb s (p + 1) bad dep ∧ Fr (Own rb) w w' := by
  have c1 := hr.c1
  have z1 := hr.fz 1
  have hx : ((nx s p : Int) != (b : Int)) = false := by simp [hb]
  go_enter Tryz.func98, Tryz.ntmps98
  go_wp2_with (go_at_call 99; refine (next_any _ _ _ _ _ _ hr hp hs).mono ?_; rintro e w1 ⟨rfl, n, rfl⟩)
  go_ret
  exact ⟨rfl, (hr.drewN n).set1 (p + 1), (Fr.drewN _ _ _).trans (Fr.setCell _ _ _ rfl)⟩
theorem takes_no (w : World) (rb : Nat) (s : ByteArray) (p : Nat) (bad : Int) (dep b : Nat) (hr : RdAt w rb s p bad dep) (hp : p ≤ s.size) (hs : s.size ≤ 140737488351232) (hb : nx s p ≠ b) :
    Calls Tryz.prog 98 #[.pointer (some ⟨rb, 0, none⟩), .int .u8 (b : Int)] w fun e w' => e = .returned (.bool false) ∧ RdAt w' rb s p bad dep ∧ Fr (Own rb) w w' := by
  have hx : ((nx s p : Int) != (b : Int)) = true := by simp; omega
  go_enter Tryz.func98, Tryz.ntmps98
  go_wp2_with (go_at_call 99; refine (next_any _ _ _ _ _ _ hr hp hs).mono ?_; rintro e w1 ⟨rfl, n, rfl⟩)
  go_ret
  exact ⟨rfl, hr.drewN n, Fr.drewN _ _ _⟩
/-- Both ways of takes. -/
theorem takes_any (w : World) (rb : Nat) (s : ByteArray) (p : Nat) (bad : Int) (dep b : Nat) (hr : RdAt w rb s p bad dep) (hp : p ≤ s.size) (hs : s.size ≤ 140737488351232) :
    Calls Tryz.prog 98 #[.pointer (some ⟨rb, 0, none⟩), .int .u8 (b : Int)] w fun e w' => e = .returned (.bool (nx s p == b)) ∧ RdAt w' rb s (if nx s p == b then p + 1 else p) bad dep ∧ Fr (Own rb) w w' := by
  by_cases h : nx s p = b
  · rw [show (nx s p == b) = true by simpa using h, if_pos rfl]
    exact takes_yes w rb s p bad dep b hr hp hs h
  · rw [show (nx s p == b) = false by simpa using h, if_neg (by simp)]
    exact takes_no w rb s p bad dep b hr hp hs h

/-- A panic with a fault at a place, of a number. -/
def Thrown (q c : Nat) (e : Ending) (w : World) : Prop :=
  ∃ b, e = .panicked [{ v := .iface 73 (.pointer (some ⟨b, 0, none⟩)), recovered := false }] ∧ w.heap[b]? = some (.cells #[.int .i64 (q : Int), .iface 31 (.int .i64 (c : Int))] 130 (0, 0))

theorem panics0 {fn : Func} {R : Ending → World → Prop} {chain : List PanicEntry} {tmps : Array Value} {w : World} (h : R (.panicked chain) w) : bodyPost Tryz.prog fn R (.panic chain) { tmps := tmps, defers := [] } w := ⟨rfl, h⟩

theorem amiss_any (q c : Nat) (w : World) :
    Calls Tryz.prog 71 #[.int .i64 (q : Int), .int .i64 (c : Int)] w fun e w' => e = .returned (.pointer (some ⟨w.heap.size, 0, none⟩)) ∧ w' = w.alloc (.cells #[.int .i64 (q : Int), .iface 31 (.int .i64 (c : Int))] 130 (0, 0)) := by
  go_enter Tryz.func71, Tryz.ntmps71
  go_wp2
  go_ret
  exact ⟨rfl, rfl⟩

theorem want_yes (w : World) (rb : Nat) (s : ByteArray) (p : Nat) (bad : Int) (dep b : Nat) (hr : RdAt w rb s p bad dep) (hp : p ≤ s.size) (hs : s.size ≤ 140737488351232) (hb : nx s p = b) :
    Calls Tryz.prog 129 #[.pointer (some ⟨rb, 0, none⟩), .int .u8 (b : Int)] w fun e w' => e = .returned (.tuple #[]) ∧ RdAt w' rb s (p + 1) bad dep ∧ Fr (Own rb) w w' := by
  go_enter Tryz.func129, Tryz.ntmps129
  go_wp2_with (go_at_call 98; refine (takes_yes _ _ _ _ _ _ _ hr hp hs hb).mono ?_; rintro e w1 ⟨rfl, hr1, f1⟩)
  go_end0
  exact ⟨rfl, hr1, f1⟩
theorem want_no (w : World) (rb : Nat) (s : ByteArray) (p : Nat) (bad : Int) (dep b : Nat) (hr : RdAt w rb s p bad dep) (hp : p ≤ s.size) (hs : s.size ≤ 140737488351232) (hb : nx s p ≠ b) :
    Calls Tryz.prog 129 #[.pointer (some ⟨rb, 0, none⟩), .int .u8 (b : Int)] w fun e w' => Thrown p 3 e w' ∧ Fr (Own rb) w w' := by
  go_enter Tryz.func129, Tryz.ntmps129
  go_wp2_with (first
    | (go_at_call 98; refine (takes_no _ _ _ _ _ _ _ hr hp hs hb).mono ?_; rintro e w1 ⟨rfl, hr1, f1⟩; have c1 := hr1.c1)
    | (go_at_call 71; refine (amiss_any _ _ _).mono ?_; rintro e w2 ⟨rfl, rfl⟩))
  exact panics0 ⟨⟨_, rfl, heap_alloc_new _ _⟩, f1.trans (Fr.alloc _ _ _)⟩
end Go.Proofs.YtiakidomcjpdhaaGreatDoor

namespace Go.Proofs.YtiakidomcjpdhaaGreatDoor
open Go.RowKit

def isBl (c : Nat) : Bool := c == 32 || c == 10 || c == 13 || c == 9
def blF (s : ByteArray) : Nat → Nat → Nat
  | 0, p => p
  | f + 1, p => if isBl (nx s p) then blF s f (p + 1) else p
/-- Past all blanks from p on. -/
def bl (s : ByteArray) (p : Nat) : Nat := blF s (s.size - p) p

theorem nx_end (s : ByteArray) (p : Nat) (h : ¬ p < s.size) : nx s p = 0 := by simp [nx, h]
theorem lt_of_nx {s : ByteArray} {p : Nat} (h : nx s p ≠ 0) : p < s.size := by
  by_cases hp : p < s.size
  · exact hp
  · exact absurd (nx_end s p hp) h
theorem nx_lt (s : ByteArray) (p : Nat) : nx s p < 256 := by
  unfold nx
  split
  · exact UInt8.toNat_lt _
  · omega
theorem bl_yes (s : ByteArray) (p : Nat) (h : isBl (nx s p) = true) : bl s p = bl s (p + 1) := by
  have hp : p < s.size := lt_of_nx (by intro e; rw [e] at h; exact absurd h (by decide))
  unfold bl
  obtain ⟨k, hk⟩ : ∃ k, s.size - p = k + 1 := ⟨s.size - p - 1, by omega⟩
  rw [hk, blF, if_pos h, show s.size - (p + 1) = k by omega]
theorem bl_no (s : ByteArray) (p : Nat) (h : isBl (nx s p) = false) : bl s p = p := by
  unfold bl
  cases hk : s.size - p with
  | zero => rfl
  | succ k => rw [blF, h]; rfl
theorem bl_le (s : ByteArray) (p : Nat) (hp : p ≤ s.size) : p ≤ bl s p ∧ bl s p ≤ s.size := by
  generalize hn : s.size - p = n
  induction n generalizing p with
  | zero =>
    have : bl s p = p := by unfold bl; rw [hn]; rfl
    omega
  | succ n ih =>
    cases h : isBl (nx s p) with
    | true => rw [bl_yes s p h]; have := ih (p + 1) (by omega) (by omega); omega
    | false => rw [bl_no s p h]; omega

/-- Where the reader stands, read off the world. -/
def posOf (w : World) (rb : Nat) : Nat := match w.cell? ⟨rb, 1, none⟩ with | some (.int _ n) => n.toNat | _ => 0
theorem RdAt.pos {w : World} {rb : Nat} {s : ByteArray} {p : Nat} {bad : Int} {dep : Nat} (h : RdAt w rb s p bad dep) : posOf w rb = p := by simp [posOf, h.c1]

set_option maxHeartbeats 4000000 in
theorem blanks_any (w : World) (rb : Nat) (s : ByteArray) (p : Nat) (bad : Int) (dep : Nat) (hr : RdAt w rb s p bad dep) (hp : p ≤ s.size) (hs : s.size ≤ 140737488351232) :
    Calls Tryz.prog 69 #[.pointer (some ⟨rb, 0, none⟩)] w fun e w' => e = .returned (.tuple #[]) ∧ RdAt w' rb s (bl s p) bad dep ∧ Fr (Own rb) w w' := by
  go_enter Tryz.func69, Tryz.ntmps69
  go_wp2
  go_loopw [] (fun w' => ∃ q : Nat, RdAt w' rb s q bad dep ∧ Fr (Own rb) w w' ∧ Hid (bl s q = bl s p) ∧ q ≤ s.size) (fun w' => s.size - posOf w' rb)
  case atStart => exact ⟨p, hr, Fr.refl _ _, rfl, hp⟩
  case round =>
    obtain ⟨q, hr0, f0, HB, hq⟩ := hrel
    have hpos0 := hr0.pos
    by_cases h1 : nx s q = 32
    · go_wp2_with (go_at_call 98; refine (takes_yes _ _ _ _ _ _ 32 hr0 hq hs h1).mono ?_; rintro e w1 ⟨rfl, hr1, f1⟩)
      go_roundw
      case rel => exact ⟨q + 1, hr1, f0.trans f1, (bl_yes s q (by simp [isBl, h1])).symm.trans HB.out, lt_of_nx (by omega)⟩
      case measure => rw [hr1.pos, hpos0]; have := lt_of_nx (s := s) (p := q) (by omega); omega
    · by_cases h2 : nx s q = 10
      · go_wp2_with (first
          | (go_at_call 98; have hh := hr1; refine (takes_yes _ _ _ _ _ _ 10 hr1 hq hs h2).mono ?_; rintro e w2 ⟨rfl, hr2, f2⟩)
          | (go_at_call 98; refine (takes_no _ _ _ _ _ _ 32 hr0 hq hs h1).mono ?_; rintro e w1 ⟨rfl, hr1, f1⟩))
        go_roundw
        case rel => exact ⟨q + 1, hr2, (f0.trans f1).trans f2, (bl_yes s q (by simp [isBl, h2])).symm.trans HB.out, lt_of_nx (by omega)⟩
        case measure => rw [hr2.pos, hpos0]; have := lt_of_nx (s := s) (p := q) (by omega); omega
      · by_cases h3 : nx s q = 13
        · go_wp2_with (first
            | (go_at_call 98; have hh := hr2; refine (takes_yes _ _ _ _ _ _ 13 hr2 hq hs h3).mono ?_; rintro e w3 ⟨rfl, hr3, f3⟩)
            | (go_at_call 98; have hh := hr1; refine (takes_no _ _ _ _ _ _ 10 hr1 hq hs h2).mono ?_; rintro e w2 ⟨rfl, hr2, f2⟩)
            | (go_at_call 98; refine (takes_no _ _ _ _ _ _ 32 hr0 hq hs h1).mono ?_; rintro e w1 ⟨rfl, hr1, f1⟩))
          go_roundw
          case rel => exact ⟨q + 1, hr3, ((f0.trans f1).trans f2).trans f3, (bl_yes s q (by simp [isBl, h3])).symm.trans HB.out, lt_of_nx (by omega)⟩
          case measure => rw [hr3.pos, hpos0]; have := lt_of_nx (s := s) (p := q) (by omega); omega
        · by_cases h4 : nx s q = 9
          · go_wp2_with (first
              | (go_at_call 98; have hh := hr3; refine (takes_yes _ _ _ _ _ _ 9 hr3 hq hs h4).mono ?_; rintro e w4 ⟨rfl, hr4, f4⟩)
              | (go_at_call 98; have hh := hr2; refine (takes_no _ _ _ _ _ _ 13 hr2 hq hs h3).mono ?_; rintro e w3 ⟨rfl, hr3, f3⟩)
              | (go_at_call 98; have hh := hr1; refine (takes_no _ _ _ _ _ _ 10 hr1 hq hs h2).mono ?_; rintro e w2 ⟨rfl, hr2, f2⟩)
              | (go_at_call 98; refine (takes_no _ _ _ _ _ _ 32 hr0 hq hs h1).mono ?_; rintro e w1 ⟨rfl, hr1, f1⟩))
            go_roundw
            case rel => exact ⟨q + 1, hr4, (((f0.trans f1).trans f2).trans f3).trans f4, (bl_yes s q (by simp [isBl, h4])).symm.trans HB.out, lt_of_nx (by omega)⟩
            case measure => rw [hr4.pos, hpos0]; have := lt_of_nx (s := s) (p := q) (by omega); omega
          · have e : bl s p = q := HB.out.symm.trans (bl_no s q (by simp [isBl, h1, h2, h3, h4]))
            go_wp2_with (first
              | (go_at_call 98; have hh := hr3; refine (takes_no _ _ _ _ _ _ 9 hr3 hq hs h4).mono ?_; rintro e w4 ⟨rfl, hr4, f4⟩)
              | (go_at_call 98; have hh := hr2; refine (takes_no _ _ _ _ _ _ 13 hr2 hq hs h3).mono ?_; rintro e w3 ⟨rfl, hr3, f3⟩)
              | (go_at_call 98; have hh := hr1; refine (takes_no _ _ _ _ _ _ 10 hr1 hq hs h2).mono ?_; rintro e w2 ⟨rfl, hr2, f2⟩)
              | (go_at_call 98; refine (takes_no _ _ _ _ _ _ 32 hr0 hq hs h1).mono ?_; rintro e w1 ⟨rfl, hr1, f1⟩))
            go_end0
            rw [e]
            exact ⟨rfl, hr4, (((f0.trans f1).trans f2).trans f3).trans f4⟩

/-- How a method of the reader ends: by what the plain reading says. -/
def Out {α : Type} (r : Except (Nat × Nat) α) (ok : α → Ending → World → Prop) (K : World → Prop) (e : Ending) (w' : World) : Prop :=
  match r with
  | .ok x => ok x e w'
  | .error qc => Thrown qc.1 qc.2 e w' ∧ K w'
theorem Out.yes {α : Type} {r : Except (Nat × Nat) α} {ok : α → Ending → World → Prop} {K : World → Prop} {e : Ending} {w' : World} {x : α} (h : r = .ok x) (hx : ok x e w') : Out r ok K e w' := by
  subst h; exact hx
theorem Out.no {α : Type} {r : Except (Nat × Nat) α} {ok : α → Ending → World → Prop} {K : World → Prop} {e : Ending} {w' : World} {q c : Nat} (h : r = .error (q, c)) (hx : Thrown q c e w' ∧ K w') : Out r ok K e w' := by
  subst h; exact hx
theorem Out.isOk {α : Type} {r : Except (Nat × Nat) α} {ok : α → Ending → World → Prop} {K : World → Prop} {e : Ending} {w' : World} {x : α} (h : r = .ok x) (hx : Out r ok K e w') : ok x e w' := by
  subst h; exact hx
theorem Out.isNo {α : Type} {r : Except (Nat × Nat) α} {ok : α → Ending → World → Prop} {K : World → Prop} {e : Ending} {w' : World} {q c : Nat} (h : r = .error (q, c)) (hx : Out r ok K e w') : Thrown q c e w' ∧ K w' := by
  subst h; exact hx

/-- The bytes of a string, as numbers. -/
def bts (s : ByteArray) : List Nat := s.data.toList.map (·.toNat)
def wordS (s : ByteArray) : List Nat → Nat → Except (Nat × Nat) Nat
  | [], p => .ok p
  | c :: t, p => if nx s p = c then wordS s t (p + 1) else .error (p, 3)

theorem bts_drop (s : ByteArray) (i : Nat) (h : i < s.size) : (bts s).drop i = (s[i]).toNat :: (bts s).drop (i + 1) := by
  cases s with
  | mk d =>
    have h' : i < d.toList.length := by simpa using (show i < d.size from h)
    unfold bts
    rw [List.drop_eq_getElem_cons (by simpa using h')]
    simp
    rfl
theorem bts_end (s : ByteArray) (i : Nat) (h : ¬ i < s.size) : (bts s).drop i = [] := by
  cases s with
  | mk d =>
    have h' : ¬ i < d.size := h
    simp [bts]
    omega

theorem heap_new1 (w : World) (o o' : Obj) : ((w.alloc o).alloc o').heap[w.heap.size + 1]? = some o' := by
  have := heap_alloc_new (w.alloc o) o'
  simpa using this
theorem box6 {w : World} {b : Nat} {a0 a1 a2 a3 a4 a5 : Value} {t : TypeId} (h : w.heap[b]? = some (.cells #[a0, a1, a2, a3, a4, a5] t (0, 0))) :
    w.cell? ⟨b, 0, none⟩ = some a0 ∧ w.cell? ⟨b, 1, none⟩ = some a1 ∧ w.cell? ⟨b, 2, none⟩ = some a2 ∧ w.cell? ⟨b, 3, none⟩ = some a3 ∧ w.cell? ⟨b, 4, none⟩ = some a4 ∧ w.cell? ⟨b, 5, none⟩ = some a5 := by
  simp [World.cell?, h]
theorem box_fz {w : World} {b : Nat} {c : Array Value} {t : TypeId} (h : w.heap[b]? = some (.cells c t (0, 0))) (i : Nat) : w.frozen? ⟨b, i, none⟩ = false := by
  simp [World.frozen?, h]

set_option maxHeartbeats 4000000 in
theorem word_any (w : World) (rb : Nat) (s : ByteArray) (p : Nat) (bad : Int) (dep : Nat) (wd : ByteArray) (k : Int) (b : Bool) (hr : RdAt w rb s p bad dep) (hp : p ≤ s.size) (hs : s.size ≤ 140737488351232) (hw : wd.size ≤ 8) (hz : ∀ i (h : i < wd.size), (wd[i]).toNat ≠ 0) :
    Calls Tryz.prog 100 #[.pointer (some ⟨rb, 0, none⟩), .string wd, .agg #[.int .i64 k, .bool b, .int .i64 0, .string ⟨#[]⟩, .slice none 0 0, .slice none 0 0]] w (Out (wordS s (bts wd) p)
      (fun q e w' => e = .returned (.agg #[.int .i64 k, .bool b, .int .i64 0, .string ⟨#[]⟩, .slice none 0 0, .slice none 0 0]) ∧ RdAt w' rb s q bad dep ∧ q ≤ s.size ∧ Fr (Own rb) w w') (Fr (Own rb) w)) := by
  have hlt := hr.lt
  go_enter Tryz.func100, Tryz.ntmps100
  go_wp2
  go_loopw [10] (fun v w' => ∃ i : Nat, v = .int .i64 (i : Int) ∧ i ≤ wd.size ∧ RdAt w' rb s (p + i) bad dep ∧ p + i ≤ s.size ∧ Hid (wordS s ((bts wd).drop i) (p + i) = wordS s (bts wd) p) ∧ Fr (Own rb) ((w.alloc (.cells #[.int .i64 k, .bool b, .int .i64 0, .string ⟨#[]⟩, .slice none 0 0, .slice none 0 0] 25)).alloc (.cells #[.int .i64 0, .bool false, .int .i64 0, .string ⟨#[]⟩, .slice none 0 0, .slice none 0 0] 25)) w') (fun v _ => wd.size - (match v with | .int _ n => n.toNat | _ => 0))
  case atStart => exact ⟨0, rfl, Nat.zero_le _, (hr.kept (Fr.alloc (fun _ => False) _ _) id).kept (Fr.alloc (fun _ => False) _ _) id, hp, rfl, Fr.refl _ _⟩
  case round =>
    obtain ⟨i, rfl, hi, hr0, hpi, HS, f0⟩ := hrel
    have f1 : Fr (Own rb) w wr := ((Fr.alloc _ _ _).trans (Fr.alloc _ _ _)).trans f0
    by_cases hl : i < wd.size
    · have hl' : (i : Int) < (wd.size : Int) := by omega
      have hdr := bts_drop wd i hl
      by_cases hx : nx s (p + i) = (wd[i]).toNat
      · have hlt2 := lt_of_nx (s := s) (p := p + i) (by rw [hx]; exact hz i hl)
        go_wp2_with (go_at_call 129; refine (want_yes _ _ _ _ _ _ _ hr0 hpi hs hx).mono ?_; rintro e w1 ⟨rfl, hr1, f2⟩)
        go_roundw
        case rel => exact ⟨i + 1, by simp, by omega, hr1, by omega, (by show _ = _; rw [← HS.out, hdr, wordS, if_pos hx]; rfl), f0.trans f2⟩
        case measure => simp; omega
      · go_wp2_with (go_at_call 129; refine (want_no _ _ _ _ _ _ _ hr0 hpi hs hx).mono ?_; rintro e w1 ⟨⟨bk, rfl, hb⟩, f2⟩)
        exact panics0 (Out.no (q := p + i) (c := 3) (by rw [← HS.out, hdr, wordS, if_neg hx]) ⟨⟨bk, rfl, hb⟩, f1.trans f2⟩)
    · have hl' : ¬ (i : Int) < (wd.size : Int) := by omega
      have E : Hid (wordS s (bts wd) p = .ok (p + i)) := by show _ = _; rw [← HS.out, bts_end wd i hl, wordS]
      have hb1 : wr.heap[w.heap.size]? = some (.cells #[.int .i64 k, .bool b, .int .i64 0, .string ⟨#[]⟩, .slice none 0 0, .slice none 0 0] 25 (0, 0)) := by
        rw [f0.block _ (by simp; omega) (by show ¬ _ = _; omega), Below.heap_alloc _ _ _ (by simp)]
        exact heap_alloc_new _ _
      have hb2 : wr.heap[w.heap.size + 1]? = some (.cells #[.int .i64 0, .bool false, .int .i64 0, .string ⟨#[]⟩, .slice none 0 0, .slice none 0 0] 25 (0, 0)) := by
        rw [f0.block _ (by simp) (by show ¬ _ = _; omega)]
        exact heap_new1 _ _ _
      obtain ⟨x0, x1, x2, x3, x4, x5⟩ := box6 hb1
      obtain ⟨y0, y1, y2, y3, y4, y5⟩ := box6 hb2
      have z0 := box_fz hb2 0
      have z1 := box_fz hb2 1
      have z2 := box_fz hb2 2
      have z3 := box_fz hb2 3
      have z4 := box_fz hb2 4
      have z5 := box_fz hb2 5
      clear hb1 hb2
      go_wp2
      refine bodyPost_ret (v := .agg #[.int .i64 k, .bool b, .int .i64 0, .string ⟨#[]⟩, .slice none 0 0, .slice none 0 0]) (by simp [results, Tryz.results100, go_sem, *]) rfl (Out.yes E.out ⟨rfl, ?_, hpi, ?_⟩)
      · exact (((((hr0.other _ (by simp; omega)).other _ (by simp; omega)).other _ (by simp; omega)).other _ (by simp; omega)).other _ (by simp; omega)).other _ (by simp; omega)
      · exact (((((f1.setNew _ (by simp)).setNew _ (by simp)).setNew _ (by simp)).setNew _ (by simp)).setNew _ (by simp)).setNew _ (by simp)
end Go.Proofs.YtiakidomcjpdhaaGreatDoor

namespace Go.Proofs.YtiakidomcjpdhaaGreatDoor
open Go.RowKit

def isDg (c : Nat) : Bool := decide (48 ≤ c) && decide (c ≤ 57)
def dgF (s : ByteArray) : Nat → Nat → Nat → Nat × Nat
  | 0, n, p => (n, p)
  | f + 1, n, p => if isDg (nx s p) then dgF s f (min (n * 10 + (nx s p - 48)) 9007199254740992) (p + 1) else (n, p)
/-- A number without its sign from p on: its size, and the place behind it. -/
def digitsS (s : ByteArray) (p : Nat) : Except (Nat × Nat) (Nat × Nat) :=
  if isDg (nx s p) then (if nx s p = 48 then .ok (0, p + 1) else .ok (dgF s (s.size - p) 0 p)) else .error (p, 3)
def numberS (s : ByteArray) (p : Nat) : Except (Nat × Nat) (Int × Nat) :=
  match digitsS s (if nx s p = 45 then p + 1 else p) with
  | .error x => .error x
  | .ok (n, q) => if 9007199254740991 < n then .error (p, 5) else .ok (if nx s p = 45 then -(n : Int) else (n : Int), q)

theorem isDigit_any (c : Nat) (w : World) :
    Calls Tryz.prog 104 #[.int .u8 (c : Int)] w fun e w' => e = .returned (.bool (isDg c)) ∧ w' = w := by
  by_cases h1 : 48 ≤ c
  · by_cases h2 : c ≤ 57
    · have e : isDg c = true := by simp [isDg, h1, h2]
      rw [e]
      go_enter Tryz.func104, Tryz.ntmps104
      go_wp2
      go_ret
      exact ⟨by simp; omega, rfl⟩
    · have e : isDg c = false := by simp [isDg, h2]
      rw [e]
      go_enter Tryz.func104, Tryz.ntmps104
      go_wp2
      go_ret
      exact ⟨by simp; omega, rfl⟩
  · have e : isDg c = false := by simp [isDg, h1]
    rw [e]
    go_enter Tryz.func104, Tryz.ntmps104
    go_wp2
    go_ret
    exact ⟨rfl, rfl⟩

theorem isDg_iff (c : Nat) : isDg c = true ↔ 48 ≤ c ∧ c ≤ 57 := by simp [isDg]

set_option maxHeartbeats 4000000 in
theorem digits_any (w : World) (rb : Nat) (s : ByteArray) (p : Nat) (bad : Int) (dep : Nat) (hr : RdAt w rb s p bad dep) (hp : p ≤ s.size) (hs : s.size ≤ 140737488351232) :
    Calls Tryz.prog 135 #[.pointer (some ⟨rb, 0, none⟩)] w (Out (digitsS s p)
      (fun x e w' => e = .returned (.int .i64 (x.1 : Int)) ∧ x.1 ≤ 9007199254740992 ∧ RdAt w' rb s x.2 bad dep ∧ p < x.2 ∧ x.2 ≤ s.size ∧ Fr (Own rb) w w') (Fr (Own rb) w)) := by
  by_cases hd : isDg (nx s p) = true
  · have hlt := lt_of_nx (s := s) (p := p) (by rw [isDg_iff] at hd; omega)
    by_cases h0 : nx s p = 48
    · have E : Hid (digitsS s p = .ok (0, p + 1)) := by show _ = _; rw [digitsS, if_pos hd, if_pos h0]
      go_enter Tryz.func135, Tryz.ntmps135
      go_wp2_with (first
        | (go_at_call 99; refine (next_any _ _ _ _ _ _ hr hp hs).mono ?_; rintro e w1 ⟨rfl, n, rfl⟩)
        | (go_at_call 104; refine (isDigit_any _ _).mono ?_; rintro e w2 ⟨rfl, rfl⟩)
        | (go_at_call 98; refine (takes_yes _ _ _ _ _ _ 48 (hr.drewN n) hp hs h0).mono ?_; rintro e w3 ⟨rfl, hr3, f3⟩))
      go_ret
      exact Out.yes E.out ⟨rfl, by simp, hr3, by simp, hlt, (Fr.drewN _ _ _).trans f3⟩
    · have E : Hid (digitsS s p = .ok (dgF s (s.size - p) 0 p)) := by show _ = _; simp [digitsS, hd, h0]
      have hz : ((nx s p : Int) == 48) = false := by simp; omega
      go_enter Tryz.func135, Tryz.ntmps135
      go_wp2_with (first
        | (go_at_call 99; refine (next_any _ _ _ _ _ _ hr hp hs).mono ?_; rintro e w1 ⟨rfl, n, rfl⟩)
        | (go_at_call 104; refine (isDigit_any _ _).mono ?_; rintro e w2 ⟨rfl, rfl⟩)
        | (go_at_call 98; refine (takes_no _ _ _ _ _ _ 48 (hr.drewN n) hp hs h0).mono ?_; rintro e w3 ⟨rfl, hr3, f3⟩))
      have f4 : Fr (Own rb) w w3 := (Fr.drewN _ _ _).trans f3
      clear f3
      go_loopw [3] (fun v w' => ∃ (m q f : Nat), v = .int .i64 (m : Int) ∧ m ≤ 9007199254740992 ∧ RdAt w' rb s q bad dep ∧ p ≤ q ∧ q ≤ s.size ∧ s.size ≤ q + f ∧ Hid (dgF s f m q = dgF s (s.size - p) 0 p) ∧ Fr (Own rb) w w') (fun _ w' => s.size - posOf w' rb)
      case atStart => exact ⟨0, p, s.size - p, rfl, by omega, hr3, by omega, by omega, by omega, rfl, f4⟩
      case round =>
        obtain ⟨m, q, f, rfl, hm, hr5, hpq, hq, hf, HD, f5⟩ := hrel
        have hpos0 := hr5.pos
        by_cases hx : isDg (nx s q) = true
        · have hb := (isDg_iff _).1 hx
          have hlq := lt_of_nx (s := s) (p := q) (by omega)
          obtain ⟨g, rfl⟩ : ∃ g, f = g + 1 := ⟨f - 1, by omega⟩
          have HD' : Hid (dgF s g (min (m * 10 + (nx s q - 48)) 9007199254740992) (q + 1) = dgF s (s.size - p) 0 p) := by show _ = _; rw [← HD.out, dgF, if_pos hx]
          clear HD
          have c1 := hr5.c1
          have z1 := hr5.fz 1
          go_wp2_with (first
            | (go_at_call 99; have hh := n1; refine (next_any _ _ _ _ _ _ (hr5.drewN n1) hq hs).mono ?_; rintro e w7 ⟨rfl, n2, rfl⟩)
            | (go_at_call 99; refine (next_any _ _ _ _ _ _ hr5 hq hs).mono ?_; rintro e w6 ⟨rfl, n1, rfl⟩)
            | (go_at_call 104; refine (isDigit_any _ _).mono ?_; rintro e w8 ⟨rfl, rfl⟩))
          refine ⟨⟨min (m * 10 + (nx s q - 48)) 9007199254740992, q + 1, g, ?_, by omega, (hr5.drewN _).set1 (q + 1), by omega, by omega, by omega, HD', f5.trans ((Fr.drewN _ _ _).trans (Fr.setCell _ _ _ rfl))⟩, ?_⟩
          · congr 1
            split <;> omega
          · rw [show posOf ((wr.drewN (n1 + n2)).setCell ⟨rb, 1, none⟩ (.int .i64 ((q : Int) + 1))) rb = q + 1 from ((hr5.drewN (n1 + n2)).set1 (q + 1)).pos, hpos0]
            omega
        · have hx' : isDg (nx s q) = false := by simpa using hx
          have HE : Hid (dgF s (s.size - p) 0 p = (m, q)) := by
            show _ = _
            rw [← HD.out]
            cases f with
            | zero => rfl
            | succ f => rw [dgF, if_neg hx]
          clear HD
          have hqp : q ≠ p := by intro h; rw [h] at hx; exact hx hd
          go_wp2_with (first
            | (go_at_call 99; refine (next_any _ _ _ _ _ _ hr5 hq hs).mono ?_; rintro e w6 ⟨rfl, n1, rfl⟩)
            | (go_at_call 104; refine (isDigit_any _ _).mono ?_; rintro e w8 ⟨rfl, rfl⟩))
          go_ret
          exact Out.yes (E.out.trans (congrArg _ HE.out)) ⟨rfl, hm, hr5.drewN _, by show p < q; omega, hq, f5.trans (Fr.drewN _ _ _)⟩
  · have hd' : isDg (nx s p) = false := by simpa using hd
    have E : Hid (digitsS s p = .error (p, 3)) := by show _ = _; rw [digitsS, if_neg hd]
    have c1 := hr.c1
    go_enter Tryz.func135, Tryz.ntmps135
    go_wp2_with (first
      | (go_at_call 99; refine (next_any _ _ _ _ _ _ hr hp hs).mono ?_; rintro e w1 ⟨rfl, n, rfl⟩)
      | (go_at_call 104; refine (isDigit_any _ _).mono ?_; rintro e w2 ⟨rfl, rfl⟩)
      | (go_at_call 71; refine (amiss_any _ _ _).mono ?_; rintro e w2 ⟨rfl, rfl⟩))
    exact panics0 (Out.no E.out ⟨⟨_, rfl, heap_alloc_new _ _⟩, (Fr.drewN _ _ _).trans (Fr.alloc _ _ _)⟩)

set_option maxHeartbeats 4000000 in
theorem number_any (w : World) (rb : Nat) (s : ByteArray) (p : Nat) (bad : Int) (dep : Nat) (hr : RdAt w rb s p bad dep) (hp : p ≤ s.size) (hs : s.size ≤ 140737488351232) :
    Calls Tryz.prog 105 #[.pointer (some ⟨rb, 0, none⟩)] w (Out (numberS s p)
      (fun x e w' => e = .returned (.int .i64 x.1) ∧ RdAt w' rb s x.2 bad dep ∧ p < x.2 ∧ x.2 ≤ s.size ∧ Fr (Own rb) w w') (Fr (Own rb) w)) := by
  have c1 := hr.c1
  obtain ⟨b, hb⟩ : ∃ b, (nx s p == 45) = b := ⟨_, rfl⟩
  obtain ⟨p1, hp1⟩ : ∃ p1, (if nx s p == 45 then p + 1 else p) = p1 := ⟨_, rfl⟩
  have hp1' : p ≤ p1 ∧ p1 ≤ s.size := by
    rw [← hp1]
    split
    · rename_i h
      have := lt_of_nx (s := s) (p := p) (by simp at h; omega)
      omega
    · omega
  have HN : Hid (numberS s p = match digitsS s p1 with | .error x => .error x | .ok (n, q) => if 9007199254740991 < n then .error (p, 5) else .ok (if b then -(n : Int) else (n : Int), q)) := by
    show _ = _
    rw [numberS, ← hp1, ← hb]
    simp
  have ht := takes_any w rb s p bad dep 45 hr hp hs
  rw [hb, show (if b = true then p + 1 else p) = p1 by rw [← hb]; exact hp1] at ht
  clear hb hp1
  cases hd : digitsS s p1 with
  | error x =>
    have HN' : Hid (numberS s p = .error (x.1, x.2)) := by show _ = _; rw [HN.out, hd]
    have HD : Hid (digitsS s p1 = .error (x.1, x.2)) := hd
    clear hd HN
    go_enter Tryz.func105, Tryz.ntmps105
    go_wp2_with (first
      | (go_at_call 98; refine ht.mono ?_; rintro e w1 ⟨rfl, hr1, f1⟩)
      | (go_at_call 135; refine (digits_any _ _ _ _ _ _ hr1 hp1'.2 hs).mono ?_; intro e w2 ho; obtain ⟨⟨bk, rfl, hbk⟩, f2⟩ := Out.isNo HD.out ho; clear ho))
    exact panics0 (Out.no HN'.out ⟨⟨_, rfl, hbk⟩, f1.trans f2⟩)
  | ok x =>
    obtain ⟨m, q⟩ := x
    have HD : Hid (digitsS s p1 = .ok (m, q)) := hd
    by_cases hm : 9007199254740991 < m
    · have HN' : Hid (numberS s p = .error (p, 5)) := by show _ = _; rw [HN.out, hd]; simp only [if_pos hm]
      clear hd HN
      go_enter Tryz.func105, Tryz.ntmps105
      go_wp2_with (first
        | (go_at_call 98; refine ht.mono ?_; rintro e w1 ⟨rfl, hr1, f1⟩)
        | (go_at_call 135; refine (digits_any _ _ _ _ _ _ hr1 hp1'.2 hs).mono ?_; intro e w2 ho; obtain ⟨rfl, hm2, hr2, hq1, hq2, f2⟩ := Out.isOk HD.out ho; clear ho)
        | (go_at_call 71; refine (amiss_any _ _ _).mono ?_; rintro e w2 ⟨rfl, rfl⟩))
      exact panics0 (Out.no HN'.out ⟨⟨_, rfl, heap_alloc_new _ _⟩, (f1.trans f2).trans (Fr.alloc _ _ _)⟩)
    · have HN' : Hid (numberS s p = .ok (if b then -(m : Int) else (m : Int), q)) := by show _ = _; rw [HN.out, hd]; simp only [if_neg hm]
      clear hd HN
      cases b with
      | true =>
        go_enter Tryz.func105, Tryz.ntmps105
        go_wp2_with (first
          | (go_at_call 98; refine ht.mono ?_; rintro e w1 ⟨rfl, hr1, f1⟩)
          | (go_at_call 135; refine (digits_any _ _ _ _ _ _ hr1 hp1'.2 hs).mono ?_; intro e w2 ho; obtain ⟨rfl, hm2, hr2, hq1, hq2, f2⟩ := Out.isOk HD.out ho; clear ho))
        go_ret
        exact Out.yes HN'.out ⟨by simp, hr2, by show p < q; have : p1 < q := hq1; omega, hq2, f1.trans f2⟩
      | false =>
        go_enter Tryz.func105, Tryz.ntmps105
        go_wp2_with (first
          | (go_at_call 98; refine ht.mono ?_; rintro e w1 ⟨rfl, hr1, f1⟩)
          | (go_at_call 135; refine (digits_any _ _ _ _ _ _ hr1 hp1'.2 hs).mono ?_; intro e w2 ho; obtain ⟨rfl, hm2, hr2, hq1, hq2, f2⟩ := Out.isOk HD.out ho; clear ho))
        go_ret
        exact Out.yes HN'.out ⟨by simp, hr2, by show p < q; have : p1 < q := hq1; omega, hq2, f1.trans f2⟩
end Go.Proofs.YtiakidomcjpdhaaGreatDoor
