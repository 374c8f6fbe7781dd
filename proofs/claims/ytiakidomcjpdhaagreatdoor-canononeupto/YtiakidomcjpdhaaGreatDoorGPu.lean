/- A function value that takes pieces of a text and keeps them; which memory it may turn. -/
import Derived.Test.YtiakidomcjpdhaaGreatDoorGCh
import Derived.Test.YtiakidomcjpdhaaGreatDoorGGvb
import Derived.Lib.ItoaNum
import Derived.Lib.TrailingZeros
import Derived.Test.YtiakidomcjpdhaaGreatDoorGLz
namespace Go.Proofs.YtiakidomcjpdhaaGreatDoor
open Go.RowKit
namespace Pu

/-- What a call may have turned: of the blocks that were there those of S; S' is what belongs to the function value now. -/
structure Kp (S : Nat → Prop) (w : World) (S' : Nat → Prop) (w' : World) : Prop where
  fr : Fr S w w'
  own : ∀ b, S' b → S b ∨ w.heap.size ≤ b
theorem Kp.refl (S : Nat → Prop) (w : World) : Kp S w S w := ⟨Fr.refl _ _, fun _ h => .inl h⟩
theorem Kp.trans {S S1 S2 : Nat → Prop} {a b c : World} (h : Kp S a S1 b) (k : Kp S1 b S2 c) : Kp S a S2 c :=
  ⟨⟨k.fr.os.trans h.fr.os, k.fr.tape.trans h.fr.tape, k.fr.output.trans h.fr.output, Nat.le_trans h.fr.size k.fr.size, fun i hi hs => (k.fr.block i (Nat.lt_of_lt_of_le hi h.fr.size) (fun h1 => (h.own i h1).elim hs (fun h2 => absurd hi (Nat.not_lt.2 h2)))).trans (h.fr.block i hi hs)⟩,
    fun b hb => (k.own b hb).elim (fun h1 => h.own b h1) (fun h1 => .inr (Nat.le_trans h.fr.size h1))⟩
theorem Kp.below {S : Nat → Prop} {w w' : World} (h : Below w.heap.size w w') : Kp S w S w' := ⟨Fr.of_below h, fun _ h => .inl h⟩
/-- A block that is none of S lies as it did, and stays none of S'. -/
theorem Kp.block {S S' : Nat → Prop} {w w' : World} (h : Kp S w S' w') {b : Nat} (hb : b < w.heap.size) (hs : ¬ S b) : w'.heap[b]? = w.heap[b]? ∧ ¬ S' b :=
  ⟨h.fr.block b hb hs, fun h1 => (h.own b h1).elim hs (fun h2 => absurd hb (Nat.not_lt.2 h2))⟩
theorem Kp.laid {S S' : Nat → Prop} {w w' : World} (h : Kp S w S' w') {x : GV} {cs : List Value} (hx : LaidV w (fun b => ¬ S b) x cs) : LaidV w' (fun b => ¬ S' b) x cs :=
  hx.conv fun _ hb hl => ⟨(h.block hl hb).2, (h.block hl hb).1⟩
theorem Kp.laidL {S S' : Nat → Prop} {w w' : World} (h : Kp S w S' w') {x : List GV} {cs : List Value} (hx : LaidL w (fun b => ¬ S b) x cs) : LaidL w' (fun b => ¬ S' b) x cs :=
  hx.conv fun _ hb hl => ⟨(h.block hl hb).2, (h.block hl hb).1⟩
theorem Kp.laidF {S S' : Nat → Prop} {w w' : World} (h : Kp S w S' w') {x : List (ByteArray × GV)} {cs : List Value} (hx : LaidF w (fun b => ¬ S b) x cs) : LaidF w' (fun b => ¬ S' b) x cs :=
  hx.conv fun _ hb hl => ⟨(h.block hl hb).2, (h.block hl hb).1⟩

abbrev Pow (w : World) : Prop := Lib.TabIs Tryz.prog w "internal/strconv.uint64pow10" .u64 Lib.pow10Tab
abbrev Dbr (w : World) : Prop := Lib.TabIs Tryz.prog w "math/bits.deBruijn64tab" .u8 (Lib.deBruijn64tab.map fun n : Nat => (n : Int))
/-- The two tables that the texts of numbers want. -/
def Pow10 (w : World) : Prop := Pow w ∧ Dbr w
theorem Pow10.of {w w' : World} (h : Pow10 w) (h0 : w'.heap[0]? = w.heap[0]?) (h4 : w'.heap[4]? = w.heap[4]?) : Pow10 w' := by
  obtain ⟨h, hd⟩ := h
  refine ⟨?_, ?_⟩
  · unfold Pow Lib.TabIs World.var? at h ⊢
    rw [show Tryz.prog.globalNamed "internal/strconv.uint64pow10" = some 0 by kernel_rfl] at h ⊢
    simp only [Option.bind_some] at h ⊢
    rw [h0]
    exact h
  · unfold Dbr Lib.TabIs World.var? at hd ⊢
    rw [show Tryz.prog.globalNamed "math/bits.deBruijn64tab" = some 4 by kernel_rfl] at hd ⊢
    simp only [Option.bind_some] at hd ⊢
    rw [h4]
    exact hd
/-- The function f, with what it holds, takes pieces: R b S w: b was taken so far, S belongs to it. lim: how many bytes it can take. -/
structure Putter (f : FuncId) (cap : Value) (lim : Nat) (R : List UInt8 → (Nat → Prop) → World → Prop) : Prop where
  lt : ∀ {b S w}, R b S w → ∀ k, S k → k < w.heap.size
  kept : ∀ {b S w w'}, R b S w → Fr (fun k => ¬ S k) w w' → R b S w'
  call : ∀ {b S w} (s : ByteArray), R b S w → b.length + s.size ≤ lim → Calls Tryz.prog f #[.string s, cap] w fun e w' => e = .returned (.tuple #[]) ∧ ∃ S', R (b ++ s.data.toList) S' w' ∧ Kp S w S' w'
theorem Putter.keep {f : FuncId} {cap : Value} {lim : Nat} {R : List UInt8 → (Nat → Prop) → World → Prop} (P : Putter f cap lim R) {b : List UInt8} {S : Nat → Prop} {w w' : World} (h : R b S w) (hb : Below w.heap.size w w') : R b S w' := P.kept h (Fr.of_below hb)
/-- What taking some bytes comes to. -/
def Took (R : List UInt8 → (Nat → Prop) → World → Prop) (b : List UInt8) (S : Nat → Prop) (w : World) (e : Ending) (w' : World) : Prop := e = .returned (.tuple #[]) ∧ ∃ S', R b S' w' ∧ Kp S w S' w'

/-- isSound: is a text sound? -/
theorem isSound_any (s : ByteArray) (w : World) (hs : s.size ≤ 140737488351232) : Calls Tryz.prog 80 #[.string s] w fun e w' => e = .returned (.bool (badAt s 0 == -1)) ∧ Below w.heap.size w w' := by
  have hb := bad_any s w hs
  go_enter Tryz.func80, Tryz.ntmps80
  go_wp2_with (go_at_call 68; refine hb.mono ?_; rintro e w' ⟨rfl, hb⟩)
  go_ret
  exact ⟨rfl, hb⟩
mutual
/-- A value's text, its fields in the order in which they stand. -/
def txV : GV → List UInt8
  | .mk k bo n t l f => if k = 0 then [110, 117, 108, 108] else if k = 1 then (if bo = true then [116, 114, 117, 101] else [102, 97, 108, 115, 101]) else if k = 2 then Lib.itoa n else if k = 3 then PlnW.quotedB t else if k = 4 then [91] ++ txL l true ++ [93] else if k = 5 then [123] ++ txF f true ++ [125] else []
def txL : List GV → Bool → List UInt8
  | [], _ => []
  | x :: l, first => (if first = true then [] else [44]) ++ txV x ++ txL l false
def txF : List (ByteArray × GV) → Bool → List UInt8
  | [], _ => []
  | x :: l, first => (if first = true then [] else [44]) ++ txP x ++ txF l false
def txP : ByteArray × GV → List UInt8
  | (nm, x) => PlnW.quotedB nm ++ [58] ++ txV x
end
theorem txL_take (l : List GV) (i : Nat) (h : i < l.length) : ∀ fi, txL (l.take (i + 1)) fi = txL (l.take i) fi ++ (if i = 0 ∧ fi = true then [] else [44]) ++ txV l[i] := by
  induction l generalizing i with
  | nil => simp at h
  | cons x l ih =>
    intro fi
    cases i with
    | zero => cases fi <;> simp [txL]
    | succ i =>
      have := ih i (by simpa using h) false
      simp only [List.take_succ_cons, txL, this, List.getElem_cons_succ]
      simp
theorem txF_take (l : List (ByteArray × GV)) (i : Nat) (h : i < l.length) : ∀ fi, txF (l.take (i + 1)) fi = txF (l.take i) fi ++ (if i = 0 ∧ fi = true then [] else [44]) ++ txP l[i] := by
  induction l generalizing i with
  | nil => simp at h
  | cons x l ih =>
    intro fi
    cases i with
    | zero => cases fi <;> simp [txF]
    | succ i =>
      have := ih i (by simpa using h) false
      simp only [List.take_succ_cons, txF, this, List.getElem_cons_succ]
      simp
theorem txL_le (l : List GV) (i : Nat) (h : i < l.length) : (txL (l.take i) true).length + (if i = 0 then 0 else 1) + (txV l[i]).length ≤ (txL l true).length := by
  have e := txL_take l i h true
  have hp : ∀ (l : List GV) (j : Nat) (fi : Bool), (txL (l.take j) fi).length ≤ (txL l fi).length := by
    intro l
    induction l with
    | nil => intro j fi; simp
    | cons x l ih =>
      intro j fi
      cases j with
      | zero => simp [txL]
      | succ j =>
        have := ih j false
        simp only [List.take_succ_cons, txL, List.length_append]
        omega
  have h1 := hp l (i + 1) true
  rw [e] at h1
  by_cases h0 : i = 0
  · simp [h0] at h1 ⊢
    omega
  · simp [h0] at h1 ⊢
    omega
end Pu
end Go.Proofs.YtiakidomcjpdhaaGreatDoor
