/- Where this program's FormatBool, FormatInt and the Builder's String stand among its functions and types, so that the library's own contracts on them speak of it (printed by the guide's tools lay-shelf and lay-plain). A function value that takes pieces of a text and keeps them; which memory it may turn. -/
import Derived.Shelf.Small.Wraps
import Derived.Shelf.Strings.BuilderK
import Derived.Shelf.LaysM
import Derived.Shelf.Strconv.Itoa4
import Derived.Test.YtiakidomcjpdhaaGreatDoorProg
import Derived.Test.YtiakidomcjpdhaaGreatDoorG11
import Derived.Lib.ItoaNum
import Derived.Lib.TrailingZeros
namespace Go.Proofs.YtiakidomcjpdhaaGreatDoor
open Go.Shelf
def lays169_ren : Go.Shelf.Ren := ⟨fun | 169 => 33 | n => n, fun | 70 => 56 | 9 => 9 | 0 => 0 | 72 => 58 | 37 => 49 | 127 => 83 | 3 => 3 | 5 => 5 | n => n, fun | n => n⟩
theorem lays169 : Go.Proofs.Lays.n169 Tryz.prog lays169_ren := {
  mixed := by kernel_rfl
  f169 := Tryz.func33.trans (congrArg some (by kernel_rfl))
  t0 := Tryz.underlying0
  a0 := Tryz.isAgg0
  z0 := Tryz.sizeOf0
  v0 := Tryz.zeroValue0
  t3 := Tryz.underlying3
  a3 := Tryz.isAgg3
  z3 := Tryz.sizeOf3
  v3 := Tryz.zeroValue3
  t9 := Tryz.underlying9
  a9 := Tryz.isAgg9
  z9 := Tryz.sizeOf9
  v9 := Tryz.zeroValue9
  t37 := Tryz.underlying49
  a37 := Tryz.isAgg49
  z37 := Tryz.sizeOf49
  v37 := Tryz.zeroValue49
  t70 := Tryz.underlying56
  a70 := Tryz.isAgg56
  z70 := Tryz.sizeOf56
  v70 := Tryz.zeroValue56
  t72 := Tryz.underlying58
  a72 := Tryz.isAgg58
  z72 := Tryz.sizeOf58
  v72 := Tryz.zeroValue58
  t127 := Tryz.underlying83
  a127 := Tryz.isAgg83
  z127 := Tryz.sizeOf83
  v127 := Tryz.zeroValue83 }
theorem Builder_Extra_169 : Builder.Extra Tryz.prog lays169_ren := {
  sizeBuilder := by kernel_rfl
  liesBuilder := by kernel_rfl
  t5 := Tryz.underlying5
  a5 := Tryz.isAgg5
  z5 := Tryz.sizeOf5
  v5 := Tryz.zeroValue5
  infoByte := by kernel_rfl
  cellsByte := by kernel_rfl
  sizeByte := by kernel_rfl
  neB5 := by decide }
def lays121_ren : Go.Shelf.Ren := ⟨fun | 121 => 48 | 214 => 74 | n => n, fun | 4 => 4 | 9 => 9 | n => n, fun | n => n⟩
theorem lays121 : Go.Proofs.Lays.n121 Tryz.prog lays121_ren := {
  mixed := by kernel_rfl
  f121 := Tryz.func48.trans (congrArg some (by kernel_rfl))
  f214 := Tryz.func74.trans (congrArg some (by kernel_rfl))
  t4 := Tryz.underlying4
  a4 := Tryz.isAgg4
  z4 := Tryz.sizeOf4
  v4 := Tryz.zeroValue4
  t9 := Tryz.underlying9
  a9 := Tryz.isAgg9
  z9 := Tryz.sizeOf9
  v9 := Tryz.zeroValue9 }
open Go.RowKit in
/-- strconv.FormatBool: "FormatBool returns "true" or "false" according to the value of b.": IT RETURNS 'Lib.formatBool b'; the world is as it was. (LAID: no walk: one application.) -/
theorem strconv_FormatBool (b : Bool) (w : World) :
    Calls Tryz.prog 48 #[.bool b] w fun e w' => e = .returned (.string ⟨(Lib.formatBool b).toArray⟩) ∧ w' = w := Any.strconv_FormatBool lays121 b w
open Go.RowKit in
/-- (*strings.Builder).String: "String returns the accumulated string.": WHATEVER THE BUILDER HOLDS; THE FORM '_k': OVER 'Lib.IsBuilderF' (a builder that 'String()' may have read), AND WITH THE FRAME THAT REACHES ABOVE THE BUILDER: 'Lib.OthersKept': every block that is not b and is no row of uint8's stands as it stood: the iterator of a range among them. (LAID: no walk: one application.) -/
theorem Builder_String_any_k (B b : Nat) (l : List UInt8) (w : World) (h : Lib.IsBuilderF 58 5 B b (Lib.byteCells l) w) (hBw : B ≤ w.heap.size) :
    Calls Tryz.prog 33 #[.pointer (some ⟨b, 0, none⟩)] w fun e w' => e = .returned (.string ⟨l.toArray⟩) ∧ (Lib.IsBuilderF 58 5 B b (Lib.byteCells l) w' ∧ Below B w w' ∧ Lib.OthersKept 5 (some b) w w') := Any.Builder_String_any_k lays169 Builder_Extra_169 B b l w h hBw
def laysM173_ren : Go.Shelf.Ren := ⟨fun | 173 => 49 | 246 => 75 | 283 => 106 | 284 => 107 | 285 => 108 | 286 => 109 | 129 => 121 | 317 => 136 | 318 => 137 | 319 => 138 | 320 => 139 | 337 => 151 | 338 => 152 | n => n, fun | 2 => 2 | 3 => 3 | 9 => 9 | 4 => 4 | 171 => 133 | 0 => 0 | 53 => 131 | 37 => 49 | 5 => 5 | 173 => 136 | 212 => 161 | 51 => 150 | 20 => 20 | 213 => 162 | 46 => 114 | 232 => 180 | 233 => 181 | n => n, fun | 17 => 0 | 18 => 3 | 19 => 4 | n => n⟩
theorem laysM173 : Go.Proofs.LaysM.n173 Tryz.prog laysM173_ren := {
  mixed := by kernel_rfl
  f129 := Tryz.func121.trans (congrArg some (by kernel_rfl))
  f173 := Tryz.func49.trans (congrArg some (by kernel_rfl))
  f246 := Tryz.func75.trans (congrArg some (by kernel_rfl))
  f283 := Tryz.func106.trans (congrArg some (by kernel_rfl))
  f284 := Tryz.func107.trans (congrArg some (by kernel_rfl))
  f285 := Tryz.func108.trans (congrArg some (by kernel_rfl))
  f286 := Tryz.func109.trans (congrArg some (by kernel_rfl))
  f317 := Tryz.func136.trans (congrArg some (by kernel_rfl))
  f318 := Tryz.func137.trans (congrArg some (by kernel_rfl))
  f319 := Tryz.func138.trans (congrArg some (by kernel_rfl))
  f320 := Tryz.func139.trans (congrArg some (by kernel_rfl))
  f337 := Tryz.func151.trans (congrArg some (by kernel_rfl))
  f338 := Tryz.func152.trans (congrArg some (by kernel_rfl))
  t0 := Tryz.underlying0
  a0 := Tryz.isAgg0
  z0 := Tryz.sizeOf0
  v0 := Tryz.zeroValue0
  t2 := Tryz.underlying2
  a2 := Tryz.isAgg2
  z2 := Tryz.sizeOf2
  v2 := Tryz.zeroValue2
  t3 := Tryz.underlying3
  a3 := Tryz.isAgg3
  z3 := Tryz.sizeOf3
  v3 := Tryz.zeroValue3
  t4 := Tryz.underlying4
  a4 := Tryz.isAgg4
  z4 := Tryz.sizeOf4
  v4 := Tryz.zeroValue4
  t5 := Tryz.underlying5
  a5 := Tryz.isAgg5
  z5 := Tryz.sizeOf5
  v5 := Tryz.zeroValue5
  t9 := Tryz.underlying9
  a9 := Tryz.isAgg9
  z9 := Tryz.sizeOf9
  v9 := Tryz.zeroValue9
  t20 := Tryz.underlying20
  a20 := Tryz.isAgg20
  z20 := Tryz.sizeOf20
  v20 := Tryz.zeroValue20
  t37 := Tryz.underlying49
  a37 := Tryz.isAgg49
  z37 := Tryz.sizeOf49
  v37 := Tryz.zeroValue49
  t46 := Tryz.underlying114
  a46 := Tryz.isAgg114
  z46 := Tryz.sizeOf114
  v46 := Tryz.zeroValue114
  t51 := Tryz.underlying150
  a51 := Tryz.isAgg150
  z51 := Tryz.sizeOf150
  v51 := Tryz.zeroValue150
  t53 := Tryz.underlying131
  a53 := Tryz.isAgg131
  z53 := Tryz.sizeOf131
  v53 := Tryz.zeroValue131
  t171 := Tryz.underlying133
  a171 := Tryz.isAgg133
  z171 := Tryz.sizeOf133
  v171 := Tryz.zeroValue133
  t173 := Tryz.underlying136
  a173 := Tryz.isAgg136
  z173 := Tryz.sizeOf136
  v173 := Tryz.zeroValue136
  t212 := Tryz.underlying161
  a212 := Tryz.isAgg161
  z212 := Tryz.sizeOf161
  v212 := Tryz.zeroValue161
  t213 := Tryz.underlying162
  a213 := Tryz.isAgg162
  z213 := Tryz.sizeOf162
  t232 := Tryz.underlying180
  a232 := Tryz.isAgg180
  z232 := Tryz.sizeOf180
  v232 := Tryz.zeroValue180
  t233 := Tryz.underlying181
  a233 := Tryz.isAgg181
  z233 := Tryz.sizeOf181
  v233 := Tryz.zeroValue181
  g17 := by kernel_rfl
  g18 := by kernel_rfl
  g19 := by kernel_rfl
  i0 := by kernel_rfl
  i2 := by kernel_rfl
  i3 := by kernel_rfl
  i4 := by kernel_rfl
  i5 := by kernel_rfl
  i9 := by kernel_rfl
  i20 := by kernel_rfl
  i37 := by kernel_rfl
  i46 := by kernel_rfl
  i51 := by kernel_rfl
  i53 := by kernel_rfl
  i171 := by kernel_rfl
  i173 := by kernel_rfl
  i212 := by kernel_rfl
  i232 := by kernel_rfl
  i233 := by kernel_rfl
  m17 := by kernel_rfl
  m18 := by kernel_rfl
  m19 := by kernel_rfl }
open Go.RowKit Go.Sort Go.Lib in
/-- strconv.FormatInt: "FormatInt returns the string representation of i in the given base": AT BASE 10: i's decimal numeral, for every int64. (LAID: no walk: one application.) -/
theorem strconv_FormatInt_10 (n : Int) (h0 : -9223372036854775808 ≤ n) (h1 : n ≤ 9223372036854775807) (w : World) (htab : Lib.TabIs Tryz.prog w "internal/strconv.uint64pow10" .u64 Lib.pow10Tab) :
    Calls Tryz.prog 49 #[.int .i64 n, .int .i64 10] w fun e w' => e = .returned (.string ⟨(Lib.itoa n).toArray⟩) ∧ ∃ k os, w' = grow (w.drewN k) os := Any.strconv_FormatInt_10 laysM173 n h0 h1 w htab
end Go.Proofs.YtiakidomcjpdhaaGreatDoor

namespace Go.Proofs.YtiakidomcjpdhaaGreatDoor
open Go.RowKit
namespace Pu

/-- What a call may have turned: of the blocks that were there those of S; S' is what belongs to the function value now. -/
structure Kp (S : Nat → Prop) (w : World) (S' : Nat → Prop) (w' : World) : Prop where
  fr : Fr S w w'
  own : ∀ b, S' b → S b ∨ w.heap.size ≤ b
theorem Kp.refl (S : Nat → Prop) (w : World) : Kp S w S w := ⟨Fr.refl _ _, fun _ h => .inl h⟩
theorem Kp.trans {S S1 S2 : Nat → Prop} {a b c : World} (h : Kp S a S1 b) (k : Kp S1 b S2 c) : Kp S a S2 c :=
  ⟨⟨k.fr.os.trans h.fr.os, k.fr.tape.trans h.fr.tape, k.fr.output.trans h.fr.output, Nat.le_trans h.fr.size k.fr.size, fun i hi hs => (k.fr.block i (Nat.lt_of_lt_of_le hi h.fr.size) (fun h1 => (h.own i h1).elim hs (fun h2 => absurd hi (Nat.not_lt.2 h2)))).trans (h.fr.block i hi hs)⟩,
    fun b hb => (k.own b hb).elim (fun h1 => h.own b h1) (fun h1 => .inr (Nat.le_trans h.fr.size h1))⟩
theorem Kp.below {S : Nat → Prop} {w w' : World} (h : Below w.heap.size w w') : Kp S w S w' := ⟨Fr.of_below h, fun _ h => .inl h⟩
/-- A block that is none of S lies as it did, and stays none of S'. -/
theorem Kp.block {S S' : Nat → Prop} {w w' : World} (h : Kp S w S' w') {b : Nat} (hb : b < w.heap.size) (hs : ¬ S b) : w'.heap[b]? = w.heap[b]? ∧ ¬ S' b :=
  ⟨h.fr.block b hb hs, fun h1 => (h.own b h1).elim hs (fun h2 => absurd hb (Nat.not_lt.2 h2))⟩
theorem Kp.laid {S S' : Nat → Prop} {w w' : World} (h : Kp S w S' w') {x : GV} {cs : List Value} (hx : LaidV w (fun b => ¬ S b) x cs) : LaidV w' (fun b => ¬ S' b) x cs :=
  hx.conv fun _ hb hl => ⟨(h.block hl hb).2, (h.block hl hb).1⟩
theorem Kp.laidL {S S' : Nat → Prop} {w w' : World} (h : Kp S w S' w') {x : List GV} {cs : List Value} (hx : LaidL w (fun b => ¬ S b) x cs) : LaidL w' (fun b => ¬ S' b) x cs :=
  hx.conv fun _ hb hl => ⟨(h.block hl hb).2, (h.block hl hb).1⟩
theorem Kp.laidF {S S' : Nat → Prop} {w w' : World} (h : Kp S w S' w') {x : List (ByteArray × GV)} {cs : List Value} (hx : LaidF w (fun b => ¬ S b) x cs) : LaidF w' (fun b => ¬ S' b) x cs :=
  hx.conv fun _ hb hl => ⟨(h.block hl hb).2, (h.block hl hb).1⟩

abbrev Pow (w : World) : Prop := Lib.TabIs Tryz.prog w "internal/strconv.uint64pow10" .u64 Lib.pow10Tab
abbrev Dbr (w : World) : Prop := Lib.TabIs Tryz.prog w "math/bits.deBruijn64tab" .u8 (Lib.deBruijn64tab.map fun n : Nat => (n : Int))
/-- The two tables that the texts of numbers want. -/
def Pow10 (w : World) : Prop := Pow w ∧ Dbr w
theorem Pow10.of {w w' : World} (h : Pow10 w) (h0 : w'.heap[0]? = w.heap[0]?) (h4 : w'.heap[4]? = w.heap[4]?) : Pow10 w' := by
  obtain ⟨h, hd⟩ := h
  refine ⟨?_, ?_⟩
  · unfold Pow Lib.TabIs World.var? at h ⊢
    rw [show Tryz.prog.globalNamed "internal/strconv.uint64pow10" = some 0 by kernel_rfl] at h ⊢
    simp only [Option.bind_some] at h ⊢
    rw [h0]
    exact h
  · unfold Dbr Lib.TabIs World.var? at hd ⊢
    rw [show Tryz.prog.globalNamed "math/bits.deBruijn64tab" = some 4 by kernel_rfl] at hd ⊢
    simp only [Option.bind_some] at hd ⊢
    rw [h4]
    exact hd
/-- The function f, with what it holds, takes pieces: R b S w: b was taken so far, S belongs to it. lim: how many bytes it can take. -/
structure Putter (f : FuncId) (cap : Value) (lim : Nat) (R : List UInt8 → (Nat → Prop) → World → Prop) : Prop where
  lt : ∀ {b S w}, R b S w → ∀ k, S k → k < w.heap.size
  kept : ∀ {b S w w'}, R b S w → Fr (fun k => ¬ S k) w w' → R b S w'
  call : ∀ {b S w} (s : ByteArray), R b S w → b.length + s.size ≤ lim → Calls Tryz.prog f #[.string s, cap] w fun e w' => e = .returned (.tuple #[]) ∧ ∃ S', R (b ++ s.data.toList) S' w' ∧ Kp S w S' w'
theorem Putter.keep {f : FuncId} {cap : Value} {lim : Nat} {R : List UInt8 → (Nat → Prop) → World → Prop} (P : Putter f cap lim R) {b : List UInt8} {S : Nat → Prop} {w w' : World} (h : R b S w) (hb : Below w.heap.size w w') : R b S w' := P.kept h (Fr.of_below hb)
/-- What taking some bytes comes to. -/
def Took (R : List UInt8 → (Nat → Prop) → World → Prop) (b : List UInt8) (S : Nat → Prop) (w : World) (e : Ending) (w' : World) : Prop := e = .returned (.tuple #[]) ∧ ∃ S', R b S' w' ∧ Kp S w S' w'

/-- isSound: is a text sound? -/
theorem isSound_any (s : ByteArray) (w : World) (hs : s.size ≤ 140737488351232) : Calls Tryz.prog 80 #[.string s] w fun e w' => e = .returned (.bool (badAt s 0 == -1)) ∧ Below w.heap.size w w' := by
  have hb := bad_any s w hs
  go_enter Tryz.func80, Tryz.ntmps80
  go_wp2_with (go_at_call 68; refine hb.mono ?_; rintro e w' ⟨rfl, hb⟩)
  go_ret
  exact ⟨rfl, hb⟩
mutual
/-- A value's text, its fields in the order in which they stand. -/
def txV : GV → List UInt8
  | .mk k bo n t l f => if k = 0 then [110, 117, 108, 108] else if k = 1 then (if bo = true then [116, 114, 117, 101] else [102, 97, 108, 115, 101]) else if k = 2 then Lib.itoa n else if k = 3 then PlnW.quotedB t else if k = 4 then [91] ++ txL l true ++ [93] else if k = 5 then [123] ++ txF f true ++ [125] else []
def txL : List GV → Bool → List UInt8
  | [], _ => []
  | x :: l, first => (if first = true then [] else [44]) ++ txV x ++ txL l false
def txF : List (ByteArray × GV) → Bool → List UInt8
  | [], _ => []
  | x :: l, first => (if first = true then [] else [44]) ++ txP x ++ txF l false
def txP : ByteArray × GV → List UInt8
  | (nm, x) => PlnW.quotedB nm ++ [58] ++ txV x
end
theorem txL_take (l : List GV) (i : Nat) (h : i < l.length) : ∀ fi, txL (l.take (i + 1)) fi = txL (l.take i) fi ++ (if i = 0 ∧ fi = true then [] else [44]) ++ txV l[i] := by
  induction l generalizing i with
  | nil => simp at h
  | cons x l ih =>
    intro fi
    cases i with
    | zero => cases fi <;> simp [txL]
    | succ i =>
      have := ih i (by simpa using h) false
      simp only [List.take_succ_cons, txL, this, List.getElem_cons_succ]
      simp
theorem txF_take (l : List (ByteArray × GV)) (i : Nat) (h : i < l.length) : ∀ fi, txF (l.take (i + 1)) fi = txF (l.take i) fi ++ (if i = 0 ∧ fi = true then [] else [44]) ++ txP l[i] := by
  induction l generalizing i with
  | nil => simp at h
  | cons x l ih =>
    intro fi
    cases i with
    | zero => cases fi <;> simp [txF]
    | succ i =>
      have := ih i (by simpa using h) false
      simp only [List.take_succ_cons, txF, this, List.getElem_cons_succ]
      simp
theorem txL_le (l : List GV) (i : Nat) (h : i < l.length) : (txL (l.take i) true).length + (if i = 0 then 0 else 1) + (txV l[i]).length ≤ (txL l true).length := by
  have e := txL_take l i h true
  have hp : ∀ (l : List GV) (j : Nat) (fi : Bool), (txL (l.take j) fi).length ≤ (txL l fi).length := by
    intro l
    induction l with
    | nil => intro j fi; simp
    | cons x l ih =>
      intro j fi
      cases j with
      | zero => simp [txL]
      | succ j =>
        have := ih j false
        simp only [List.take_succ_cons, txL, List.length_append]
        omega
  have h1 := hp l (i + 1) true
  rw [e] at h1
  by_cases h0 : i = 0
  · simp [h0] at h1 ⊢
    omega
  · simp [h0] at h1 ⊢
    omega
end Pu
end Go.Proofs.YtiakidomcjpdhaaGreatDoor
