/- A disk with one file at most: its calls, told by what the file holds. -/
import Derived.Test.YtamddicoancdhaaDj
import Derived.Test.YtamddicoancdhaaEa
namespace Go.Proofs.Ytamddicoancdhaa
open Go.RowKit
namespace Dk
open Bw Rg

/-- What such a disk holds: is the power on, the budget, the file's bytes and how many are synced. -/
structure S1 where
  on : Bool
  bud : Int
  o : Option (List UInt8 × Nat)
def fsOf (s : ByteArray) : Option (List UInt8 × Nat) → List Fl
  | none => []
  | some y => [(s, y.1, y.2)]
def byt : Option (List UInt8 × Nat) → List UInt8
  | none => []
  | some y => y.1
def syn : Option (List UInt8 × Nat) → Nat
  | none => 0
  | some y => y.2
structure DQ (w : World) (d : Ds) (s : ByteArray) (x : S1) : Prop where
  at' : DiskAt w d
  room : d.room = 1125899906842624
  on : d.on = x.on
  bud : d.bud = x.bud
  fs : d.fs.map FR.ab = fsOf s x.o
  lo : -1 ≤ x.bud
  hi : x.bud ≤ 9223372036854775807
  big : (byt x.o).length ≤ 70368744177664
def QOut (w : World) (d : Ds) (s : ByteArray) (c : Int) (x' : S1) (e : Ending) (w' : World) : Prop := ∃ d', d'.db = d.db ∧ e = .returned (codeV c) ∧ DQ w' d' s x' ∧ Fr (Of d) w w' ∧ Grew d d' w
section
variable {w w' : World} {d : Ds} {s : ByteArray} {x : S1}
theorem DQ.below (h : DQ w d s x) (hb : Below w.heap.size w w') : DQ w' d s x := ⟨h.at'.below hb, h.room, h.on, h.bud, h.fs, h.lo, h.hi, h.big⟩
theorem DQ.free {S : Nat → Prop} (h : DQ w d s x) (f : Fr S w w') (hn : ∀ k ∈ d.foot, ¬ S k) : DQ w' d s x := ⟨h.at'.fr f hn, h.room, h.on, h.bud, h.fs, h.lo, h.hi, h.big⟩
theorem DQ.none (h : DQ w d s x) (e : x.o = none) : d.fs = [] := by
  have := h.fs
  rw [e] at this
  simpa [fsOf] using this
theorem DQ.some (h : DQ w d s x) {bs : List UInt8} {sy : Nat} (e : x.o = some (bs, sy)) : ∃ f, d.fs = [f] ∧ f.nm = s ∧ f.bs = bs ∧ f.sy = sy := by
  have := h.fs
  rw [e] at this
  obtain ⟨f, h1, h2⟩ := List.map_eq_singleton_iff.1 this
  refine ⟨f, h1, ?_, ?_, ?_⟩
  · exact congrArg Prod.fst h2
  · exact congrArg (fun y => y.2.1) h2
  · exact congrArg (fun y => y.2.2) h2
theorem DQ.used (h : DQ w d s x) : used d.fs = (byt x.o).length := by
  rw [← used_ab, h.fs]
  cases x.o with
  | none => rfl
  | some y => simp [usedA, fsOf, byt]
theorem QOut.same (h : DQ w d s x) (n : Int) : QOut w d s n x (.returned (codeV n)) w := ⟨d, rfl, rfl, h, Fr.refl _ _, Grew.refl _ _⟩
def stepS (x : S1) : Int × S1 := if x.bud = 0 then (11, { x with on := false }) else (0, { x with bud := less x.bud })
theorem less_lo {b : Int} (h : -1 ≤ b) (_h0 : b ≠ 0) : -1 ≤ less b := by unfold less; split <;> omega
theorem less_hi {b : Int} (h : b ≤ 9223372036854775807) : less b ≤ 9223372036854775807 := by unfold less; split <;> omega
theorem stepS_lo (h : DQ w d s x) : -1 ≤ (stepS x).2.bud ∧ (stepS x).2.bud ≤ 9223372036854775807 := by
  have h1 := h.lo
  have h2 := h.hi
  unfold stepS
  split
  · exact ⟨h1, h2⟩
  · rename_i hb
    exact ⟨less_lo h1 hb, less_hi h2⟩
theorem qstep (h : DQ w d s x) : ∃ st', ∀ W, DiskAt W d → Calls Try.prog 39 #[.pointer (some ⟨d.db, 0, none⟩)] W fun e w' => e = .returned (codeV (stepS x).1) ∧ DiskAt w' { d with on := (stepS x).2.on, bud := (stepS x).2.bud, st := st' } ∧ Fr (fun k => k = d.db) W w' := by
  by_cases hb : x.bud = 0
  · have e : stepS x = (11, { x with on := false }) := if_pos hb
    rw [e]
    refine ⟨d.st, fun W hW => (step_cut W d hW (h.bud.trans hb)).mono ?_⟩
    rintro e w' ⟨rfl, hx, hf⟩
    refine ⟨rfl, ?_, hf⟩
    rw [← h.bud]
    exact hx
  · have e : stepS x = (0, { x with bud := less x.bud }) := if_neg hb
    rw [e]
    refine ⟨wrap64 (d.st + 1), fun W hW => (step_done W d hW (h.bud ▸ hb) (h.bud ▸ h.lo) (h.bud ▸ h.hi)).mono ?_⟩
    rintro e w' ⟨rfl, hx, hf⟩
    refine ⟨rfl, ?_, hf⟩
    rw [← h.bud, ← h.on]
    exact hx
theorem qnew (w : World) (s : ByteArray) : Calls Try.prog 17 #[.int .i64 1125899906842624] w fun e w' => ∃ d, e = .returned (.tuple #[.pointer (some ⟨d.db, 0, none⟩), .nilIface]) ∧ DQ w' d s ⟨true, -1, none⟩ ∧ (∀ k ∈ d.foot, w.heap.size ≤ k) ∧ Below w.heap.size w w' := by
  refine (new_ok 1125899906842624 w (by decide)).mono ?_
  rintro e w' ⟨rfl, hd, hb⟩
  refine ⟨_, rfl, ⟨hd, rfl, rfl, rfl, rfl, by decide, by decide, by simp [byt]⟩, fun k hk => ?_, hb⟩
  simp [fresh, Ds.foot] at hk
  omega
theorem qcut (h : DQ w d s x) (n : Int) (hn : 0 ≤ n) (hn2 : n ≤ 9223372036854775807) (ho : x.on = true) : Calls Try.prog 24 #[.pointer (some ⟨d.db, 0, none⟩), .int .i64 n] w (QOut w d s 0 { x with bud := n }) := by
  refine (cut_ok w d n h.at' hn).mono ?_
  rintro e w' ⟨rfl, hd, hf⟩
  rw [h.on, ho, if_pos rfl] at hd
  exact ⟨{ d with on := true, bud := n }, rfl, rfl, ⟨hd, h.room, ho.symm, rfl, h.fs, by show -1 ≤ n; omega, hn2, h.big⟩, hf, fun k hk => .inl hk⟩
theorem qoff_append (h : DQ w d s x) (b : Value) (hs : s.size ≤ 140737488355328) (hn : isNm s = true) (ho : x.on = false) : Calls Try.prog 20 #[.pointer (some ⟨d.db, 0, none⟩), .string s, b] w (QOut w d s 11 x) := by
  refine (append_off w d s b h.at' hs hn (h.on.trans ho)).mono ?_
  rintro e w' ⟨rfl, rfl⟩
  exact QOut.same h 11
theorem qappend (h : DQ w d s x) (b : Value) (ns : List UInt8) (hn : isNm s = true) (ho : x.on = true) (hb : SlM w b ns) (hap : ∀ y l c, b = .slice (some y) l c → 0 < l → y.block ∉ d.foot) (hbig : (byt x.o).length + ns.length ≤ 70368744177664) :
    Calls Try.prog 20 #[.pointer (some ⟨d.db, 0, none⟩), .string s, b] w (QOut w d s (stepS x).1 { (stepS x).2 with o := some (byt x.o ++ ns, syn x.o) }) := by
  obtain ⟨st', hst⟩ := qstep h
  have hu := h.used
  have hr := h.room
  have hlen : d.fs.length < 9223372036854775807 := by
    have e := congrArg List.length h.fs
    rw [List.length_map] at e
    rw [e]
    cases x.o <;> simp [fsOf]
  refine (append_ok w d (stepS x).2.on (stepS x).2.bud st' s b (codeV (stepS x).1) ns h.at' hn (h.on.trans ho) hb hap hlen (by rw [hu, hr]; omega) (by rw [hr]; decide) (by rw [hu, hr]; omega) (by rw [hu]; omega) hst).mono ?_
  rintro e w' ⟨l1, f, l2, v', rfl, hd, hh, hf, hg⟩
  have hlo := stepS_lo h
  refine ⟨{ d with on := (stepS x).2.on, bud := (stepS x).2.bud, st := st', fs := l1 ++ f.more v' ns :: l2 }, rfl, rfl, ⟨hd, hr, rfl, rfl, ?_, hlo.1, hlo.2, ?_⟩, hf, hg⟩
  · show (l1 ++ f.more v' ns :: l2).map FR.ab = _
    rw [has_put hh h.at'.names, h.fs]
    cases x.o with
    | none => rfl
    | some y => simp [fsOf, putA, byt, syn]
  · show (byt (some (byt x.o ++ ns, syn x.o))).length ≤ _
    simp only [byt, List.length_append] at hbig ⊢
    exact hbig
theorem qsync (h : DQ w d s x) {bs : List UInt8} {sy : Nat} (e : x.o = some (bs, sy)) (ho : x.on = true) :
    Calls Try.prog 42 #[.pointer (some ⟨d.db, 0, none⟩), .string s] w (QOut w d s (stepS x).1 { (stepS x).2 with o := if x.bud = 0 then x.o else some (bs, bs.length) }) := by
  obtain ⟨f, hfs, hnm, hbs, hsy⟩ := h.some e
  have hm : f ∈ d.fs := by rw [hfs]; simp
  have hlo := stepS_lo h
  by_cases hb : x.bud = 0
  · have e2 : stepS x = (11, { x with on := false }) := if_pos hb
    rw [e2, if_pos hb, ← hnm]
    refine (sync_cut w d f h.at' (h.on.trans ho) hm (h.bud.trans hb)).mono ?_
    rintro e3 w' ⟨rfl, hd, hf⟩
    exact ⟨{ d with on := false }, rfl, rfl, ⟨hd, h.room, rfl, h.bud, by rw [hnm]; exact h.fs, h.lo, h.hi, h.big⟩, hf, fun k hk => .inl hk⟩
  · have e2 : stepS x = (0, { x with bud := less x.bud }) := if_neg hb
    rw [e2] at hlo ⊢
    rw [if_neg hb, ← hnm]
    refine (sync_done w d [] [] f h.at' (h.on.trans ho) hfs (h.bud ▸ hb) (h.bud ▸ h.lo) (h.bud ▸ h.hi)).mono ?_
    rintro e3 w' ⟨rfl, hd, hf⟩
    refine ⟨{ d with bud := less d.bud, st := wrap64 (d.st + 1), fs := [] ++ f.synced :: [] }, rfl, rfl, ⟨hd, h.room, h.on, by show less d.bud = _; rw [h.bud], ?_, hlo.1, hlo.2, ?_⟩, hf, fun k hk => ?_⟩
    · show ([] ++ f.synced :: []).map FR.ab = _
      simp [fsOf, FR.ab, FR.synced, hbs]
    · have := h.big
      rw [e] at this
      exact this
    · rcases foot_swap (d := d) (l1 := []) (l2 := []) (f := f) (f' := f.synced) (n := w.heap.size) rfl (fun k hk => .inl hk) k hk with h8 | h8
      · have ed : ({ d with fs := [] ++ f :: [] } : Ds) = d := by rw [List.nil_append, ← hfs]
        rw [ed] at h8
        exact .inl h8
      · exact .inr h8
theorem qtrunc_none (h : DQ w d s x) (e : x.o = none) (ho : x.on = true) (n : Int) (hs : s.size ≤ 140737488355328) : Calls Try.prog 35 #[.pointer (some ⟨d.db, 0, none⟩), .string s, .int .i64 n] w (QOut w d s 9 x) := by
  refine (trunc_none w d s n h.at' (h.on.trans ho) (by rw [h.none e]; simp) hs).mono ?_
  rintro e w' ⟨rfl, rfl⟩
  exact QOut.same h 9
theorem qtrunc (h : DQ w d s x) {bs : List UInt8} {sy : Nat} (e : x.o = some (bs, sy)) (ho : x.on = true) (hb : x.bud ≠ 0) (n : Nat) (hn : n ≤ bs.length) :
    Calls Try.prog 35 #[.pointer (some ⟨d.db, 0, none⟩), .string s, .int .i64 (n : Int)] w (QOut w d s 0 { x with bud := less x.bud, o := some (bs.take n, n) }) := by
  obtain ⟨f, hfs, hnm, hbs, hsy⟩ := h.some e
  have hbg := h.big
  rw [e] at hbg
  have hbg2 : bs.length ≤ 70368744177664 := hbg
  rw [← hnm]
  refine (trunc_done w d [] [] f n h.at' (h.on.trans ho) hfs (by rw [hbs]; exact hn) (by rw [hbs]; omega) (h.bud ▸ hb) (h.bud ▸ h.lo) (h.bud ▸ h.hi)).mono ?_
  rintro e3 w' ⟨v', rfl, hd, hf, hg⟩
  refine ⟨{ d with bud := less d.bud, st := wrap64 (d.st + 1), fs := [] ++ f.cut v' n :: [] }, rfl, rfl, ⟨hd, h.room, h.on, by show less d.bud = _; rw [h.bud], ?_, less_lo h.lo hb, less_hi h.hi, ?_⟩, hf, hg⟩
  · show ([] ++ f.cut v' n :: []).map FR.ab = _
    simp [fsOf, FR.ab, FR.cut, hbs]
  · show (bs.take n).length ≤ _
    have := List.length_take_le n bs
    omega
theorem qread_none (h : DQ w d s x) (e : x.o = none) (ho : x.on = true) (hs : s.size ≤ 140737488355328) : Calls Try.prog 21 #[.pointer (some ⟨d.db, 0, none⟩), .string s] w fun e w' => e = .returned (.tuple #[.slice none 0 0, code 9]) ∧ w' = w :=
  read_none w d s h.at' (h.on.trans ho) (by rw [h.none e]; simp) hs
theorem qread (h : DQ w d s x) {bs : List UInt8} {sy : Nat} (e : x.o = some (bs, sy)) (ho : x.on = true) : Calls Try.prog 21 #[.pointer (some ⟨d.db, 0, none⟩), .string s] w fun e w' => ∃ v', e = .returned (.tuple #[v', .nilIface]) ∧ RowB w.heap.size w' v' bs ∧ Below w.heap.size w w' := by
  obtain ⟨f, hfs, hnm, hbs, hsy⟩ := h.some e
  have hbg := h.big
  rw [e] at hbg
  have hbg2 : bs.length ≤ 70368744177664 := hbg
  rw [← hnm, ← hbs]
  exact read_hit w d f h.at' (h.on.trans ho) (by rw [hfs]; simp) (by rw [hbs]; omega)
/-- How much is left of a file behind a cut. -/
def left (keep : Int) (y : List UInt8 × Nat) : List UInt8 × Nat := (y.1.take (y.2 + (max keep 0).toNat % (y.1.length - y.2 + 1)), y.2 + (max keep 0).toNat % (y.1.length - y.2 + 1))
theorem qpower (h : DQ w d s x) (keep : Int) (hk1 : -9223372036854775808 ≤ keep) (hk2 : keep ≤ 9223372036854775807) :
    Calls Try.prog 25 #[.pointer (some ⟨d.db, 0, none⟩), .int .i64 keep] w fun e w' => ∃ d', d'.db = d.db ∧ e = .returned (.tuple #[]) ∧ DQ w' d' s ⟨true, -1, if x.on then x.o else x.o.map (left keep)⟩ ∧ Fr (Of d) w w' ∧ Grew d d' w := by
  by_cases ho : x.on = true
  · rw [if_pos ho]
    refine (power_on w d keep h.at' (h.on.trans ho)).mono ?_
    rintro e w' ⟨rfl, hd, hf⟩
    exact ⟨{ d with on := true, bud := -1 }, rfl, rfl, ⟨hd, h.room, rfl, rfl, h.fs, by show (-1 : Int) ≤ -1; decide, by show (-1 : Int) ≤ _; decide, h.big⟩, hf, fun k hk => .inl hk⟩
  · have ho' : x.on = false := by simpa using ho
    rw [if_neg ho]
    have hbg := h.big
    refine (power_off w d keep h.at' (h.on.trans ho') (by rw [h.used]; omega) hk1 hk2).mono ?_
    rintro e w' ⟨fs1, rfl, hd, ht, hf, hg⟩
    refine ⟨{ d with on := true, bud := -1, fs := fs1 }, rfl, rfl, ⟨hd, h.room, rfl, rfl, ?_, by show (-1 : Int) ≤ -1; decide, by show (-1 : Int) ≤ _; decide, ?_⟩, hf, hg⟩
    · show fs1.map FR.ab = _
      rw [tornL_of ht, h.fs]
      cases x.o with
      | none => rfl
      | some y => rfl
    · cases hx : x.o with
      | none => simp [byt]
      | some y =>
        rw [hx] at hbg
        have hbg2 : y.1.length ≤ 70368744177664 := hbg
        show ((left keep y).1).length ≤ _
        unfold left
        exact Nat.le_trans (List.length_take_le' _ y.1) hbg2
/-- The file's synced part is a part of it. -/
theorem DQ.sync (h : DQ w d s x) {bs : List UInt8} {sy : Nat} (e : x.o = Option.some (bs, sy)) : sy ≤ bs.length := by
  obtain ⟨f, hfs, hnm, hbs, hsy⟩ := h.some e
  have := (h.at'.files f (by rw [hfs]; simp)).sync
  rw [hbs, hsy] at this
  exact this
end
end Dk
end Go.Proofs.Ytamddicoancdhaa
