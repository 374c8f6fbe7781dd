/- The deferred function of Parse: what it does of a frame that panics with a fault, and of one that returns; and newReader: contracts, by walking their text. Rows of bytes that a call owns and grows: which blocks may turn, and what an append leaves; nothing of the program but its type of bytes. -/
import Derived.Test.YtiakidomcjpdhaaGreatDoorG03
import Derived.Recover
import Derived.Test.YtiakidomcjpdhaaGreatDoorG07
import Derived.Lib.AppendStr
import Derived.Lib.UnsafeStr
namespace Go.Proofs.YtiakidomcjpdhaaGreatDoor
open Go.RowKit

set_option maxHeartbeats 2000000 in
theorem catch_idle (p : Addr) (w : World) :
    CallsD Tryz.prog 44 #[.pointer (some p)] .returning w fun e u' w' => e = .returned (.tuple #[]) ∧ u' = .returning ∧ w' = w := by
  refine callsD_of_wpS Tryz.func44 rfl fun c₀ cs hu => ?_
  apply wpS_seq
  apply wpS_region
  simp [wpOpsS, go_sem, recoverD, hu, Tryz.ntmps44, Exit.thenS]
  refine wpS_of_wp ?_
  change Code.wp _ _ _ { tmps := #[.pointer (some p), .nilIface, undef, undef, .nilIface, undef, undef, undef, undef, undef, undef, undef, undef, undef, undef, undef, undef, undef], defers := [] } _
  go_wp2
  cases c₀
  simp_all [bodyPostS, results, Tryz.results44]

theorem ta_true (v : Value) (w : World) : (Instr.typeAssert (.iface 73 v) 20 73 true).run Tryz.prog w = .ok (.tuple #[v, .bool true]) w := by kernel_rfl
theorem ta_false (v : Value) (w : World) : (Instr.typeAssert (.iface 73 v) 20 73 false).run Tryz.prog w = .ok v w := by kernel_rfl

set_option maxRecDepth 20000 in
set_option maxHeartbeats 4000000 in
theorem catch_fault (eb bk : Nat) (older : List PanicEntry) (w : World) (hc : w.cell? ⟨eb, 0, none⟩ = some .nilIface) (hz : w.frozen? ⟨eb, 0, none⟩ = false) :
    CallsD Tryz.prog 44 #[.pointer (some ⟨eb, 0, none⟩)] (.panicking ({ v := .iface 73 (.pointer (some ⟨bk, 0, none⟩)), recovered := false } :: older)) w fun e u' w' =>
      e = .returned (.tuple #[]) ∧ u' = .panicking ({ v := .iface 73 (.pointer (some ⟨bk, 0, none⟩)), recovered := true } :: older) ∧ w' = w.setCell ⟨eb, 0, none⟩ (.iface 73 (.pointer (some ⟨bk, 0, none⟩))) := by
  have h1 := ta_true
  have h2 := ta_false
  refine callsD_of_wpS Tryz.func44 rfl fun c₀ cs hu => ?_
  apply wpS_seq
  apply wpS_region
  simp [wpOpsS, go_sem, recoverD, hu, Tryz.ntmps44, Exit.thenS]
  refine wpS_of_wp ?_
  change Code.wp _ _ _ { tmps := #[.pointer (some ⟨eb, 0, none⟩), .iface 73 (.pointer (some ⟨bk, 0, none⟩)), undef, undef, .iface 73 (.pointer (some ⟨bk, 0, none⟩)), undef, undef, undef, undef, undef, undef, undef, undef, undef, undef, undef, undef, undef], defers := [] } _
  go_wp2
  cases c₀
  simp_all [bodyPostS, results, Tryz.results44]

theorem below_iter (w : World) (s : ByteArray) (pos : Nat) : Below w.heap.size w (w.iter s pos) := (Below.refl _ _).alloc (Nat.le_refl _) _

set_option maxHeartbeats 4000000 in
theorem bad_any (s : ByteArray) (w : World) (_hs : s.size ≤ 140737488351232) :
    Calls Tryz.prog 68 #[.string s] w fun e w' => e = .returned (.int .i64 (badAt s 0)) ∧ Below w.heap.size w w' := by
  go_enter Tryz.func68, Tryz.ntmps68
  go_wp2
  go_loopw [] (fun w' => ∃ pos : Nat, w' = w.iter s pos ∧ badAt s pos = badAt s 0) (fun w' => s.size - w'.iterPos w.heap.size)
  case atStart => exact ⟨0, rfl, rfl⟩
  case round =>
    obtain ⟨pos, rfl, hb⟩ := hrel
    by_cases hp : pos < s.size
    · have hnx : ∀ ty, (Instr.next (.pointer (some ⟨w.heap.size, 0, none⟩)) true ty).run Tryz.prog (w.iter s pos) = _ := fun ty => run_next_any w s pos ty hp
      have hwd := Lib.decode_width_pos s pos hp
      by_cases hr : (Utf8.decode s pos).1 = 65533
      · go_wp2
        · go_ret
          rw [← hb, badAt_hit s pos hp (noChar_long s pos true hr (by assumption) (by assumption))]
          exact ⟨rfl, below_iter _ _ _⟩
        · go_roundw
          case rel => exact ⟨_, rfl, by rw [← hb, badAt_next s pos hp (noChar_long s pos false hr (by assumption) (by assumption))]⟩
          case measure => simp; omega
        · go_ret
          rw [← hb, badAt_hit s pos hp (noChar_short s pos hr (by assumption))]
          exact ⟨rfl, below_iter _ _ _⟩
      · have hr' : (((Utf8.decode s pos).1 : Int) == 65533) = false := by simp; omega
        go_wp2
        go_roundw
        case rel => exact ⟨_, rfl, by rw [← hb, badAt_next s pos hp (noChar_not s pos hr)]⟩
        case measure => simp; omega
    · have hnx : ∀ ty, (Instr.next (.pointer (some ⟨w.heap.size, 0, none⟩)) true ty).run Tryz.prog (w.iter s pos) = _ := fun ty => run_next_end w s pos ty hp
      go_wp2
      go_ret
      rw [← hb, badAt_end s pos hp]
      exact ⟨rfl, below_iter _ _ _⟩
end Go.Proofs.YtiakidomcjpdhaaGreatDoor

namespace Go.Proofs.YtiakidomcjpdhaaGreatDoor
open Go.RowKit
namespace PlnW

theorem info5 : (Tryz.prog.info? 5).map (fun i => (i.zero, i.size, i.bytes)) = some (some (.int .u8 0), 1, 1) := by kernel_rfl

/-- A row of bytes that the call owns. -/
def RowB (base : Nat) (w : World) (v : Value) (bs : List UInt8) : Prop := w.ownsRow base 5 1 v bs.length (Lib.byteCells bs)
/-- Blocks of bytes from base on. -/
def Bt (base : Nat) (w : World) (k : Nat) : Prop := base ≤ k ∧ ∃ cur z, w.heap[k]? = some (.cells cur 5 z)
/-- All old blocks but rows of bytes from base on are as they were. -/
def Bw (base : Nat) (w w' : World) : Prop := Fr (Bt base w) w w'

theorem Bw.refl (base : Nat) (w : World) : Bw base w w := Fr.refl _ _
theorem Bw.trans {base : Nat} {a b c : World} (h : Bw base a b) (k : Bw base b c) : Bw base a c := by
  have h1 : Fr (Bt base a) a b := h
  have k1 : Fr (Bt base b) b c := k
  refine ⟨k1.os.trans h1.os, k1.tape.trans h1.tape, k1.output.trans h1.output, Nat.le_trans h1.size k1.size, fun i hi hn => ?_⟩
  have e := h1.block i hi hn
  refine (k1.block i (Nat.lt_of_lt_of_le hi h1.size) (fun hb => hn ⟨hb.1, ?_⟩)).trans e
  obtain ⟨cur, z, hz⟩ := hb.2
  exact ⟨cur, z, e ▸ hz⟩
theorem Bw.of_below {base : Nat} {w w' : World} (h : Below w.heap.size w w') : Bw base w w' := Fr.of_below h
theorem Bw.size {base : Nat} {w w' : World} (h : Bw base w w') : w.heap.size ≤ w'.heap.size := (show Fr _ _ _ from h).size
theorem Bw.below {base : Nat} {w w' : World} (h : Bw base w w') (hb : base ≤ w.heap.size) : Below base w w' := (show Fr _ _ _ from h).below hb (fun k hk hn => by have := hn.1; omega)
theorem Bw.keep {base : Nat} {w w' : World} (h : Bw base w w') {k : Nat} {c : Array Value} {t : TypeId} {z : Nat × Nat} (ht : t ≠ 5) (hk : w.heap[k]? = some (.cells c t z)) : w'.heap[k]? = some (.cells c t z) := by
  refine ((show Fr _ _ _ from h).block k (lt_of_block hk) (fun hn => ?_)).trans hk
  obtain ⟨cur, z', hz⟩ := hn.2
  rw [hk] at hz
  simp at hz
  exact ht hz.2.1
theorem Bw.alloc {base : Nat} {w w' : World} (h : Bw base w w') (o : Obj) : Bw base w (w'.alloc o) := h.trans (Bw.of_below ((Below.refl _ _).alloc (Nat.le_refl _) _))
theorem RowB.nil (base : Nat) (w : World) : RowB base w (.slice none 0 0) [] := World.ownsRow_nil _ _ _ _
theorem RowB.kept {base : Nat} {w w' : World} {v : Value} {bs : List UInt8} (h : RowB base w v bs) (f : Below w.heap.size w w') : RowB base w' v bs := own_kept h f
theorem RowB.form {base : Nat} {w : World} {v : Value} {bs : List UInt8} (h : RowB base w v bs) : ∃ a c, v = .slice a bs.length c := own_form h
theorem RowB.grown {base : Nat} {w w' : World} {v : Value} {n : Nat} {xs : List Value} (h : w.ownsRow base 5 1 v n xs) (g : w.grownBy w' v.ownBlock) : Bw base w w' := by
  refine Fr.grown g (fun k hk hl => ?_)
  rcases h.2 with ⟨rfl, _⟩ | ⟨b, cap, cur, rfl, hb, hg, _⟩
  · cases hk
  · have e : b = k := by simpa [Value.ownBlock] using hk
    subst e
    exact ⟨hb, cur, _, hg⟩
theorem RowB.more {base : Nat} {w : World} {v : Value} {bs ns : List UInt8} {m : Nat} {news : List Value} (h : w.ownsRow base 5 1 v (bs.length + m) (Lib.byteCells bs ++ news)) (hm : m = ns.length) (hn : news = Lib.byteCells ns) : RowB base w v (bs ++ ns) := by
  unfold RowB
  rw [List.length_append, ← hm]
  rw [hn] at h
  have e : Lib.byteCells (bs ++ ns) = Lib.byteCells bs ++ Lib.byteCells ns := by simp [Lib.byteCells]
  rw [e]
  exact h
theorem cells_new (w : World) (l : List Value) (t : TypeId) : ∀ j u, l[j]? = some u → (w.alloc (.cells l.toArray t)).cell? ((⟨w.heap.size, 0, none⟩ : Addr).add j) = some u := by
  intro j u hj
  rw [addr_add]
  have : (w.alloc (.cells l.toArray t)).heap[w.heap.size]? = some (.cells l.toArray t (0, 0)) := heap_alloc_new _ _
  simp only [World.cell?, this]
  simpa using hj
theorem one_byte (l : List UInt8) : ∀ u ∈ Lib.byteCells l, u.oneCell' = true := by
  intro u hu
  obtain ⟨b, _, rfl⟩ := List.mem_map.1 hu
  rfl
theorem str_cells (s : ByteArray) : Lib.strCells s = Lib.byteCells s.data.toList := rfl

/-! What is put for a byte of a text. -/
def hexB (k : Nat) : UInt8 := if k < 10 then (48 + k).toUInt8 else (87 + k).toUInt8
def escB (c : UInt8) : List UInt8 :=
  if c.toNat = 34 ∨ c.toNat = 92 then [92, c] else if c.toNat = 8 then [92, 98] else if c.toNat = 9 then [92, 116] else if c.toNat = 10 then [92, 110] else if c.toNat = 12 then [92, 102] else if c.toNat = 13 then [92, 114]
  else if c.toNat < 32 then [92, 117, 48, 48, hexB (c.toNat / 16), hexB (c.toNat % 16)] else [c]
def escL (l : List UInt8) : List UInt8 := l.flatMap escB
def quotedB (s : ByteArray) : List UInt8 := 34 :: escL s.data.toList ++ [34]
theorem escB_len (c : UInt8) : 1 ≤ (escB c).length ∧ (escB c).length ≤ 6 := by
  unfold escB
  repeat' split
  all_goals simp
theorem escL_len : ∀ l : List UInt8, (escL l).length ≤ 6 * l.length
  | [] => by simp [escL]
  | c :: l => by
    have h1 := escL_len l
    have h2 := escB_len c
    have e : escL (c :: l) = escB c ++ escL l := by simp [escL]
    rw [e, List.length_append, List.length_cons]
    omega
theorem escL_take (l : List UInt8) (i : Nat) (h : i < l.length) : escL (l.take (i + 1)) = escL (l.take i) ++ escB l[i] := by
  have e : ∀ a b : List UInt8, escL (a ++ b) = escL a ++ escL b := fun a b => by simp [escL]
  rw [List.take_succ_eq_append_getElem h, e]
  congr 1
  simp [escL]
theorem quotedB_len (s : ByteArray) : (quotedB s).length ≤ 6 * s.size + 2 := by
  have := escL_len s.data.toList
  rw [← Lib.size_eq] at this
  simp only [quotedB, List.length_append, List.length_cons, List.length_nil]
  omega
end PlnW
end Go.Proofs.YtiakidomcjpdhaaGreatDoor
