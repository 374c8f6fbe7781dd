/- Rows of bytes: what a slice holds, what a call owns and grows; nothing of the program but its types. -/
import Derived.Test.YtbbgkocdmebikaaDoorProg
import Derived.Test.YtbbgkocdmebikaaDoorPl
import Derived.WalkKit
import Derived.WalkSpells
import Derived.WalkSmall
import Derived.Deep.QuietTactic
import Derived.Lib.OthersKept
import Derived.Lib.AppendStr
import Derived.Lib.UnsafeStr
import Derived.Lib.BufferRead
import Derived.BigQuiet
import Derived.KernelRfl
namespace Go.Proofs.YtbbgkocdmebikaaDoor
open Go.RowKit
namespace Bw

theorem info5 : (Tryd.prog.info? 5).map (fun i => (i.zero, i.size, i.bytes)) = some (some (.int .u8 0), 1, 1) := by kernel_rfl

/-- A slice of bytes holds these. -/
def SlB (w : World) (v : Value) (bs : List UInt8) : Prop :=
  (bs = [] ∧ ∃ a cap, v = .slice a 0 cap) ∨ ∃ b off cap, v = .slice (some ⟨b, off, none⟩) bs.length cap ∧ bs.length ≤ cap ∧ ∀ j (h : j < bs.length), w.cell? ⟨b, off + j, none⟩ = some (.int .u8 (bs[j].toNat : Int))
/-- A row of bytes that the call owns. -/
def RowB (base : Nat) (w : World) (v : Value) (bs : List UInt8) : Prop := w.ownsRow base 5 1 v bs.length (Lib.byteCells bs)

theorem add0 (b j : Nat) : (⟨b, 0, none⟩ : Addr).add j = ⟨b, j, none⟩ := by
  unfold Addr.add
  by_cases hj : j = 0
  · subst hj; rfl
  · simp [hj]
theorem addO (b off j : Nat) : (⟨b, off, none⟩ : Addr).add j = ⟨b, off + j, none⟩ := by
  unfold Addr.add
  by_cases hj : j = 0
  · subst hj; rfl
  · simp [hj]
theorem own_kept {w w' : World} {base : Nat} {e : TypeId} {size : Nat} {v : Value} {n : Nat} {xs : List Value} (h : w.ownsRow base e size v n xs) (hb : Below w.heap.size w w') : w'.ownsRow base e size v n xs := by
  obtain ⟨h1, h2⟩ := h
  refine ⟨h1, ?_⟩
  rcases h2 with h2 | ⟨g, cap, cur, a, b, c, d⟩
  · exact .inl h2
  · exact .inr ⟨g, cap, cur, a, b, (hb.block g (lt_of_block c)).trans c, d⟩
theorem RowB.nil (base : Nat) (w : World) : RowB base w (.slice none 0 0) [] := World.ownsRow_nil _ _ _ _
theorem RowB.kept {base : Nat} {w w' : World} {v : Value} {bs : List UInt8} (h : RowB base w v bs) (f : Below w.heap.size w w') : RowB base w' v bs := own_kept h f
theorem RowB.form {base : Nat} {w : World} {v : Value} {bs : List UInt8} (h : RowB base w v bs) : ∃ a c, v = .slice a bs.length c := by
  rcases h.2 with ⟨rfl, h0⟩ | ⟨g, cap, cur, rfl, _⟩
  · rw [h0]; exact ⟨_, _, rfl⟩
  · exact ⟨_, _, rfl⟩
theorem RowB.more {base : Nat} {w : World} {v : Value} {bs ns : List UInt8} {m : Nat} {news : List Value} (h : w.ownsRow base 5 1 v (bs.length + m) (Lib.byteCells bs ++ news)) (hm : m = ns.length) (hn : news = Lib.byteCells ns) : RowB base w v (bs ++ ns) := by
  unfold RowB
  rw [List.length_append, ← hm]
  rw [hn] at h
  have e : Lib.byteCells (bs ++ ns) = Lib.byteCells bs ++ Lib.byteCells ns := by simp [Lib.byteCells]
  rw [e]
  exact h
theorem RowB.lt {base : Nat} {w : World} {v : Value} {bs : List UInt8} (h : RowB base w v bs) : ∀ k, v.ownBlock = some k → base ≤ k := by
  intro k hk
  rcases h.2 with ⟨rfl, _⟩ | ⟨b, cap, cur, rfl, hb, _⟩
  · cases hk
  · have e : b = k := by simpa [Value.ownBlock] using hk
    omega
theorem RowB.grown {base : Nat} {w w' : World} {v : Value} {bs : List UInt8} (h : RowB base w v bs) (g : w.grownBy w' v.ownBlock) (hbase : base ≤ w.heap.size) : Below base w w' :=
  ⟨g.os, g.tape, g.output, g.size, fun k hk => g.block k (by omega) (fun e => by have := h.lt k e.symm; omega)⟩
theorem cells_new (w : World) (l : List Value) (t : TypeId) : ∀ j u, l[j]? = some u → (w.alloc (.cells l.toArray t)).cell? ((⟨w.heap.size, 0, none⟩ : Addr).add j) = some u := by
  intro j u hj
  rw [add0]
  have : (w.alloc (.cells l.toArray t)).heap[w.heap.size]? = some (.cells l.toArray t (0, 0)) := heap_alloc_new _ _
  simp only [World.cell?, this]
  simpa using hj
theorem one_byte (l : List UInt8) : ∀ u ∈ Lib.byteCells l, u.oneCell' = true := by
  intro u hu
  obtain ⟨b, _, rfl⟩ := List.mem_map.1 hu
  rfl
theorem RowB.cell {base : Nat} {w : World} {v : Value} {bs : List UInt8} (h : RowB base w v bs) : SlB w v bs := by
  rcases h.2 with ⟨rfl, h0⟩ | ⟨g, cap, cur, rfl, hb, hg, hn, hc, hz, ht⟩
  · exact .inl ⟨List.eq_nil_of_length_eq_zero h0, _, _, rfl⟩
  · refine .inr ⟨g, 0, cap, rfl, hn, fun j hj => ?_⟩
    have hj2 : j < (Lib.byteCells bs).length := by rw [Lib.byteCells_length]; exact hj
    have e2 : (cur.toList.take (bs.length * 1))[j]? = (Lib.byteCells bs)[j]? := by rw [ht]
    rw [List.getElem?_take_of_lt (by omega)] at e2
    simp only [World.cell?, hg, Nat.zero_add]
    have e3 : (Lib.byteCells bs)[j]? = some (.int .u8 (bs[j].toNat : Int)) := by
      rw [List.getElem?_eq_getElem hj2]
      simp [Lib.byteCells]
    rw [e3] at e2
    simpa using e2
theorem cell_lt {w : World} {b i : Nat} {v : Value} (h : w.cell? ⟨b, i, none⟩ = some v) : b < w.heap.size := by
  rcases Nat.lt_or_ge b w.heap.size with h1 | h1
  · exact h1
  · simp [World.cell?, Array.getElem?_eq_none h1] at h
theorem SlB.below {w w' : World} {v : Value} {bs : List UInt8} (h : SlB w v bs) (hb : Below w.heap.size w w') : SlB w' v bs := by
  rcases h with h | ⟨b, off, cap, rfl, hl, hc⟩
  · exact .inl h
  · refine .inr ⟨b, off, cap, rfl, hl, fun j hj => ?_⟩
    have h1 := hc j hj
    exact (hb.cell (p := ⟨b, off + j, none⟩) (cell_lt h1)).trans h1
theorem SlB.form {w : World} {v : Value} {bs : List UInt8} (h : SlB w v bs) : ∃ a c, v = .slice a bs.length c := by
  rcases h with ⟨rfl, a, cap, rfl⟩ | ⟨b, off, cap, rfl, _⟩
  · exact ⟨_, _, rfl⟩
  · exact ⟨_, _, rfl⟩
/-- Bytes that a slice holds, as a string. -/
theorem conv_row {w : World} {v : Value} {bs : List UInt8} (h : SlB w v bs) : (convert 22 9 v).run Tryd.prog w = .ok (.string ⟨bs.toArray⟩) w := by
  rcases h with ⟨rfl, a, cap, rfl⟩ | ⟨b, off, cap, rfl, hl, hc⟩
  · cases a with
    | none =>
      rw [run_convert_bytes_string w 22 9 5 none 0 cap Tryd.underlying22 Tryd.underlying5 Tryd.underlying9]
      rfl
    | some x => exact run_convert_bytes_back (P := Tryd.prog) w 22 9 5 x cap [] Tryd.underlying22 Tryd.underlying5 Tryd.underlying9 (fun j hj => by simp at hj)
  · exact run_convert_bytes_back (P := Tryd.prog) w 22 9 5 ⟨b, off, none⟩ cap bs Tryd.underlying22 Tryd.underlying5 Tryd.underlying9 (fun j hj => by rw [addO]; exact hc j hj)
theorem get_list (s : ByteArray) (i : Nat) (_h : i < s.size) (h2 : i < s.data.toList.length) : s[i] = s.data.toList[i] := by
  simp [ByteArray.getElem_eq_getElem_data]
end Bw
end Go.Proofs.YtbbgkocdmebikaaDoor
