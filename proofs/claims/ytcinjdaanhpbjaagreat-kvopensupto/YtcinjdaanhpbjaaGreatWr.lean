/- Rows of bytes: what a slice holds, what a call owns and grows; nothing of the program but its types. -/
import Derived.Test.YtcinjdaanhpbjaaGreatProg
import Derived.WalkKit
import Derived.WalkSpells
import Derived.WalkSmall
import Derived.Deep.QuietTactic
import Derived.Maps.AppendAt
import Derived.Laws.AppendOwnNone
import Derived.Laws.MakeOwn
import Derived.Lib.OthersKept
import Derived.BigQuiet
import Derived.Lib.BufferRead
import Derived.Laws.IdiomStrings
import Derived.KernelRfl
namespace Go.Proofs.YtcinjdaanhpbjaaGreat
open Go.RowKit
namespace Bw

theorem info5 : (Tryz.prog.info? 5).map (fun i => (i.zero, i.size, i.bytes)) = some (some (.int .u8 0), 1, 1) := by kernel_rfl

def numOf : Value → Nat
  | .int _ n => n.toNat
  | _ => 0
/-- A slice of bytes holds these. -/
def SlB (w : World) (v : Value) (bs : List UInt8) : Prop :=
  (bs = [] ∧ ∃ a cap, v = .slice a 0 cap) ∨ ∃ b off cap, v = .slice (some ⟨b, off, none⟩) bs.length cap ∧ bs.length ≤ cap ∧ ∀ j (h : j < bs.length), w.cell? ⟨b, off + j, none⟩ = some (.int .u8 (bs[j].toNat : Int))
/-- A row of bytes that the call owns. -/
def RowB (base : Nat) (w : World) (v : Value) (bs : List UInt8) : Prop := w.ownsRow base 5 1 v bs.length (Lib.byteCells bs)

theorem add0 (b j : Nat) : (⟨b, 0, none⟩ : Addr).add j = ⟨b, j, none⟩ := by
  unfold Addr.add
  by_cases hj : j = 0
  · subst hj; rfl
  · simp [hj]
theorem addO (b off j : Nat) : (⟨b, off, none⟩ : Addr).add j = ⟨b, off + j, none⟩ := by
  unfold Addr.add
  by_cases hj : j = 0
  · subst hj; rfl
  · simp [hj]
theorem own_kept {w w' : World} {base : Nat} {e : TypeId} {size : Nat} {v : Value} {n : Nat} {xs : List Value} (h : w.ownsRow base e size v n xs) (hb : Below w.heap.size w w') : w'.ownsRow base e size v n xs := by
  obtain ⟨h1, h2⟩ := h
  refine ⟨h1, ?_⟩
  rcases h2 with h2 | ⟨g, cap, cur, a, b, c, d⟩
  · exact .inl h2
  · exact .inr ⟨g, cap, cur, a, b, (hb.block g (lt_of_block c)).trans c, d⟩
theorem RowB.nil (base : Nat) (w : World) : RowB base w (.slice none 0 0) [] := World.ownsRow_nil _ _ _ _
theorem RowB.kept {base : Nat} {w w' : World} {v : Value} {bs : List UInt8} (h : RowB base w v bs) (f : Below w.heap.size w w') : RowB base w' v bs := own_kept h f
theorem RowB.form {base : Nat} {w : World} {v : Value} {bs : List UInt8} (h : RowB base w v bs) : ∃ a c, v = .slice a bs.length c := by
  rcases h.2 with ⟨rfl, h0⟩ | ⟨g, cap, cur, rfl, _⟩
  · rw [h0]; exact ⟨_, _, rfl⟩
  · exact ⟨_, _, rfl⟩
theorem RowB.more {base : Nat} {w : World} {v : Value} {bs ns : List UInt8} {m : Nat} {news : List Value} (h : w.ownsRow base 5 1 v (bs.length + m) (Lib.byteCells bs ++ news)) (hm : m = ns.length) (hn : news = Lib.byteCells ns) : RowB base w v (bs ++ ns) := by
  unfold RowB
  rw [List.length_append, ← hm]
  rw [hn] at h
  have e : Lib.byteCells (bs ++ ns) = Lib.byteCells bs ++ Lib.byteCells ns := by simp [Lib.byteCells]
  rw [e]
  exact h
theorem RowB.lt {base : Nat} {w : World} {v : Value} {bs : List UInt8} (h : RowB base w v bs) : ∀ k, v.ownBlock = some k → base ≤ k := by
  intro k hk
  rcases h.2 with ⟨rfl, _⟩ | ⟨b, cap, cur, rfl, hb, _⟩
  · cases hk
  · have e : b = k := by simpa [Value.ownBlock] using hk
    omega
theorem RowB.gt {base : Nat} {w : World} {v : Value} {bs : List UInt8} (h : RowB base w v bs) : ∀ k, v.ownBlock = some k → k < w.heap.size := by
  intro k hk
  rcases h.2 with ⟨rfl, _⟩ | ⟨b, cap, cur, rfl, hb, hg, _⟩
  · cases hk
  · have e : b = k := by simpa [Value.ownBlock] using hk
    subst e
    exact lt_of_block hg
theorem RowB.grown {base : Nat} {w w' : World} {v : Value} {bs : List UInt8} (h : RowB base w v bs) (g : w.grownBy w' v.ownBlock) (hbase : base ≤ w.heap.size) : Below base w w' :=
  ⟨g.os, g.tape, g.output, g.size, fun k hk => g.block k (by omega) (fun e => by have := h.lt k e.symm; omega)⟩
theorem cells_new (w : World) (l : List Value) (t : TypeId) : ∀ j u, l[j]? = some u → (w.alloc (.cells l.toArray t)).cell? ((⟨w.heap.size, 0, none⟩ : Addr).add j) = some u := by
  intro j u hj
  rw [add0]
  have : (w.alloc (.cells l.toArray t)).heap[w.heap.size]? = some (.cells l.toArray t (0, 0)) := heap_alloc_new _ _
  simp only [World.cell?, this]
  simpa using hj
theorem one_byte (l : List UInt8) : ∀ u ∈ Lib.byteCells l, u.oneCell' = true := by
  intro u hu
  obtain ⟨b, _, rfl⟩ := List.mem_map.1 hu
  rfl
theorem RowB.cell {base : Nat} {w : World} {v : Value} {bs : List UInt8} (h : RowB base w v bs) : SlB w v bs := by
  rcases h.2 with ⟨rfl, h0⟩ | ⟨g, cap, cur, rfl, hb, hg, hn, hc, hz, ht⟩
  · exact .inl ⟨List.eq_nil_of_length_eq_zero h0, _, _, rfl⟩
  · refine .inr ⟨g, 0, cap, rfl, hn, fun j hj => ?_⟩
    have hj2 : j < (Lib.byteCells bs).length := by rw [Lib.byteCells_length]; exact hj
    have e2 : (cur.toList.take (bs.length * 1))[j]? = (Lib.byteCells bs)[j]? := by rw [ht]
    rw [List.getElem?_take_of_lt (by omega)] at e2
    simp only [World.cell?, hg, Nat.zero_add]
    have e3 : (Lib.byteCells bs)[j]? = some (.int .u8 (bs[j].toNat : Int)) := by
      rw [List.getElem?_eq_getElem hj2]
      simp [Lib.byteCells]
    rw [e3] at e2
    simpa using e2
theorem cell_lt {w : World} {b i : Nat} {v : Value} (h : w.cell? ⟨b, i, none⟩ = some v) : b < w.heap.size := by
  rcases Nat.lt_or_ge b w.heap.size with h1 | h1
  · exact h1
  · simp [World.cell?, Array.getElem?_eq_none h1] at h
theorem SlB.below {w w' : World} {v : Value} {bs : List UInt8} (h : SlB w v bs) (hb : Below w.heap.size w w') : SlB w' v bs := by
  rcases h with h | ⟨b, off, cap, rfl, hl, hc⟩
  · exact .inl h
  · refine .inr ⟨b, off, cap, rfl, hl, fun j hj => ?_⟩
    have h1 := hc j hj
    exact (hb.cell (p := ⟨b, off + j, none⟩) (cell_lt h1)).trans h1
theorem SlB.form {w : World} {v : Value} {bs : List UInt8} (h : SlB w v bs) : ∃ a c, v = .slice a bs.length c := by
  rcases h with ⟨rfl, a, cap, rfl⟩ | ⟨b, off, cap, rfl, _⟩
  · exact ⟨_, _, rfl⟩
  · exact ⟨_, _, rfl⟩
/-- A slice of bytes holds these, its capacity within bounds. -/
def SlM (w : World) (v : Value) (bs : List UInt8) : Prop :=
  (bs = [] ∧ (v = .slice none 0 0 ∨ ∃ x cap, v = .slice (some x) 0 cap ∧ cap ≤ 9223372036854775807)) ∨ ∃ b off cap, v = .slice (some ⟨b, off, none⟩) bs.length cap ∧ bs.length ≤ cap ∧ cap ≤ 9223372036854775807 ∧ ∀ j (h : j < bs.length), w.cell? ⟨b, off + j, none⟩ = some (.int .u8 (bs[j].toNat : Int))
theorem SlM.cases {w : World} {v : Value} {bs : List UInt8} (h : SlM w v bs) : (bs = [] ∧ ∃ a cap, v = .slice a 0 cap) ∨ ∃ b off cap, v = .slice (some ⟨b, off, none⟩) bs.length cap ∧ bs.length ≤ cap ∧ cap ≤ 9223372036854775807 ∧ ∀ j (h : j < bs.length), w.cell? ⟨b, off + j, none⟩ = some (.int .u8 (bs[j].toNat : Int)) := by
  rcases h with ⟨h1, rfl | ⟨x, cap, rfl, _⟩⟩ | h
  · exact .inl ⟨h1, _, _, rfl⟩
  · exact .inl ⟨h1, _, _, rfl⟩
  · exact .inr h
theorem SlM.sl {w : World} {v : Value} {bs : List UInt8} (h : SlM w v bs) : SlB w v bs := by
  rcases h.cases with h | ⟨b, off, cap, h1, h2, _, h3⟩
  · exact .inl h
  · exact .inr ⟨b, off, cap, h1, h2, h3⟩
theorem SlM.below {N : Nat} {w w' : World} {v : Value} {bs : List UInt8} (h : SlM w v bs) (hb : Below N w w') (hN : w.heap.size ≤ N) : SlM w' v bs := by
  rcases h with h | ⟨b, off, cap, rfl, h1, h2, hc⟩
  · exact .inl h
  · refine .inr ⟨b, off, cap, rfl, h1, h2, fun j hj => ?_⟩
    have h3 := hc j hj
    exact (hb.cell (p := ⟨b, off + j, none⟩) (Nat.lt_of_lt_of_le (cell_lt h3) hN)).trans h3
theorem RowB.slm {base : Nat} {w : World} {v : Value} {bs : List UInt8} (h : RowB base w v bs) : SlM w v bs := by
  have hc := h.cell
  rcases h.2 with ⟨rfl, h0⟩ | ⟨g, cap, cur, rfl, hb, hg, hn, hm, hz, ht⟩
  · exact .inl ⟨List.eq_nil_of_length_eq_zero h0, .inl rfl⟩
  · have hcap : cap ≤ 9223372036854775807 := by unfold maxLen at hm; omega
    rcases hc with ⟨h1, _⟩ | ⟨b, off, c, he, h2, h3⟩
    · subst h1
      exact .inl ⟨rfl, .inr ⟨_, _, rfl, hcap⟩⟩
    · cases he
      exact .inr ⟨_, _, _, rfl, h2, hcap, h3⟩
theorem RowB.mono {base base' : Nat} {w : World} {v : Value} {bs : List UInt8} (h : RowB base w v bs) (hb : base' ≤ base) : RowB base' w v bs := by
  refine ⟨h.1, ?_⟩
  rcases h.2 with h2 | ⟨g, cap, cur, a, b, c, d⟩
  · exact .inl h2
  · exact .inr ⟨g, cap, cur, a, by omega, c, d⟩
theorem made (base : Nat) (W : World) (c : Nat) (hc : c ≤ 281474976710656) (hbase : base ≤ W.heap.size) :
    ∃ M : Array Value, (Instr.makeSlice 43 (.int .i64 0) (.int .i64 (c : Int))).run Tryz.prog W = .ok (.slice (some ⟨W.heap.size, 0, none⟩) 0 c) (W.alloc (.cells M 5)) ∧ RowB base (W.alloc (.cells M 5)) (.slice (some ⟨W.heap.size, 0, none⟩) 0 c) [] := by
  obtain ⟨i0, hi, hz0, hz1, hz2⟩ := info_parts info5
  have h := run_make (P := Tryz.prog) W 43 5 i0 (.int .u8 0) Tryz.underlying43 hi hz0 .i64 .i64 0 (c : Int) (by omega) (by omega) (by rw [hz2]; omega) (by omega)
  simp only [Int.toNat_zero, Int.toNat_natCast] at h
  refine ⟨_, h, ?_⟩
  exact World.ownsRow_made W _ c hbase (by unfold maxLen; omega) (by rw [size_madeCells, hz1])
/-- Bytes of a slice, put behind a row that the call owns. -/
theorem app_any {w : World} {ops : Array Oper} {rest : List Oper} {o : Oper} {a : Act} {Q : Exit → Act → World → Prop} (hgd : o.guard = none) (s x : Operand)
    (ho : o.op = .call { callee := .builtin .append, args := #[s, x], argTypes := #[43, 43] }) (base : Nat) (v : Value) (bs : List UInt8) (hs : a.eval s = v) (hrow : RowB base w v bs) (u : Value) (ns : List UInt8) (hx : a.eval x = u) (hu : SlM w u ns)
    (hlen : bs.length + ns.length ≤ 140737488355328) (hbase : base ≤ w.heap.size)
    (h : ∀ v' w', RowB base w' v' (bs ++ ns) → Below base w w' → wpList Tryz.prog ops Q rest (a.put o.dst v') w') : wpList Tryz.prog ops Q (o :: rest) a w := by
  obtain ⟨i0, hi, hz0, hz1, hz2⟩ := info_parts info5
  have hnil : ns = [] → ∀ v' w', RowB base w' v' bs → Below base w w' → wpList Tryz.prog ops Q rest (a.put o.dst v') w' := fun e v' w' h1 h2 => h v' w' (by rw [e, List.append_nil]; exact h1) h2
  rcases hu with ⟨e, rfl | ⟨y, cap, rfl, _⟩⟩ | ⟨b, off, cap, rfl, h1, h2, hc⟩
  · exact wpList_append_own_none hgd s x 43 ho base 5 i0 1 Tryz.underlying43 hi v _ _ hs hrow hx (hnil e _ _ hrow (Below.refl _ _))
  · refine wpList_append_own _ hgd s x 43 ho base 5 i0 (.int .u8 0) 1 1 Tryz.underlying43 hi hz0 hz1 hz2 rfl (by decide) v _ _ hs hrow y 0 cap [] hx rfl (fun j u hj => by simp at hj) (by simp) (by unfold maxLen; omega) (by omega) hbase ?_
    intro v' w3 hown' hgrow3 _
    refine hnil e v' w3 ?_ (RowB.grown hrow hgrow3 hbase)
    have := RowB.more (ns := []) hown' rfl rfl
    rwa [List.append_nil] at this
  · refine wpList_append_own _ hgd s x 43 ho base 5 i0 (.int .u8 0) 1 1 Tryz.underlying43 hi hz0 hz1 hz2 rfl (by decide) v _ _ hs hrow ⟨b, off, none⟩ ns.length cap (Lib.byteCells ns) hx (by rw [Lib.byteCells_length]; omega) (fun j u hj => ?_) (one_byte _) (by unfold maxLen; omega) (by omega) hbase ?_
    · have hj2 : j < ns.length := by
        rcases Nat.lt_or_ge j ns.length with h' | h'
        · exact h'
        · rw [List.getElem?_eq_none (by rw [Lib.byteCells_length]; exact h')] at hj; cases hj
      rw [addO, hc j hj2, ← hj]
      simp [Lib.byteCells, hj2]
    · intro v' w3 hown' hgrow3 _
      exact h v' w3 (RowB.more hown' rfl rfl) (RowB.grown hrow hgrow3 hbase)
/-- Bytes of a slice, put behind a row that the call owns; where the row lies then. -/
theorem appb_at {w : World} {ops : Array Oper} {rest : List Oper} {o : Oper} {a : Act} {Q : Exit → Act → World → Prop} (hgd : o.guard = none) (s x : Operand)
    (ho : o.op = .call { callee := .builtin .append, args := #[s, x], argTypes := #[43, 43] }) (base : Nat) (v : Value) (bs : List UInt8) (hs : a.eval s = v) (hrow : RowB base w v bs) (u : Value) (ns : List UInt8) (hx : a.eval x = u) (hu : SlM w u ns)
    (hlen : bs.length + ns.length ≤ 140737488355328) (hbase : base ≤ w.heap.size)
    (h : ∀ v' w', RowB base w' v' (bs ++ ns) → w.grownBy w' v.ownBlock → (v'.ownBlock = v.ownBlock ∨ v'.ownBlock = some w.heap.size) → wpList Tryz.prog ops Q rest (a.put o.dst v') w') : wpList Tryz.prog ops Q (o :: rest) a w := by
  obtain ⟨i0, hi, hz0, hz1, hz2⟩ := info_parts info5
  have hself : w.grownBy w v.ownBlock := ⟨rfl, rfl, rfl, Nat.le_refl _, fun _ _ _ => rfl⟩
  rcases hu with ⟨e, rfl | ⟨y, cap, rfl, _⟩⟩ | ⟨b, off, cap, rfl, h1, h2, hc⟩
  · exact wpList_append_own_none hgd s x 43 ho base 5 i0 1 Tryz.underlying43 hi v _ _ hs hrow hx (h _ _ (by rw [e, List.append_nil]; exact hrow) hself (.inl rfl))
  · refine wpList_append_own_at _ hgd s x 43 ho base 5 i0 (.int .u8 0) 1 1 Tryz.underlying43 hi hz0 hz1 hz2 rfl (by decide) v _ _ hs hrow y 0 cap [] hx rfl (fun j u hj => by simp at hj) (by simp) (by unfold maxLen; omega) (by omega) hbase ?_
    intro v' w3 hown' hgrow3 _ hat
    refine h v' w3 ?_ hgrow3 hat
    have := RowB.more (ns := []) hown' rfl rfl
    rw [e]
    exact this
  · refine wpList_append_own_at _ hgd s x 43 ho base 5 i0 (.int .u8 0) 1 1 Tryz.underlying43 hi hz0 hz1 hz2 rfl (by decide) v _ _ hs hrow ⟨b, off, none⟩ ns.length cap (Lib.byteCells ns) hx (by rw [Lib.byteCells_length]; omega) (fun j u hj => ?_) (one_byte _) (by unfold maxLen; omega) (by omega) hbase ?_
    · have hj2 : j < ns.length := by
        rcases Nat.lt_or_ge j ns.length with h' | h'
        · exact h'
        · rw [List.getElem?_eq_none (by rw [Lib.byteCells_length]; exact h')] at hj; cases hj
      rw [addO, hc j hj2, ← hj]
      simp [Lib.byteCells, hj2]
    · intro v' w3 hown' hgrow3 _ hat
      exact h v' w3 (RowB.more hown' rfl rfl) hgrow3 hat
theorem RowB.other {base : Nat} {w w' : World} {v : Value} {bs : List UInt8} (h : RowB base w v bs) (hk : ∀ k, v.ownBlock = some k → w'.heap[k]? = w.heap[k]?) : RowB base w' v bs := by
  obtain ⟨h1, h2⟩ := h
  refine ⟨h1, ?_⟩
  rcases h2 with h2 | ⟨g, cap, cur, rfl, hg, c, d⟩
  · exact .inl h2
  · exact .inr ⟨g, cap, cur, rfl, hg, (hk g rfl).trans c, d⟩

/-- All blocks that were there are as they were, but those of S. -/
structure Fr (S : Nat → Prop) (w w' : World) : Prop where
  os : w'.os = w.os
  tape : w'.tape = w.tape
  output : w'.output = w.output
  size : w.heap.size ≤ w'.heap.size
  block : ∀ k, k < w.heap.size → ¬ S k → w'.heap[k]? = w.heap[k]?
theorem Fr.refl (S : Nat → Prop) (w : World) : Fr S w w := ⟨rfl, rfl, rfl, Nat.le_refl _, fun _ _ _ => rfl⟩
/-- One behind the other: what the second may turn, the first may, or it is new. -/
theorem Fr.and {S T : Nat → Prop} {a b c : World} (h : Fr S a b) (k : Fr T b c) (hs : ∀ i, i < a.heap.size → T i → S i) : Fr S a c :=
  ⟨k.os.trans h.os, k.tape.trans h.tape, k.output.trans h.output, Nat.le_trans h.size k.size, fun i hi hn => (k.block i (Nat.lt_of_lt_of_le hi h.size) (fun x => hn (hs i hi x))).trans (h.block i hi hn)⟩
theorem Fr.mono {S S' : Nat → Prop} {w w' : World} (h : Fr S w w') (hs : ∀ k, k < w.heap.size → S k → S' k) : Fr S' w w' :=
  ⟨h.os, h.tape, h.output, h.size, fun k hk hn => h.block k hk (fun x => hn (hs k hk x))⟩
theorem Fr.of_below {S : Nat → Prop} {w w' : World} (h : Below w.heap.size w w') : Fr S w w' := ⟨h.os, h.tape, h.output, h.size, fun k hk _ => h.block k hk⟩
theorem Fr.below {S : Nat → Prop} {B : Nat} {w w' : World} (h : Fr S w w') (hB : B ≤ w.heap.size) (hs : ∀ k, k < B → ¬ S k) : Below B w w' :=
  ⟨h.os, h.tape, h.output, h.size, fun k hk => h.block k (by omega) (hs k hk)⟩
theorem Fr.setCell {S : Nat → Prop} (w : World) (a : Addr) (v : Value) (h : S a.block) : Fr S w (w.setCell a v) :=
  ⟨rfl, rfl, rfl, by simp, fun k _ hn => Below.heap_setCell _ _ _ _ (fun e => hn (e ▸ h))⟩
theorem Fr.grown {S : Nat → Prop} {w w' : World} {row : Option Nat} (h : w.grownBy w' row) (hs : ∀ k, row = some k → k < w.heap.size → S k) : Fr S w w' :=
  ⟨h.os, h.tape, h.output, h.size, fun k hk hn => h.block k hk (fun e => hn (hs k e.symm hk))⟩
theorem SlM.fr {S : Nat → Prop} {w w' : World} {v : Value} {bs : List UInt8} (h : SlM w v bs) (f : Fr S w w') (hn : ∀ x l c, v = .slice (some x) l c → 0 < l → ¬ S x.block) : SlM w' v bs := by
  rcases h with h | ⟨b, off, cap, rfl, h1, h2, hc⟩
  · exact .inl h
  · refine .inr ⟨b, off, cap, rfl, h1, h2, fun j hj => ?_⟩
    have h3 := hc j hj
    have h4 := f.block b (cell_lt h3) (hn _ _ _ rfl (by omega))
    simp only [World.cell?] at h3 ⊢
    rw [h4]
    exact h3
/-- Bytes as a string. -/
theorem conv_sl {w : World} {v : Value} {bs : List UInt8} (h : SlM w v bs) : (convert 43 9 v).run Tryz.prog w = .ok (.string ⟨bs.toArray⟩) w := by
  rcases h with ⟨rfl, rfl | ⟨x, cap, rfl, _⟩⟩ | ⟨b, off, cap, rfl, h1, h2, hc⟩
  · exact Lib.run_convert_nil_bytes w 43 9 5 0 Tryz.underlying43 Tryz.underlying5 Tryz.underlying9
  · exact run_convert_bytes_back (P := Tryz.prog) w 43 9 5 x cap [] Tryz.underlying43 Tryz.underlying5 Tryz.underlying9 (fun j hj => by simp at hj)
  · exact run_convert_bytes_back (P := Tryz.prog) w 43 9 5 ⟨b, off, none⟩ cap bs Tryz.underlying43 Tryz.underlying5 Tryz.underlying9 (fun j hj => by rw [addO]; exact hc j hj)
end Bw
end Go.Proofs.YtcinjdaanhpbjaaGreat
