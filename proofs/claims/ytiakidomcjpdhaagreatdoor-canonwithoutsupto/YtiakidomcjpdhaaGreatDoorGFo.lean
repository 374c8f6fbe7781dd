/- A value that is made anew, element by element: the variables of such a function, and what a round leaves. -/
import Derived.Test.YtiakidomcjpdhaaGreatDoorGRk
import Derived.Test.YtiakidomcjpdhaaGreatDoorGRgl
namespace Go.Proofs.YtiakidomcjpdhaaGreatDoor
open Go.RowKit
namespace Dc
open Pu

/-- The variables: the value, the answer, the copy so far; nothing old has turned. -/
structure Fo (w : World) (C : Array Value) (k : Int) (b : Bool) (n : Int) (t : ByteArray) (v4 v5 : Value) (w' : World) : Prop where
  a : w'.heap[w.heap.size]? = some (.cells C 25 (0, 0))
  z : w'.heap[w.heap.size + 1]? = some (.cells #[.int .i64 0, .bool false, .int .i64 0, .string ⟨#[]⟩, .slice none 0 0, .slice none 0 0] 25 (0, 0))
  v : w'.heap[w.heap.size + 1 + 1]? = some (.cells #[.int .i64 k, .bool b, .int .i64 n, .string t, v4, v5] 25 (0, 0))
  b : Below w.heap.size w w'
  s : w.heap.size + 3 ≤ w'.heap.size
section
variable {w : World} {C : Array Value} {k : Int} {b : Bool} {n : Int} {t : ByteArray} {v4 v5 : Value}
theorem Fo.keep {w1 w2 : World} (h : Fo w C k b n t v4 v5 w1) (f : Below (w.heap.size + 3) w1 w2) : Fo w C k b n t v4 v5 w2 :=
  ⟨(f.block _ (by omega)).trans h.a, (f.block _ (by omega)).trans h.z, (f.block _ (by omega)).trans h.v, h.b.trans (f.mono (by omega)), Nat.le_trans h.s f.size⟩
theorem Fo.set4 {w1 : World} (h : Fo w C k b n t v4 v5 w1) (u : Value) : Fo w C k b n t u v5 (w1.setCell ⟨w.heap.size + 1 + 1, 4, none⟩ u) :=
  ⟨(Below.heap_setCell _ _ _ _ (by simp; omega)).trans h.a, (Below.heap_setCell _ _ _ _ (by simp)).trans h.z, heap_set h.v 4 u, h.b.setCell (p := ⟨w.heap.size + 1 + 1, 4, none⟩) (by simp; omega) _, by simpa using h.s⟩
theorem Fo.set5 {w1 : World} (h : Fo w C k b n t v4 v5 w1) (u : Value) : Fo w C k b n t v4 u (w1.setCell ⟨w.heap.size + 1 + 1, 5, none⟩ u) :=
  ⟨(Below.heap_setCell _ _ _ _ (by simp; omega)).trans h.a, (Below.heap_setCell _ _ _ _ (by simp)).trans h.z, heap_set h.v 5 u, h.b.setCell (p := ⟨w.heap.size + 1 + 1, 5, none⟩) (by simp; omega) _, by simpa using h.s⟩
theorem Fo.new (w : World) (C : Array Value) (k : Int) (b : Bool) (n : Int) (t : ByteArray) (v4 v5 : Value) : Fo w C k b n t v4 v5 (((w.alloc (.cells C 25)).alloc (.cells #[.int .i64 0, .bool false, .int .i64 0, .string ⟨#[]⟩, .slice none 0 0, .slice none 0 0] 25)).alloc (.cells #[.int .i64 k, .bool b, .int .i64 n, .string t, v4, v5] 25)) := by
  refine ⟨?_, ?_, ?_, (((Below.refl _ w).alloc (Nat.le_refl _) _).alloc (by simp) _).alloc (by simp; omega) _, by simp⟩
  · rw [Below.heap_alloc _ _ _ (by simp; omega), Below.heap_alloc _ _ _ (by simp)]
    exact heap_alloc_new _ _
  · rw [Below.heap_alloc _ _ _ (by simp)]
    exact heap_new1 _ _ _
  · have := heap_alloc_new ((w.alloc (.cells C 25)).alloc (.cells #[.int .i64 0, .bool false, .int .i64 0, .string ⟨#[]⟩, .slice none 0 0, .slice none 0 0] 25)) (.cells #[.int .i64 k, .bool b, .int .i64 n, .string t, v4, v5] 25)
    rw [World.size_alloc, World.size_alloc] at this
    exact this
theorem fo_nextL {wr w2 w3 : World} {i : Nat} {v : Value} {va : Option Addr} {vc : Nat} {zs cs : List Value} {L L' : List GV} {NX : GV} {o : Obj} (hown : wr.ownsRow (w.heap.size + 3) 25 6 v i zs) (HLD : Hid (LaidL wr (fun b => w.heap.size + 3 ≤ b ∧ v.ownBlock ≠ some b) L zs)) (HTK : Hid (L' = L ++ [NX]))
    (hms : w.heap.size + 3 ≤ wr.heap.size) (hb12 : Below wr.heap.size wr w2) (hlx : LaidV w2 (fun b => wr.heap.size ≤ b) NX cs) (hown' : w3.ownsRow (w.heap.size + 3) 25 6 (.slice va (i + 1) vc) (i + 1) (zs ++ cs)) (hgrow3 : (w2.alloc o).grownBy w3 v.ownBlock) (hloc3 : (Value.slice va (i + 1) vc).ownBlock = v.ownBlock ∨ (Value.slice va (i + 1) vc).ownBlock = some (w2.alloc o).heap.size) (m3 : Fo w C k b n t v v5 w3) :
    Hid ((w3.setCell ⟨w.heap.size + 1 + 1, 4, none⟩ (.slice va (i + 1) vc)).ownsRow (w.heap.size + 3) 25 6 (.slice va (i + 1) vc) (i + 1) (zs ++ cs) ∧ Hid (LaidL (w3.setCell ⟨w.heap.size + 1 + 1, 4, none⟩ (.slice va (i + 1) vc)) (fun b => w.heap.size + 3 ≤ b ∧ (Value.slice va (i + 1) vc).ownBlock ≠ some b) L' (zs ++ cs)) ∧ Fo w C k b n t (.slice va (i + 1) vc) v5 (w3.setCell ⟨w.heap.size + 1 + 1, 4, none⟩ (.slice va (i + 1) vc))) := by
  have hs12 := hb12.size
  have hV1 : LaidL (w2.alloc o) (fun b => w.heap.size + 3 ≤ b ∧ v.ownBlock ≠ some b) L zs := HLD.out.conv (fun b hb hl' => ⟨hb, (Below.heap_alloc _ _ _ (by omega)).trans (hb12.block b hl')⟩)
  have hge : ∀ b, wr.heap.size ≤ b → v.ownBlock ≠ some b := fun b hb e => by
    have := (hown.lt _ e).2
    omega
  refine ⟨?_, ?_, m3.set4 _⟩
  · exact own_fr (S := fun k => k = w.heap.size + 1 + 1) hown' (Fr.setCell _ _ _ rfl) (fun k hk e => by omega)
  · show LaidL _ _ _ _
    rw [HTK.out]
    have hV2 : LaidV (w2.alloc o) (fun b => w.heap.size + 3 ≤ b ∧ v.ownBlock ≠ some b) NX cs := hlx.conv (fun b hb hl' => ⟨⟨by omega, hge b hb⟩, Below.heap_alloc _ _ _ hl'⟩)
    exact (snocL hgrow3 hloc3 hV1 hV2).conv (fun b hb _ => ⟨hb, Below.heap_setCell _ _ _ _ (by simp; omega)⟩)
theorem fo_nextF {wr w2 w3 : World} {B i : Nat} (hB : w.heap.size + 3 ≤ B) {v : Value} {va : Option Addr} {vc : Nat} {zs cs : List Value} {L L' : List (ByteArray × GV)} {nm : ByteArray} {NX : GV} {o : Obj} (hown : wr.ownsRow B 54 7 v i zs) (HLD : Hid (LaidF wr (fun b => w.heap.size + 3 ≤ b ∧ v.ownBlock ≠ some b) L zs)) (HTK : Hid (L' = L ++ [(nm, NX)]))
    (hms : w.heap.size + 3 ≤ wr.heap.size) (hb12 : Below wr.heap.size wr w2) (hlx : LaidV w2 (fun b => wr.heap.size ≤ b) NX cs) (hown' : w3.ownsRow B 54 7 (.slice va (i + 1) vc) (i + 1) (zs ++ (.string nm :: cs))) (hgrow3 : (w2.alloc o).grownBy w3 v.ownBlock) (hloc3 : (Value.slice va (i + 1) vc).ownBlock = v.ownBlock ∨ (Value.slice va (i + 1) vc).ownBlock = some (w2.alloc o).heap.size) (m3 : Fo w C k b n t v4 v w3) :
    Hid ((w3.setCell ⟨w.heap.size + 1 + 1, 5, none⟩ (.slice va (i + 1) vc)).ownsRow B 54 7 (.slice va (i + 1) vc) (i + 1) (zs ++ (.string nm :: cs)) ∧ Hid (LaidF (w3.setCell ⟨w.heap.size + 1 + 1, 5, none⟩ (.slice va (i + 1) vc)) (fun b => w.heap.size + 3 ≤ b ∧ (Value.slice va (i + 1) vc).ownBlock ≠ some b) L' (zs ++ (.string nm :: cs))) ∧ Fo w C k b n t v4 (.slice va (i + 1) vc) (w3.setCell ⟨w.heap.size + 1 + 1, 5, none⟩ (.slice va (i + 1) vc))) := by
  have hs12 := hb12.size
  have hV1 : LaidF (w2.alloc o) (fun b => w.heap.size + 3 ≤ b ∧ v.ownBlock ≠ some b) L zs := HLD.out.conv (fun b hb hl' => ⟨hb, (Below.heap_alloc _ _ _ (by omega)).trans (hb12.block b hl')⟩)
  have hge : ∀ b, wr.heap.size ≤ b → v.ownBlock ≠ some b := fun b hb e => by
    have := (hown.lt _ e).2
    omega
  refine ⟨?_, ?_, m3.set5 _⟩
  · exact own_fr (S := fun k => k = w.heap.size + 1 + 1) hown' (Fr.setCell _ _ _ rfl) (fun k hk e => by omega)
  · show LaidF _ _ _ _
    rw [HTK.out]
    have hV2 : LaidP (w2.alloc o) (fun b => w.heap.size + 3 ≤ b ∧ v.ownBlock ≠ some b) (nm, NX) (.string nm :: cs) := by
      unfold LaidP
      exact ⟨_, rfl, hlx.conv (fun b hb hl' => ⟨⟨by omega, hge b hb⟩, Below.heap_alloc _ _ _ hl'⟩)⟩
    exact (snocF hgrow3 hloc3 hV1 hV2).conv (fun b hb _ => ⟨hb, Below.heap_setCell _ _ _ _ (by simp; omega)⟩)
theorem fo_keepB {w5 wr w2 w3 : World} {B i : Nat} {v u : Value} {zs : List Value} {o : Obj} (hB : w5.heap.size ≤ B) (hown : wr.ownsRow B 54 7 v i zs) (h5 : w5.heap.size ≤ wr.heap.size) (HK : ∀ b, b < w5.heap.size → b ≠ w.heap.size + 1 + 1 → wr.heap[b]? = w5.heap[b]?) (hb12 : Below wr.heap.size wr w2) (hgrow3 : (w2.alloc o).grownBy w3 v.ownBlock) : ∀ b, b < w5.heap.size → b ≠ w.heap.size + 1 + 1 → (w3.setCell ⟨w.heap.size + 1 + 1, 5, none⟩ u).heap[b]? = w5.heap[b]? := fun b hb hne => by
  have hs := hb12.size
  rw [Below.heap_setCell _ _ _ _ (show b ≠ w.heap.size + 1 + 1 from hne), hgrow3.block b (by simp; omega) (fun e => by have := (hown.lt _ e.symm).1; omega), Below.heap_alloc _ _ _ (by omega), hb12.block b (by omega), HK b hb hne]
end
end Dc
end Go.Proofs.YtiakidomcjpdhaaGreatDoor
