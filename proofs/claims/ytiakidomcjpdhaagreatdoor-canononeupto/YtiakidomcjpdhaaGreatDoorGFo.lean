/- A value that is made anew, element by element: the variables of such a function, and what a round leaves. What coveylaw03.copied does: another value, alike. -/
import Derived.Test.YtiakidomcjpdhaaGreatDoorGRk
import Derived.Test.YtiakidomcjpdhaaGreatDoorGRgl
namespace Go.Proofs.YtiakidomcjpdhaaGreatDoor
open Go.RowKit
namespace Dc
open Pu

/-- The variables: the value, the answer, the copy so far; nothing old has turned. -/
structure Fo (w : World) (C : Array Value) (k : Int) (b : Bool) (n : Int) (t : ByteArray) (v4 v5 : Value) (w' : World) : Prop where
  a : w'.heap[w.heap.size]? = some (.cells C 25 (0, 0))
  z : w'.heap[w.heap.size + 1]? = some (.cells #[.int .i64 0, .bool false, .int .i64 0, .string ⟨#[]⟩, .slice none 0 0, .slice none 0 0] 25 (0, 0))
  v : w'.heap[w.heap.size + 1 + 1]? = some (.cells #[.int .i64 k, .bool b, .int .i64 n, .string t, v4, v5] 25 (0, 0))
  b : Below w.heap.size w w'
  s : w.heap.size + 3 ≤ w'.heap.size
section
variable {w : World} {C : Array Value} {k : Int} {b : Bool} {n : Int} {t : ByteArray} {v4 v5 : Value}
theorem Fo.keep {w1 w2 : World} (h : Fo w C k b n t v4 v5 w1) (f : Below (w.heap.size + 3) w1 w2) : Fo w C k b n t v4 v5 w2 :=
  ⟨(f.block _ (by omega)).trans h.a, (f.block _ (by omega)).trans h.z, (f.block _ (by omega)).trans h.v, h.b.trans (f.mono (by omega)), Nat.le_trans h.s f.size⟩
theorem Fo.set4 {w1 : World} (h : Fo w C k b n t v4 v5 w1) (u : Value) : Fo w C k b n t u v5 (w1.setCell ⟨w.heap.size + 1 + 1, 4, none⟩ u) :=
  ⟨(Below.heap_setCell _ _ _ _ (by simp; omega)).trans h.a, (Below.heap_setCell _ _ _ _ (by simp)).trans h.z, heap_set h.v 4 u, h.b.setCell (p := ⟨w.heap.size + 1 + 1, 4, none⟩) (by simp; omega) _, by simpa using h.s⟩
theorem Fo.set5 {w1 : World} (h : Fo w C k b n t v4 v5 w1) (u : Value) : Fo w C k b n t v4 u (w1.setCell ⟨w.heap.size + 1 + 1, 5, none⟩ u) :=
  ⟨(Below.heap_setCell _ _ _ _ (by simp; omega)).trans h.a, (Below.heap_setCell _ _ _ _ (by simp)).trans h.z, heap_set h.v 5 u, h.b.setCell (p := ⟨w.heap.size + 1 + 1, 5, none⟩) (by simp; omega) _, by simpa using h.s⟩
theorem Fo.new (w : World) (C : Array Value) (k : Int) (b : Bool) (n : Int) (t : ByteArray) (v4 v5 : Value) : Fo w C k b n t v4 v5 (((w.alloc (.cells C 25)).alloc (.cells #[.int .i64 0, .bool false, .int .i64 0, .string ⟨#[]⟩, .slice none 0 0, .slice none 0 0] 25)).alloc (.cells #[.int .i64 k, .bool b, .int .i64 n, .string t, v4, v5] 25)) := by
  refine ⟨?_, ?_, ?_, (((Below.refl _ w).alloc (Nat.le_refl _) _).alloc (by simp) _).alloc (by simp; omega) _, by simp⟩
  · rw [Below.heap_alloc _ _ _ (by simp; omega), Below.heap_alloc _ _ _ (by simp)]
    exact heap_alloc_new _ _
  · rw [Below.heap_alloc _ _ _ (by simp)]
    exact heap_new1 _ _ _
  · have := heap_alloc_new ((w.alloc (.cells C 25)).alloc (.cells #[.int .i64 0, .bool false, .int .i64 0, .string ⟨#[]⟩, .slice none 0 0, .slice none 0 0] 25)) (.cells #[.int .i64 k, .bool b, .int .i64 n, .string t, v4, v5] 25)
    rw [World.size_alloc, World.size_alloc] at this
    exact this
theorem fo_nextL {wr w2 w3 : World} {i : Nat} {v : Value} {va : Option Addr} {vc : Nat} {zs cs : List Value} {L L' : List GV} {NX : GV} {o : Obj} (hown : wr.ownsRow (w.heap.size + 3) 25 6 v i zs) (HLD : Hid (LaidL wr (fun b => w.heap.size + 3 ≤ b ∧ v.ownBlock ≠ some b) L zs)) (HTK : Hid (L' = L ++ [NX]))
    (hms : w.heap.size + 3 ≤ wr.heap.size) (hb12 : Below wr.heap.size wr w2) (hlx : LaidV w2 (fun b => wr.heap.size ≤ b) NX cs) (hown' : w3.ownsRow (w.heap.size + 3) 25 6 (.slice va (i + 1) vc) (i + 1) (zs ++ cs)) (hgrow3 : (w2.alloc o).grownBy w3 v.ownBlock) (hloc3 : (Value.slice va (i + 1) vc).ownBlock = v.ownBlock ∨ (Value.slice va (i + 1) vc).ownBlock = some (w2.alloc o).heap.size) (m3 : Fo w C k b n t v v5 w3) :
    Hid ((w3.setCell ⟨w.heap.size + 1 + 1, 4, none⟩ (.slice va (i + 1) vc)).ownsRow (w.heap.size + 3) 25 6 (.slice va (i + 1) vc) (i + 1) (zs ++ cs) ∧ Hid (LaidL (w3.setCell ⟨w.heap.size + 1 + 1, 4, none⟩ (.slice va (i + 1) vc)) (fun b => w.heap.size + 3 ≤ b ∧ (Value.slice va (i + 1) vc).ownBlock ≠ some b) L' (zs ++ cs)) ∧ Fo w C k b n t (.slice va (i + 1) vc) v5 (w3.setCell ⟨w.heap.size + 1 + 1, 4, none⟩ (.slice va (i + 1) vc))) := by
  have hs12 := hb12.size
  have hV1 : LaidL (w2.alloc o) (fun b => w.heap.size + 3 ≤ b ∧ v.ownBlock ≠ some b) L zs := HLD.out.conv (fun b hb hl' => ⟨hb, (Below.heap_alloc _ _ _ (by omega)).trans (hb12.block b hl')⟩)
  have hge : ∀ b, wr.heap.size ≤ b → v.ownBlock ≠ some b := fun b hb e => by
    have := (hown.lt _ e).2
    omega
  refine ⟨?_, ?_, m3.set4 _⟩
  · exact own_fr (S := fun k => k = w.heap.size + 1 + 1) hown' (Fr.setCell _ _ _ rfl) (fun k hk e => by omega)
  · show LaidL _ _ _ _
    rw [HTK.out]
    have hV2 : LaidV (w2.alloc o) (fun b => w.heap.size + 3 ≤ b ∧ v.ownBlock ≠ some b) NX cs := hlx.conv (fun b hb hl' => ⟨⟨by omega, hge b hb⟩, Below.heap_alloc _ _ _ hl'⟩)
    exact (snocL hgrow3 hloc3 hV1 hV2).conv (fun b hb _ => ⟨hb, Below.heap_setCell _ _ _ _ (by simp; omega)⟩)
theorem fo_nextF {wr w2 w3 : World} {B i : Nat} (hB : w.heap.size + 3 ≤ B) {v : Value} {va : Option Addr} {vc : Nat} {zs cs : List Value} {L L' : List (ByteArray × GV)} {nm : ByteArray} {NX : GV} {o : Obj} (hown : wr.ownsRow B 54 7 v i zs) (HLD : Hid (LaidF wr (fun b => w.heap.size + 3 ≤ b ∧ v.ownBlock ≠ some b) L zs)) (HTK : Hid (L' = L ++ [(nm, NX)]))
    (hms : w.heap.size + 3 ≤ wr.heap.size) (hb12 : Below wr.heap.size wr w2) (hlx : LaidV w2 (fun b => wr.heap.size ≤ b) NX cs) (hown' : w3.ownsRow B 54 7 (.slice va (i + 1) vc) (i + 1) (zs ++ (.string nm :: cs))) (hgrow3 : (w2.alloc o).grownBy w3 v.ownBlock) (hloc3 : (Value.slice va (i + 1) vc).ownBlock = v.ownBlock ∨ (Value.slice va (i + 1) vc).ownBlock = some (w2.alloc o).heap.size) (m3 : Fo w C k b n t v4 v w3) :
    Hid ((w3.setCell ⟨w.heap.size + 1 + 1, 5, none⟩ (.slice va (i + 1) vc)).ownsRow B 54 7 (.slice va (i + 1) vc) (i + 1) (zs ++ (.string nm :: cs)) ∧ Hid (LaidF (w3.setCell ⟨w.heap.size + 1 + 1, 5, none⟩ (.slice va (i + 1) vc)) (fun b => w.heap.size + 3 ≤ b ∧ (Value.slice va (i + 1) vc).ownBlock ≠ some b) L' (zs ++ (.string nm :: cs))) ∧ Fo w C k b n t v4 (.slice va (i + 1) vc) (w3.setCell ⟨w.heap.size + 1 + 1, 5, none⟩ (.slice va (i + 1) vc))) := by
  have hs12 := hb12.size
  have hV1 : LaidF (w2.alloc o) (fun b => w.heap.size + 3 ≤ b ∧ v.ownBlock ≠ some b) L zs := HLD.out.conv (fun b hb hl' => ⟨hb, (Below.heap_alloc _ _ _ (by omega)).trans (hb12.block b hl')⟩)
  have hge : ∀ b, wr.heap.size ≤ b → v.ownBlock ≠ some b := fun b hb e => by
    have := (hown.lt _ e).2
    omega
  refine ⟨?_, ?_, m3.set5 _⟩
  · exact own_fr (S := fun k => k = w.heap.size + 1 + 1) hown' (Fr.setCell _ _ _ rfl) (fun k hk e => by omega)
  · show LaidF _ _ _ _
    rw [HTK.out]
    have hV2 : LaidP (w2.alloc o) (fun b => w.heap.size + 3 ≤ b ∧ v.ownBlock ≠ some b) (nm, NX) (.string nm :: cs) := by
      unfold LaidP
      exact ⟨_, rfl, hlx.conv (fun b hb hl' => ⟨⟨by omega, hge b hb⟩, Below.heap_alloc _ _ _ hl'⟩)⟩
    exact (snocF hgrow3 hloc3 hV1 hV2).conv (fun b hb _ => ⟨hb, Below.heap_setCell _ _ _ _ (by simp; omega)⟩)
theorem fo_keepB {w5 wr w2 w3 : World} {B i : Nat} {v u : Value} {zs : List Value} {o : Obj} (hB : w5.heap.size ≤ B) (hown : wr.ownsRow B 54 7 v i zs) (h5 : w5.heap.size ≤ wr.heap.size) (HK : ∀ b, b < w5.heap.size → b ≠ w.heap.size + 1 + 1 → wr.heap[b]? = w5.heap[b]?) (hb12 : Below wr.heap.size wr w2) (hgrow3 : (w2.alloc o).grownBy w3 v.ownBlock) : ∀ b, b < w5.heap.size → b ≠ w.heap.size + 1 + 1 → (w3.setCell ⟨w.heap.size + 1 + 1, 5, none⟩ u).heap[b]? = w5.heap[b]? := fun b hb hne => by
  have hs := hb12.size
  rw [Below.heap_setCell _ _ _ _ (show b ≠ w.heap.size + 1 + 1 from hne), hgrow3.block b (by simp; omega) (fun e => by have := (hown.lt _ e.symm).1; omega), Below.heap_alloc _ _ _ (by omega), hb12.block b (by omega), HK b hb hne]
end
end Dc
end Go.Proofs.YtiakidomcjpdhaaGreatDoor

namespace Go.Proofs.YtiakidomcjpdhaaGreatDoor
open Go.RowKit
namespace Dc
open Pu

def CpyAt (x : GV) : Prop := ∀ (w : World) (ok : Nat → Prop) (cs : Array Value), LaidV w ok x cs.toList → Calls Tryz.prog 15 #[.agg cs] w fun e w' => VOut (fun b => w.heap.size ≤ b) x e w' ∧ Below w.heap.size w w'
set_option maxRecDepth 20000 in
set_option maxHeartbeats 4000000 in
theorem cpy_step (k : Int) (b : Bool) (n : Int) (t : ByteArray) (l : List GV) (f : List (ByteArray × GV)) (hsz : (GV.mk k b n t l f).sz ≤ 2000000) (hl : ∀ i (h : i < l.length), CpyAt (l[i])) (hf : ∀ i (h : i < f.length), CpyAt (f[i]).2) : CpyAt (.mk k b n t l f) := by
  intro w ok cs hx
  obtain ⟨i0, hi, hz0, hz1, hz2⟩ := info_parts info26
  obtain ⟨j0, hj, hj0, hj1, hj2⟩ := info_parts info65'
  obtain ⟨a1, c1, a2, c2, xs, ys, hcs, hs1, hs2, hl1, hf1⟩ := hx.form
  obtain rfl : cs = #[.int .i64 k, .bool b, .int .i64 n, .string t, .slice a1 l.length c1, .slice a2 f.length c2] := by
    cases cs
    simpa using hcs
  have hll : l.length ≤ 2000000 := by have := szL_len l; unfold GV.sz at hsz; omega
  have hfl : f.length ≤ 2000000 := by have := szF_len f; unfold GV.sz at hsz; omega
  have HLL : Hid (SlAt w ok (.slice a1 l.length c1) l.length 6 xs ∧ LaidL w ok l xs ∧ ∀ i (h : i < l.length), CpyAt (l[i])) := ⟨hs1, hl1, hl⟩
  have HFF : Hid (SlAt w ok (.slice a2 f.length c2) f.length 7 ys ∧ LaidF w ok f ys ∧ ∀ i (h : i < f.length), CpyAt (f[i]).2) := ⟨hs2, hf1, hf⟩
  clear hcs hx hsz hs1 hs2 hl1 hf1 hl hf
  have mm := Fo.new w #[.int .i64 k, .bool b, .int .i64 n, .string t, .slice a1 l.length c1, .slice a2 f.length c2] k b n t (.slice a1 l.length c1) (.slice a2 f.length c2)
  obtain ⟨o0, o1, o2, o3, o4, o5⟩ := box6 mm.v
  have m0 := (mm.set4 (.slice none 0 0)).set5 (.slice none 0 0)
  go_enter Tryz.func15, Tryz.ntmps15
  go_wp2
  go_loopw [4] (fun u w' => ∃ (i : Nat) (v : Value) (zs : List Value), u = .int .i64 (i : Int) ∧ i ≤ l.length ∧ w'.ownsRow (w.heap.size + 3) 25 6 v i zs ∧ Hid (LaidL w' (fun b => w.heap.size + 3 ≤ b ∧ v.ownBlock ≠ some b) ((l).take i) zs) ∧ Fo w #[.int .i64 k, .bool b, .int .i64 n, .string t, .slice a1 l.length c1, .slice a2 f.length c2] k b n t v (.slice none 0 0) w') (fun u _ => l.length - numF u)
  case atStart => first
    | exact ⟨0, .slice none 0 0, [], rfl, Nat.zero_le _, World.ownsRow_nil _ _ _ _, by show LaidL _ _ _ _; simp [LaidL], Fo.new _ _ _ _ _ _ _ _⟩
    | exact ⟨0, .slice none 0 0, [], rfl, Nat.zero_le _, World.ownsRow_nil _ _ _ _, by show LaidL _ _ _ _; simp [LaidL], m0⟩
  case round =>
    obtain ⟨i, v, zs, rfl, hil, hown, HLD, m⟩ := hrel
    have hmb := m.b
    have hms := m.s
    clear m0
    obtain ⟨o0, o1, o2, o3, o4, o5⟩ := box6 m.a
    by_cases hlt : i < l.length
    · have hlt' : (i : Int) < (l.length : Int) := by omega
      obtain ⟨sb, off, es, ha1, hsb, hlv, hcell⟩ := SlAt.elem (HLL.out.1.conv (ok' := fun b => b < w.heap.size) (w' := w) (by decide) (fun b _ hb => ⟨hb, rfl⟩)) (HLL.out.2.1.conv (fun b _ hb => ⟨hb, rfl⟩)) i hlt
      have hcp := HLL.out.2.2 i hlt
      obtain ⟨X, hX⟩ : ∃ X, l[i] = X := ⟨_, rfl⟩
      have HTK : Hid ((l).take (i + 1) = (l).take i ++ [X]) := by show _ = _; rw [List.take_succ_eq_append_getElem (by simpa using hlt)]; simp [hX]
      rw [hX] at hlv hcp
      clear hX
      cases hXc : X with
      | mk k' b' n' t' l' f' =>
      rw [hXc] at hlv
      obtain ⟨p1, q1, p2, q2, _, _, rfl, -⟩ := hlv.form
      rw [← hXc] at hlv
      subst ha1
      have CE : Hid (∀ wq : World, Below w.heap.size w wq → wq.rangeAt sb (off + i * 6) [.int .i64 k', .bool b', .int .i64 n', .string t', .slice p1 l'.length q1, .slice p2 f'.length q2]) := fun wq hq j u hu => by
        have hj : j < 6 := by
          have := (List.getElem?_eq_some_iff.1 hu).1
          simpa using this
        exact (hq.cell (p := ⟨sb, off + i * 6 + j, none⟩) hsb).trans ((hcell j hj).trans hu)
      obtain ⟨NX, hNX⟩ : ∃ NX, X = NX := ⟨_, rfl⟩
      have hcall := hcp wr.drew (fun b => b < w.heap.size) #[.int .i64 k', .bool b', .int .i64 n', .string t', .slice p1 l'.length q1, .slice p2 f'.length q2] (hlv.conv (w' := wr.drew) (fun b hb hl => ⟨hb, hmb.block b hl⟩))
      rw [hNX] at HTK
      rw [hNX] at hcall
      clear hcell hXc hcp hlv hNX
      have HS0 : Fo w #[.int .i64 k, .bool b, .int .i64 n, .string t, .slice (some ⟨sb, off, none⟩) l.length c1, .slice a2 f.length c2] k b n t v (.slice none 0 0) wr.drew := m.keep (below_drewN (Below.refl _ _) 1)
      go_wp2
      apply Rg.region_held_last (S := fun w' => Fo w #[.int .i64 k, .bool b, .int .i64 n, .string t, .slice (some ⟨sb, off, none⟩) l.length c1, .slice a2 f.length c2] k b n t v (.slice none 0 0) w') (by kernel_rfl) HS0
      case hl => simp only [List.dropLast_cons_cons, List.dropLast_singleton]; rfl
      case ho => simp only [List.getLast?_cons_cons, List.getLast?_singleton]; rfl
      case hd => rfl
      case hg => rfl
      case hL => kernel_rfl
      case h =>
        intro hS
        simp only [List.cons_append, List.nil_append, Rg.idle]
        refine wpAnyH_take (i := 0) (v := .pointer (some ⟨w.heap.size + 1 + 1, 4, none⟩)) rfl (by kernel_rfl) (by kernel_rfl) (by kernel_rfl) (fun _ _ _ h => absurd h.1 (by simp)) (Or.inl ⟨by kernel_rfl, fun wq hS => by clear hS; go_simp⟩) hS ?_
        try simp only [Act.put, List.getElem_toArray, List.getElem_cons_zero, List.setIfInBounds_toArray, List.set_cons_zero, List.set_cons_succ]
        refine wpAnyH_take (i := 1) (v := v) rfl (by kernel_rfl) (by kernel_rfl) (by kernel_rfl) (fun _ _ _ h => absurd h.1 (by simp)) (Or.inl ⟨by kernel_rfl, fun wq hS => by have g4 := (box6 hS.v).2.2.2.2.1; clear hS; go_simp⟩) hS ?_
        try simp only [Act.put, List.getElem_toArray, List.getElem_cons_succ, List.getElem_cons_zero, List.setIfInBounds_toArray, List.set_cons_zero, List.set_cons_succ]
        refine wpAnyH_take (i := 2) (v := .pointer (some ⟨w.heap.size, 4, none⟩)) rfl (by kernel_rfl) (by kernel_rfl) (by kernel_rfl) (fun _ _ _ h => absurd h.1 (by simp)) (Or.inl ⟨by kernel_rfl, fun wq hS => by clear hS; go_simp⟩) hS ?_
        try simp only [Act.put, List.getElem_toArray, List.getElem_cons_succ, List.getElem_cons_zero, List.setIfInBounds_toArray, List.set_cons_zero, List.set_cons_succ]
        refine wpAnyH_take (i := 3) (v := .slice (some ⟨sb, off, none⟩) l.length c1) rfl (by kernel_rfl) (by kernel_rfl) (by kernel_rfl) (fun _ _ _ h => absurd h.1 (by simp)) (Or.inl ⟨by kernel_rfl, fun wq hS => by have g4 := (box6 hS.a).2.2.2.2.1; clear hS; go_simp⟩) hS ?_
        try simp only [Act.put, List.getElem_toArray, List.getElem_cons_succ, List.getElem_cons_zero, List.setIfInBounds_toArray, List.set_cons_zero, List.set_cons_succ]
        refine wpAnyH_take (i := 4) (v := .int .i64 (i : Int)) rfl (by kernel_rfl) (by kernel_rfl) (by kernel_rfl) (fun _ _ _ h => absurd h.1 (by simp)) (Or.inl ⟨by kernel_rfl, fun wq hS => by clear hS; go_simp⟩) hS ?_
        try simp only [Act.put, List.getElem_toArray, List.getElem_cons_succ, List.getElem_cons_zero, List.setIfInBounds_toArray, List.set_cons_zero, List.set_cons_succ]
        refine wpAnyH_take (i := 5) (v := .pointer (some ⟨sb, off + i * 6, none⟩)) rfl (by kernel_rfl) (by kernel_rfl) (by kernel_rfl) (fun _ _ _ h => absurd h.1 (by simp)) (Or.inl ⟨by kernel_rfl, fun wq hS => by clear hS; go_simp⟩) hS ?_
        try simp only [Act.put, List.getElem_toArray, List.getElem_cons_succ, List.getElem_cons_zero, List.setIfInBounds_toArray, List.set_cons_zero, List.set_cons_succ]
        refine wpAnyH_take (i := 6) (v := .agg #[.int .i64 k', .bool b', .int .i64 n', .string t', .slice p1 l'.length q1, .slice p2 f'.length q2]) rfl (by kernel_rfl) (by kernel_rfl) (by kernel_rfl) (fun _ _ _ h => absurd h.1 (by simp)) (yieldsIf_load_mid (by kernel_rfl) 25 (.tmp 21) rfl sb (off + i * 6) rfl [.int .i64 k', .bool b', .int .i64 n', .string t', .slice p1 l'.length q1, .slice p2 f'.length q2] _ (fun wq hq => CE.out wq hq.b) Tryz.underlying25 rfl sz25) hS ?_
        try simp only [Act.put, List.getElem_toArray, List.getElem_cons_succ, List.getElem_cons_zero, List.setIfInBounds_toArray, List.set_cons_zero, List.set_cons_succ]
        refine wpAnyH_ready (rs := [7]) (by kernel_rfl) (by simp) ?_
        refine AllReadyH.cons rfl (fun K' hK' => ?_) AllReadyH.nil
        go_simp
        refine hcall.mono ?_
        rintro e w2 ⟨⟨kk, bb, nn, tt, r1, z1, u1, r2, z2, u2, rfl, hlx⟩, h2⟩
        have hb2 : Below wr.heap.size wr w2 := ⟨h2.os, h2.tape, h2.output, h2.size, h2.block⟩
        refine hK'.out _ _ (hS.keep (h2.mono hms)) (fun hS => ?_)
        clear hK' K'
        try simp only [Act.put, List.getElem_toArray, List.getElem_cons_succ, List.getElem_cons_zero, List.setIfInBounds_toArray, List.set_cons_zero, List.set_cons_succ]
        refine wpAnyH_ready (rs := [8]) (by kernel_rfl) (by simp) ?_
        refine AllReadyH.cons rfl (fun K' hK' => ?_) AllReadyH.nil
        go_simp
        refine hK'.out _ _ (hS.keep ((Below.refl _ _).alloc hS.s _)) (fun hS => ?_)
        clear hK' K'
        try simp only [Act.put, List.getElem_toArray, List.getElem_cons_succ, List.getElem_cons_zero, List.setIfInBounds_toArray, List.set_cons_zero, List.set_cons_succ]
        have hsz2 := hb2.size
        have hown2 := own_kept hown hb2
        refine wpAnyH_ready (rs := [9]) (by kernel_rfl) (by simp) ?_
        refine AllReadyH.cons rfl (fun K' hK' => ?_) AllReadyH.nil
        refine step_append_own rfl (.tmp 17) (.tmp 24) 22 rfl (w.heap.size + 3) 25 i0 _ 6 88 Tryz.underlying22 hi hz0 hz1 hz2 rfl (by decide) v i zs rfl (hown2.alloc _) ⟨w2.heap.size, 0, none⟩ 1 1 [.int .i64 kk, .bool bb, .int .i64 nn, .string tt, .slice r1 z1 u1, .slice r2 z2 u2] rfl rfl (cells6 (heap_alloc_new _ _)) (by simp [Value.oneCell']) (by unfold maxLen; omega) (by omega) (by simp; omega) ?_
        intro v' w3 hown' hgrow3 hloc3
        have m3 := m.keep (Below.grown ((hb2.mono hms).alloc (by omega) _) hgrow3 (by simp; omega) (fun j hj => (hown.lt _ hj).1))
        refine hK'.out _ _ m3 (fun hS => ?_)
        clear hK' K'
        try simp only [Act.put, List.getElem_toArray, List.getElem_cons_succ, List.getElem_cons_zero, List.setIfInBounds_toArray, List.set_cons_zero, List.set_cons_succ]
        refine wpAnyH_take (i := 10) (v := .pointer (some ⟨w.heap.size + 1 + 1, 4, none⟩)) rfl (by kernel_rfl) (by kernel_rfl) (by kernel_rfl) (fun _ _ _ h => absurd h.1 (by simp)) (Or.inl ⟨by kernel_rfl, fun wq hS => by clear hS; go_simp⟩) hS ?_
        try simp only [Act.put, List.getElem_toArray, List.getElem_cons_succ, List.getElem_cons_zero, List.setIfInBounds_toArray, List.set_cons_zero, List.set_cons_succ]
        refine wpAnyH_take (i := 11) (v := undef) rfl (by kernel_rfl) (by kernel_rfl) (by kernel_rfl) (fun _ _ _ h => absurd h.1 (by simp)) (Or.inl ⟨by kernel_rfl, fun wq hS => by clear hS; go_simp⟩) hS ?_
        try simp only [Act.put, List.getElem_toArray, List.getElem_cons_succ, List.getElem_cons_zero]
        refine wpAnyH_done (by kernel_rfl) ?_ _
        refine ⟨rfl, ?_⟩
        obtain ⟨va, vc, rfl⟩ := own_form hown'
        have c4 := (box6 m3.v).2.2.2.2.1
        have z4 := box_fz m3.v 4
        have H4 := fo_nextL hown HLD HTK hms hb2 hlx hown' hgrow3 hloc3 m3
        clear hown2 hlx hgrow3 hloc3 hown' HLD HTK hS HS0 CE hcall
        go_simp
        go_wp2
        go_roundw
        case rel => exact ⟨i + 1, _, _, by simp, hlt, H4.out.1, H4.out.2.1, H4.out.2.2⟩
        case measure => simp [numF]; omega
    · have hlt' : ¬ (i : Int) < (l.length : Int) := by omega
      obtain rfl : i = l.length := by omega
      have hld := HLD.out
      rw [List.take_of_length_le (Nat.le_refl _)] at hld
      have hsl := slAt_of_own hown
      obtain ⟨va, vc, rfl⟩ := own_form hown
      have HLS : Hid (SlAt wr (fun b => w.heap.size + 3 ≤ b) (.slice va l.length vc) l.length 6 zs ∧ LaidL wr (fun b => w.heap.size + 3 ≤ b) l zs) := ⟨hsl, hld.conv (fun b hb _ => ⟨hb.1, rfl⟩)⟩
      obtain ⟨w5, hw5⟩ : ∃ w5, wr = w5 := ⟨_, rfl⟩
      rw [hw5] at HLS m hms ⊢
      clear hw5 hld hsl HLD hown hmb o0 o1 o2 o3 o4 o5 hil hlt
      obtain ⟨o0, o1, o2, o3, o4, o5⟩ := box6 m.a
      go_wp2
      clear o0 o1 o2 o3 o4 o5
      go_loopw [5] (fun u w' => ∃ (j : Nat) (v : Value) (ys' : List Value), u = .int .i64 (j : Int) ∧ j ≤ f.length ∧ w'.ownsRow w5.heap.size 54 7 v j ys' ∧ Hid (LaidF w' (fun b => w.heap.size + 3 ≤ b ∧ v.ownBlock ≠ some b) (f.take j) ys') ∧ Fo w #[.int .i64 k, .bool b, .int .i64 n, .string t, .slice a1 l.length c1, .slice a2 f.length c2] k b n t (.slice va l.length vc) v w' ∧ Hid ((∀ b, b < w5.heap.size → b ≠ w.heap.size + 1 + 1 → w'.heap[b]? = w5.heap[b]?) ∧ w5.heap.size ≤ w'.heap.size)) (fun u _ => f.length - numF u)
      case atStart => exact ⟨0, .slice none 0 0, [], rfl, Nat.zero_le _, World.ownsRow_nil _ _ _ _, by show LaidF _ _ _ _; simp [LaidF], m, fun b _ _ => rfl, Nat.le_refl _⟩
      case round =>
        have hms5 := m.s
        clear m hms
        obtain ⟨j, v, ys', rfl, hjl, hown, HLD, m, HKB⟩ := hrel
        have hmb := m.b
        have hms := m.s
        obtain ⟨o0, o1, o2, o3, o4, o5⟩ := box6 m.a
        by_cases hlt : j < f.length
        · have hlt' : (j : Int) < (f.length : Int) := by omega
          obtain ⟨sb, off, es, ha1, hsb, hlv, hname, hcell⟩ := SlAt.field (HFF.out.1.conv (ok' := fun b => b < w.heap.size) (w' := w) (by decide) (fun b _ hb => ⟨hb, rfl⟩)) (HFF.out.2.1.conv (fun b _ hb => ⟨hb, rfl⟩)) j hlt
          have hcp := HFF.out.2.2 j hlt
          obtain ⟨⟨nm, X⟩, hX⟩ : ∃ X, f[j] = X := ⟨_, rfl⟩
          have HTK : Hid (f.take (j + 1) = f.take j ++ [(nm, X)]) := by show _ = _; rw [List.take_succ_eq_append_getElem (by simpa using hlt), hX]
          rw [hX] at hlv hcp hname
          simp only at hlv hcp hname
          clear hX
          cases hXc : X with
          | mk k' b' n' t' l' f' =>
          rw [hXc] at hlv
          obtain ⟨p1, q1, p2, q2, _, _, rfl, -⟩ := hlv.form
          rw [← hXc] at hlv
          subst ha1
          have CE : Hid (∀ wq : World, Below w.heap.size w wq → wq.cell? ⟨sb, off + j * 7, none⟩ = some (.string nm) ∧ wq.rangeAt sb (off + j * 7 + 1) [.int .i64 k', .bool b', .int .i64 n', .string t', .slice p1 l'.length q1, .slice p2 f'.length q2]) := fun wq hq => by
            refine ⟨(hq.cell (p := ⟨sb, off + j * 7, none⟩) hsb).trans hname, fun jj u hu => ?_⟩
            have hj : jj < 6 := by
              have := (List.getElem?_eq_some_iff.1 hu).1
              simpa using this
            rw [Nat.add_assoc]
            exact (hq.cell (p := ⟨sb, off + j * 7 + (1 + jj), none⟩) hsb).trans ((hcell jj hj).trans hu)
          have hcall := hcp wr.drew (fun b => b < w.heap.size) #[.int .i64 k', .bool b', .int .i64 n', .string t', .slice p1 l'.length q1, .slice p2 f'.length q2] (hlv.conv (w' := wr.drew) (fun b hb hl => ⟨hb, hmb.block b hl⟩))
          obtain ⟨NX, hNX⟩ : ∃ NX, X = NX := ⟨_, rfl⟩
          rw [hNX] at HTK hcall
          clear hcell hXc hcp hlv hNX hname
          have HS0 : Fo w #[.int .i64 k, .bool b, .int .i64 n, .string t, .slice a1 l.length c1, .slice (some ⟨sb, off, none⟩) f.length c2] k b n t (.slice va l.length vc) v wr.drew := m.keep (below_drewN (Below.refl _ _) 1)
          go_wp2
          apply Rg.region_held_last (S := fun w' => Fo w #[.int .i64 k, .bool b, .int .i64 n, .string t, .slice a1 l.length c1, .slice (some ⟨sb, off, none⟩) f.length c2] k b n t (.slice va l.length vc) v w') (by kernel_rfl) HS0
          case hl => simp only [List.dropLast_cons_cons, List.dropLast_singleton]; rfl
          case ho => simp only [List.getLast?_cons_cons, List.getLast?_singleton]; rfl
          case hd => rfl
          case hg => rfl
          case hL => kernel_rfl
          case h =>
            intro hS
            simp only [List.cons_append, List.nil_append, Rg.idle]
            refine wpAnyH_take (i := 0) (v := .pointer (some ⟨w.heap.size + 1 + 1, 5, none⟩)) rfl (by kernel_rfl) (by kernel_rfl) (by kernel_rfl) (fun _ _ _ h => absurd h.1 (by simp)) (Or.inl ⟨by kernel_rfl, fun wq hS => by clear hS; go_simp⟩) hS ?_
            try simp only [Act.put, List.getElem_toArray, List.getElem_cons_zero, List.setIfInBounds_toArray, List.set_cons_zero, List.set_cons_succ]
            refine wpAnyH_take (i := 1) (v := v) rfl (by kernel_rfl) (by kernel_rfl) (by kernel_rfl) (fun _ _ _ h => absurd h.1 (by simp)) (Or.inl ⟨by kernel_rfl, fun wq hS => by have g5 := (box6 hS.v).2.2.2.2.2; clear hS; go_simp⟩) hS ?_
            try simp only [Act.put, List.getElem_toArray, List.getElem_cons_succ, List.getElem_cons_zero, List.setIfInBounds_toArray, List.set_cons_zero, List.set_cons_succ]
            refine wpAnyH_take (i := 2) (v := .pointer (some ⟨w.heap.size, 5, none⟩)) rfl (by kernel_rfl) (by kernel_rfl) (by kernel_rfl) (fun _ _ _ h => absurd h.1 (by simp)) (Or.inl ⟨by kernel_rfl, fun wq hS => by clear hS; go_simp⟩) hS ?_
            try simp only [Act.put, List.getElem_toArray, List.getElem_cons_succ, List.getElem_cons_zero, List.setIfInBounds_toArray, List.set_cons_zero, List.set_cons_succ]
            refine wpAnyH_take (i := 3) (v := .slice (some ⟨sb, off, none⟩) f.length c2) rfl (by kernel_rfl) (by kernel_rfl) (by kernel_rfl) (fun _ _ _ h => absurd h.1 (by simp)) (Or.inl ⟨by kernel_rfl, fun wq hS => by have g5 := (box6 hS.a).2.2.2.2.2; clear hS; go_simp⟩) hS ?_
            try simp only [Act.put, List.getElem_toArray, List.getElem_cons_succ, List.getElem_cons_zero, List.setIfInBounds_toArray, List.set_cons_zero, List.set_cons_succ]
            refine wpAnyH_take (i := 4) (v := .int .i64 (j : Int)) rfl (by kernel_rfl) (by kernel_rfl) (by kernel_rfl) (fun _ _ _ h => absurd h.1 (by simp)) (Or.inl ⟨by kernel_rfl, fun wq hS => by clear hS; go_simp⟩) hS ?_
            try simp only [Act.put, List.getElem_toArray, List.getElem_cons_succ, List.getElem_cons_zero, List.setIfInBounds_toArray, List.set_cons_zero, List.set_cons_succ]
            refine wpAnyH_take (i := 5) (v := .pointer (some ⟨sb, off + j * 7, none⟩)) rfl (by kernel_rfl) (by kernel_rfl) (by kernel_rfl) (fun _ _ _ h => absurd h.1 (by simp)) (Or.inl ⟨by kernel_rfl, fun wq hS => by clear hS; go_simp⟩) hS ?_
            try simp only [Act.put, List.getElem_toArray, List.getElem_cons_succ, List.getElem_cons_zero, List.setIfInBounds_toArray, List.set_cons_zero, List.set_cons_succ]
            refine wpAnyH_take (i := 6) (v := .pointer (some ⟨sb, off + j * 7, none⟩)) rfl (by kernel_rfl) (by kernel_rfl) (by kernel_rfl) (fun _ _ _ h => absurd h.1 (by simp)) (Or.inl ⟨by kernel_rfl, fun wq hS => by clear hS; go_simp⟩) hS ?_
            try simp only [Act.put, List.getElem_toArray, List.getElem_cons_succ, List.getElem_cons_zero, List.setIfInBounds_toArray, List.set_cons_zero, List.set_cons_succ]
            refine wpAnyH_take (i := 7) (v := .string nm) rfl (by kernel_rfl) (by kernel_rfl) (by kernel_rfl) (fun _ _ _ h => absurd h.1 (by simp)) (Or.inl ⟨by kernel_rfl, fun wq hS => by have g5 := (CE.out wq hS.b).1; clear hS; go_simp⟩) hS ?_
            try simp only [Act.put, List.getElem_toArray, List.getElem_cons_succ, List.getElem_cons_zero, List.setIfInBounds_toArray, List.set_cons_zero, List.set_cons_succ]
            refine wpAnyH_take (i := 8) (v := .pointer (some ⟨w.heap.size, 5, none⟩)) rfl (by kernel_rfl) (by kernel_rfl) (by kernel_rfl) (fun _ _ _ h => absurd h.1 (by simp)) (Or.inl ⟨by kernel_rfl, fun wq hS => by clear hS; go_simp⟩) hS ?_
            try simp only [Act.put, List.getElem_toArray, List.getElem_cons_succ, List.getElem_cons_zero, List.setIfInBounds_toArray, List.set_cons_zero, List.set_cons_succ]
            refine wpAnyH_take (i := 9) (v := .slice (some ⟨sb, off, none⟩) f.length c2) rfl (by kernel_rfl) (by kernel_rfl) (by kernel_rfl) (fun _ _ _ h => absurd h.1 (by simp)) (Or.inl ⟨by kernel_rfl, fun wq hS => by have g5 := (box6 hS.a).2.2.2.2.2; clear hS; go_simp⟩) hS ?_
            try simp only [Act.put, List.getElem_toArray, List.getElem_cons_succ, List.getElem_cons_zero, List.setIfInBounds_toArray, List.set_cons_zero, List.set_cons_succ]
            refine wpAnyH_take (i := 10) (v := .int .i64 (j : Int)) rfl (by kernel_rfl) (by kernel_rfl) (by kernel_rfl) (fun _ _ _ h => absurd h.1 (by simp)) (Or.inl ⟨by kernel_rfl, fun wq hS => by clear hS; go_simp⟩) hS ?_
            try simp only [Act.put, List.getElem_toArray, List.getElem_cons_succ, List.getElem_cons_zero, List.setIfInBounds_toArray, List.set_cons_zero, List.set_cons_succ]
            refine wpAnyH_take (i := 11) (v := .pointer (some ⟨sb, off + j * 7, none⟩)) rfl (by kernel_rfl) (by kernel_rfl) (by kernel_rfl) (fun _ _ _ h => absurd h.1 (by simp)) (Or.inl ⟨by kernel_rfl, fun wq hS => by clear hS; go_simp⟩) hS ?_
            try simp only [Act.put, List.getElem_toArray, List.getElem_cons_succ, List.getElem_cons_zero, List.setIfInBounds_toArray, List.set_cons_zero, List.set_cons_succ]
            refine wpAnyH_take (i := 12) (v := .pointer (some ⟨sb, off + j * 7 + 1, none⟩)) rfl (by kernel_rfl) (by kernel_rfl) (by kernel_rfl) (fun _ _ _ h => absurd h.1 (by simp)) (Or.inl ⟨by kernel_rfl, fun wq hS => by clear hS; go_simp⟩) hS ?_
            try simp only [Act.put, List.getElem_toArray, List.getElem_cons_succ, List.getElem_cons_zero, List.setIfInBounds_toArray, List.set_cons_zero, List.set_cons_succ]
            refine wpAnyH_take (i := 13) (v := .agg #[.int .i64 k', .bool b', .int .i64 n', .string t', .slice p1 l'.length q1, .slice p2 f'.length q2]) rfl (by kernel_rfl) (by kernel_rfl) (by kernel_rfl) (fun _ _ _ h => absurd h.1 (by simp)) (yieldsIf_load_mid (by kernel_rfl) 25 (.tmp 46) rfl sb (off + j * 7 + 1) rfl [.int .i64 k', .bool b', .int .i64 n', .string t', .slice p1 l'.length q1, .slice p2 f'.length q2] _ (fun wq hq => (CE.out wq hq.b).2) Tryz.underlying25 rfl sz25) hS ?_
            try simp only [Act.put, List.getElem_toArray, List.getElem_cons_succ, List.getElem_cons_zero, List.setIfInBounds_toArray, List.set_cons_zero, List.set_cons_succ]
            refine wpAnyH_ready (rs := [14]) (by kernel_rfl) (by simp) ?_
            refine AllReadyH.cons rfl (fun K' hK' => ?_) AllReadyH.nil
            go_simp
            refine hcall.mono ?_
            rintro e w2 ⟨⟨kk, bb, nn, tt, r1, z1, u1, r2, z2, u2, rfl, hlx⟩, h2⟩
            have hb2 : Below wr.heap.size wr w2 := ⟨h2.os, h2.tape, h2.output, h2.size, h2.block⟩
            refine hK'.out _ _ (hS.keep (h2.mono hms)) (fun hS => ?_)
            clear hK' K'
            try simp only [Act.put, List.getElem_toArray, List.getElem_cons_succ, List.getElem_cons_zero, List.setIfInBounds_toArray, List.set_cons_zero, List.set_cons_succ]
            refine wpAnyH_take (i := 15) (v := .agg #[.string nm, .int .i64 kk, .bool bb, .int .i64 nn, .string tt, .slice r1 z1 u1, .slice r2 z2 u2]) rfl (by kernel_rfl) (by kernel_rfl) (by kernel_rfl) (fun _ _ _ h => absurd h.1 (by simp)) (Or.inl ⟨by kernel_rfl, fun wq hS => by clear hS; go_simp⟩) hS ?_
            try simp only [Act.put, List.getElem_toArray, List.getElem_cons_succ, List.getElem_cons_zero, List.setIfInBounds_toArray, List.set_cons_zero, List.set_cons_succ]
            refine wpAnyH_ready (rs := [16]) (by kernel_rfl) (by simp) ?_
            refine AllReadyH.cons rfl (fun K' hK' => ?_) AllReadyH.nil
            go_simp
            refine hK'.out _ _ (hS.keep ((Below.refl _ _).alloc hS.s _)) (fun hS => ?_)
            clear hK' K'
            try simp only [Act.put, List.getElem_toArray, List.getElem_cons_succ, List.getElem_cons_zero, List.setIfInBounds_toArray, List.set_cons_zero, List.set_cons_succ]
            have hsz2 := hb2.size
            have hown2 := own_kept hown hb2
            have h5r := HKB.out.2
            refine wpAnyH_ready (rs := [17]) (by kernel_rfl) (by simp) ?_
            refine AllReadyH.cons rfl (fun K' hK' => ?_) AllReadyH.nil
            refine step_append_own rfl (.tmp 35) (.tmp 50) 23 rfl w5.heap.size 54 j0 _ 7 104 Tryz.underlying23 hj hj0 hj1 hj2 rfl (by decide) v j ys' rfl (hown2.alloc _) ⟨w2.heap.size, 0, none⟩ 1 1 [.string nm, .int .i64 kk, .bool bb, .int .i64 nn, .string tt, .slice r1 z1 u1, .slice r2 z2 u2] rfl rfl (cells7' (heap_alloc_new _ _)) (by simp [Value.oneCell']) (by unfold maxLen; omega) (by omega) (by simp; omega) ?_
            intro v' w3 hown' hgrow3 hloc3
            have m3 := m.keep (Below.grown ((hb2.mono hms).alloc (by omega) _) hgrow3 (by simp; omega) (fun q hq => by have := (hown.lt _ hq).1; omega))
            refine hK'.out _ _ m3 (fun hS => ?_)
            clear hK' K'
            try simp only [Act.put, List.getElem_toArray, List.getElem_cons_succ, List.getElem_cons_zero, List.setIfInBounds_toArray, List.set_cons_zero, List.set_cons_succ]
            refine wpAnyH_take (i := 18) (v := .pointer (some ⟨w.heap.size + 1 + 1, 5, none⟩)) rfl (by kernel_rfl) (by kernel_rfl) (by kernel_rfl) (fun _ _ _ h => absurd h.1 (by simp)) (Or.inl ⟨by kernel_rfl, fun wq hS => by clear hS; go_simp⟩) hS ?_
            try simp only [Act.put, List.getElem_toArray, List.getElem_cons_succ, List.getElem_cons_zero, List.setIfInBounds_toArray, List.set_cons_zero, List.set_cons_succ]
            refine wpAnyH_take (i := 19) (v := undef) rfl (by kernel_rfl) (by kernel_rfl) (by kernel_rfl) (fun _ _ _ h => absurd h.1 (by simp)) (Or.inl ⟨by kernel_rfl, fun wq hS => by clear hS; go_simp⟩) hS ?_
            try simp only [Act.put, List.getElem_toArray, List.getElem_cons_succ, List.getElem_cons_zero]
            refine wpAnyH_done (by kernel_rfl) ?_ _
            refine ⟨rfl, ?_⟩
            obtain ⟨fa, fc, rfl⟩ := own_form hown'
            have c5 := (box6 m3.v).2.2.2.2.2
            have z5 := box_fz m3.v 5
            have H4 := fo_nextF hms5 hown HLD HTK hms hb2 hlx hown' hgrow3 hloc3 m3
            have H5 : Hid _ := fo_keepB (w := w) (u := .slice fa (j + 1) fc) (Nat.le_refl _) hown h5r HKB.out.1 hb2 hgrow3
            have H6 : Hid (w5.heap.size ≤ (w3.setCell ⟨w.heap.size + 1 + 1, 5, none⟩ (.slice fa (j + 1) fc)).heap.size) := by show _ ≤ _; have := hgrow3.size; simp at this ⊢; omega
            clear hown2 hlx hgrow3 hloc3 hown' HLD HTK hS HS0 CE hcall HKB
            go_simp
            go_wp2
            go_roundw
            case rel => exact ⟨j + 1, _, _, by simp, hlt, H4.out.1, H4.out.2.1, H4.out.2.2, H5.out, H6.out⟩
            case measure => simp [numF]; omega
        · have hlt' : ¬ (j : Int) < (f.length : Int) := by omega
          obtain rfl : j = f.length := by omega
          have hld := HLD.out
          rw [List.take_of_length_le (Nat.le_refl _)] at hld
          have hsf := slAt_of_own hown
          obtain ⟨fa, fc, rfl⟩ := own_form hown
          obtain ⟨x0, x1, x2, x3, x4, x5⟩ := box6 m.v
          obtain ⟨y0, y1, y2, y3, y4, y5⟩ := box6 m.z
          have g0 := box_fz m.z 0
          have g1 := box_fz m.z 1
          have g2 := box_fz m.z 2
          have g3 := box_fz m.z 3
          have g4 := box_fz m.z 4
          have g5 := box_fz m.z 5
          have HVV : Hid (LaidV wr (fun b => w.heap.size + 3 ≤ b) (.mk k b n t l f) [.int .i64 k, .bool b, .int .i64 n, .string t, .slice va l.length vc, .slice fa f.length fc]) := by
            show LaidV _ _ _ _
            unfold LaidV
            exact ⟨_, _, zs, ys', rfl, HLS.out.1.conv (by decide) (fun b hb hl => ⟨hb, HKB.out.1 b hl (by omega)⟩), hsf.conv (by decide) (fun b hb _ => ⟨by omega, rfl⟩), HLS.out.2.conv (fun b hb hl => ⟨hb, HKB.out.1 b hl (by omega)⟩), hld.conv (fun b hb _ => ⟨hb.1, rfl⟩)⟩
          clear HLD hown hld hsf HLS HKB hjl hlt HLL HFF
          go_wp2
          refine bodyPost_ret (v := .agg #[.int .i64 k, .bool b, .int .i64 n, .string t, .slice va l.length vc, .slice fa f.length fc]) (by simp [results, Tryz.results15, go_sem, *]) rfl ⟨⟨_, _, _, _, _, _, _, _, _, _, rfl, ?_⟩, ?_⟩
          · refine HVV.out.conv (fun b hb hl => ⟨by omega, ?_⟩)
            rw [Below.heap_setCell _ _ _ _ (by simp; omega), Below.heap_setCell _ _ _ _ (by simp; omega), Below.heap_setCell _ _ _ _ (by simp; omega), Below.heap_setCell _ _ _ _ (by simp; omega), Below.heap_setCell _ _ _ _ (by simp; omega), Below.heap_setCell _ _ _ _ (by simp; omega)]
          · exact (((((hmb.setCell (p := ⟨w.heap.size + 1, 0, none⟩) (by simp) _).setCell (p := ⟨w.heap.size + 1, 1, none⟩) (by simp) _).setCell (p := ⟨w.heap.size + 1, 2, none⟩) (by simp) _).setCell (p := ⟨w.heap.size + 1, 3, none⟩) (by simp) _).setCell (p := ⟨w.heap.size + 1, 4, none⟩) (by simp) _).setCell (p := ⟨w.heap.size + 1, 5, none⟩) (by simp) _
theorem cpy_any : ∀ (m : Nat) (x : GV), x.sz ≤ m → m ≤ 2000000 → CpyAt x
  | 0, x, h, _ => by have := GV.sz_pos x; omega
  | m + 1, .mk k b n t l f, h, hm => by
    have hs : 1 + t.size + szL l + szF f ≤ m + 1 := by simpa [GV.sz] using h
    exact cpy_step k b n t l f (by omega) (fun i hi => cpy_any m _ (by have := szL_get l i hi; omega) (by omega)) (fun i hi => cpy_any m _ (by have := szF_get f i hi; omega) (by omega))
end Dc
end Go.Proofs.YtiakidomcjpdhaaGreatDoor
