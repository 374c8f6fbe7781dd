/- The closure by which the reader reads one field of an object, behind the call of value: what it does then, in whatever order. The closure by which the reader reads one field of an object, behind the call of value: its last stores, in either order. How far the plain readings of escapes and texts go, and how many characters a text has at most; nothing of the program. -/
import Derived.Test.YtiakidomcjpdhaaGreatDoorG05
import Derived.Maps.OwnSet
import Derived.Test.YtiakidomcjpdhaaGreatDoorG04
namespace Go.Proofs.YtiakidomcjpdhaaGreatDoor
open Go.RowKit

abbrev Z7 : List Value := [.string ⟨#[]⟩, .int .i64 0, .bool false, .int .i64 0, .string ⟨#[]⟩, .slice none 0 0, .slice none 0 0]
theorem info65 : (Tryz.prog.info? 54).map (fun i => (i.zero, i.size, i.bytes)) = some (some (.agg #[.string ⟨#[]⟩, .int .i64 0, .bool false, .int .i64 0, .string ⟨#[]⟩, .slice none 0 0, .slice none 0 0]), 7, 104) := by kernel_rfl
theorem cells7 {w : World} {Z : Nat} {a0 a1 a2 a3 a4 a5 a6 : Value} {ty : TypeId} (h : w.heap[Z]? = some (.cells #[a0, a1, a2, a3, a4, a5, a6] ty (0, 0))) : ∀ j u, [a0, a1, a2, a3, a4, a5, a6][j]? = some u → w.cell? ((⟨Z, 0, none⟩ : Addr).add j) = some u := by
  intro j u hj
  rw [addr_add]
  simp only [World.cell?, h]
  simpa using hj
theorem set7_list (xs rest : List Value) (n : Nat) (hx : xs.length = n * 7) (z0 z1 z2 z3 z4 z5 z6 a0 a1 a2 a3 a4 a5 a6 : Value) :
    (((((((xs ++ (z0 :: z1 :: z2 :: z3 :: z4 :: z5 :: z6 :: rest)).set (n * 7) a0).set (n * 7 + 1) a1).set (n * 7 + 2) a2).set (n * 7 + 3) a3).set (n * 7 + 4) a4).set (n * 7 + 5) a5).set (n * 7 + 6) a6 = xs ++ (a0 :: a1 :: a2 :: a3 :: a4 :: a5 :: a6 :: rest) := by
  simp [hx]
/-- Seven cells of a row that are set one by one. -/
theorem set7_take {cur : Array Value} {xs : List Value} {n : Nat} (hx : xs.length = n * 7) {z0 z1 z2 z3 z4 z5 z6 : Value} (a0 a1 a2 a3 a4 a5 a6 : Value) (h : cur.toList.take ((n + 1) * 7) = xs ++ [z0, z1, z2, z3, z4, z5, z6]) :
    (((((((cur.setIfInBounds (n * 7) a0).setIfInBounds (n * 7 + 1) a1).setIfInBounds (n * 7 + 2) a2).setIfInBounds (n * 7 + 3) a3).setIfInBounds (n * 7 + 4) a4).setIfInBounds (n * 7 + 5) a5).setIfInBounds (n * 7 + 6) a6).toList.take ((n + 1) * 7) = xs ++ [a0, a1, a2, a3, a4, a5, a6] := by
  obtain ⟨rest, hr⟩ := split_take h
  simp only [Array.toList_setIfInBounds, hr]
  have e := set7_list xs rest n hx z0 z1 z2 z3 z4 z5 z6 a0 a1 a2 a3 a4 a5 a6
  simp only [List.cons_append, List.nil_append] at e ⊢
  rw [e, show xs ++ a0 :: a1 :: a2 :: a3 :: a4 :: a5 :: a6 :: rest = (xs ++ [a0, a1, a2, a3, a4, a5, a6]) ++ rest by simp, List.take_left' (by simp [hx]; omega)]

/-- Where the blocks of object lie. -/
structure Pos (W : World) (rb r1 mp mb vb B : Nat) : Prop where
  p0 : 6 ≤ rb
  p1 : rb + 2 < W.heap.size
  p2 : r1 + 2 = W.heap.size
  p3 : vb = W.heap.size
  p4 : mb = W.heap.size + 1
  p5 : mp = W.heap.size + 2
  p6 : B = W.heap.size + 3
/-- The map of the names so far. -/
def NameMap (w : World) (mb m : Nat) (l : List (ByteArray × GV)) : Prop :=
  ∃ D : DataW Unit, w.ownsMap Tryz.prog 9 (plainElem Tryz.prog 3) mb m D ∧ ∀ nm : ByteArray, Maps.has D (.string nm.data.toList) = l.any (fun y => decide (y.1 = nm))
/-- What the closure keeps, but for the reader's place. -/
structure OB (W : World) (rb r1 mp mb vb B : Nat) (l names : List (ByteArray × GV)) (n m : Nat) (sa : Option Addr) (sc : Nat) (xs : List Value) (w : World) : Prop where
  tb : Tabs w
  fr : Fr (Own rb) W w
  rv : w.heap[r1]? = some (.cells #[.pointer (some ⟨rb, 0, none⟩)] 75 (0, 0))
  mv : w.heap[mp]? = some (.cells #[.map (some mb)] 140 (0, 0))
  hb : B ≤ w.heap.size
  om : NameMap w mb m names
  hvv : w.heap[vb]? = some (.cells #[.int .i64 5, .bool false, .int .i64 0, .string ⟨#[]⟩, .slice none 0 0, .slice sa n sc] 25 (0, 0))
  hown : w.ownsRow B 54 7 (.slice sa n sc) n xs
  hlaid : LaidF w (fun b => B ≤ b ∧ (Value.slice sa n sc).ownBlock ≠ some b) l xs
theorem NameMap.kept {w w' : World} {mb m : Nat} {l : List (ByteArray × GV)} (h : NameMap w mb m l) (hk : w'.heap[mb]? = w.heap[mb]?) : NameMap w' mb m l := by
  obtain ⟨D, ⟨es, clock, h1, h2⟩, h3⟩ := h
  exact ⟨D, ⟨es, clock, hk.trans h1, h2⟩, h3⟩
theorem NameMap.lt {w : World} {mb m : Nat} {l : List (ByteArray × GV)} (h : NameMap w mb m l) : mb < w.heap.size := by
  obtain ⟨D, h1, _⟩ := h
  exact h1.lt
section
variable {W : World} {rb r1 mp mb vb B : Nat} {l names : List (ByteArray × GV)} {n m : Nat} {sa : Option Addr} {sc : Nat} {xs : List Value} {w w' : World}
theorem OB.conv (P : Pos W rb r1 mp mb vb B) {S : Nat → Prop} (h : OB W rb r1 mp mb vb B l names n m sa sc xs w) (f : Fr S w w') (hs : ∀ k, S k → k = rb ∨ w.heap.size ≤ k) : OB W rb r1 mp mb vb B l names n m sa sc xs w' := by
  obtain ⟨p0, p1, p2, p3, p4, p5, p6⟩ := P
  have key : ∀ k, k < w.heap.size → k ≠ rb → w'.heap[k]? = w.heap[k]? := fun k hk hne => f.block k hk (fun e => by rcases hs k e with h | h <;> omega)
  have hsz := h.hb
  have l0 := h.tb.lt
  refine ⟨h.tb.of (key 1 (by omega) (by omega)) (key 2 (by omega) (by omega)), ?_, (key _ (lt_of_block h.rv) (by omega)).trans h.rv, (key _ (lt_of_block h.mv) (by omega)).trans h.mv, Nat.le_trans h.hb f.size, h.om.kept (key _ h.om.lt (by omega)), (key _ (lt_of_block h.hvv) (by omega)).trans h.hvv, ?_, ?_⟩
  · exact h.fr.trans (f.mono (fun k hk e => by rcases hs k e with h | h; exact h; omega))
  · exact own_fr (S := fun k => k = rb) h.hown (f.mono (fun k hk e => by rcases hs k e with h | h; exact h; omega)) (fun k hk e => by omega)
  · exact h.hlaid.conv (fun b hb hl => ⟨hb, key b hl (by omega)⟩)
theorem OB.keep (P : Pos W rb r1 mp mb vb B) (h : OB W rb r1 mp mb vb B l names n m sa sc xs w) (f : Fr (Own rb) w w') : OB W rb r1 mp mb vb B l names n m sa sc xs w' := h.conv P f (fun _k e => .inl e)
theorem OB.alloc (P : Pos W rb r1 mp mb vb B) (h : OB W rb r1 mp mb vb B l names n m sa sc xs w) (o : Obj) : OB W rb r1 mp mb vb B l names n m sa sc xs (w.alloc o) := h.conv P (Fr.alloc (fun _ => False) w o) (fun _k e => e.elim)
theorem OB.put (P : Pos W rb r1 mp mb vb B) {names' : List (ByteArray × GV)} {m' : Nat} (h : OB W rb r1 mp mb vb B l names n m sa sc xs w) (g : w.grownBy w' (some mb)) (ho : NameMap w' mb m' names') : OB W rb r1 mp mb vb B l names' n m' sa sc xs w' := by
  obtain ⟨p0, p1, p2, p3, p4, p5, p6⟩ := P
  have key : ∀ k, k < w.heap.size → k ≠ mb → w'.heap[k]? = w.heap[k]? := fun k hk hne => g.block k hk (fun e => hne (by simpa using e))
  have hsz := h.hb
  have l0 := h.tb.lt
  have f : Fr (fun k => k = mb) w w' := Fr.grown g (fun k e _ => by simpa using e.symm)
  refine ⟨h.tb.of (key 1 (by omega) (by omega)) (key 2 (by omega) (by omega)), h.fr.new f (fun k e => by omega), (key _ (lt_of_block h.rv) (by omega)).trans h.rv, (key _ (lt_of_block h.mv) (by omega)).trans h.mv, Nat.le_trans h.hb f.size, ho, (key _ (lt_of_block h.hvv) (by omega)).trans h.hvv, ?_, ?_⟩
  · exact own_fr h.hown f (fun k hk e => by omega)
  · exact h.hlaid.conv (fun b hb hl => ⟨hb, key b hl (by omega)⟩)
end
/-- What the closure keeps: the fields so far, in v's variable, and their names. -/
structure ObjIs (W : World) (rb r1 mp mb vb B : Nat) (s : ByteArray) (bad : Int) (dep : Nat) (l : List (ByteArray × GV)) (p : Nat) (w : World) : Prop where
  rd : RdAt w rb s p bad dep
  len : l.length ≤ p
  ob : ∃ sa sc xs, OB W rb r1 mp mb vb B l l l.length l.length sa sc xs w
/-- What the closure keeps, behind the field's stores. -/
theorem OB.snoc {W : World} {rb r1 mp mb vb B : Nat} (P : Pos W rb r1 mp mb vb B) {l names : List (ByteArray × GV)} {n m : Nat} {sa : Option Addr} {sc : Nat} {xs cs : List Value} {V w2 w3 : World} (_hn : l.length = n) {x : ByteArray × GV}
    (h : OB W rb r1 mp mb vb B l names n m sa sc xs V) (hcs : cs.length = 7) (hx : LaidP V (fun b => B ≤ b ∧ (Value.slice sa n sc).ownBlock ≠ some b) x cs)
    (hgrow : V.grownBy w2 (Value.slice sa n sc).ownBlock) {g cap : Nat} {cur : Array Value}
    (hloc : some g = (Value.slice sa n sc).ownBlock ∨ some g = some V.heap.size) (hgB : B ≤ g) (hnc : n + 1 ≤ cap) (hcm : cap ≤ maxLen) (hcz : cur.size = cap * 7) (htk : cur.toList.take ((n + 1) * 7) = xs ++ cs)
    (f3 : Fr (fun k => k = g ∨ k = vb) w2 w3) (hg3 : w3.heap[g]? = some (.cells cur 54 (0, 0)))
    (hv3 : w3.heap[vb]? = some (.cells #[.int .i64 5, .bool false, .int .i64 0, .string ⟨#[]⟩, .slice none 0 0, .slice (some ⟨g, 0, none⟩) (n + 1) cap] 25 (0, 0))) :
    OB W rb r1 mp mb vb B (l ++ [x]) names (n + 1) m (some ⟨g, 0, none⟩) cap (xs ++ cs) w3 := by
  obtain ⟨p0, p1, p2, p3, p4, p5, p6⟩ := P
  have hrow : ∀ k, (Value.slice sa n sc).ownBlock = some k → B ≤ k := fun k hk => (h.hown.lt _ hk).1
  have f2 : Fr (fun k => B ≤ k) V w2 := Fr.grown hgrow (fun k hk _ => hrow k hk)
  have f23 : Fr (fun k => B ≤ k ∨ k = vb) V w3 := (f2.mono (fun k _ h => .inl h)).trans (f3.mono (fun k _ h => h.elim (fun e => .inl (by omega)) .inr))
  have hkeep : ∀ b, (B ≤ b ∧ (Value.slice sa n sc).ownBlock ≠ some b) → b < V.heap.size → (B ≤ b ∧ (Value.slice (some ⟨g, 0, none⟩) (n + 1) cap).ownBlock ≠ some b) ∧ w3.heap[b]? = V.heap[b]? := by
    intro b hbb hlt
    have hne : g ≠ b := by
      rintro rfl
      rcases hloc with h | h
      · exact hbb.2 h.symm
      · have : g = V.heap.size := by simpa using h
        omega
    refine ⟨⟨hbb.1, by simpa [Value.ownBlock] using hne⟩, ?_⟩
    rw [f3.block b (Nat.lt_of_lt_of_le hlt hgrow.size) (by omega)]
    exact hgrow.block b hlt (fun e => hbb.2 e.symm)
  have key : ∀ k, k < V.heap.size → k < B → k ≠ vb → w3.heap[k]? = V.heap[k]? := fun k hk hB hne => f23.block k hk (by omega)
  have l0 := h.tb.lt
  refine ⟨h.tb.of (key 1 (by omega) (by omega) (by omega)) (key 2 (by omega) (by omega) (by omega)), h.fr.new f23 (fun k h => by omega), (key _ (lt_of_block h.rv) (by omega) (by omega)).trans h.rv, (key _ (lt_of_block h.mv) (by omega) (by omega)).trans h.mv, Nat.le_trans h.hb f23.size, h.om.kept (key _ h.om.lt (by omega) (by omega)), hv3, ?_, ?_⟩
  · exact ⟨by rw [List.length_append, h.hown.1, hcs]; omega, .inr ⟨g, cap, cur, rfl, hgB, hg3, hnc, hcm, hcz, htk⟩⟩
  · exact LaidF.snoc (hx.conv hkeep) (h.hlaid.conv hkeep)

/-- The operations of the closure's last statement. -/
noncomputable def lastOps : Code → Array Oper
  | .seq _ y => lastOps y
  | .region _ ops _ => ops
  | _ => #[]
end Go.Proofs.YtiakidomcjpdhaaGreatDoor

namespace Go.Proofs.YtiakidomcjpdhaaGreatDoor
open Go.RowKit

/-- The operations of the closure's last statement. -/
noncomputable def ops79 : Array Oper := match Tryz.f134.body with | some c => lastOps c | none => #[]

set_option maxRecDepth 20000 in
set_option maxHeartbeats 8000000 in
theorem tail79 (W : World) (rb r1 mp mb vb B : Nat) (P : Pos W rb r1 mp mb vb B)
    (l names : List (ByteArray × GV)) (n m : Nat) (hn : l.length = n) (hnm : n ≤ 65536) (nm : ByteArray) (x : GV) (V : World)
    (sa : Option Addr) (sc : Nat) (xs : List Value) (h : OB W rb r1 mp mb vb B l names n m sa sc xs V)
    (k : Int) (b : Bool) (m0 : Int) (t : ByteArray) (a1 : Option Addr) (l1 c1 : Nat) (a2 : Option Addr) (l2 c2 : Nat)
    (hx : LaidV V (fun b => B ≤ b ∧ (Value.slice sa n sc).ownBlock ≠ some b) x [.int .i64 k, .bool b, .int .i64 m0, .string t, .slice a1 l1 c1, .slice a2 l2 c2])
    (Z : Nat) (hZ : V.heap[Z]? = some (.cells #[.string ⟨#[]⟩, .int .i64 0, .bool false, .int .i64 0, .string ⟨#[]⟩, .slice none 0 0, .slice none 0 0] 54 (0, 0)))
    (R : Ending → World → Prop) (hR : ∀ sa' sc' xs' w', OB W rb r1 mp mb vb B (l ++ [(nm, x)]) names (n + 1) m sa' sc' xs' w' → (∀ j, j < W.heap.size → w'.heap[j]? = V.heap[j]?) → R (.returned (.tuple #[])) w')
    (u3 u5 u6 u7 u8 u9 u10 u11 u12 u13 u14 u15 u16 u17 u18 u19 u20 u21 u22 u23 u24 u25 u26 u27 u28 u29 u30 u31 : Value) :
    wpAny Tryz.prog .any ops79 (bodyPost Tryz.prog Tryz.f134 R) 5 #[true, true, true, true, true, true, true, true, false, false, false, false, false]
      { tmps := #[.pointer (some ⟨r1, 0, none⟩), .pointer (some ⟨mp, 0, none⟩), .pointer (some ⟨vb, 0, none⟩), u3, .string nm, u5, u6, u7, u8, u9, u10, u11, u12, u13, u14, u15, u16, u17, u18, u19, u20, u21, u22, u23, u24, u25, u26, u27, u28, u29, u30, u31, .pointer (some ⟨vb, 5, none⟩), .slice sa n sc, .string nm, .pointer (some ⟨rb, 0, none⟩),
          .agg #[.int .i64 k, .bool b, .int .i64 m0, .string t, .slice a1 l1 c1, .slice a2 l2 c2], .agg #[.string nm, .int .i64 k, .bool b, .int .i64 m0, .string t, .slice a1 l1 c1, .slice a2 l2 c2], .int .i64 (n : Int), .slice (some ⟨Z, 0, none⟩) 1 1, undef, undef, undef], defers := [] } V := by
  obtain ⟨i0, hi, hz0, hz1, hz2⟩ := info_parts info65
  have hP := P
  obtain ⟨p0, p1, p2, p3, p4, p5, p6⟩ := P
  have hown := h.hown
  have hvv := h.hvv
  dsimp only [ops79, lastOps, Tryz.f134]
  refine wpAny_ready (rs := [8]) (by kernel_rfl) (by simp) ?_
  refine AllReady.cons rfl (fun K hK => ?_) AllReady.nil
  refine step_append_own rfl (.tmp 33) (.tmp 39) 23 rfl B 54 i0 _ 7 104 Tryz.underlying23 hi hz0 hz1 hz2 rfl (by decide) (.slice sa n sc) n xs rfl hown ⟨Z, 0, none⟩ 1 1 Z7 rfl rfl (cells7 hZ) (by simp [Value.oneCell']) (by unfold maxLen; omega) (by omega) h.hb ?_
  intro v' w2 hown' hgrow hloc
  rcases hown'.2 with ⟨_, h0⟩ | ⟨g, cap, cur, rfl, hgB, hg, hnc, hcm, hcz, htk⟩
  · omega
  refine hK _ _ ?_
  clear hK K
  have hcells : ∀ i, i < 7 → w2.cell? ⟨g, n * 7 + i, none⟩ = Z7[i]? := by
    intro i hi
    simp only [World.cell?, hg]
    have e1 : (cur.toList.take ((n + 1) * 7))[n * 7 + i]? = (xs ++ Z7)[n * 7 + i]? := by rw [htk]
    rw [List.getElem?_take_of_lt (by omega), List.getElem?_append_right (by rw [hown.1]; omega), hown.1, show n * 7 + i - n * 7 = i by omega] at e1
    simpa using e1
  have y0 := hcells 0 (by decide)
  have y1 := hcells 1 (by decide)
  have y2 := hcells 2 (by decide)
  have y3 := hcells 3 (by decide)
  have y4 := hcells 4 (by decide)
  have y5 := hcells 5 (by decide)
  have y6 := hcells 6 (by decide)
  have hfz : ∀ j, w2.frozen? ⟨g, j, none⟩ = false := box_fz hg
  have z0 := hfz (n * 7 + 0)
  have z1 := hfz (n * 7 + 1)
  have z2 := hfz (n * 7 + 2)
  have z3 := hfz (n * 7 + 3)
  have z4 := hfz (n * 7 + 4)
  have z5 := hfz (n * 7 + 5)
  have z6 := hfz (n * 7 + 6)
  simp only [Z7, List.getElem?_cons_zero, List.getElem?_cons_succ, Nat.add_zero] at y0 y1 y2 y3 y4 y5 y6 z0
  have hvv2 : w2.heap[vb]? = some (.cells #[.int .i64 5, .bool false, .int .i64 0, .string ⟨#[]⟩, .slice none 0 0, .slice sa n sc] 25 (0, 0)) := by
    rw [hgrow.block vb (lt_of_block hvv) (fun e => by have := (hown.lt _ e.symm).1; omega)]
    exact hvv
  have cv := (box6 hvv2).2.2.2.2.2
  have zv := box_fz hvv2 5
  have hgv : ¬ g = vb := by omega
  have hgv' : ¬ vb = g := by omega
  have hpx : LaidP V (fun b => B ≤ b ∧ (Value.slice sa n sc).ownBlock ≠ some b) (nm, x) [.string nm, .int .i64 k, .bool b, .int .i64 m0, .string t, .slice a1 l1 c1, .slice a2 l2 c2] := by unfold LaidP; exact ⟨_, rfl, hx⟩
  have fin : ∀ w3 cur', Fr (fun k => k = g ∨ k = vb) w2 w3 → w3.heap[g]? = some (.cells cur' 54 (0, 0)) → w3.heap[vb]? = some (.cells #[.int .i64 5, .bool false, .int .i64 0, .string ⟨#[]⟩, .slice none 0 0, .slice (some ⟨g, 0, none⟩) (n + 1) cap] 25 (0, 0)) → cur'.size = cap * 7 → cur'.toList.take ((n + 1) * 7) = xs ++ [.string nm, .int .i64 k, .bool b, .int .i64 m0, .string t, .slice a1 l1 c1, .slice a2 l2 c2] → R (.returned (.tuple #[])) w3 := by
    intro w3 cur' f3 hg3 hv3 hcz' htk'
    refine hR _ _ _ _ (OB.snoc hP hn h rfl hpx hgrow (by simpa [Value.ownBlock] using hloc) hgB hnc hcm hcz' htk' f3 hg3 hv3) (fun j hj => ?_)
    have hsz := h.hb
    rw [f3.block j (by have := hgrow.size; omega) (by omega)]
    exact hgrow.block j (by omega) (fun e => by have := (hown.lt _ e.symm).1; omega)
  clear h hR hx hpx hP p0 p1 p2 p3 p4 p5 p6
  try simp only [Act.put, List.setIfInBounds_toArray, List.set_cons_zero, List.set_cons_succ]
  refine wpAny_take (i := 9) (v := .pointer (some ⟨g, n * 7, none⟩)) rfl (by kernel_rfl) (by kernel_rfl) (by kernel_rfl) (fun _ _ _ h => h) (Or.inl ⟨by rfl, fun w => by go_simp; intro h; omega⟩) ?_
  try simp only [Act.put, List.setIfInBounds_toArray, List.set_cons_zero, List.set_cons_succ]
  refine wpAny_take (i := 11) (v := .pointer (some ⟨vb, 5, none⟩)) rfl (by kernel_rfl) (by kernel_rfl) (by kernel_rfl) (fun _ _ _ h => h) (Or.inl ⟨by rfl, fun w => by go_simp⟩) ?_
  try simp only [Act.put, List.setIfInBounds_toArray, List.set_cons_zero, List.set_cons_succ]
  refine wpAny_ready (rs := [10, 12]) (by kernel_rfl) (by simp) ?_
  refine AllReady.cons rfl (fun K hK => ?_) (AllReady.cons rfl (fun K hK => ?_) AllReady.nil)
  · go_simp
    refine hK _ _ ?_
    clear hK K
    refine wpAny_ready (rs := [12]) (by kernel_rfl) (by simp) ?_
    refine AllReady.cons rfl (fun K hK => ?_) AllReady.nil
    go_simp
    refine hK _ _ ?_
    clear hK K
    refine wpAny_done (by kernel_rfl) ?_ _
    refine bodyPost_normal0 ?_
    have g1 := heap_set (heap_set (heap_set (heap_set (heap_set (heap_set (heap_set (hg) (n * 7) (.string nm)) (n * 7 + 1) (.int .i64 k)) (n * 7 + 2) (.bool b)) (n * 7 + 3) (.int .i64 m0)) (n * 7 + 4) (.string t)) (n * 7 + 5) (.slice a1 l1 c1)) (n * 7 + 6) (.slice a2 l2 c2)
    have v1 : (((((((w2.setCell ⟨g, n * 7, none⟩ (.string nm)).setCell ⟨g, n * 7 + 1, none⟩ (.int .i64 k)).setCell ⟨g, n * 7 + 2, none⟩ (.bool b)).setCell ⟨g, n * 7 + 3, none⟩ (.int .i64 m0)).setCell ⟨g, n * 7 + 4, none⟩ (.string t)).setCell ⟨g, n * 7 + 5, none⟩ (.slice a1 l1 c1)).setCell ⟨g, n * 7 + 6, none⟩ (.slice a2 l2 c2)).heap[vb]? = some (.cells #[.int .i64 5, .bool false, .int .i64 0, .string ⟨#[]⟩, .slice none 0 0, .slice sa n sc] 25 (0, 0)) := by
      rw [Below.heap_setCell _ _ _ _ hgv', Below.heap_setCell _ _ _ _ hgv', Below.heap_setCell _ _ _ _ hgv', Below.heap_setCell _ _ _ _ hgv', Below.heap_setCell _ _ _ _ hgv', Below.heap_setCell _ _ _ _ hgv', Below.heap_setCell _ _ _ _ hgv']
      exact hvv2
    refine fin _ _ ((((((((Fr.setCell _ _ _ (.inl rfl)).trans (Fr.setCell _ _ _ (.inl rfl))).trans (Fr.setCell _ _ _ (.inl rfl))).trans (Fr.setCell _ _ _ (.inl rfl))).trans (Fr.setCell _ _ _ (.inl rfl))).trans (Fr.setCell _ _ _ (.inl rfl))).trans (Fr.setCell _ _ _ (.inl rfl))).trans (Fr.setCell _ _ _ (.inr rfl))) ?_ (heap_set v1 5 _) (by simpa using hcz) (set7_take hown.1 _ _ _ _ _ _ _ htk)
    rw [Below.heap_setCell _ _ _ _ hgv]
    exact g1
  · go_simp
    refine hK _ _ ?_
    clear hK K
    refine wpAny_ready (rs := [10]) (by kernel_rfl) (by simp) ?_
    refine AllReady.cons rfl (fun K hK => ?_) AllReady.nil
    go_simp
    refine hK _ _ ?_
    clear hK K
    refine wpAny_done (by kernel_rfl) ?_ _
    refine bodyPost_normal0 ?_
    have g0 : (w2.setCell ⟨vb, 5, none⟩ (.slice (some ⟨g, 0, none⟩) (n + 1) cap)).heap[g]? = some (.cells cur 54 (0, 0)) := by
      rw [Below.heap_setCell _ _ _ _ hgv]
      exact hg
    refine fin _ _ ((Fr.setCell _ _ _ (.inr rfl)).trans (((((((Fr.setCell _ _ _ (.inl rfl)).trans (Fr.setCell _ _ _ (.inl rfl))).trans (Fr.setCell _ _ _ (.inl rfl))).trans (Fr.setCell _ _ _ (.inl rfl))).trans (Fr.setCell _ _ _ (.inl rfl))).trans (Fr.setCell _ _ _ (.inl rfl))).trans (Fr.setCell _ _ _ (.inl rfl)))) (heap_set (heap_set (heap_set (heap_set (heap_set (heap_set (heap_set (g0) (n * 7) (.string nm)) (n * 7 + 1) (.int .i64 k)) (n * 7 + 2) (.bool b)) (n * 7 + 3) (.int .i64 m0)) (n * 7 + 4) (.string t)) (n * 7 + 5) (.slice a1 l1 c1)) (n * 7 + 6) (.slice a2 l2 c2)) ?_ (by simpa using hcz) (set7_take hown.1 _ _ _ _ _ _ _ htk)
    rw [Below.heap_setCell _ _ _ _ hgv', Below.heap_setCell _ _ _ _ hgv', Below.heap_setCell _ _ _ _ hgv', Below.heap_setCell _ _ _ _ hgv', Below.heap_setCell _ _ _ _ hgv', Below.heap_setCell _ _ _ _ hgv', Below.heap_setCell _ _ _ _ hgv']
    exact heap_set hvv2 5 _
end Go.Proofs.YtiakidomcjpdhaaGreatDoor

namespace Go.Proofs.YtiakidomcjpdhaaGreatDoor

theorem hexF_ok (s : ByteArray) (bad : Int) : ∀ (k n p m q : Nat), hexF s bad k n p = .ok (m, q) → p ≤ s.size → p ≤ q ∧ q ≤ s.size
  | 0, n, p, m, q, h, hp => by
    unfold hexF at h
    injection h with h
    injection h with _ h2
    omega
  | k + 1, n, p, m, q, h, hp => by
    unfold hexF at h
    cases hc : chS s bad p with
    | error x => rw [hc] at h; cases h
    | ok x =>
      obtain ⟨c, r⟩ := x
      rw [hc] at h
      have h1 := chS_ok hc hp
      simp only at h
      split at h
      · cases h
      · have h2 := hexF_ok s bad k _ _ _ _ h h1.2.2
        omega
theorem numberedS_ok {s : ByteArray} {bad : Int} {slash p m q : Nat} (h : numberedS s bad slash p = .ok (m, q)) (hp : p ≤ s.size) : p ≤ q ∧ q ≤ s.size := by
  unfold numberedS at h
  cases hc : hexF s bad 4 0 p with
  | error x => rw [hc] at h; cases h
  | ok x =>
    obtain ⟨n, r⟩ := x
    rw [hc] at h
    have h1 := hexF_ok s bad _ _ _ _ _ hc hp
    simp only at h
    split at h
    · injection h with h
      injection h with _ h2
      omega
    · split at h
      · rename_i h3
        have h4 := aheadS_room s r (by omega)
        injection h with h
        injection h with _ h2
        omega
      · cases h
theorem escS_ok {s : ByteArray} {bad : Int} {slash p m q : Nat} (h : escS s bad slash p = .ok (m, q)) (hp : p ≤ s.size) : p < q ∧ q ≤ s.size := by
  unfold escS at h
  cases hc : chS s bad p with
  | error x => rw [hc] at h; cases h
  | ok x =>
    obtain ⟨c, r⟩ := x
    rw [hc] at h
    have h1 := chS_ok hc hp
    simp only [escC] at h
    repeat' split at h
    all_goals first
      | (injection h with h; injection h with _ h2; omega)
      | (cases h; done)
      | (have h2 := numberedS_ok h h1.2.2; omega)
theorem quF_ok (s : ByteArray) (bad : Int) : ∀ (f : Nat) (acc : List Nat) (p : Nat) (cs : List Nat) (q : Nat), quF s bad f acc p = .ok (cs, q) → p ≤ s.size → p < q ∧ q ≤ s.size ∧ cs.length + p ≤ acc.length + q
  | 0, acc, p, cs, q, h, hp => by unfold quF at h; cases h
  | f + 1, acc, p, cs, q, h, hp => by
    unfold quF at h
    cases hc : chS s bad p with
    | error x => rw [hc] at h; cases h
    | ok x =>
      obtain ⟨c, r⟩ := x
      rw [hc] at h
      have h1 := chS_ok hc hp
      simp only at h
      split at h
      · injection h with h
        injection h with h2 h3
        subst h2
        omega
      · split at h
        · cases he : escS s bad p r with
          | error x => rw [he] at h; cases h
          | ok x =>
            obtain ⟨d, r2⟩ := x
            rw [he] at h
            have h2 := escS_ok he h1.2.2
            have h3 := quF_ok s bad f _ _ _ _ h h2.2
            simp at h3
            omega
        · split at h
          · cases h
          · have h3 := quF_ok s bad f _ _ _ _ h h1.2.2
            simp at h3
            omega
theorem quotedS_ok {s : ByteArray} {bad : Int} {p : Nat} {cs : List Nat} {q : Nat} (h : quotedS s bad p = .ok (cs, q)) (_hp : p ≤ s.size) : p < q ∧ q ≤ s.size ∧ cs.length ≤ q := by
  unfold quotedS at h
  split at h
  · rename_i h0
    have hl := lt_of_nx (s := s) (p := p) (by omega)
    have h1 := quF_ok s bad _ _ _ _ _ h hl
    simp at h1
    omega
  · cases h
end Go.Proofs.YtiakidomcjpdhaaGreatDoor
