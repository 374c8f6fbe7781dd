/- What list of the reader does: a contract, by walking its text. The closure by which the reader reads one field of an object, behind the call of value: what it does then, in whatever order. The closure by which the reader reads one field of an object, behind the call of value: its last stores, in either order. How far the plain readings of escapes and texts go, and how many characters a text has at most; nothing of the program. The closure by which the reader reads one field of an object: a contract, by walking its text in every order that Go allows. -/
import Derived.Test.YtiakidomcjpdhaaGreatDoorGGvb
import Derived.Test.YtiakidomcjpdhaaGreatDoorGQu
import Derived.Maps.OwnSet
namespace Go.Proofs.YtiakidomcjpdhaaGreatDoor
open Go.RowKit

theorem IL.reads {W : World} {rb r1 vb B : Nat} {s : ByteArray} {bad : Int} {dep : Nat} {val : Nat → Except (Nat × Nat) (GV × Nat)} (hv : ValueAt rb s bad dep val)
    (h1 : rb < B) (h2 : r1 < B) (h3 : vb < B) (h4 : rb ≠ vb) (h5 : rb ≠ r1) (h6 : vb ≠ r1) (h7 : 6 ≤ rb) (h8 : 6 ≤ vb) (hWv : W.heap.size ≤ vb) (hWB : W.heap.size ≤ B) (hs : s.size ≤ 65536) :
    Reads 133 #[.pointer (some ⟨vb, 0, none⟩), .pointer (some ⟨r1, 0, none⟩)] (oneL val) (IL W rb r1 vb B s bad dep) (Fr (Own rb) W) rb s bad dep where
  call := fun l p w h hp => list1_any W rb r1 vb B s bad dep val hv h1 h2 h3 h4 h5 h6 h7 h8 hWv hWB hs l p w h hp
  rd := fun _ _ _ h => h.rd
  keep := fun l p q w w' h rd f hpq => by
    obtain ⟨_, tb, fr, rv, len, hb, sa, sc, xs, hvv, hown, hlaid⟩ := h
    refine ⟨rd, tb.fr f (by show ¬ _ = _; omega) (by show ¬ _ = _; omega), fr.trans f, (f.block _ (lt_of_block rv) (by show ¬ _ = _; omega)).trans rv, by omega, Nat.le_trans hb f.size, sa, sc, xs, (f.block _ (lt_of_block hvv) (by show ¬ _ = _; omega)).trans hvv, own_fr hown f (fun k hk e => by have : k = rb := e; omega), ?_⟩
    exact hlaid.conv (fun b hb hl => ⟨hb, f.block b hl (by show ¬ _ = _; omega)⟩)
  out := fun _ _ _ _ h f => h.fr.trans f

/-- What is asked of list and of object within so many brackets. -/
def BracketAt (K rb : Nat) (s : ByteArray) (bad : Int) (dep : Nat) (val : Nat → Except (Nat × Nat) (GV × Nat)) : Prop :=
  ∀ w p, RdAt w rb s p bad dep → Tabs w → p < s.size → Calls Tryz.prog K #[.pointer (some ⟨rb, 0, none⟩)] w (Out (val p)
    (fun x e w' => VOut (fun b => w.heap.size ≤ b) x.1 e w' ∧ RdAt w' rb s x.2 bad dep ∧ p < x.2 ∧ x.2 ≤ s.size ∧ Fr (Own rb) w w') (Fr (Own rb) w))

abbrev ZV : Obj := .cells #[.int .i64 0, .bool false, .int .i64 0, .string ⟨#[]⟩, .slice none 0 0, .slice none 0 0] 25
abbrev RV (rb : Nat) : Obj := .cells #[.pointer (some ⟨rb, 0, none⟩)] 75

theorem list_deep (rb : Nat) (s : ByteArray) (bad : Int) : BracketAt 102 rb s bad 32 (fun p => .error (p, 4)) := by
  intro w p hr hT hp
  have hlt := hr.lt
  go_enter Tryz.func102, Tryz.ntmps102
  go_wp2_with (go_at_call 132; refine (deep_any _ _ _ _ _ _ _ (((hr.alloc _).alloc _).alloc _)).mono ?_; rintro e w4 ⟨⟨bk, rfl, hbk⟩, f4⟩)
  exact panics0 (Out.no (q := p) (c := 4) rfl ⟨⟨_, rfl, hbk⟩, (((Fr.alloc _ _ _).allocNew _).allocNew _).trans f4⟩)

set_option maxRecDepth 20000 in
set_option maxHeartbeats 8000000 in
theorem list_any (rb : Nat) (s : ByteArray) (bad : Int) (dep : Nat) (val : Nat → Except (Nat × Nat) (GV × Nat)) (hv : ValueAt rb s bad (dep + 1) val) (hd : dep < 32) (hrb : 6 ≤ rb) (hs : s.size ≤ 65536) : BracketAt 102 rb s bad dep (listS s val) := by
  intro w p hr hT hp
  have hlt := hr.lt
  obtain ⟨W2, hW2⟩ : ∃ W2, W2 = (w.alloc (RV rb)).alloc ZV := ⟨_, rfl⟩
  have hsz2 : W2.heap.size = w.heap.size + 2 := by rw [hW2]; simp
  have f2 : Fr (Own rb) w W2 := by rw [hW2]; exact (Fr.alloc _ _ _).allocNew _
  have r2 : RdAt W2 rb s p bad dep := by rw [hW2]; exact (hr.alloc _).alloc _
  have hT2 : Tabs W2 := by rw [hW2]; exact (hT.alloc _).alloc _
  have b0 : W2.heap[w.heap.size]? = some (.cells #[.pointer (some ⟨rb, 0, none⟩)] 75 (0, 0)) := by
    rw [hW2, Below.heap_alloc _ _ _ (by simp)]
    exact heap_alloc_new _ _
  have b1 : W2.heap[w.heap.size + 1]? = some (.cells #[.int .i64 0, .bool false, .int .i64 0, .string ⟨#[]⟩, .slice none 0 0, .slice none 0 0] 25 (0, 0)) := by
    rw [hW2]
    exact heap_new1 _ _ _
  have R := IL.reads (W := W2) (rb := rb) (r1 := w.heap.size) (vb := w.heap.size + 2) (B := w.heap.size + 3) hv (by omega) (by omega) (by omega) (by omega) (by omega) (by omega) hrb (by omega) (by omega) (by omega) hs
  obtain ⟨o4, ho4⟩ : ∃ o4 : Obj, o4 = .cells #[.int .i64 4, .bool false, .int .i64 0, .string ⟨#[]⟩, .slice none 0 0, .slice none 0 0] 25 := ⟨_, rfl⟩
  have b2 : (W2.alloc o4).heap[w.heap.size + 2]? = some (.cells #[.int .i64 4, .bool false, .int .i64 0, .string ⟨#[]⟩, .slice none 0 0, .slice none 0 0] 25 (0, 0)) := by
    rw [← hsz2, heap_alloc_new, ho4]
  have hI : ∀ q w', RdAt w' rb s q bad (dep + 1) → Fr (Own rb) (W2.alloc o4) w' → IL W2 rb w.heap.size (w.heap.size + 2) (w.heap.size + 3) s bad (dep + 1) [] q w' := by
    intro q w' rd f
    have fa : Fr (Own rb) W2 w' := (Fr.alloc _ _ _).trans f
    refine ⟨rd, hT2.fr fa (by show ¬ _ = _; omega) (by show ¬ _ = _; omega), fa, (fa.block _ (by omega) (by show ¬ _ = _; omega)).trans b0, by simp, by have := f.size; simp at this; omega, none, 0, [], (f.block _ (by simp; omega) (by show ¬ _ = _; omega)).trans b2, World.ownsRow_nil _ _ _ _, by unfold LaidL; rfl⟩
  have hbr := bracketed_78 R 93 (by decide) [] p (W2.alloc o4) (r2.alloc _) hI hp hs hd
  clear R hI
  cases hx : bracketS s (oneL val) 93 [] p with
  | error x =>
    have HE : Hid (listS s val p = .error (x.1, x.2)) := by show _ = _; rw [listS, hx]
    rw [hx] at hbr
    clear hx
    have hbr2 := hbr.mono (R' := fun e w' => Thrown x.1 x.2 e w' ∧ Fr (Own rb) w w') (fun e w' ho => ⟨ho.1, f2.trans ho.2⟩)
    rw [hW2, ho4] at hbr2
    clear hbr hW2 ho4 b0 b1 b2 f2 r2 hT2 hsz2
    go_enter Tryz.func102, Tryz.ntmps102
    go_wp2_with (go_at_call 132; refine hbr2.mono ?_; rintro e w4 ⟨⟨bk, rfl, hbk⟩, f4⟩)
    exact panics0 (Out.no HE.out ⟨⟨_, rfl, hbk⟩, f4⟩)
  | ok x =>
    obtain ⟨l, q⟩ := x
    have HE : Hid (listS s val p = .ok (.mk 4 false 0 ⟨#[]⟩ l [], q)) := by show _ = _; rw [listS, hx]
    rw [hx] at hbr
    clear hx
    have hbr2 := hbr.mono (R' := fun e w' => e = .returned (.tuple #[]) ∧ ∃ sa sc, w'.heap[w.heap.size + 1]? = some (.cells #[.int .i64 0, .bool false, .int .i64 0, .string ⟨#[]⟩, .slice none 0 0, .slice none 0 0] 25 (0, 0)) ∧
        w'.heap[w.heap.size + 2]? = some (.cells #[.int .i64 4, .bool false, .int .i64 0, .string ⟨#[]⟩, .slice sa l.length sc, .slice none 0 0] 25 (0, 0)) ∧ w.heap.size + 3 ≤ w'.heap.size ∧
        LaidV w' (fun b => w.heap.size + 3 ≤ b) (.mk 4 false 0 ⟨#[]⟩ l []) [.int .i64 4, .bool false, .int .i64 0, .string ⟨#[]⟩, .slice sa l.length sc, .slice none 0 0] ∧ RdAt w' rb s q bad dep ∧ p < q ∧ q ≤ s.size ∧ Fr (Own rb) w w') (by
      rintro e w' ⟨rfl, ⟨w2, hI2, rfl⟩, hq1, hq2⟩
      obtain ⟨rd2, tb2, fr2, rv2, len2, hb2, sa, sc, xs, hvv2, hown2, hlaid2⟩ := hI2
      have fz : Fr (Own rb) w2 (w2.setCell ⟨rb, 3, none⟩ (.int .i64 (dep : Int))) := Fr.own _ _ _ _
      refine ⟨rfl, sa, sc, ?_, ?_, Nat.le_trans hb2 fz.size, ?_, rd2.set3 dep, hq1, hq2, (f2.trans fr2).trans fz⟩
      · rw [fz.block _ (by omega) (by show ¬ _ = _; omega), fr2.block _ (by omega) (by show ¬ _ = _; omega)]
        exact b1
      · rw [fz.block _ (by omega) (by show ¬ _ = _; omega)]
        exact hvv2
      · have key : ∀ b, w.heap.size + 3 ≤ b → b < w2.heap.size → (w2.setCell ⟨rb, 3, none⟩ (.int .i64 (dep : Int))).heap[b]? = w2.heap[b]? := fun b hb hl => fz.block b hl (by show ¬ _ = _; omega)
        unfold LaidV
        refine ⟨_, _, xs, [], rfl, (slAt_of_own hown2).conv (by decide) (fun b hb hl => ⟨hb, key b hb hl⟩), ⟨rfl, .inl ⟨none, 0, rfl, rfl⟩⟩, hlaid2.conv (fun b hb hl => ⟨hb.1, key b hb.1 hl⟩), by unfold LaidF; rfl⟩)
    rw [hW2, ho4] at hbr2
    clear hbr hW2 ho4 b0 b1 b2 f2 r2 hT2 hsz2
    go_enter Tryz.func102, Tryz.ntmps102
    go_wp2_with (go_at_call 132; refine hbr2.mono ?_; rintro e w4 ⟨rfl, sa, sc, hz, hv2, hsz4, hlaid, rd4, hq1, hq2, f4⟩; obtain ⟨x0, x1, x2, x3, x4, x5⟩ := box6 hv2; obtain ⟨y0, y1, y2, y3, y4, y5⟩ := box6 hz; have z0 := box_fz hz 0; have z1 := box_fz hz 1; have z2 := box_fz hz 2; have z3 := box_fz hz 3; have z4 := box_fz hz 4; have z5 := box_fz hz 5)
    refine bodyPost_ret (v := .agg #[.int .i64 4, .bool false, .int .i64 0, .string ⟨#[]⟩, .slice sa l.length sc, .slice none 0 0]) (by simp [results, Tryz.results102, go_sem, *]) rfl (Out.yes HE.out ⟨⟨_, _, _, _, _, _, _, _, _, _, rfl, ?_⟩, ?_, hq1, hq2, ?_⟩)
    · refine hlaid.conv (fun b hb hl => ⟨by omega, ?_⟩)
      rw [Below.heap_setCell _ _ _ _ (by simp; omega), Below.heap_setCell _ _ _ _ (by simp; omega), Below.heap_setCell _ _ _ _ (by simp; omega), Below.heap_setCell _ _ _ _ (by simp; omega), Below.heap_setCell _ _ _ _ (by simp; omega), Below.heap_setCell _ _ _ _ (by simp; omega)]
    · exact (((((rd4.other _ (by simp; omega)).other _ (by simp; omega)).other _ (by simp; omega)).other _ (by simp; omega)).other _ (by simp; omega)).other _ (by simp; omega)
    · exact (((((f4.setNew _ (by simp)).setNew _ (by simp)).setNew _ (by simp)).setNew _ (by simp)).setNew _ (by simp)).setNew _ (by simp)
end Go.Proofs.YtiakidomcjpdhaaGreatDoor

namespace Go.Proofs.YtiakidomcjpdhaaGreatDoor
open Go.RowKit

abbrev Z7 : List Value := [.string ⟨#[]⟩, .int .i64 0, .bool false, .int .i64 0, .string ⟨#[]⟩, .slice none 0 0, .slice none 0 0]
theorem info65 : (Tryz.prog.info? 54).map (fun i => (i.zero, i.size, i.bytes)) = some (some (.agg #[.string ⟨#[]⟩, .int .i64 0, .bool false, .int .i64 0, .string ⟨#[]⟩, .slice none 0 0, .slice none 0 0]), 7, 104) := by kernel_rfl
theorem cells7 {w : World} {Z : Nat} {a0 a1 a2 a3 a4 a5 a6 : Value} {ty : TypeId} (h : w.heap[Z]? = some (.cells #[a0, a1, a2, a3, a4, a5, a6] ty (0, 0))) : ∀ j u, [a0, a1, a2, a3, a4, a5, a6][j]? = some u → w.cell? ((⟨Z, 0, none⟩ : Addr).add j) = some u := by
  intro j u hj
  rw [addr_add]
  simp only [World.cell?, h]
  simpa using hj
theorem set7_list (xs rest : List Value) (n : Nat) (hx : xs.length = n * 7) (z0 z1 z2 z3 z4 z5 z6 a0 a1 a2 a3 a4 a5 a6 : Value) :
    (((((((xs ++ (z0 :: z1 :: z2 :: z3 :: z4 :: z5 :: z6 :: rest)).set (n * 7) a0).set (n * 7 + 1) a1).set (n * 7 + 2) a2).set (n * 7 + 3) a3).set (n * 7 + 4) a4).set (n * 7 + 5) a5).set (n * 7 + 6) a6 = xs ++ (a0 :: a1 :: a2 :: a3 :: a4 :: a5 :: a6 :: rest) := by
  simp [hx]
/-- Seven cells of a row that are set one by one. -/
theorem set7_take {cur : Array Value} {xs : List Value} {n : Nat} (hx : xs.length = n * 7) {z0 z1 z2 z3 z4 z5 z6 : Value} (a0 a1 a2 a3 a4 a5 a6 : Value) (h : cur.toList.take ((n + 1) * 7) = xs ++ [z0, z1, z2, z3, z4, z5, z6]) :
    (((((((cur.setIfInBounds (n * 7) a0).setIfInBounds (n * 7 + 1) a1).setIfInBounds (n * 7 + 2) a2).setIfInBounds (n * 7 + 3) a3).setIfInBounds (n * 7 + 4) a4).setIfInBounds (n * 7 + 5) a5).setIfInBounds (n * 7 + 6) a6).toList.take ((n + 1) * 7) = xs ++ [a0, a1, a2, a3, a4, a5, a6] := by
  obtain ⟨rest, hr⟩ := split_take h
  simp only [Array.toList_setIfInBounds, hr]
  have e := set7_list xs rest n hx z0 z1 z2 z3 z4 z5 z6 a0 a1 a2 a3 a4 a5 a6
  simp only [List.cons_append, List.nil_append] at e ⊢
  rw [e, show xs ++ a0 :: a1 :: a2 :: a3 :: a4 :: a5 :: a6 :: rest = (xs ++ [a0, a1, a2, a3, a4, a5, a6]) ++ rest by simp, List.take_left' (by simp [hx]; omega)]

/-- Where the blocks of object lie. -/
structure Pos (W : World) (rb r1 mp mb vb B : Nat) : Prop where
  p0 : 6 ≤ rb
  p1 : rb + 2 < W.heap.size
  p2 : r1 + 2 = W.heap.size
  p3 : vb = W.heap.size
  p4 : mb = W.heap.size + 1
  p5 : mp = W.heap.size + 2
  p6 : B = W.heap.size + 3
/-- The map of the names so far. -/
def NameMap (w : World) (mb m : Nat) (l : List (ByteArray × GV)) : Prop :=
  ∃ D : DataW Unit, w.ownsMap Tryz.prog 9 (plainElem Tryz.prog 3) mb m D ∧ ∀ nm : ByteArray, Maps.has D (.string nm.data.toList) = l.any (fun y => decide (y.1 = nm))
/-- What the closure keeps, but for the reader's place. -/
structure OB (W : World) (rb r1 mp mb vb B : Nat) (l names : List (ByteArray × GV)) (n m : Nat) (sa : Option Addr) (sc : Nat) (xs : List Value) (w : World) : Prop where
  tb : Tabs w
  fr : Fr (Own rb) W w
  rv : w.heap[r1]? = some (.cells #[.pointer (some ⟨rb, 0, none⟩)] 75 (0, 0))
  mv : w.heap[mp]? = some (.cells #[.map (some mb)] 140 (0, 0))
  hb : B ≤ w.heap.size
  om : NameMap w mb m names
  hvv : w.heap[vb]? = some (.cells #[.int .i64 5, .bool false, .int .i64 0, .string ⟨#[]⟩, .slice none 0 0, .slice sa n sc] 25 (0, 0))
  hown : w.ownsRow B 54 7 (.slice sa n sc) n xs
  hlaid : LaidF w (fun b => B ≤ b ∧ (Value.slice sa n sc).ownBlock ≠ some b) l xs
theorem NameMap.kept {w w' : World} {mb m : Nat} {l : List (ByteArray × GV)} (h : NameMap w mb m l) (hk : w'.heap[mb]? = w.heap[mb]?) : NameMap w' mb m l := by
  obtain ⟨D, ⟨es, clock, h1, h2⟩, h3⟩ := h
  exact ⟨D, ⟨es, clock, hk.trans h1, h2⟩, h3⟩
theorem NameMap.lt {w : World} {mb m : Nat} {l : List (ByteArray × GV)} (h : NameMap w mb m l) : mb < w.heap.size := by
  obtain ⟨D, h1, _⟩ := h
  exact h1.lt
section
variable {W : World} {rb r1 mp mb vb B : Nat} {l names : List (ByteArray × GV)} {n m : Nat} {sa : Option Addr} {sc : Nat} {xs : List Value} {w w' : World}
theorem OB.conv (P : Pos W rb r1 mp mb vb B) {S : Nat → Prop} (h : OB W rb r1 mp mb vb B l names n m sa sc xs w) (f : Fr S w w') (hs : ∀ k, S k → k = rb ∨ w.heap.size ≤ k) : OB W rb r1 mp mb vb B l names n m sa sc xs w' := by
  obtain ⟨p0, p1, p2, p3, p4, p5, p6⟩ := P
  have key : ∀ k, k < w.heap.size → k ≠ rb → w'.heap[k]? = w.heap[k]? := fun k hk hne => f.block k hk (fun e => by rcases hs k e with h | h <;> omega)
  have hsz := h.hb
  have l0 := h.tb.lt
  refine ⟨h.tb.of (key 1 (by omega) (by omega)) (key 2 (by omega) (by omega)), ?_, (key _ (lt_of_block h.rv) (by omega)).trans h.rv, (key _ (lt_of_block h.mv) (by omega)).trans h.mv, Nat.le_trans h.hb f.size, h.om.kept (key _ h.om.lt (by omega)), (key _ (lt_of_block h.hvv) (by omega)).trans h.hvv, ?_, ?_⟩
  · exact h.fr.trans (f.mono (fun k hk e => by rcases hs k e with h | h; exact h; omega))
  · exact own_fr (S := fun k => k = rb) h.hown (f.mono (fun k hk e => by rcases hs k e with h | h; exact h; omega)) (fun k hk e => by omega)
  · exact h.hlaid.conv (fun b hb hl => ⟨hb, key b hl (by omega)⟩)
theorem OB.keep (P : Pos W rb r1 mp mb vb B) (h : OB W rb r1 mp mb vb B l names n m sa sc xs w) (f : Fr (Own rb) w w') : OB W rb r1 mp mb vb B l names n m sa sc xs w' := h.conv P f (fun _k e => .inl e)
theorem OB.alloc (P : Pos W rb r1 mp mb vb B) (h : OB W rb r1 mp mb vb B l names n m sa sc xs w) (o : Obj) : OB W rb r1 mp mb vb B l names n m sa sc xs (w.alloc o) := h.conv P (Fr.alloc (fun _ => False) w o) (fun _k e => e.elim)
theorem OB.put (P : Pos W rb r1 mp mb vb B) {names' : List (ByteArray × GV)} {m' : Nat} (h : OB W rb r1 mp mb vb B l names n m sa sc xs w) (g : w.grownBy w' (some mb)) (ho : NameMap w' mb m' names') : OB W rb r1 mp mb vb B l names' n m' sa sc xs w' := by
  obtain ⟨p0, p1, p2, p3, p4, p5, p6⟩ := P
  have key : ∀ k, k < w.heap.size → k ≠ mb → w'.heap[k]? = w.heap[k]? := fun k hk hne => g.block k hk (fun e => hne (by simpa using e))
  have hsz := h.hb
  have l0 := h.tb.lt
  have f : Fr (fun k => k = mb) w w' := Fr.grown g (fun k e _ => by simpa using e.symm)
  refine ⟨h.tb.of (key 1 (by omega) (by omega)) (key 2 (by omega) (by omega)), h.fr.new f (fun k e => by omega), (key _ (lt_of_block h.rv) (by omega)).trans h.rv, (key _ (lt_of_block h.mv) (by omega)).trans h.mv, Nat.le_trans h.hb f.size, ho, (key _ (lt_of_block h.hvv) (by omega)).trans h.hvv, ?_, ?_⟩
  · exact own_fr h.hown f (fun k hk e => by omega)
  · exact h.hlaid.conv (fun b hb hl => ⟨hb, key b hl (by omega)⟩)
end
/-- What the closure keeps: the fields so far, in v's variable, and their names. -/
structure ObjIs (W : World) (rb r1 mp mb vb B : Nat) (s : ByteArray) (bad : Int) (dep : Nat) (l : List (ByteArray × GV)) (p : Nat) (w : World) : Prop where
  rd : RdAt w rb s p bad dep
  len : l.length ≤ p
  ob : ∃ sa sc xs, OB W rb r1 mp mb vb B l l l.length l.length sa sc xs w
/-- What the closure keeps, behind the field's stores. -/
theorem OB.snoc {W : World} {rb r1 mp mb vb B : Nat} (P : Pos W rb r1 mp mb vb B) {l names : List (ByteArray × GV)} {n m : Nat} {sa : Option Addr} {sc : Nat} {xs cs : List Value} {V w2 w3 : World} (_hn : l.length = n) {x : ByteArray × GV}
    (h : OB W rb r1 mp mb vb B l names n m sa sc xs V) (hcs : cs.length = 7) (hx : LaidP V (fun b => B ≤ b ∧ (Value.slice sa n sc).ownBlock ≠ some b) x cs)
    (hgrow : V.grownBy w2 (Value.slice sa n sc).ownBlock) {g cap : Nat} {cur : Array Value}
    (hloc : some g = (Value.slice sa n sc).ownBlock ∨ some g = some V.heap.size) (hgB : B ≤ g) (hnc : n + 1 ≤ cap) (hcm : cap ≤ maxLen) (hcz : cur.size = cap * 7) (htk : cur.toList.take ((n + 1) * 7) = xs ++ cs)
    (f3 : Fr (fun k => k = g ∨ k = vb) w2 w3) (hg3 : w3.heap[g]? = some (.cells cur 54 (0, 0)))
    (hv3 : w3.heap[vb]? = some (.cells #[.int .i64 5, .bool false, .int .i64 0, .string ⟨#[]⟩, .slice none 0 0, .slice (some ⟨g, 0, none⟩) (n + 1) cap] 25 (0, 0))) :
    OB W rb r1 mp mb vb B (l ++ [x]) names (n + 1) m (some ⟨g, 0, none⟩) cap (xs ++ cs) w3 := by
  obtain ⟨p0, p1, p2, p3, p4, p5, p6⟩ := P
  have hrow : ∀ k, (Value.slice sa n sc).ownBlock = some k → B ≤ k := fun k hk => (h.hown.lt _ hk).1
  have f2 : Fr (fun k => B ≤ k) V w2 := Fr.grown hgrow (fun k hk _ => hrow k hk)
  have f23 : Fr (fun k => B ≤ k ∨ k = vb) V w3 := (f2.mono (fun k _ h => .inl h)).trans (f3.mono (fun k _ h => h.elim (fun e => .inl (by omega)) .inr))
  have hkeep : ∀ b, (B ≤ b ∧ (Value.slice sa n sc).ownBlock ≠ some b) → b < V.heap.size → (B ≤ b ∧ (Value.slice (some ⟨g, 0, none⟩) (n + 1) cap).ownBlock ≠ some b) ∧ w3.heap[b]? = V.heap[b]? := by
    intro b hbb hlt
    have hne : g ≠ b := by
      rintro rfl
      rcases hloc with h | h
      · exact hbb.2 h.symm
      · have : g = V.heap.size := by simpa using h
        omega
    refine ⟨⟨hbb.1, by simpa [Value.ownBlock] using hne⟩, ?_⟩
    rw [f3.block b (Nat.lt_of_lt_of_le hlt hgrow.size) (by omega)]
    exact hgrow.block b hlt (fun e => hbb.2 e.symm)
  have key : ∀ k, k < V.heap.size → k < B → k ≠ vb → w3.heap[k]? = V.heap[k]? := fun k hk hB hne => f23.block k hk (by omega)
  have l0 := h.tb.lt
  refine ⟨h.tb.of (key 1 (by omega) (by omega) (by omega)) (key 2 (by omega) (by omega) (by omega)), h.fr.new f23 (fun k h => by omega), (key _ (lt_of_block h.rv) (by omega) (by omega)).trans h.rv, (key _ (lt_of_block h.mv) (by omega) (by omega)).trans h.mv, Nat.le_trans h.hb f23.size, h.om.kept (key _ h.om.lt (by omega) (by omega)), hv3, ?_, ?_⟩
  · exact ⟨by rw [List.length_append, h.hown.1, hcs]; omega, .inr ⟨g, cap, cur, rfl, hgB, hg3, hnc, hcm, hcz, htk⟩⟩
  · exact LaidF.snoc (hx.conv hkeep) (h.hlaid.conv hkeep)

/-- The operations of the closure's last statement. -/
noncomputable def lastOps : Code → Array Oper
  | .seq _ y => lastOps y
  | .region _ ops _ => ops
  | _ => #[]
end Go.Proofs.YtiakidomcjpdhaaGreatDoor

namespace Go.Proofs.YtiakidomcjpdhaaGreatDoor
open Go.RowKit

/-- The operations of the closure's last statement. -/
noncomputable def ops79 : Array Oper := match Tryz.f134.body with | some c => lastOps c | none => #[]

set_option maxRecDepth 20000 in
set_option maxHeartbeats 8000000 in
theorem tail79 (W : World) (rb r1 mp mb vb B : Nat) (P : Pos W rb r1 mp mb vb B)
    (l names : List (ByteArray × GV)) (n m : Nat) (hn : l.length = n) (hnm : n ≤ 65536) (nm : ByteArray) (x : GV) (V : World)
    (sa : Option Addr) (sc : Nat) (xs : List Value) (h : OB W rb r1 mp mb vb B l names n m sa sc xs V)
    (k : Int) (b : Bool) (m0 : Int) (t : ByteArray) (a1 : Option Addr) (l1 c1 : Nat) (a2 : Option Addr) (l2 c2 : Nat)
    (hx : LaidV V (fun b => B ≤ b ∧ (Value.slice sa n sc).ownBlock ≠ some b) x [.int .i64 k, .bool b, .int .i64 m0, .string t, .slice a1 l1 c1, .slice a2 l2 c2])
    (Z : Nat) (hZ : V.heap[Z]? = some (.cells #[.string ⟨#[]⟩, .int .i64 0, .bool false, .int .i64 0, .string ⟨#[]⟩, .slice none 0 0, .slice none 0 0] 54 (0, 0)))
    (R : Ending → World → Prop) (hR : ∀ sa' sc' xs' w', OB W rb r1 mp mb vb B (l ++ [(nm, x)]) names (n + 1) m sa' sc' xs' w' → (∀ j, j < W.heap.size → w'.heap[j]? = V.heap[j]?) → R (.returned (.tuple #[])) w')
    (u3 u5 u6 u7 u8 u9 u10 u11 u12 u13 u14 u15 u16 u17 u18 u19 u20 u21 u22 u23 u24 u25 u26 u27 u28 u29 u30 u31 : Value) :
    wpAny Tryz.prog .any ops79 (bodyPost Tryz.prog Tryz.f134 R) 5 #[true, true, true, true, true, true, true, true, false, false, false, false, false]
      { tmps := #[.pointer (some ⟨r1, 0, none⟩), .pointer (some ⟨mp, 0, none⟩), .pointer (some ⟨vb, 0, none⟩), u3, .string nm, u5, u6, u7, u8, u9, u10, u11, u12, u13, u14, u15, u16, u17, u18, u19, u20, u21, u22, u23, u24, u25, u26, u27, u28, u29, u30, u31, .pointer (some ⟨vb, 5, none⟩), .slice sa n sc, .string nm, .pointer (some ⟨rb, 0, none⟩),
          .agg #[.int .i64 k, .bool b, .int .i64 m0, .string t, .slice a1 l1 c1, .slice a2 l2 c2], .agg #[.string nm, .int .i64 k, .bool b, .int .i64 m0, .string t, .slice a1 l1 c1, .slice a2 l2 c2], .int .i64 (n : Int), .slice (some ⟨Z, 0, none⟩) 1 1, undef, undef, undef], defers := [] } V := by
  obtain ⟨i0, hi, hz0, hz1, hz2⟩ := info_parts info65
  have hP := P
  obtain ⟨p0, p1, p2, p3, p4, p5, p6⟩ := P
  have hown := h.hown
  have hvv := h.hvv
  dsimp only [ops79, lastOps, Tryz.f134]
  refine wpAny_ready (rs := [8]) (by kernel_rfl) (by simp) ?_
  refine AllReady.cons rfl (fun K hK => ?_) AllReady.nil
  refine step_append_own rfl (.tmp 33) (.tmp 39) 23 rfl B 54 i0 _ 7 104 Tryz.underlying23 hi hz0 hz1 hz2 rfl (by decide) (.slice sa n sc) n xs rfl hown ⟨Z, 0, none⟩ 1 1 Z7 rfl rfl (cells7 hZ) (by simp [Value.oneCell']) (by unfold maxLen; omega) (by omega) h.hb ?_
  intro v' w2 hown' hgrow hloc
  rcases hown'.2 with ⟨_, h0⟩ | ⟨g, cap, cur, rfl, hgB, hg, hnc, hcm, hcz, htk⟩
  · omega
  refine hK _ _ ?_
  clear hK K
  have hcells : ∀ i, i < 7 → w2.cell? ⟨g, n * 7 + i, none⟩ = Z7[i]? := by
    intro i hi
    simp only [World.cell?, hg]
    have e1 : (cur.toList.take ((n + 1) * 7))[n * 7 + i]? = (xs ++ Z7)[n * 7 + i]? := by rw [htk]
    rw [List.getElem?_take_of_lt (by omega), List.getElem?_append_right (by rw [hown.1]; omega), hown.1, show n * 7 + i - n * 7 = i by omega] at e1
    simpa using e1
  have y0 := hcells 0 (by decide)
  have y1 := hcells 1 (by decide)
  have y2 := hcells 2 (by decide)
  have y3 := hcells 3 (by decide)
  have y4 := hcells 4 (by decide)
  have y5 := hcells 5 (by decide)
  have y6 := hcells 6 (by decide)
  have hfz : ∀ j, w2.frozen? ⟨g, j, none⟩ = false := box_fz hg
  have z0 := hfz (n * 7 + 0)
  have z1 := hfz (n * 7 + 1)
  have z2 := hfz (n * 7 + 2)
  have z3 := hfz (n * 7 + 3)
  have z4 := hfz (n * 7 + 4)
  have z5 := hfz (n * 7 + 5)
  have z6 := hfz (n * 7 + 6)
  simp only [Z7, List.getElem?_cons_zero, List.getElem?_cons_succ, Nat.add_zero] at y0 y1 y2 y3 y4 y5 y6 z0
  have hvv2 : w2.heap[vb]? = some (.cells #[.int .i64 5, .bool false, .int .i64 0, .string ⟨#[]⟩, .slice none 0 0, .slice sa n sc] 25 (0, 0)) := by
    rw [hgrow.block vb (lt_of_block hvv) (fun e => by have := (hown.lt _ e.symm).1; omega)]
    exact hvv
  have cv := (box6 hvv2).2.2.2.2.2
  have zv := box_fz hvv2 5
  have hgv : ¬ g = vb := by omega
  have hgv' : ¬ vb = g := by omega
  have hpx : LaidP V (fun b => B ≤ b ∧ (Value.slice sa n sc).ownBlock ≠ some b) (nm, x) [.string nm, .int .i64 k, .bool b, .int .i64 m0, .string t, .slice a1 l1 c1, .slice a2 l2 c2] := by unfold LaidP; exact ⟨_, rfl, hx⟩
  have fin : ∀ w3 cur', Fr (fun k => k = g ∨ k = vb) w2 w3 → w3.heap[g]? = some (.cells cur' 54 (0, 0)) → w3.heap[vb]? = some (.cells #[.int .i64 5, .bool false, .int .i64 0, .string ⟨#[]⟩, .slice none 0 0, .slice (some ⟨g, 0, none⟩) (n + 1) cap] 25 (0, 0)) → cur'.size = cap * 7 → cur'.toList.take ((n + 1) * 7) = xs ++ [.string nm, .int .i64 k, .bool b, .int .i64 m0, .string t, .slice a1 l1 c1, .slice a2 l2 c2] → R (.returned (.tuple #[])) w3 := by
    intro w3 cur' f3 hg3 hv3 hcz' htk'
    refine hR _ _ _ _ (OB.snoc hP hn h rfl hpx hgrow (by simpa [Value.ownBlock] using hloc) hgB hnc hcm hcz' htk' f3 hg3 hv3) (fun j hj => ?_)
    have hsz := h.hb
    rw [f3.block j (by have := hgrow.size; omega) (by omega)]
    exact hgrow.block j (by omega) (fun e => by have := (hown.lt _ e.symm).1; omega)
  clear h hR hx hpx hP p0 p1 p2 p3 p4 p5 p6
  try simp only [Act.put, List.setIfInBounds_toArray, List.set_cons_zero, List.set_cons_succ]
  refine wpAny_take (i := 9) (v := .pointer (some ⟨g, n * 7, none⟩)) rfl (by kernel_rfl) (by kernel_rfl) (by kernel_rfl) (fun _ _ _ h => h) (Or.inl ⟨by rfl, fun w => by go_simp; intro h; omega⟩) ?_
  try simp only [Act.put, List.setIfInBounds_toArray, List.set_cons_zero, List.set_cons_succ]
  refine wpAny_take (i := 11) (v := .pointer (some ⟨vb, 5, none⟩)) rfl (by kernel_rfl) (by kernel_rfl) (by kernel_rfl) (fun _ _ _ h => h) (Or.inl ⟨by rfl, fun w => by go_simp⟩) ?_
  try simp only [Act.put, List.setIfInBounds_toArray, List.set_cons_zero, List.set_cons_succ]
  refine wpAny_ready (rs := [10, 12]) (by kernel_rfl) (by simp) ?_
  refine AllReady.cons rfl (fun K hK => ?_) (AllReady.cons rfl (fun K hK => ?_) AllReady.nil)
  · go_simp
    refine hK _ _ ?_
    clear hK K
    refine wpAny_ready (rs := [12]) (by kernel_rfl) (by simp) ?_
    refine AllReady.cons rfl (fun K hK => ?_) AllReady.nil
    go_simp
    refine hK _ _ ?_
    clear hK K
    refine wpAny_done (by kernel_rfl) ?_ _
    refine bodyPost_normal0 ?_
    have g1 := heap_set (heap_set (heap_set (heap_set (heap_set (heap_set (heap_set (hg) (n * 7) (.string nm)) (n * 7 + 1) (.int .i64 k)) (n * 7 + 2) (.bool b)) (n * 7 + 3) (.int .i64 m0)) (n * 7 + 4) (.string t)) (n * 7 + 5) (.slice a1 l1 c1)) (n * 7 + 6) (.slice a2 l2 c2)
    have v1 : (((((((w2.setCell ⟨g, n * 7, none⟩ (.string nm)).setCell ⟨g, n * 7 + 1, none⟩ (.int .i64 k)).setCell ⟨g, n * 7 + 2, none⟩ (.bool b)).setCell ⟨g, n * 7 + 3, none⟩ (.int .i64 m0)).setCell ⟨g, n * 7 + 4, none⟩ (.string t)).setCell ⟨g, n * 7 + 5, none⟩ (.slice a1 l1 c1)).setCell ⟨g, n * 7 + 6, none⟩ (.slice a2 l2 c2)).heap[vb]? = some (.cells #[.int .i64 5, .bool false, .int .i64 0, .string ⟨#[]⟩, .slice none 0 0, .slice sa n sc] 25 (0, 0)) := by
      rw [Below.heap_setCell _ _ _ _ hgv', Below.heap_setCell _ _ _ _ hgv', Below.heap_setCell _ _ _ _ hgv', Below.heap_setCell _ _ _ _ hgv', Below.heap_setCell _ _ _ _ hgv', Below.heap_setCell _ _ _ _ hgv', Below.heap_setCell _ _ _ _ hgv']
      exact hvv2
    refine fin _ _ ((((((((Fr.setCell _ _ _ (.inl rfl)).trans (Fr.setCell _ _ _ (.inl rfl))).trans (Fr.setCell _ _ _ (.inl rfl))).trans (Fr.setCell _ _ _ (.inl rfl))).trans (Fr.setCell _ _ _ (.inl rfl))).trans (Fr.setCell _ _ _ (.inl rfl))).trans (Fr.setCell _ _ _ (.inl rfl))).trans (Fr.setCell _ _ _ (.inr rfl))) ?_ (heap_set v1 5 _) (by simpa using hcz) (set7_take hown.1 _ _ _ _ _ _ _ htk)
    rw [Below.heap_setCell _ _ _ _ hgv]
    exact g1
  · go_simp
    refine hK _ _ ?_
    clear hK K
    refine wpAny_ready (rs := [10]) (by kernel_rfl) (by simp) ?_
    refine AllReady.cons rfl (fun K hK => ?_) AllReady.nil
    go_simp
    refine hK _ _ ?_
    clear hK K
    refine wpAny_done (by kernel_rfl) ?_ _
    refine bodyPost_normal0 ?_
    have g0 : (w2.setCell ⟨vb, 5, none⟩ (.slice (some ⟨g, 0, none⟩) (n + 1) cap)).heap[g]? = some (.cells cur 54 (0, 0)) := by
      rw [Below.heap_setCell _ _ _ _ hgv]
      exact hg
    refine fin _ _ ((Fr.setCell _ _ _ (.inr rfl)).trans (((((((Fr.setCell _ _ _ (.inl rfl)).trans (Fr.setCell _ _ _ (.inl rfl))).trans (Fr.setCell _ _ _ (.inl rfl))).trans (Fr.setCell _ _ _ (.inl rfl))).trans (Fr.setCell _ _ _ (.inl rfl))).trans (Fr.setCell _ _ _ (.inl rfl))).trans (Fr.setCell _ _ _ (.inl rfl)))) (heap_set (heap_set (heap_set (heap_set (heap_set (heap_set (heap_set (g0) (n * 7) (.string nm)) (n * 7 + 1) (.int .i64 k)) (n * 7 + 2) (.bool b)) (n * 7 + 3) (.int .i64 m0)) (n * 7 + 4) (.string t)) (n * 7 + 5) (.slice a1 l1 c1)) (n * 7 + 6) (.slice a2 l2 c2)) ?_ (by simpa using hcz) (set7_take hown.1 _ _ _ _ _ _ _ htk)
    rw [Below.heap_setCell _ _ _ _ hgv', Below.heap_setCell _ _ _ _ hgv', Below.heap_setCell _ _ _ _ hgv', Below.heap_setCell _ _ _ _ hgv', Below.heap_setCell _ _ _ _ hgv', Below.heap_setCell _ _ _ _ hgv', Below.heap_setCell _ _ _ _ hgv']
    exact heap_set hvv2 5 _
end Go.Proofs.YtiakidomcjpdhaaGreatDoor

namespace Go.Proofs.YtiakidomcjpdhaaGreatDoor

theorem hexF_ok (s : ByteArray) (bad : Int) : ∀ (k n p m q : Nat), hexF s bad k n p = .ok (m, q) → p ≤ s.size → p ≤ q ∧ q ≤ s.size
  | 0, n, p, m, q, h, hp => by
    unfold hexF at h
    injection h with h
    injection h with _ h2
    omega
  | k + 1, n, p, m, q, h, hp => by
    unfold hexF at h
    cases hc : chS s bad p with
    | error x => rw [hc] at h; cases h
    | ok x =>
      obtain ⟨c, r⟩ := x
      rw [hc] at h
      have h1 := chS_ok hc hp
      simp only at h
      split at h
      · cases h
      · have h2 := hexF_ok s bad k _ _ _ _ h h1.2.2
        omega
theorem numberedS_ok {s : ByteArray} {bad : Int} {slash p m q : Nat} (h : numberedS s bad slash p = .ok (m, q)) (hp : p ≤ s.size) : p ≤ q ∧ q ≤ s.size := by
  unfold numberedS at h
  cases hc : hexF s bad 4 0 p with
  | error x => rw [hc] at h; cases h
  | ok x =>
    obtain ⟨n, r⟩ := x
    rw [hc] at h
    have h1 := hexF_ok s bad _ _ _ _ _ hc hp
    simp only at h
    split at h
    · injection h with h
      injection h with _ h2
      omega
    · split at h
      · rename_i h3
        have h4 := aheadS_room s r (by omega)
        injection h with h
        injection h with _ h2
        omega
      · cases h
theorem escS_ok {s : ByteArray} {bad : Int} {slash p m q : Nat} (h : escS s bad slash p = .ok (m, q)) (hp : p ≤ s.size) : p < q ∧ q ≤ s.size := by
  unfold escS at h
  cases hc : chS s bad p with
  | error x => rw [hc] at h; cases h
  | ok x =>
    obtain ⟨c, r⟩ := x
    rw [hc] at h
    have h1 := chS_ok hc hp
    simp only [escC] at h
    repeat' split at h
    all_goals first
      | (injection h with h; injection h with _ h2; omega)
      | (cases h; done)
      | (have h2 := numberedS_ok h h1.2.2; omega)
theorem quF_ok (s : ByteArray) (bad : Int) : ∀ (f : Nat) (acc : List Nat) (p : Nat) (cs : List Nat) (q : Nat), quF s bad f acc p = .ok (cs, q) → p ≤ s.size → p < q ∧ q ≤ s.size ∧ cs.length + p ≤ acc.length + q
  | 0, acc, p, cs, q, h, hp => by unfold quF at h; cases h
  | f + 1, acc, p, cs, q, h, hp => by
    unfold quF at h
    cases hc : chS s bad p with
    | error x => rw [hc] at h; cases h
    | ok x =>
      obtain ⟨c, r⟩ := x
      rw [hc] at h
      have h1 := chS_ok hc hp
      simp only at h
      split at h
      · injection h with h
        injection h with h2 h3
        subst h2
        omega
      · split at h
        · cases he : escS s bad p r with
          | error x => rw [he] at h; cases h
          | ok x =>
            obtain ⟨d, r2⟩ := x
            rw [he] at h
            have h2 := escS_ok he h1.2.2
            have h3 := quF_ok s bad f _ _ _ _ h h2.2
            simp at h3
            omega
        · split at h
          · cases h
          · have h3 := quF_ok s bad f _ _ _ _ h h1.2.2
            simp at h3
            omega
theorem quotedS_ok {s : ByteArray} {bad : Int} {p : Nat} {cs : List Nat} {q : Nat} (h : quotedS s bad p = .ok (cs, q)) (_hp : p ≤ s.size) : p < q ∧ q ≤ s.size ∧ cs.length ≤ q := by
  unfold quotedS at h
  split at h
  · rename_i h0
    have hl := lt_of_nx (s := s) (p := p) (by omega)
    have h1 := quF_ok s bad _ _ _ _ _ h hl
    simp at h1
    omega
  · cases h
end Go.Proofs.YtiakidomcjpdhaaGreatDoor

namespace Go.Proofs.YtiakidomcjpdhaaGreatDoor
open Go.RowKit
open Go.Maps

theorem law : Keyed Tryz.prog 9 := string_keyed Tryz.underlying9
theorem zero3 (w : World) : (zeroValue 3).run Tryz.prog w = .ok (.int .i64 0) w := by kernel_rfl
theorem str_inj {a b : ByteArray} (h : (Lit.string a.data.toList) = Lit.string b.data.toList) : a = b := by
  injection h with h
  cases a
  cases b
  simp at h
  rw [h]
theorem NameMap.snoc {w1 w2 : World} {mb n : Nat} {D : DataW Unit} {nm : ByteArray} {l : List (ByteArray × GV)} {d : DataW Unit} (om1 : w1.ownsMap Tryz.prog 9 (plainElem Tryz.prog 3) mb n D) (om2 : w2.ownsMap Tryz.prog 9 (plainElem Tryz.prog 3) mb (n + 1) (D.put (.string nm.data.toList) d))
    (hD : ∀ nm : ByteArray, Maps.has D (.string nm.data.toList) = l.any (fun y => decide (y.1 = nm))) : NameMap w2 mb (n + 1) (l ++ [(nm, .mk 0 false 0 ⟨#[]⟩ [] [])]) := by
  refine ⟨_, om2, fun nm' => ?_⟩
  by_cases h : nm' = nm
  · subst h
    rw [Maps.has_put_same om1.isMap (by trivial)]
    simp
  · rw [Maps.has_put_other (fun e => h (str_inj e)), hD]
    have : ¬ nm = nm' := fun e => h e.symm
    simp [this]
theorem NameMap.congr {w : World} {mb m : Nat} {l l' : List (ByteArray × GV)} (h : NameMap w mb m l) (he : ∀ nm : ByteArray, l.any (fun y => decide (y.1 = nm)) = l'.any (fun y => decide (y.1 = nm))) : NameMap w mb m l' := by
  obtain ⟨D, h1, h2⟩ := h
  exact ⟨D, h1, fun nm => (h2 nm).trans (he nm)⟩
theorem OB.fresh {W : World} {rb r1 mp mb vb B : Nat} (_P : Pos W rb r1 mp mb vb B) {l names : List (ByteArray × GV)} {n m : Nat} {sa : Option Addr} {sc : Nat} {xs : List Value} {w w' : World} (h : OB W rb r1 mp mb vb B l names n m sa sc xs w)
    {ok : Nat → Prop} {x : GV} {cs : List Value} (hx : LaidV w' ok x cs) (hk : ∀ b, ok b → w.heap.size ≤ b) : LaidV w' (fun b => B ≤ b ∧ (Value.slice sa n sc).ownBlock ≠ some b) x cs := by
  have hb := h.hb
  refine hx.conv (fun b hb' hl => ⟨⟨by have := hk b hb'; omega, fun e => ?_⟩, rfl⟩)
  have := (h.hown.lt _ e).2
  have := hk b hb'
  omega

def oneR2 (s : ByteArray) (val : Nat → Except (Nat × Nat) (GV × Nat)) (l : List (ByteArray × GV)) (nm : ByteArray) (q : Nat) : Except (Nat × Nat) (List (ByteArray × GV) × Nat) :=
  if nx s (bl s q) = 58 then (match val (bl s (bl s q + 1)) with | .error x => .error x | .ok (x, r) => .ok (l ++ [(nm, x)], r)) else .error (bl s q, 3)
def oneR (s : ByteArray) (val : Nat → Except (Nat × Nat) (GV × Nat)) (l : List (ByteArray × GV)) (nm : ByteArray) (p q : Nat) : Except (Nat × Nat) (List (ByteArray × GV) × Nat) :=
  if l.any (fun y => decide (y.1 = nm)) then .error (p, 6) else oneR2 s val l nm q
theorem oneF_ok {s : ByteArray} {bad : Int} {val : Nat → Except (Nat × Nat) (GV × Nat)} {l : List (ByteArray × GV)} {p : Nat} {cs : List Nat} {q : Nat} (h : quotedS s bad p = .ok (cs, q)) : oneF s bad val l p = oneR s val l (txt cs) p q := by
  unfold oneF
  rw [h]
  rfl

set_option maxRecDepth 20000 in
set_option maxHeartbeats 16000000 in
theorem object1_any (W : World) (rb r1 mp mb vb B : Nat) (P : Pos W rb r1 mp mb vb B) (s : ByteArray) (bad : Int) (dep : Nat) (val : Nat → Except (Nat × Nat) (GV × Nat)) (hv : ValueAt rb s bad dep val) (hs : s.size ≤ 65536)
    (l : List (ByteArray × GV)) (p : Nat) (w : World) (h : ObjIs W rb r1 mp mb vb B s bad dep l p w) (hp : p ≤ s.size) :
    Calls Tryz.prog 134 #[.pointer (some ⟨r1, 0, none⟩), .pointer (some ⟨mp, 0, none⟩), .pointer (some ⟨vb, 0, none⟩)] w (Out (oneF s bad val l p)
      (fun x e w' => e = .returned (.tuple #[]) ∧ ObjIs W rb r1 mp mb vb B s bad dep x.1 x.2 w' ∧ p < x.2 ∧ x.2 ≤ s.size) (Fr (Own rb) W)) := by
  obtain ⟨rd, len, sa, sc, xs, ob⟩ := h
  obtain ⟨n, hn⟩ : ∃ n, l.length = n := ⟨_, rfl⟩
  rw [hn] at ob
  have hP := P
  obtain ⟨p0, p1, p2, p3, p4, p5, p6⟩ := hP
  have hrb : 6 ≤ rb := p0
  have hs2 : s.size ≤ 140737488351232 := by omega
  have hn5 : n ≤ 65536 := by omega
  have tb := ob.tb
  have c1 := rd.c1
  have cr0 : w.cell? ⟨r1, 0, none⟩ = some (.pointer (some ⟨rb, 0, none⟩)) := by simp [World.cell?, ob.rv]
  obtain ⟨N, hN⟩ : ∃ N, oneF s bad val l p = N := ⟨_, rfl⟩
  rw [hN]
  have hne1 : mb ≠ rb := by omega
  have hne2 : rb ≠ mb := by omega
  have hlow : rb < W.heap.size := by omega
  clear p1 p2 p3 p4 p5 p6
  cases hq : quotedS s bad p with
  | error x =>
    have HE : Hid (N = .error (x.1, x.2)) := by show _ = _; rw [← hN, oneF, hq]
    have HQ : Hid (quotedS s bad p = .error (x.1, x.2)) := hq
    clear hq hN
    go_enter Tryz.func134, Tryz.ntmps134
    go_wp2_with (go_at_call 101; refine (quoted_any _ _ _ _ _ _ rd tb hrb hp hs).mono ?_; intro e w1 ho; obtain ⟨⟨bk, rfl, hbk⟩, f1⟩ := Out.isNo HQ.out ho; clear ho)
    exact panics0 (Out.no HE.out ⟨⟨_, rfl, hbk⟩, ob.fr.trans f1⟩)
  | ok x =>
    obtain ⟨cs, q⟩ := x
    have hqq := quotedS_ok hq hp
    have HQ : Hid (quotedS s bad p = .ok (cs, q)) := hq
    have HN : Hid (N = oneR s val l (txt cs) p q) := by show _ = _; rw [← hN, oneF_ok hq]
    have hsz : (txt cs).size ≤ maxLen := by have := runesBytes_size_le (cs.map fun (n : Nat) => (n : Int)); unfold txt maxLen; simp at this; omega
    obtain ⟨nm, hnm⟩ : ∃ nm, Hid (txt cs = nm) := ⟨_, rfl⟩
    rw [hnm.out] at HN hsz
    have hkey : keyOf Tryz.prog 9 (.string nm) = some (.string nm.data.toList) := Go.WideMaps.keyOf_string_mk Tryz.underlying9 hsz
    have hbl := bl_le s q hqq.2.1
    have hqc : Calls Tryz.prog 101 #[.pointer (some ⟨rb, 0, none⟩)] w (fun e w' => e = .returned (.string nm) ∧ RdAt w' rb s q bad dep ∧ p < q ∧ q ≤ s.size ∧ Fr (Own rb) w w') := (quoted_any _ _ _ _ _ _ rd tb hrb hp hs).mono (fun e w' ho => by have h1 := Out.isOk HQ.out ho; rw [← hnm.out]; exact h1)
    have hq2 : q ≤ s.size := hqq.2.1
    clear hq hN
    cases hdup : l.any (fun y => decide (y.1 = nm)) with
    | true =>
      have HE : Hid (N = .error (p, 6)) := by show _ = _; rw [HN.out, oneR, if_pos hdup]
      clear HN
      go_enter Tryz.func134, Tryz.ntmps134
      go_wp2_with (first
        | (go_at_call 101; refine hqc.mono ?_; rintro e w1 ⟨rfl, rd1, hq1, hq2, f1⟩; have ob1 := ob.keep P f1; obtain ⟨D, om1, hD⟩ := ob1.om; have cm1 : w1.cell? ⟨mp, 0, none⟩ = some (.map (some mb)) := (by simp [World.cell?, ob1.mv]); have hh : Maps.has D (.string nm.data.toList) = true := (hD nm).trans hdup)
        | (at_lookup; refine wpList_lookup_own_ok_int _ rfl _ _ 140 rfl 9 3 .i64 law Tryz.underlying140 Tryz.underlying3 (zero3 _) mb n D rfl om1 _ _ rfl hkey ?_; intro c hat hwc)
        | (go_at_call 71; refine (amiss_any _ _ _).mono ?_; rintro e w4 ⟨rfl, rfl⟩))
      exact panics0 (Out.no HE.out ⟨⟨_, rfl, heap_alloc_new _ _⟩, ob1.fr.trans (Fr.alloc _ _ _)⟩)
    | false =>
      have HM : Hid (N = oneR2 s val l nm q) := by show _ = _; rw [HN.out, oneR, if_neg (by rw [hdup]; decide)]
      clear HN
      by_cases g58 : nx s (bl s q) = 58
      · have hlt58 := lt_of_nx (s := s) (p := bl s q) (by omega)
        have hbl2 := bl_le s (bl s q + 1) hlt58
        cases hval : val (bl s (bl s q + 1)) with
        | error x =>
          have HE : Hid (N = .error (x.1, x.2)) := by show _ = _; rw [HM.out, oneR2, if_pos g58, hval]
          clear HM
          go_enter Tryz.func134, Tryz.ntmps134
          go_wp2_with (first
            | (go_at_call 101; refine hqc.mono ?_; rintro e w1 ⟨rfl, rd1, hq1, hq2, f1⟩; have ob1 := ob.keep P f1; obtain ⟨D, om1, hD⟩ := ob1.om; have cm1 : w1.cell? ⟨mp, 0, none⟩ = some (.map (some mb)) := (by simp [World.cell?, ob1.mv]); have hh : Maps.has D (.string nm.data.toList) = false := (hD nm).trans hdup)
            | (at_lookup; refine wpList_lookup_own_ok_int _ rfl _ _ 140 rfl 9 3 .i64 law Tryz.underlying140 Tryz.underlying3 (zero3 _) mb n D rfl om1 _ _ rfl hkey ?_; intro c hat hwc)
            | (at_mapUpdate; refine wpList_mapUpdate_own _ rfl _ _ _ 140 rfl 9 3 law Tryz.underlying140 _ mb n D rfl om1 (by unfold maxLen; omega) _ _ _ rfl rfl hkey _ [] (plainElem_int Tryz.underlying3 (WalkArith.wf_i64 (by omega))) ?_; intro w2 om2 g2; have ob2 := ob1.put P g2 (NameMap.snoc om1 om2 hD); have rd2 : RdAt w2 rb s q bad dep := rd1.kept (S := fun k => k = mb) (Fr.grown g2 (fun k e _ => by simpa using e.symm)) (by omega); have cr2 : w2.cell? ⟨r1, 0, none⟩ = some (.pointer (some ⟨rb, 0, none⟩)) := (by simp [World.cell?, ob2.rv]))
            | (go_at_call 69; have hh4 := rd4; refine (blanks_any _ _ _ _ _ _ rd4 hlt58 hs2).mono ?_; rintro e w5 ⟨rfl, rd5, f5⟩; have ob5 := ob4.keep P f5)
            | (go_at_call 69; refine (blanks_any _ _ _ _ _ _ rd2 hq2 hs2).mono ?_; rintro e w3 ⟨rfl, rd3, f3⟩; have ob3 := ob2.keep P f3; have cr3 : w3.cell? ⟨r1, 0, none⟩ = some (.pointer (some ⟨rb, 0, none⟩)) := (by simp [World.cell?, ob3.rv]))
            | (go_at_call 129; refine (want_yes _ _ _ _ _ _ 58 rd3 hbl.2 hs2 g58).mono ?_; rintro e w4 ⟨rfl, rd4, f4⟩; have ob4 := ob3.keep P f4; have cr4 : w4.cell? ⟨r1, 0, none⟩ = some (.pointer (some ⟨rb, 0, none⟩)) := (by simp [World.cell?, ob4.rv])))
          have hvA : Calls Tryz.prog 70 #[.pointer (some ⟨rb, 0, none⟩)] w5.drew (Out (val (bl s (bl s q + 1))) (fun x e w' => VOut (fun b => w5.heap.size ≤ b) x.1 e w' ∧ RdAt w' rb s x.2 bad dep ∧ bl s (bl s q + 1) < x.2 ∧ x.2 ≤ s.size ∧ Fr (Own rb) w5 w') (Fr (Own rb) W)) :=
            (hv w5.drew _ rd5 ob5.tb hbl2.2).mono (fun e w' ho => ho.imp (fun x hx => ⟨hx.1, hx.2.1, hx.2.2.1, hx.2.2.2.1, (Fr.drewN _ w5 1).trans hx.2.2.2.2⟩) (fun hk => ob5.fr.trans ((Fr.drewN _ w5 1).trans hk)))
          have hvB : Calls Tryz.prog 70 #[.pointer (some ⟨rb, 0, none⟩)] (w5.alloc (.cells #[.string ⟨#[]⟩, .int .i64 0, .bool false, .int .i64 0, .string ⟨#[]⟩, .slice none 0 0, .slice none 0 0] 54)).drew (Out (val (bl s (bl s q + 1))) (fun x e w' => VOut (fun b => w5.heap.size + 1 ≤ b) x.1 e w' ∧ RdAt w' rb s x.2 bad dep ∧ bl s (bl s q + 1) < x.2 ∧ x.2 ≤ s.size ∧ Fr (Own rb) (w5.alloc (.cells #[.string ⟨#[]⟩, .int .i64 0, .bool false, .int .i64 0, .string ⟨#[]⟩, .slice none 0 0, .slice none 0 0] 54)) w') (Fr (Own rb) W)) :=
            (hv (w5.alloc (.cells #[.string ⟨#[]⟩, .int .i64 0, .bool false, .int .i64 0, .string ⟨#[]⟩, .slice none 0 0, .slice none 0 0] 54)).drew _ (rd5.alloc _) (ob5.tb.alloc _) hbl2.2).mono (fun e w' ho => ho.imp (fun x hx => ⟨hx.1.imp (fun b hb => by simpa using hb), hx.2.1, hx.2.2.1, hx.2.2.2.1, (Fr.drewN _ _ 1).trans hx.2.2.2.2⟩) (fun hk => (ob5.fr.allocNew _).trans ((Fr.drewN _ _ 1).trans hk)))
          rw [hval] at hvA hvB
          have cv := (box6 ob5.hvv).2.2.2.2.2
          have cr : w5.cell? ⟨r1, 0, none⟩ = some (.pointer (some ⟨rb, 0, none⟩)) := by simp [World.cell?, ob5.rv]
          have lrb := rd5.lt
          have lv := lt_of_block ob5.hvv
          have lr := lt_of_block ob5.rv
          clear hv hval HQ hqc rd1 rd2 rd3 rd4 ob ob1 ob2 ob3 ob4 om1 om2 g2 hat hwc
          refine wp_region_any (by kernel_rfl) ?_
          change wpAny _ _ _ _ _ _ _ (World.drew _)
          refine wpAny_take (i := 0) (v := .pointer (some ⟨vb, 5, none⟩)) rfl (by kernel_rfl) (by kernel_rfl) (by kernel_rfl) (fun _ _ _ h => h) (Or.inl ⟨by rfl, fun w => by go_simp⟩) ?_
          try simp only [Act.put, List.setIfInBounds_toArray]
          refine wpAny_take (i := 2) (v := .string nm) rfl (by kernel_rfl) (by kernel_rfl) (by kernel_rfl) (fun _ _ _ h => h) (Or.inl ⟨by rfl, fun w => by go_simp⟩) ?_
          try simp only [Act.put]
          refine wpAny_ready (rs := [1, 3, 7]) (by kernel_rfl) (by simp) ?_
          refine AllReady.cons rfl (fun K hK => ?_) (AllReady.cons rfl (fun K hK => ?_) (AllReady.cons rfl (fun K hK => ?_) (AllReady.nil)))
          · go_simp
            refine hK _ _ ?_
            clear hK K
            refine wpAny_take (i := 6) (v := .int .i64 (n : Int)) rfl (by kernel_rfl) (by kernel_rfl) (by kernel_rfl) (fun _ _ _ h => h) (Or.inl ⟨by rfl, fun w => by go_simp⟩) ?_
            try simp only [Act.put, List.setIfInBounds_toArray]
            refine wpAny_ready (rs := [3, 7]) (by kernel_rfl) (by simp) ?_
            refine AllReady.cons rfl (fun K hK => ?_) (AllReady.cons rfl (fun K hK => ?_) (AllReady.nil))
            · go_simp
              refine hK _ _ ?_
              clear hK K
              refine wpAny_ready (rs := [4, 7]) (by kernel_rfl) (by simp) ?_
              refine AllReady.cons rfl (fun K hK => ?_) (AllReady.cons rfl (fun K hK => ?_) (AllReady.nil))
              · go_simp
                refine hvA.mono ?_
                rintro e w6 ⟨⟨bk, rfl, hbk⟩, f6⟩
                exact panics0 (Out.no HE.out ⟨⟨_, rfl, hbk⟩, f6⟩)
              · go_simp
                refine hK _ _ ?_
                clear hK K
                refine wpAny_ready (rs := [4]) (by kernel_rfl) (by simp) ?_
                refine AllReady.cons rfl (fun K hK => ?_) (AllReady.nil)
                · go_simp
                  refine hvB.mono ?_
                  rintro e w6 ⟨⟨bk, rfl, hbk⟩, f6⟩
                  exact panics0 (Out.no HE.out ⟨⟨_, rfl, hbk⟩, f6⟩)
            · go_simp
              refine hK _ _ ?_
              clear hK K
              refine wpAny_ready (rs := [3]) (by kernel_rfl) (by simp) ?_
              refine AllReady.cons rfl (fun K hK => ?_) (AllReady.nil)
              · go_simp
                refine hK _ _ ?_
                clear hK K
                refine wpAny_ready (rs := [4]) (by kernel_rfl) (by simp) ?_
                refine AllReady.cons rfl (fun K hK => ?_) (AllReady.nil)
                · go_simp
                  refine hvB.mono ?_
                  rintro e w6 ⟨⟨bk, rfl, hbk⟩, f6⟩
                  exact panics0 (Out.no HE.out ⟨⟨_, rfl, hbk⟩, f6⟩)
          · go_simp
            refine hK _ _ ?_
            clear hK K
            refine wpAny_ready (rs := [1, 4, 7]) (by kernel_rfl) (by simp) ?_
            refine AllReady.cons rfl (fun K hK => ?_) (AllReady.cons rfl (fun K hK => ?_) (AllReady.cons rfl (fun K hK => ?_) (AllReady.nil)))
            · go_simp
              refine hK _ _ ?_
              clear hK K
              refine wpAny_take (i := 6) (v := .int .i64 (n : Int)) rfl (by kernel_rfl) (by kernel_rfl) (by kernel_rfl) (fun _ _ _ h => h) (Or.inl ⟨by rfl, fun w => by go_simp⟩) ?_
              try simp only [Act.put, List.setIfInBounds_toArray]
              refine wpAny_ready (rs := [4, 7]) (by kernel_rfl) (by simp) ?_
              refine AllReady.cons rfl (fun K hK => ?_) (AllReady.cons rfl (fun K hK => ?_) (AllReady.nil))
              · go_simp
                refine hvA.mono ?_
                rintro e w6 ⟨⟨bk, rfl, hbk⟩, f6⟩
                exact panics0 (Out.no HE.out ⟨⟨_, rfl, hbk⟩, f6⟩)
              · go_simp
                refine hK _ _ ?_
                clear hK K
                refine wpAny_ready (rs := [4]) (by kernel_rfl) (by simp) ?_
                refine AllReady.cons rfl (fun K hK => ?_) (AllReady.nil)
                · go_simp
                  refine hvB.mono ?_
                  rintro e w6 ⟨⟨bk, rfl, hbk⟩, f6⟩
                  exact panics0 (Out.no HE.out ⟨⟨_, rfl, hbk⟩, f6⟩)
            · go_simp
              refine hvA.mono ?_
              rintro e w6 ⟨⟨bk, rfl, hbk⟩, f6⟩
              exact panics0 (Out.no HE.out ⟨⟨_, rfl, hbk⟩, f6⟩)
            · go_simp
              refine hK _ _ ?_
              clear hK K
              refine wpAny_ready (rs := [1, 4]) (by kernel_rfl) (by simp) ?_
              refine AllReady.cons rfl (fun K hK => ?_) (AllReady.cons rfl (fun K hK => ?_) (AllReady.nil))
              · go_simp
                refine hK _ _ ?_
                clear hK K
                refine wpAny_take (i := 6) (v := .int .i64 (n : Int)) rfl (by kernel_rfl) (by kernel_rfl) (by kernel_rfl) (fun _ _ _ h => h) (Or.inl ⟨by rfl, fun w => by go_simp⟩) ?_
                try simp only [Act.put, List.setIfInBounds_toArray]
                refine wpAny_ready (rs := [4]) (by kernel_rfl) (by simp) ?_
                refine AllReady.cons rfl (fun K hK => ?_) (AllReady.nil)
                · go_simp
                  refine hvB.mono ?_
                  rintro e w6 ⟨⟨bk, rfl, hbk⟩, f6⟩
                  exact panics0 (Out.no HE.out ⟨⟨_, rfl, hbk⟩, f6⟩)
              · go_simp
                refine hvB.mono ?_
                rintro e w6 ⟨⟨bk, rfl, hbk⟩, f6⟩
                exact panics0 (Out.no HE.out ⟨⟨_, rfl, hbk⟩, f6⟩)
          · go_simp
            refine hK _ _ ?_
            clear hK K
            refine wpAny_ready (rs := [1, 3]) (by kernel_rfl) (by simp) ?_
            refine AllReady.cons rfl (fun K hK => ?_) (AllReady.cons rfl (fun K hK => ?_) (AllReady.nil))
            · go_simp
              refine hK _ _ ?_
              clear hK K
              refine wpAny_take (i := 6) (v := .int .i64 (n : Int)) rfl (by kernel_rfl) (by kernel_rfl) (by kernel_rfl) (fun _ _ _ h => h) (Or.inl ⟨by rfl, fun w => by go_simp⟩) ?_
              try simp only [Act.put, List.setIfInBounds_toArray]
              refine wpAny_ready (rs := [3]) (by kernel_rfl) (by simp) ?_
              refine AllReady.cons rfl (fun K hK => ?_) (AllReady.nil)
              · go_simp
                refine hK _ _ ?_
                clear hK K
                refine wpAny_ready (rs := [4]) (by kernel_rfl) (by simp) ?_
                refine AllReady.cons rfl (fun K hK => ?_) (AllReady.nil)
                · go_simp
                  refine hvB.mono ?_
                  rintro e w6 ⟨⟨bk, rfl, hbk⟩, f6⟩
                  exact panics0 (Out.no HE.out ⟨⟨_, rfl, hbk⟩, f6⟩)
            · go_simp
              refine hK _ _ ?_
              clear hK K
              refine wpAny_ready (rs := [1, 4]) (by kernel_rfl) (by simp) ?_
              refine AllReady.cons rfl (fun K hK => ?_) (AllReady.cons rfl (fun K hK => ?_) (AllReady.nil))
              · go_simp
                refine hK _ _ ?_
                clear hK K
                refine wpAny_take (i := 6) (v := .int .i64 (n : Int)) rfl (by kernel_rfl) (by kernel_rfl) (by kernel_rfl) (fun _ _ _ h => h) (Or.inl ⟨by rfl, fun w => by go_simp⟩) ?_
                try simp only [Act.put, List.setIfInBounds_toArray]
                refine wpAny_ready (rs := [4]) (by kernel_rfl) (by simp) ?_
                refine AllReady.cons rfl (fun K hK => ?_) (AllReady.nil)
                · go_simp
                  refine hvB.mono ?_
                  rintro e w6 ⟨⟨bk, rfl, hbk⟩, f6⟩
                  exact panics0 (Out.no HE.out ⟨⟨_, rfl, hbk⟩, f6⟩)
              · go_simp
                refine hvB.mono ?_
                rintro e w6 ⟨⟨bk, rfl, hbk⟩, f6⟩
                exact panics0 (Out.no HE.out ⟨⟨_, rfl, hbk⟩, f6⟩)
        | ok x =>
          obtain ⟨x, q6⟩ := x
          have HE : Hid (N = .ok (l ++ [(nm, x)], q6)) := by show _ = _; rw [HM.out, oneR2, if_pos g58, hval]
          clear HM
          have fin : ∀ (V : World) (sa' : Option Addr) (sc' : Nat) (xs' : List Value) (w' : World), RdAt V rb s q6 bad dep → bl s (bl s q + 1) < q6 → q6 ≤ s.size → OB W rb r1 mp mb vb B (l ++ [(nm, x)]) (l ++ [(nm, GV.mk 0 false 0 ⟨#[]⟩ [] [])]) (n + 1) (n + 1) sa' sc' xs' w' → (∀ j, j < W.heap.size → w'.heap[j]? = V.heap[j]?) →
              Out N (fun x e w' => e = .returned (.tuple #[]) ∧ ObjIs W rb r1 mp mb vb B s bad dep x.1 x.2 w' ∧ p < x.2 ∧ x.2 ≤ s.size) (Fr (Own rb) W) (.returned (.tuple #[])) w' := by
            intro V sa' sc' xs' w' rdV h1 h2 ho hj
            have e1 : (l ++ [(nm, x)]).length = n + 1 := by simp [hn]
            refine Out.yes HE.out ⟨rfl, ⟨?_, by show (l ++ [(nm, x)]).length ≤ q6; rw [e1]; omega, sa', sc', xs', ?_⟩, by show p < q6; omega, h2⟩
            · show RdAt w' rb s q6 bad dep
              unfold RdAt
              rw [hj rb hlow]
              exact rdV
            · show OB W rb r1 mp mb vb B (l ++ [(nm, x)]) (l ++ [(nm, x)]) (l ++ [(nm, x)]).length (l ++ [(nm, x)]).length sa' sc' xs' w'
              rw [e1]
              exact { ho with om := ho.om.congr (fun _ => by simp) }
          go_enter Tryz.func134, Tryz.ntmps134
          go_wp2_with (first
            | (go_at_call 101; refine hqc.mono ?_; rintro e w1 ⟨rfl, rd1, hq1, hq2, f1⟩; have ob1 := ob.keep P f1; obtain ⟨D, om1, hD⟩ := ob1.om; have cm1 : w1.cell? ⟨mp, 0, none⟩ = some (.map (some mb)) := (by simp [World.cell?, ob1.mv]); have hh : Maps.has D (.string nm.data.toList) = false := (hD nm).trans hdup)
            | (at_lookup; refine wpList_lookup_own_ok_int _ rfl _ _ 140 rfl 9 3 .i64 law Tryz.underlying140 Tryz.underlying3 (zero3 _) mb n D rfl om1 _ _ rfl hkey ?_; intro c hat hwc)
            | (at_mapUpdate; refine wpList_mapUpdate_own _ rfl _ _ _ 140 rfl 9 3 law Tryz.underlying140 _ mb n D rfl om1 (by unfold maxLen; omega) _ _ _ rfl rfl hkey _ [] (plainElem_int Tryz.underlying3 (WalkArith.wf_i64 (by omega))) ?_; intro w2 om2 g2; have ob2 := ob1.put P g2 (NameMap.snoc om1 om2 hD); have rd2 : RdAt w2 rb s q bad dep := rd1.kept (S := fun k => k = mb) (Fr.grown g2 (fun k e _ => by simpa using e.symm)) (by omega); have cr2 : w2.cell? ⟨r1, 0, none⟩ = some (.pointer (some ⟨rb, 0, none⟩)) := (by simp [World.cell?, ob2.rv]))
            | (go_at_call 69; have hh4 := rd4; refine (blanks_any _ _ _ _ _ _ rd4 hlt58 hs2).mono ?_; rintro e w5 ⟨rfl, rd5, f5⟩; have ob5 := ob4.keep P f5)
            | (go_at_call 69; refine (blanks_any _ _ _ _ _ _ rd2 hq2 hs2).mono ?_; rintro e w3 ⟨rfl, rd3, f3⟩; have ob3 := ob2.keep P f3; have cr3 : w3.cell? ⟨r1, 0, none⟩ = some (.pointer (some ⟨rb, 0, none⟩)) := (by simp [World.cell?, ob3.rv]))
            | (go_at_call 129; refine (want_yes _ _ _ _ _ _ 58 rd3 hbl.2 hs2 g58).mono ?_; rintro e w4 ⟨rfl, rd4, f4⟩; have ob4 := ob3.keep P f4; have cr4 : w4.cell? ⟨r1, 0, none⟩ = some (.pointer (some ⟨rb, 0, none⟩)) := (by simp [World.cell?, ob4.rv])))
          have hvA : Calls Tryz.prog 70 #[.pointer (some ⟨rb, 0, none⟩)] w5.drew (Out (val (bl s (bl s q + 1))) (fun x e w' => VOut (fun b => w5.heap.size ≤ b) x.1 e w' ∧ RdAt w' rb s x.2 bad dep ∧ bl s (bl s q + 1) < x.2 ∧ x.2 ≤ s.size ∧ Fr (Own rb) w5 w') (Fr (Own rb) W)) :=
            (hv w5.drew _ rd5 ob5.tb hbl2.2).mono (fun e w' ho => ho.imp (fun x hx => ⟨hx.1, hx.2.1, hx.2.2.1, hx.2.2.2.1, (Fr.drewN _ w5 1).trans hx.2.2.2.2⟩) (fun hk => ob5.fr.trans ((Fr.drewN _ w5 1).trans hk)))
          have hvB : Calls Tryz.prog 70 #[.pointer (some ⟨rb, 0, none⟩)] (w5.alloc (.cells #[.string ⟨#[]⟩, .int .i64 0, .bool false, .int .i64 0, .string ⟨#[]⟩, .slice none 0 0, .slice none 0 0] 54)).drew (Out (val (bl s (bl s q + 1))) (fun x e w' => VOut (fun b => w5.heap.size + 1 ≤ b) x.1 e w' ∧ RdAt w' rb s x.2 bad dep ∧ bl s (bl s q + 1) < x.2 ∧ x.2 ≤ s.size ∧ Fr (Own rb) (w5.alloc (.cells #[.string ⟨#[]⟩, .int .i64 0, .bool false, .int .i64 0, .string ⟨#[]⟩, .slice none 0 0, .slice none 0 0] 54)) w') (Fr (Own rb) W)) :=
            (hv (w5.alloc (.cells #[.string ⟨#[]⟩, .int .i64 0, .bool false, .int .i64 0, .string ⟨#[]⟩, .slice none 0 0, .slice none 0 0] 54)).drew _ (rd5.alloc _) (ob5.tb.alloc _) hbl2.2).mono (fun e w' ho => ho.imp (fun x hx => ⟨hx.1.imp (fun b hb => by simpa using hb), hx.2.1, hx.2.2.1, hx.2.2.2.1, (Fr.drewN _ _ 1).trans hx.2.2.2.2⟩) (fun hk => (ob5.fr.allocNew _).trans ((Fr.drewN _ _ 1).trans hk)))
          rw [hval] at hvA hvB
          have cv := (box6 ob5.hvv).2.2.2.2.2
          have cr : w5.cell? ⟨r1, 0, none⟩ = some (.pointer (some ⟨rb, 0, none⟩)) := by simp [World.cell?, ob5.rv]
          have lrb := rd5.lt
          have lv := lt_of_block ob5.hvv
          have lr := lt_of_block ob5.rv
          clear hv hval HQ hqc rd1 rd2 rd3 rd4 ob ob1 ob2 ob3 ob4 om1 om2 g2 hat hwc
          refine wp_region_any (by kernel_rfl) ?_
          change wpAny _ _ _ _ _ _ _ (World.drew _)
          refine wpAny_take (i := 0) (v := .pointer (some ⟨vb, 5, none⟩)) rfl (by kernel_rfl) (by kernel_rfl) (by kernel_rfl) (fun _ _ _ h => h) (Or.inl ⟨by rfl, fun w => by go_simp⟩) ?_
          try simp only [Act.put, List.setIfInBounds_toArray]
          refine wpAny_take (i := 2) (v := .string nm) rfl (by kernel_rfl) (by kernel_rfl) (by kernel_rfl) (fun _ _ _ h => h) (Or.inl ⟨by rfl, fun w => by go_simp⟩) ?_
          try simp only [Act.put]
          refine wpAny_ready (rs := [1, 3, 7]) (by kernel_rfl) (by simp) ?_
          refine AllReady.cons rfl (fun K hK => ?_) (AllReady.cons rfl (fun K hK => ?_) (AllReady.cons rfl (fun K hK => ?_) (AllReady.nil)))
          · go_simp
            refine hK _ _ ?_
            clear hK K
            refine wpAny_take (i := 6) (v := .int .i64 (n : Int)) rfl (by kernel_rfl) (by kernel_rfl) (by kernel_rfl) (fun _ _ _ h => h) (Or.inl ⟨by rfl, fun w => by go_simp⟩) ?_
            try simp only [Act.put, List.setIfInBounds_toArray]
            refine wpAny_ready (rs := [3, 7]) (by kernel_rfl) (by simp) ?_
            refine AllReady.cons rfl (fun K hK => ?_) (AllReady.cons rfl (fun K hK => ?_) (AllReady.nil))
            · go_simp
              refine hK _ _ ?_
              clear hK K
              refine wpAny_ready (rs := [4, 7]) (by kernel_rfl) (by simp) ?_
              refine AllReady.cons rfl (fun K hK => ?_) (AllReady.cons rfl (fun K hK => ?_) (AllReady.nil))
              · go_simp
                refine hvA.mono ?_
                rintro e w6 ⟨⟨k, b, m0, t, a1, l1, c1, a2, l2, c2, rfl, hx⟩, rd6, hq6, hq7, f6⟩
                have ob6 := ob5.keep P f6
                have hx6 := ob5.fresh P hx (fun b hb => hb)
                have lv6 := lt_of_block ob6.hvv; have lr6 := lt_of_block ob6.rv
                have cv6 := (box6 ob6.hvv).2.2.2.2.2
                have cr6 : w6.cell? ⟨r1, 0, none⟩ = some (.pointer (some ⟨rb, 0, none⟩)) := by simp [World.cell?, ob6.rv]
                refine hK _ _ ?_
                clear hK K
                try simp only [Act.put, List.setIfInBounds_toArray, List.set_cons_zero, List.set_cons_succ]
                refine wpAny_take (i := 5) (v := .agg #[.string nm, .int .i64 k, .bool b, .int .i64 m0, .string t, .slice a1 l1 c1, .slice a2 l2 c2]) rfl (by kernel_rfl) (by kernel_rfl) (by kernel_rfl) (fun _ _ _ h => h) (Or.inl ⟨by rfl, fun w => by go_simp⟩) ?_
                try simp only [Act.put, List.setIfInBounds_toArray]
                refine wpAny_ready (rs := [7]) (by kernel_rfl) (by simp) ?_
                refine AllReady.cons rfl (fun K hK => ?_) (AllReady.nil)
                · go_simp
                  refine hK _ _ ?_
                  clear hK K
                  exact tail79 W rb r1 mp mb vb B P l (l ++ [(nm, GV.mk 0 false 0 ⟨#[]⟩ [] [])]) n (n + 1) hn hn5 nm x (w6.alloc _) sa sc xs (ob6.alloc P _) k b m0 t a1 l1 c1 a2 l2 c2 (hx6.conv (fun b hb hl => ⟨hb, (Fr.alloc (fun _ => False) w6 _).block b hl id⟩)) w6.heap.size (heap_alloc_new _ _) _ (fun sa' sc' xs' w' ho hj => fin _ _ _ _ _ (rd6.alloc _) hq6 hq7 ho hj) _ _ _ _ _ _ _ _ _ _ _ _ _ _ _ _ _ _ _ _ _ _ _ _ _ _ _ _ 
              · go_simp
                refine hK _ _ ?_
                clear hK K
                refine wpAny_ready (rs := [4]) (by kernel_rfl) (by simp) ?_
                refine AllReady.cons rfl (fun K hK => ?_) (AllReady.nil)
                · go_simp
                  refine hvB.mono ?_
                  rintro e w6 ⟨⟨k, b, m0, t, a1, l1, c1, a2, l2, c2, rfl, hx⟩, rd6, hq6, hq7, f6⟩
                  have ob6 := ob5.keep P ((Fr.alloc (Own rb) w5 _).trans f6)
                  have hx6 := ob5.fresh P hx (fun b hb => by omega)
                  have lv6 := lt_of_block ob6.hvv; have lr6 := lt_of_block ob6.rv
                  have cv6 := (box6 ob6.hvv).2.2.2.2.2
                  have cr6 : w6.cell? ⟨r1, 0, none⟩ = some (.pointer (some ⟨rb, 0, none⟩)) := by simp [World.cell?, ob6.rv]
                  refine hK _ _ ?_
                  clear hK K
                  try simp only [Act.put, List.setIfInBounds_toArray, List.set_cons_zero, List.set_cons_succ]
                  refine wpAny_take (i := 5) (v := .agg #[.string nm, .int .i64 k, .bool b, .int .i64 m0, .string t, .slice a1 l1 c1, .slice a2 l2 c2]) rfl (by kernel_rfl) (by kernel_rfl) (by kernel_rfl) (fun _ _ _ h => h) (Or.inl ⟨by rfl, fun w => by go_simp⟩) ?_
                  try simp only [Act.put, List.setIfInBounds_toArray]
                  exact tail79 W rb r1 mp mb vb B P l (l ++ [(nm, GV.mk 0 false 0 ⟨#[]⟩ [] [])]) n (n + 1) hn hn5 nm x w6 sa sc xs ob6 k b m0 t a1 l1 c1 a2 l2 c2 hx6 w5.heap.size ((f6.block _ (by simp) (by show ¬ _ = _; omega)).trans (heap_alloc_new _ _)) _ (fun sa' sc' xs' w' ho hj => fin _ _ _ _ _ rd6 hq6 hq7 ho hj) _ _ _ _ _ _ _ _ _ _ _ _ _ _ _ _ _ _ _ _ _ _ _ _ _ _ _ _ 
            · go_simp
              refine hK _ _ ?_
              clear hK K
              refine wpAny_ready (rs := [3]) (by kernel_rfl) (by simp) ?_
              refine AllReady.cons rfl (fun K hK => ?_) (AllReady.nil)
              · go_simp
                refine hK _ _ ?_
                clear hK K
                refine wpAny_ready (rs := [4]) (by kernel_rfl) (by simp) ?_
                refine AllReady.cons rfl (fun K hK => ?_) (AllReady.nil)
                · go_simp
                  refine hvB.mono ?_
                  rintro e w6 ⟨⟨k, b, m0, t, a1, l1, c1, a2, l2, c2, rfl, hx⟩, rd6, hq6, hq7, f6⟩
                  have ob6 := ob5.keep P ((Fr.alloc (Own rb) w5 _).trans f6)
                  have hx6 := ob5.fresh P hx (fun b hb => by omega)
                  have lv6 := lt_of_block ob6.hvv; have lr6 := lt_of_block ob6.rv
                  have cv6 := (box6 ob6.hvv).2.2.2.2.2
                  have cr6 : w6.cell? ⟨r1, 0, none⟩ = some (.pointer (some ⟨rb, 0, none⟩)) := by simp [World.cell?, ob6.rv]
                  refine hK _ _ ?_
                  clear hK K
                  try simp only [Act.put, List.setIfInBounds_toArray, List.set_cons_zero, List.set_cons_succ]
                  refine wpAny_take (i := 5) (v := .agg #[.string nm, .int .i64 k, .bool b, .int .i64 m0, .string t, .slice a1 l1 c1, .slice a2 l2 c2]) rfl (by kernel_rfl) (by kernel_rfl) (by kernel_rfl) (fun _ _ _ h => h) (Or.inl ⟨by rfl, fun w => by go_simp⟩) ?_
                  try simp only [Act.put, List.setIfInBounds_toArray]
                  exact tail79 W rb r1 mp mb vb B P l (l ++ [(nm, GV.mk 0 false 0 ⟨#[]⟩ [] [])]) n (n + 1) hn hn5 nm x w6 sa sc xs ob6 k b m0 t a1 l1 c1 a2 l2 c2 hx6 w5.heap.size ((f6.block _ (by simp) (by show ¬ _ = _; omega)).trans (heap_alloc_new _ _)) _ (fun sa' sc' xs' w' ho hj => fin _ _ _ _ _ rd6 hq6 hq7 ho hj) _ _ _ _ _ _ _ _ _ _ _ _ _ _ _ _ _ _ _ _ _ _ _ _ _ _ _ _ 
          · go_simp
            refine hK _ _ ?_
            clear hK K
            refine wpAny_ready (rs := [1, 4, 7]) (by kernel_rfl) (by simp) ?_
            refine AllReady.cons rfl (fun K hK => ?_) (AllReady.cons rfl (fun K hK => ?_) (AllReady.cons rfl (fun K hK => ?_) (AllReady.nil)))
            · go_simp
              refine hK _ _ ?_
              clear hK K
              refine wpAny_take (i := 6) (v := .int .i64 (n : Int)) rfl (by kernel_rfl) (by kernel_rfl) (by kernel_rfl) (fun _ _ _ h => h) (Or.inl ⟨by rfl, fun w => by go_simp⟩) ?_
              try simp only [Act.put, List.setIfInBounds_toArray]
              refine wpAny_ready (rs := [4, 7]) (by kernel_rfl) (by simp) ?_
              refine AllReady.cons rfl (fun K hK => ?_) (AllReady.cons rfl (fun K hK => ?_) (AllReady.nil))
              · go_simp
                refine hvA.mono ?_
                rintro e w6 ⟨⟨k, b, m0, t, a1, l1, c1, a2, l2, c2, rfl, hx⟩, rd6, hq6, hq7, f6⟩
                have ob6 := ob5.keep P f6
                have hx6 := ob5.fresh P hx (fun b hb => hb)
                have lv6 := lt_of_block ob6.hvv; have lr6 := lt_of_block ob6.rv
                have cv6 := (box6 ob6.hvv).2.2.2.2.2
                have cr6 : w6.cell? ⟨r1, 0, none⟩ = some (.pointer (some ⟨rb, 0, none⟩)) := by simp [World.cell?, ob6.rv]
                refine hK _ _ ?_
                clear hK K
                try simp only [Act.put, List.setIfInBounds_toArray, List.set_cons_zero, List.set_cons_succ]
                refine wpAny_take (i := 5) (v := .agg #[.string nm, .int .i64 k, .bool b, .int .i64 m0, .string t, .slice a1 l1 c1, .slice a2 l2 c2]) rfl (by kernel_rfl) (by kernel_rfl) (by kernel_rfl) (fun _ _ _ h => h) (Or.inl ⟨by rfl, fun w => by go_simp⟩) ?_
                try simp only [Act.put, List.setIfInBounds_toArray]
                refine wpAny_ready (rs := [7]) (by kernel_rfl) (by simp) ?_
                refine AllReady.cons rfl (fun K hK => ?_) (AllReady.nil)
                · go_simp
                  refine hK _ _ ?_
                  clear hK K
                  exact tail79 W rb r1 mp mb vb B P l (l ++ [(nm, GV.mk 0 false 0 ⟨#[]⟩ [] [])]) n (n + 1) hn hn5 nm x (w6.alloc _) sa sc xs (ob6.alloc P _) k b m0 t a1 l1 c1 a2 l2 c2 (hx6.conv (fun b hb hl => ⟨hb, (Fr.alloc (fun _ => False) w6 _).block b hl id⟩)) w6.heap.size (heap_alloc_new _ _) _ (fun sa' sc' xs' w' ho hj => fin _ _ _ _ _ (rd6.alloc _) hq6 hq7 ho hj) _ _ _ _ _ _ _ _ _ _ _ _ _ _ _ _ _ _ _ _ _ _ _ _ _ _ _ _ 
              · go_simp
                refine hK _ _ ?_
                clear hK K
                refine wpAny_ready (rs := [4]) (by kernel_rfl) (by simp) ?_
                refine AllReady.cons rfl (fun K hK => ?_) (AllReady.nil)
                · go_simp
                  refine hvB.mono ?_
                  rintro e w6 ⟨⟨k, b, m0, t, a1, l1, c1, a2, l2, c2, rfl, hx⟩, rd6, hq6, hq7, f6⟩
                  have ob6 := ob5.keep P ((Fr.alloc (Own rb) w5 _).trans f6)
                  have hx6 := ob5.fresh P hx (fun b hb => by omega)
                  have lv6 := lt_of_block ob6.hvv; have lr6 := lt_of_block ob6.rv
                  have cv6 := (box6 ob6.hvv).2.2.2.2.2
                  have cr6 : w6.cell? ⟨r1, 0, none⟩ = some (.pointer (some ⟨rb, 0, none⟩)) := by simp [World.cell?, ob6.rv]
                  refine hK _ _ ?_
                  clear hK K
                  try simp only [Act.put, List.setIfInBounds_toArray, List.set_cons_zero, List.set_cons_succ]
                  refine wpAny_take (i := 5) (v := .agg #[.string nm, .int .i64 k, .bool b, .int .i64 m0, .string t, .slice a1 l1 c1, .slice a2 l2 c2]) rfl (by kernel_rfl) (by kernel_rfl) (by kernel_rfl) (fun _ _ _ h => h) (Or.inl ⟨by rfl, fun w => by go_simp⟩) ?_
                  try simp only [Act.put, List.setIfInBounds_toArray]
                  exact tail79 W rb r1 mp mb vb B P l (l ++ [(nm, GV.mk 0 false 0 ⟨#[]⟩ [] [])]) n (n + 1) hn hn5 nm x w6 sa sc xs ob6 k b m0 t a1 l1 c1 a2 l2 c2 hx6 w5.heap.size ((f6.block _ (by simp) (by show ¬ _ = _; omega)).trans (heap_alloc_new _ _)) _ (fun sa' sc' xs' w' ho hj => fin _ _ _ _ _ rd6 hq6 hq7 ho hj) _ _ _ _ _ _ _ _ _ _ _ _ _ _ _ _ _ _ _ _ _ _ _ _ _ _ _ _ 
            · go_simp
              refine hvA.mono ?_
              rintro e w6 ⟨⟨k, b, m0, t, a1, l1, c1, a2, l2, c2, rfl, hx⟩, rd6, hq6, hq7, f6⟩
              have ob6 := ob5.keep P f6
              have hx6 := ob5.fresh P hx (fun b hb => hb)
              have lv6 := lt_of_block ob6.hvv; have lr6 := lt_of_block ob6.rv
              have cv6 := (box6 ob6.hvv).2.2.2.2.2
              have cr6 : w6.cell? ⟨r1, 0, none⟩ = some (.pointer (some ⟨rb, 0, none⟩)) := by simp [World.cell?, ob6.rv]
              refine hK _ _ ?_
              clear hK K
              try simp only [Act.put, List.setIfInBounds_toArray, List.set_cons_zero, List.set_cons_succ]
              refine wpAny_take (i := 5) (v := .agg #[.string nm, .int .i64 k, .bool b, .int .i64 m0, .string t, .slice a1 l1 c1, .slice a2 l2 c2]) rfl (by kernel_rfl) (by kernel_rfl) (by kernel_rfl) (fun _ _ _ h => h) (Or.inl ⟨by rfl, fun w => by go_simp⟩) ?_
              try simp only [Act.put, List.setIfInBounds_toArray]
              refine wpAny_ready (rs := [1, 7]) (by kernel_rfl) (by simp) ?_
              refine AllReady.cons rfl (fun K hK => ?_) (AllReady.cons rfl (fun K hK => ?_) (AllReady.nil))
              · go_simp
                refine hK _ _ ?_
                clear hK K
                refine wpAny_take (i := 6) (v := .int .i64 (n : Int)) rfl (by kernel_rfl) (by kernel_rfl) (by kernel_rfl) (fun _ _ _ h => h) (Or.inl ⟨by rfl, fun w => by go_simp⟩) ?_
                try simp only [Act.put, List.setIfInBounds_toArray]
                refine wpAny_ready (rs := [7]) (by kernel_rfl) (by simp) ?_
                refine AllReady.cons rfl (fun K hK => ?_) (AllReady.nil)
                · go_simp
                  refine hK _ _ ?_
                  clear hK K
                  exact tail79 W rb r1 mp mb vb B P l (l ++ [(nm, GV.mk 0 false 0 ⟨#[]⟩ [] [])]) n (n + 1) hn hn5 nm x (w6.alloc _) sa sc xs (ob6.alloc P _) k b m0 t a1 l1 c1 a2 l2 c2 (hx6.conv (fun b hb hl => ⟨hb, (Fr.alloc (fun _ => False) w6 _).block b hl id⟩)) w6.heap.size (heap_alloc_new _ _) _ (fun sa' sc' xs' w' ho hj => fin _ _ _ _ _ (rd6.alloc _) hq6 hq7 ho hj) _ _ _ _ _ _ _ _ _ _ _ _ _ _ _ _ _ _ _ _ _ _ _ _ _ _ _ _ 
              · go_simp
                refine hK _ _ ?_
                clear hK K
                refine wpAny_ready (rs := [1]) (by kernel_rfl) (by simp) ?_
                refine AllReady.cons rfl (fun K hK => ?_) (AllReady.nil)
                · go_simp
                  refine hK _ _ ?_
                  clear hK K
                  refine wpAny_take (i := 6) (v := .int .i64 (n : Int)) rfl (by kernel_rfl) (by kernel_rfl) (by kernel_rfl) (fun _ _ _ h => h) (Or.inl ⟨by rfl, fun w => by go_simp⟩) ?_
                  try simp only [Act.put, List.setIfInBounds_toArray]
                  exact tail79 W rb r1 mp mb vb B P l (l ++ [(nm, GV.mk 0 false 0 ⟨#[]⟩ [] [])]) n (n + 1) hn hn5 nm x (w6.alloc _) sa sc xs (ob6.alloc P _) k b m0 t a1 l1 c1 a2 l2 c2 (hx6.conv (fun b hb hl => ⟨hb, (Fr.alloc (fun _ => False) w6 _).block b hl id⟩)) w6.heap.size (heap_alloc_new _ _) _ (fun sa' sc' xs' w' ho hj => fin _ _ _ _ _ (rd6.alloc _) hq6 hq7 ho hj) _ _ _ _ _ _ _ _ _ _ _ _ _ _ _ _ _ _ _ _ _ _ _ _ _ _ _ _ 
            · go_simp
              refine hK _ _ ?_
              clear hK K
              refine wpAny_ready (rs := [1, 4]) (by kernel_rfl) (by simp) ?_
              refine AllReady.cons rfl (fun K hK => ?_) (AllReady.cons rfl (fun K hK => ?_) (AllReady.nil))
              · go_simp
                refine hK _ _ ?_
                clear hK K
                refine wpAny_take (i := 6) (v := .int .i64 (n : Int)) rfl (by kernel_rfl) (by kernel_rfl) (by kernel_rfl) (fun _ _ _ h => h) (Or.inl ⟨by rfl, fun w => by go_simp⟩) ?_
                try simp only [Act.put, List.setIfInBounds_toArray]
                refine wpAny_ready (rs := [4]) (by kernel_rfl) (by simp) ?_
                refine AllReady.cons rfl (fun K hK => ?_) (AllReady.nil)
                · go_simp
                  refine hvB.mono ?_
                  rintro e w6 ⟨⟨k, b, m0, t, a1, l1, c1, a2, l2, c2, rfl, hx⟩, rd6, hq6, hq7, f6⟩
                  have ob6 := ob5.keep P ((Fr.alloc (Own rb) w5 _).trans f6)
                  have hx6 := ob5.fresh P hx (fun b hb => by omega)
                  have lv6 := lt_of_block ob6.hvv; have lr6 := lt_of_block ob6.rv
                  have cv6 := (box6 ob6.hvv).2.2.2.2.2
                  have cr6 : w6.cell? ⟨r1, 0, none⟩ = some (.pointer (some ⟨rb, 0, none⟩)) := by simp [World.cell?, ob6.rv]
                  refine hK _ _ ?_
                  clear hK K
                  try simp only [Act.put, List.setIfInBounds_toArray, List.set_cons_zero, List.set_cons_succ]
                  refine wpAny_take (i := 5) (v := .agg #[.string nm, .int .i64 k, .bool b, .int .i64 m0, .string t, .slice a1 l1 c1, .slice a2 l2 c2]) rfl (by kernel_rfl) (by kernel_rfl) (by kernel_rfl) (fun _ _ _ h => h) (Or.inl ⟨by rfl, fun w => by go_simp⟩) ?_
                  try simp only [Act.put, List.setIfInBounds_toArray]
                  exact tail79 W rb r1 mp mb vb B P l (l ++ [(nm, GV.mk 0 false 0 ⟨#[]⟩ [] [])]) n (n + 1) hn hn5 nm x w6 sa sc xs ob6 k b m0 t a1 l1 c1 a2 l2 c2 hx6 w5.heap.size ((f6.block _ (by simp) (by show ¬ _ = _; omega)).trans (heap_alloc_new _ _)) _ (fun sa' sc' xs' w' ho hj => fin _ _ _ _ _ rd6 hq6 hq7 ho hj) _ _ _ _ _ _ _ _ _ _ _ _ _ _ _ _ _ _ _ _ _ _ _ _ _ _ _ _ 
              · go_simp
                refine hvB.mono ?_
                rintro e w6 ⟨⟨k, b, m0, t, a1, l1, c1, a2, l2, c2, rfl, hx⟩, rd6, hq6, hq7, f6⟩
                have ob6 := ob5.keep P ((Fr.alloc (Own rb) w5 _).trans f6)
                have hx6 := ob5.fresh P hx (fun b hb => by omega)
                have lv6 := lt_of_block ob6.hvv; have lr6 := lt_of_block ob6.rv
                have cv6 := (box6 ob6.hvv).2.2.2.2.2
                have cr6 : w6.cell? ⟨r1, 0, none⟩ = some (.pointer (some ⟨rb, 0, none⟩)) := by simp [World.cell?, ob6.rv]
                refine hK _ _ ?_
                clear hK K
                try simp only [Act.put, List.setIfInBounds_toArray, List.set_cons_zero, List.set_cons_succ]
                refine wpAny_take (i := 5) (v := .agg #[.string nm, .int .i64 k, .bool b, .int .i64 m0, .string t, .slice a1 l1 c1, .slice a2 l2 c2]) rfl (by kernel_rfl) (by kernel_rfl) (by kernel_rfl) (fun _ _ _ h => h) (Or.inl ⟨by rfl, fun w => by go_simp⟩) ?_
                try simp only [Act.put, List.setIfInBounds_toArray]
                refine wpAny_ready (rs := [1]) (by kernel_rfl) (by simp) ?_
                refine AllReady.cons rfl (fun K hK => ?_) (AllReady.nil)
                · go_simp
                  refine hK _ _ ?_
                  clear hK K
                  refine wpAny_take (i := 6) (v := .int .i64 (n : Int)) rfl (by kernel_rfl) (by kernel_rfl) (by kernel_rfl) (fun _ _ _ h => h) (Or.inl ⟨by rfl, fun w => by go_simp⟩) ?_
                  try simp only [Act.put, List.setIfInBounds_toArray]
                  exact tail79 W rb r1 mp mb vb B P l (l ++ [(nm, GV.mk 0 false 0 ⟨#[]⟩ [] [])]) n (n + 1) hn hn5 nm x w6 sa sc xs ob6 k b m0 t a1 l1 c1 a2 l2 c2 hx6 w5.heap.size ((f6.block _ (by simp) (by show ¬ _ = _; omega)).trans (heap_alloc_new _ _)) _ (fun sa' sc' xs' w' ho hj => fin _ _ _ _ _ rd6 hq6 hq7 ho hj) _ _ _ _ _ _ _ _ _ _ _ _ _ _ _ _ _ _ _ _ _ _ _ _ _ _ _ _ 
          · go_simp
            refine hK _ _ ?_
            clear hK K
            refine wpAny_ready (rs := [1, 3]) (by kernel_rfl) (by simp) ?_
            refine AllReady.cons rfl (fun K hK => ?_) (AllReady.cons rfl (fun K hK => ?_) (AllReady.nil))
            · go_simp
              refine hK _ _ ?_
              clear hK K
              refine wpAny_take (i := 6) (v := .int .i64 (n : Int)) rfl (by kernel_rfl) (by kernel_rfl) (by kernel_rfl) (fun _ _ _ h => h) (Or.inl ⟨by rfl, fun w => by go_simp⟩) ?_
              try simp only [Act.put, List.setIfInBounds_toArray]
              refine wpAny_ready (rs := [3]) (by kernel_rfl) (by simp) ?_
              refine AllReady.cons rfl (fun K hK => ?_) (AllReady.nil)
              · go_simp
                refine hK _ _ ?_
                clear hK K
                refine wpAny_ready (rs := [4]) (by kernel_rfl) (by simp) ?_
                refine AllReady.cons rfl (fun K hK => ?_) (AllReady.nil)
                · go_simp
                  refine hvB.mono ?_
                  rintro e w6 ⟨⟨k, b, m0, t, a1, l1, c1, a2, l2, c2, rfl, hx⟩, rd6, hq6, hq7, f6⟩
                  have ob6 := ob5.keep P ((Fr.alloc (Own rb) w5 _).trans f6)
                  have hx6 := ob5.fresh P hx (fun b hb => by omega)
                  have lv6 := lt_of_block ob6.hvv; have lr6 := lt_of_block ob6.rv
                  have cv6 := (box6 ob6.hvv).2.2.2.2.2
                  have cr6 : w6.cell? ⟨r1, 0, none⟩ = some (.pointer (some ⟨rb, 0, none⟩)) := by simp [World.cell?, ob6.rv]
                  refine hK _ _ ?_
                  clear hK K
                  try simp only [Act.put, List.setIfInBounds_toArray, List.set_cons_zero, List.set_cons_succ]
                  refine wpAny_take (i := 5) (v := .agg #[.string nm, .int .i64 k, .bool b, .int .i64 m0, .string t, .slice a1 l1 c1, .slice a2 l2 c2]) rfl (by kernel_rfl) (by kernel_rfl) (by kernel_rfl) (fun _ _ _ h => h) (Or.inl ⟨by rfl, fun w => by go_simp⟩) ?_
                  try simp only [Act.put, List.setIfInBounds_toArray]
                  exact tail79 W rb r1 mp mb vb B P l (l ++ [(nm, GV.mk 0 false 0 ⟨#[]⟩ [] [])]) n (n + 1) hn hn5 nm x w6 sa sc xs ob6 k b m0 t a1 l1 c1 a2 l2 c2 hx6 w5.heap.size ((f6.block _ (by simp) (by show ¬ _ = _; omega)).trans (heap_alloc_new _ _)) _ (fun sa' sc' xs' w' ho hj => fin _ _ _ _ _ rd6 hq6 hq7 ho hj) _ _ _ _ _ _ _ _ _ _ _ _ _ _ _ _ _ _ _ _ _ _ _ _ _ _ _ _ 
            · go_simp
              refine hK _ _ ?_
              clear hK K
              refine wpAny_ready (rs := [1, 4]) (by kernel_rfl) (by simp) ?_
              refine AllReady.cons rfl (fun K hK => ?_) (AllReady.cons rfl (fun K hK => ?_) (AllReady.nil))
              · go_simp
                refine hK _ _ ?_
                clear hK K
                refine wpAny_take (i := 6) (v := .int .i64 (n : Int)) rfl (by kernel_rfl) (by kernel_rfl) (by kernel_rfl) (fun _ _ _ h => h) (Or.inl ⟨by rfl, fun w => by go_simp⟩) ?_
                try simp only [Act.put, List.setIfInBounds_toArray]
                refine wpAny_ready (rs := [4]) (by kernel_rfl) (by simp) ?_
                refine AllReady.cons rfl (fun K hK => ?_) (AllReady.nil)
                · go_simp
                  refine hvB.mono ?_
                  rintro e w6 ⟨⟨k, b, m0, t, a1, l1, c1, a2, l2, c2, rfl, hx⟩, rd6, hq6, hq7, f6⟩
                  have ob6 := ob5.keep P ((Fr.alloc (Own rb) w5 _).trans f6)
                  have hx6 := ob5.fresh P hx (fun b hb => by omega)
                  have lv6 := lt_of_block ob6.hvv; have lr6 := lt_of_block ob6.rv
                  have cv6 := (box6 ob6.hvv).2.2.2.2.2
                  have cr6 : w6.cell? ⟨r1, 0, none⟩ = some (.pointer (some ⟨rb, 0, none⟩)) := by simp [World.cell?, ob6.rv]
                  refine hK _ _ ?_
                  clear hK K
                  try simp only [Act.put, List.setIfInBounds_toArray, List.set_cons_zero, List.set_cons_succ]
                  refine wpAny_take (i := 5) (v := .agg #[.string nm, .int .i64 k, .bool b, .int .i64 m0, .string t, .slice a1 l1 c1, .slice a2 l2 c2]) rfl (by kernel_rfl) (by kernel_rfl) (by kernel_rfl) (fun _ _ _ h => h) (Or.inl ⟨by rfl, fun w => by go_simp⟩) ?_
                  try simp only [Act.put, List.setIfInBounds_toArray]
                  exact tail79 W rb r1 mp mb vb B P l (l ++ [(nm, GV.mk 0 false 0 ⟨#[]⟩ [] [])]) n (n + 1) hn hn5 nm x w6 sa sc xs ob6 k b m0 t a1 l1 c1 a2 l2 c2 hx6 w5.heap.size ((f6.block _ (by simp) (by show ¬ _ = _; omega)).trans (heap_alloc_new _ _)) _ (fun sa' sc' xs' w' ho hj => fin _ _ _ _ _ rd6 hq6 hq7 ho hj) _ _ _ _ _ _ _ _ _ _ _ _ _ _ _ _ _ _ _ _ _ _ _ _ _ _ _ _ 
              · go_simp
                refine hvB.mono ?_
                rintro e w6 ⟨⟨k, b, m0, t, a1, l1, c1, a2, l2, c2, rfl, hx⟩, rd6, hq6, hq7, f6⟩
                have ob6 := ob5.keep P ((Fr.alloc (Own rb) w5 _).trans f6)
                have hx6 := ob5.fresh P hx (fun b hb => by omega)
                have lv6 := lt_of_block ob6.hvv; have lr6 := lt_of_block ob6.rv
                have cv6 := (box6 ob6.hvv).2.2.2.2.2
                have cr6 : w6.cell? ⟨r1, 0, none⟩ = some (.pointer (some ⟨rb, 0, none⟩)) := by simp [World.cell?, ob6.rv]
                refine hK _ _ ?_
                clear hK K
                try simp only [Act.put, List.setIfInBounds_toArray, List.set_cons_zero, List.set_cons_succ]
                refine wpAny_take (i := 5) (v := .agg #[.string nm, .int .i64 k, .bool b, .int .i64 m0, .string t, .slice a1 l1 c1, .slice a2 l2 c2]) rfl (by kernel_rfl) (by kernel_rfl) (by kernel_rfl) (fun _ _ _ h => h) (Or.inl ⟨by rfl, fun w => by go_simp⟩) ?_
                try simp only [Act.put, List.setIfInBounds_toArray]
                refine wpAny_ready (rs := [1]) (by kernel_rfl) (by simp) ?_
                refine AllReady.cons rfl (fun K hK => ?_) (AllReady.nil)
                · go_simp
                  refine hK _ _ ?_
                  clear hK K
                  refine wpAny_take (i := 6) (v := .int .i64 (n : Int)) rfl (by kernel_rfl) (by kernel_rfl) (by kernel_rfl) (fun _ _ _ h => h) (Or.inl ⟨by rfl, fun w => by go_simp⟩) ?_
                  try simp only [Act.put, List.setIfInBounds_toArray]
                  exact tail79 W rb r1 mp mb vb B P l (l ++ [(nm, GV.mk 0 false 0 ⟨#[]⟩ [] [])]) n (n + 1) hn hn5 nm x w6 sa sc xs ob6 k b m0 t a1 l1 c1 a2 l2 c2 hx6 w5.heap.size ((f6.block _ (by simp) (by show ¬ _ = _; omega)).trans (heap_alloc_new _ _)) _ (fun sa' sc' xs' w' ho hj => fin _ _ _ _ _ rd6 hq6 hq7 ho hj) _ _ _ _ _ _ _ _ _ _ _ _ _ _ _ _ _ _ _ _ _ _ _ _ _ _ _ _ 
      · have HE : Hid (N = .error (bl s q, 3)) := by show _ = _; rw [HM.out, oneR2, if_neg g58]
        clear HM
        go_enter Tryz.func134, Tryz.ntmps134
        go_wp2_with (first
          | (go_at_call 101; refine hqc.mono ?_; rintro e w1 ⟨rfl, rd1, hq1, hq2, f1⟩; have ob1 := ob.keep P f1; obtain ⟨D, om1, hD⟩ := ob1.om; have cm1 : w1.cell? ⟨mp, 0, none⟩ = some (.map (some mb)) := (by simp [World.cell?, ob1.mv]); have hh : Maps.has D (.string nm.data.toList) = false := (hD nm).trans hdup)
          | (at_lookup; refine wpList_lookup_own_ok_int _ rfl _ _ 140 rfl 9 3 .i64 law Tryz.underlying140 Tryz.underlying3 (zero3 _) mb n D rfl om1 _ _ rfl hkey ?_; intro c hat hwc)
          | (at_mapUpdate; refine wpList_mapUpdate_own _ rfl _ _ _ 140 rfl 9 3 law Tryz.underlying140 _ mb n D rfl om1 (by unfold maxLen; omega) _ _ _ rfl rfl hkey _ [] (plainElem_int Tryz.underlying3 (WalkArith.wf_i64 (by omega))) ?_; intro w2 om2 g2; have ob2 := ob1.put P g2 (NameMap.snoc om1 om2 hD); have rd2 : RdAt w2 rb s q bad dep := rd1.kept (S := fun k => k = mb) (Fr.grown g2 (fun k e _ => by simpa using e.symm)) (by omega); have cr2 : w2.cell? ⟨r1, 0, none⟩ = some (.pointer (some ⟨rb, 0, none⟩)) := (by simp [World.cell?, ob2.rv]))
          | (go_at_call 69; refine (blanks_any _ _ _ _ _ _ rd2 hq2 hs2).mono ?_; rintro e w3 ⟨rfl, rd3, f3⟩; have ob3 := ob2.keep P f3; have cr3 : w3.cell? ⟨r1, 0, none⟩ = some (.pointer (some ⟨rb, 0, none⟩)) := (by simp [World.cell?, ob3.rv]))
          | (go_at_call 129; refine (want_no _ _ _ _ _ _ 58 rd3 hbl.2 hs2 g58).mono ?_; rintro e w4 ⟨⟨bk, rfl, hbk⟩, f4⟩))
        exact panics0 (Out.no HE.out ⟨⟨_, rfl, hbk⟩, ob3.fr.trans f4⟩)
end Go.Proofs.YtiakidomcjpdhaaGreatDoor
