/- How events and values lie in memory. -/
import Derived.Test.YthplcnbfpcndbaaGreatDoorBx
import Derived.Test.YthplcnbfpcndbaaGreatDoorMd
namespace Go.Proofs.YthplcnbfpcndbaaGreatDoor
open Go.RowKit

/-- The cells of the one lie in the other from f on. -/
def In (D C : Array Value) (f : Nat) : Prop := ∀ (j : Nat) v, D[j]? = some v → C[f + j]? = some v
mutual
/-- Six cells hold a value. -/
def LaidV (w : World) : GV → Array Value → Prop
  | .mk k n t f, D => D.size = 6 ∧ D.all (·.oneCell') = true ∧ D[0]? = some (.int .i64 k) ∧ D[2]? = some (.int .i64 n) ∧ D[3]? = some (.string t) ∧ Lit.wf (.int .i64 n) ∧ t.size ≤ 1048576 ∧ f.length ≤ 1048576 ∧ ∃ a c, D[5]? = some (.slice a f.length c) ∧ LaidF w a 0 f
def LaidF (w : World) (a : Option Addr) : Nat → List (ByteArray × GV) → Prop
  | _, [] => True
  | i, x :: r => LaidP w a i x ∧ LaidF w a (i + 1) r
def LaidP (w : World) (a : Option Addr) : Nat → ByteArray × GV → Prop
  | i, (nm, x) => ∃ b off E, a = some ⟨b, off, none⟩ ∧ E.size = 7 ∧ E.all (·.oneCell') = true ∧ w.rangeAt b (off + i * 7) E.toList ∧ E[0]? = some (.string nm) ∧ nm.size ≤ 1048576 ∧ ∃ D, LaidV w x D ∧ In D E 1
end
theorem block_lt {w : World} {b o : Nat} {cs : List Value} (h : w.rangeAt b o cs) (hl : 0 < cs.length) : b < w.heap.size :=
  World.block_lt_of_cell? w _ (h 0 _ (List.getElem?_eq_getElem hl))
theorem range_below {w w' : World} (hb : Below w.heap.size w w') {b o : Nat} {cs : List Value} (h : w.rangeAt b o cs) : w'.rangeAt b o cs := fun j v hv => by
  rw [hb.cell (World.block_lt_of_cell? w _ (h j v hv))]
  exact h j v hv
mutual
theorem LaidV.below {w w' : World} (hb : Below w.heap.size w w') : ∀ {x : GV} {D : Array Value}, LaidV w x D → LaidV w' x D
  | .mk k n t f, D, h => by
    unfold LaidV at h ⊢
    obtain ⟨h1, h2, h3, h4, h5, h6, h7, h8, a, c, h9, h10⟩ := h
    exact ⟨h1, h2, h3, h4, h5, h6, h7, h8, a, c, h9, LaidF.below hb h10⟩
theorem LaidF.below {w w' : World} (hb : Below w.heap.size w w') {a : Option Addr} : ∀ {i : Nat} {f : List (ByteArray × GV)}, LaidF w a i f → LaidF w' a i f
  | i, [], h => by unfold LaidF; trivial
  | i, x :: r, h => by
    unfold LaidF at h ⊢
    exact ⟨LaidP.below hb h.1, LaidF.below hb h.2⟩
theorem LaidP.below {w w' : World} (hb : Below w.heap.size w w') {a : Option Addr} : ∀ {i : Nat} {x : ByteArray × GV}, LaidP w a i x → LaidP w' a i x
  | i, (nm, x), h => by
    unfold LaidP at h ⊢
    obtain ⟨b, off, E, h1, h2, h3, h4, h5, h6, D, h7, h8⟩ := h
    exact ⟨b, off, E, h1, h2, h3, range_below hb h4, h5, h6, D, LaidV.below hb h7, h8⟩
end
/-- What a value's cells hold. -/
structure VC (w : World) (v : GV) (D : Array Value) : Prop where
  sz : D.size = 6
  one : D.all (·.oneCell') = true
  i0 : D[0]? = some (.int .i64 v.k)
  i2 : D[2]? = some (.int .i64 v.n)
  i3 : D[3]? = some (.string v.t)
  wf : Lit.wf (.int .i64 v.n)
  ts : v.t.size ≤ 1048576
  fs : v.f.length ≤ 1048576
  fl : ∃ a c, D[5]? = some (.slice a v.f.length c) ∧ LaidF w a 0 v.f
theorem LaidV.vc {w : World} {v : GV} {D : Array Value} (h : LaidV w v D) : VC w v D := by
  cases v
  unfold LaidV at h
  obtain ⟨h1, h2, h3, h4, h5, h6, h7, h8, a, c, h9, h10⟩ := h
  exact ⟨h1, h2, h3, h4, h5, h6, h7, h8, a, c, h9, h10⟩
theorem VC.laid {w : World} {v : GV} {D : Array Value} (h : VC w v D) : LaidV w v D := by
  cases v
  unfold LaidV
  obtain ⟨h1, h2, h3, h4, h5, h6, h7, h8, a, c, h9, h10⟩ := h
  exact ⟨h1, h2, h3, h4, h5, h6, h7, h8, a, c, h9, h10⟩
theorem LaidF.get {w : World} {a : Option Addr} : ∀ {f : List (ByteArray × GV)} {j : Nat}, LaidF w a j f → ∀ (i : Nat) (h : i < f.length), LaidP w a (j + i) f[i]
  | [], _, _, i, h => by simp at h
  | x :: f, j, hl, 0, h => by unfold LaidF at hl; exact hl.1
  | x :: f, j, hl, i + 1, h => by
    unfold LaidF at hl
    have := LaidF.get hl.2 i (by simpa using h)
    rw [Nat.add_assoc, Nat.add_comm 1 i] at this
    exact this
def zV : Array Value := #[.int .i64 0, .bool false, .int .i64 0, .string ⟨#[]⟩, .slice none 0 0, .slice none 0 0]
theorem laid_zero (w : World) : LaidV w GV.zero zV := by
  unfold GV.zero LaidV
  exact ⟨rfl, by kernel_rfl, rfl, rfl, rfl, by decide, by decide, by decide, none, 0, rfl, by unfold LaidF; trivial⟩
/-- Texts in memory. -/
def TxAt (w : World) (v : Value) (l : List ByteArray) : Prop := ∃ a c, v = .slice a l.length c ∧ l.length ≤ c ∧ ∀ (i : Nat) (h : i < l.length), ∃ b off, a = some ⟨b, off, none⟩ ∧ w.cell? ⟨b, off + i, none⟩ = some (.string l[i])
theorem TxAt.below {w w' : World} (hb : Below w.heap.size w w') {v : Value} {l : List ByteArray} (h : TxAt w v l) : TxAt w' v l := by
  obtain ⟨a, c, h1, h2, h3⟩ := h
  refine ⟨a, c, h1, h2, fun i hi => ?_⟩
  obtain ⟨b, off, h4, h5⟩ := h3 i hi
  exact ⟨b, off, h4, by rw [hb.cell (World.block_lt_of_cell? w _ h5)]; exact h5⟩
/-- What an event's cells hold. -/
structure EC (w : World) (e : EV) (C : Array Value) : Prop where
  sz : C.size = 22
  one : C.all (·.oneCell') = true
  i0 : C[0]? = some (.string e.id)
  i1 : C[1]? = some (.string e.ty)
  i2 : C[2]? = some (.string e.room)
  i3 : C[3]? = some (.string e.snd)
  i4 : C[4]? = some (.bool e.hk)
  i5 : C[5]? = some (.string e.key)
  i6 : ∃ v, C[6]? = some v ∧ TxAt w v e.prev
  i7 : ∃ a c, C[7]? = some (.slice a e.auth c)
  con : ∃ D, LaidV w e.con D ∧ In D C 10
  ps : e.prev.length ≤ 1048576
  au : e.auth ≤ 1048576
  s1 : e.ty.size ≤ 1048576
  s2 : e.room.size ≤ 1048576
  s3 : e.snd.size ≤ 1048576
  s5 : e.key.size ≤ 1048576
theorem EC.below {w w' : World} (hb : Below w.heap.size w w') {e : EV} {C : Array Value} (h : EC w e C) : EC w' e C := by
  obtain ⟨h1, h2, h3, h4, h5, h6, h7, h8, ⟨v, h9, h10⟩, h11, ⟨D, h12, h13⟩, h14, h15, h16, h17, h18, h19⟩ := h
  exact ⟨h1, h2, h3, h4, h5, h6, h7, h8, ⟨v, h9, h10.below hb⟩, h11, ⟨D, h12.below hb, h13⟩, h14, h15, h16, h17, h18, h19⟩
def zE : Array Value := #[.string ⟨#[]⟩, .string ⟨#[]⟩, .string ⟨#[]⟩, .string ⟨#[]⟩, .bool false, .string ⟨#[]⟩, .slice none 0 0, .slice none 0 0, .int .i64 0, .int .i64 0, .int .i64 0, .bool false, .int .i64 0, .string ⟨#[]⟩, .slice none 0 0, .slice none 0 0, .int .i64 0, .bool false, .int .i64 0, .string ⟨#[]⟩, .slice none 0 0, .slice none 0 0]
theorem ec_zero (w : World) : EC w EV.zero zE :=
  ⟨rfl, by kernel_rfl, rfl, rfl, rfl, rfl, rfl, rfl, ⟨_, rfl, none, 0, rfl, Nat.le_refl _, fun i h => by simp [EV.zero] at h⟩, ⟨none, 0, rfl⟩, ⟨zV, laid_zero w, fun j v h => by
    have hj : j < 6 := by
      have := (Array.getElem?_eq_some_iff.1 h).1
      simpa [zV] using this
    rcases j with _ | _ | _ | _ | _ | _ | j
    all_goals first | exact h | omega⟩, by decide, by decide, by decide, by decide, by decide, by decide⟩
/-- Events in memory. -/
def EvsAt (w : World) (v : Value) (l : List EV) : Prop := l.length ≤ 1048576 ∧ ∃ a c, v = .slice a l.length c ∧ ∀ (i : Nat) (h : i < l.length), ∃ b off C, a = some ⟨b, off, none⟩ ∧ EC w l[i] C ∧ w.rangeAt b (off + i * 22) C.toList
theorem EvsAt.below {w w' : World} (hb : Below w.heap.size w w') {v : Value} {l : List EV} (h : EvsAt w v l) : EvsAt w' v l := by
  obtain ⟨h0, a, c, h1, h3⟩ := h
  refine ⟨h0, a, c, h1, fun i hi => ?_⟩
  obtain ⟨b, off, C, h4, h5, h6⟩ := h3 i hi
  exact ⟨b, off, C, h4, h5.below hb, range_below hb h6⟩
theorem beq_bytes (a b : ByteArray) : (a.toList == b.toList) = decide (a = b) := by
  rw [Bool.eq_iff_iff, beq_iff_eq, decide_eq_true_iff, Lib.toList_data, Lib.toList_data]
  constructor
  · intro h
    cases a
    cases b
    simp at h
    rw [h]
  · rintro rfl
    rfl
theorem beq_const (a b : ByteArray) {l : List UInt8} (h : b.data.toList = l) : (a.toList == l) = decide (a = b) := by rw [← h, ← Lib.toList_data, beq_bytes]
theorem z26 (w : World) : (zeroValue 26).run Tryz.prog w = .ok (.agg zV) w := by kernel_rfl
theorem z28 (w : World) : (zeroValue 28).run Tryz.prog w = .ok (.agg zE) w := by kernel_rfl
theorem z63 (w : World) : (zeroValue 75).run Tryz.prog w = .ok (.agg #[.int .i64 0, .bool false]) w := by kernel_rfl
def zF : Array Value := #[.string ⟨#[]⟩, .int .i64 0, .bool false, .int .i64 0, .string ⟨#[]⟩, .slice none 0 0, .slice none 0 0]
theorem z59 (w : World) : (zeroValue 49).run Tryz.prog w = .ok (.agg zF) w := by kernel_rfl
theorem n26 : (Tryz.prog.info? 26).map (·.size) = some 6 := by kernel_rfl
theorem n28 : (Tryz.prog.info? 28).map (·.size) = some 22 := by kernel_rfl
theorem n63 : (Tryz.prog.info? 75).map (·.size) = some 2 := by kernel_rfl
theorem n59 : (Tryz.prog.info? 49).map (·.size) = some 7 := by kernel_rfl
theorem sz26 {C : Array Value} (h : C.size = 6) : (Tryz.prog.info? 26).map (·.size) = some C.size := by rw [h]; exact n26
theorem sz28 {C : Array Value} (h : C.size = 22) : (Tryz.prog.info? 28).map (·.size) = some C.size := by rw [h]; exact n28
theorem sz59 {C : Array Value} (h : C.size = 7) : (Tryz.prog.info? 49).map (·.size) = some C.size := by rw [h]; exact n59
def numOf : Value → Nat
  | .int _ n => n.toNat
  | _ => 0
end Go.Proofs.YthplcnbfpcndbaaGreatDoor
