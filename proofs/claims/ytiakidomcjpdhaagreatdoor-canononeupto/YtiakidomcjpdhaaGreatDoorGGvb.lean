/- How great a value is, and how one element of a list or one field of an object lies in memory; nothing of the program. What json.copied does with the elements of a list: the state of its first loop, and one round of it. The closure by which the reader reads one element of a list: a contract, by walking its text in every order that Go allows. Rows of bytes that a call owns and grows: which blocks may turn, and what an append leaves; nothing of the program but its type of bytes. -/
import Derived.Test.YtiakidomcjpdhaaGreatDoorGQu
import Derived.Test.YtiakidomcjpdhaaGreatDoorGLay
import Derived.Lib.AppendStr
import Derived.Lib.UnsafeStr
namespace Go.Proofs.YtiakidomcjpdhaaGreatDoor
open Go.RowKit

mutual
/-- How many values and bytes a value holds. -/
def GV.sz : GV → Nat
  | .mk _ _ _ t l f => 1 + t.size + szL l + szF f
def szL : List GV → Nat
  | [] => 0
  | x :: l => x.sz + szL l
def szF : List (ByteArray × GV) → Nat
  | [] => 0
  | x :: l => szP x + szF l
def szP : ByteArray × GV → Nat
  | (nm, x) => nm.size + x.sz
end
theorem GV.sz_pos : ∀ x : GV, 1 ≤ x.sz
  | .mk _ _ _ t l f => by unfold GV.sz; omega
theorem szL_get : ∀ (l : List GV) (i : Nat) (h : i < l.length), (l[i]).sz ≤ szL l
  | [], i, h => by simp at h
  | x :: l, 0, h => by simp [szL]
  | x :: l, i + 1, h => by
    have := szL_get l i (by simpa using h)
    simp [szL]
    omega
theorem szF_get : ∀ (l : List (ByteArray × GV)) (i : Nat) (h : i < l.length), (l[i]).1.size + (l[i]).2.sz ≤ szF l
  | [], i, h => by simp at h
  | (nm, x) :: l, 0, h => by simp [szF, szP]
  | x :: l, i + 1, h => by
    have := szF_get l i (by simpa using h)
    simp [szF]
    omega
theorem szL_len : ∀ l : List GV, l.length ≤ szL l
  | [] => by simp
  | x :: l => by have := szL_len l; have := x.sz_pos; simp [szL]; omega
theorem szF_len : ∀ l : List (ByteArray × GV), l.length ≤ szF l
  | [] => by simp
  | (nm, x) :: l => by have := szF_len l; have := x.sz_pos; simp [szF, szP]; omega

theorem SlAt.form {w : World} {ok : Nat → Prop} {v : Value} {n size : Nat} {xs : List Value} (h : SlAt w ok v n size xs) : ∃ a l c, v = .slice a l c ∧ l = n := by
  rcases h.2 with ⟨a, c, rfl, rfl⟩ | ⟨b, off, cap, rfl, _⟩
  · exact ⟨_, _, _, rfl, rfl⟩
  · exact ⟨_, _, _, rfl, rfl⟩
/-- A value's six cells, written out. -/
theorem LaidV.form {w : World} {ok : Nat → Prop} {k : Int} {b : Bool} {n : Int} {t : ByteArray} {l : List GV} {f : List (ByteArray × GV)} {cs : List Value} (h : LaidV w ok (.mk k b n t l f) cs) :
    ∃ a1 c1 a2 c2 xs ys, cs = [.int .i64 k, .bool b, .int .i64 n, .string t, .slice a1 l.length c1, .slice a2 f.length c2] ∧ SlAt w ok (.slice a1 l.length c1) l.length 6 xs ∧ SlAt w ok (.slice a2 f.length c2) f.length 7 ys ∧ LaidL w ok l xs ∧ LaidF w ok f ys := by
  unfold LaidV at h
  obtain ⟨sl, sf, xs, ys, rfl, h1, h2, h3, h4⟩ := h
  obtain ⟨a1, l1, c1, rfl, rfl⟩ := h1.form
  obtain ⟨a2, l2, c2, rfl, rfl⟩ := h2.form
  exact ⟨a1, c1, a2, c2, xs, ys, rfl, h1, h2, h3, h4⟩
theorem LaidL.len {w : World} {ok : Nat → Prop} : ∀ {l : List GV} {xs : List Value}, LaidL w ok l xs → xs.length = l.length * 6
  | [], xs, h => by unfold LaidL at h; subst h; rfl
  | x :: l, xs, h => by
    unfold LaidL at h
    obtain ⟨a, r, rfl, h1, h2⟩ := h
    simp [h1.len, LaidL.len h2]
    omega
theorem LaidL.get {w : World} {ok : Nat → Prop} : ∀ {l : List GV} {xs : List Value}, LaidL w ok l xs → ∀ (i : Nat) (h : i < l.length), ∃ a, LaidV w ok (l[i]) a ∧ ∀ j, j < 6 → xs[i * 6 + j]? = a[j]?
  | [], xs, _, i, h => by simp at h
  | x :: l, xs, hl, 0, h => by
    unfold LaidL at hl
    obtain ⟨a, r, rfl, h1, h2⟩ := hl
    exact ⟨a, h1, fun j hj => by rw [Nat.zero_mul, Nat.zero_add, List.getElem?_append_left (by rw [h1.len]; exact hj)]⟩
  | x :: l, xs, hl, i + 1, h => by
    unfold LaidL at hl
    obtain ⟨a, r, rfl, h1, h2⟩ := hl
    obtain ⟨c, h3, h4⟩ := LaidL.get h2 i (by simpa using h)
    exact ⟨c, h3, fun j hj => by rw [← h4 j hj, List.getElem?_append_right (by rw [h1.len]; omega), h1.len]; congr 1; omega⟩
theorem LaidP.len {w : World} {ok : Nat → Prop} {x : ByteArray × GV} {cs : List Value} (h : LaidP w ok x cs) : cs.length = 7 := by
  obtain ⟨nm, x⟩ := x
  unfold LaidP at h
  obtain ⟨a, rfl, h1⟩ := h
  simp [h1.len]
theorem LaidF.get {w : World} {ok : Nat → Prop} : ∀ {l : List (ByteArray × GV)} {xs : List Value}, LaidF w ok l xs → ∀ (i : Nat) (h : i < l.length), ∃ a, LaidV w ok (l[i]).2 a ∧ xs[i * 7]? = some (.string (l[i]).1) ∧ ∀ j, j < 6 → xs[i * 7 + (1 + j)]? = a[j]?
  | [], xs, _, i, h => by simp at h
  | (nm, x) :: l, xs, hl, 0, h => by
    unfold LaidF at hl
    obtain ⟨a, r, rfl, h1, h2⟩ := hl
    unfold LaidP at h1
    obtain ⟨c, rfl, h1⟩ := h1
    refine ⟨c, h1, by simp, fun j hj => ?_⟩
    rw [Nat.zero_mul, Nat.zero_add, List.getElem?_append_left (by simp [h1.len]; omega), Nat.add_comm]
    simp
  | x :: l, xs, hl, i + 1, h => by
    unfold LaidF at hl
    obtain ⟨a, r, rfl, h1, h2⟩ := hl
    obtain ⟨c, h3, h5, h4⟩ := LaidF.get h2 i (by simpa using h)
    refine ⟨c, h3, ?_, fun j hj => ?_⟩
    · show _ = some (Value.string (l[i]'(by simpa using h)).1)
      rw [← h5, List.getElem?_append_right (by rw [h1.len]; omega), h1.len]
      congr 1
      omega
    · rw [← h4 j hj, List.getElem?_append_right (by rw [h1.len]; omega), h1.len]
      congr 1
      omega
/-- The cells of one element of a slice of values. -/
theorem SlAt.elem {w : World} {ok : Nat → Prop} {a : Option Addr} {c : Nat} {l : List GV} {xs : List Value} (hs : SlAt w ok (.slice a l.length c) l.length 6 xs) (hl : LaidL w ok l xs) (i : Nat) (h : i < l.length) :
    ∃ b off cs, a = some ⟨b, off, none⟩ ∧ ok b ∧ LaidV w ok (l[i]) cs ∧ ∀ j, j < 6 → w.cell? ⟨b, off + i * 6 + j, none⟩ = cs[j]? := by
  obtain ⟨cs, h1, h2⟩ := hl.get i h
  rcases hs.2 with ⟨_, _, _, h0⟩ | ⟨b, off, cap, he, hb, _, hr⟩
  · omega
  · injection he with he _ _
    subst he
    exact ⟨b, off, cs, rfl, hb (by omega), h1, fun j hj => by rw [← h2 j hj, ← hr (i * 6 + j) (by omega), Nat.add_assoc]⟩
/-- The cells of one field of a slice of fields. -/
theorem SlAt.field {w : World} {ok : Nat → Prop} {a : Option Addr} {c : Nat} {l : List (ByteArray × GV)} {xs : List Value} (hs : SlAt w ok (.slice a l.length c) l.length 7 xs) (hl : LaidF w ok l xs) (i : Nat) (h : i < l.length) :
    ∃ b off cs, a = some ⟨b, off, none⟩ ∧ ok b ∧ LaidV w ok (l[i]).2 cs ∧ w.cell? ⟨b, off + i * 7, none⟩ = some (.string (l[i]).1) ∧ ∀ j, j < 6 → w.cell? ⟨b, off + i * 7 + (1 + j), none⟩ = cs[j]? := by
  obtain ⟨cs, h1, h3, h2⟩ := hl.get i h
  rcases hs.2 with ⟨_, _, _, h0⟩ | ⟨b, off, cap, he, hb, _, hr⟩
  · omega
  · injection he with he _ _
    subst he
    exact ⟨b, off, cs, rfl, hb (by omega), h1, by rw [hr (i * 7) (by omega), h3], fun j hj => by rw [← h2 j hj, ← hr (i * 7 + (1 + j)) (by omega), Nat.add_assoc]⟩
end Go.Proofs.YtiakidomcjpdhaaGreatDoor

namespace Go.Proofs.YtiakidomcjpdhaaGreatDoor
open Go.RowKit

theorem Clone_any (s : ByteArray) (w : World) (hlim : s.size ≤ 281474976710656) :
    Calls Tryz.prog 60 #[.string s] w fun e w' => e = .returned (.string s) ∧ Below w.heap.size w w' := by
  go_enter Tryz.func60, Tryz.ntmps60
  go_wp2_with (go_at_call 84; refine (stringslite_Clone _ _ hlim).mono ?_; rintro e w' ⟨rfl, hbel⟩)
  go_ret
  exact ⟨rfl, hbel⟩

abbrev ZV0 : Obj := .cells #[.int .i64 0, .bool false, .int .i64 0, .string ⟨#[]⟩, .slice none 0 0, .slice none 0 0] 25

theorem keep_own {V w3 : World} {v v' : Value} {B : Nat} (hgrow : V.grownBy w3 v.ownBlock) (hloc : v'.ownBlock = v.ownBlock ∨ v'.ownBlock = some V.heap.size) :
    ∀ b, (B ≤ b ∧ v.ownBlock ≠ some b) → b < V.heap.size → (B ≤ b ∧ v'.ownBlock ≠ some b) ∧ w3.heap[b]? = V.heap[b]? := by
  intro b hb hl
  refine ⟨⟨hb.1, fun e => ?_⟩, hgrow.block b hl (fun e => hb.2 e.symm)⟩
  rcases hloc with h | h
  · exact hb.2 (h ▸ e)
  · rw [h] at e
    have : V.heap.size = b := by simpa using e
    omega
theorem snocL {V w3 : World} {v v' : Value} {B : Nat} {l : List GV} {x : GV} {xs cs : List Value} (hgrow : V.grownBy w3 v.ownBlock) (hloc : v'.ownBlock = v.ownBlock ∨ v'.ownBlock = some V.heap.size)
    (h : LaidL V (fun b => B ≤ b ∧ v.ownBlock ≠ some b) l xs) (hx : LaidV V (fun b => B ≤ b ∧ v.ownBlock ≠ some b) x cs) : LaidL w3 (fun b => B ≤ b ∧ v'.ownBlock ≠ some b) (l ++ [x]) (xs ++ cs) :=
  LaidL.snoc (hx.conv (keep_own hgrow hloc)) (h.conv (keep_own hgrow hloc))
theorem snocF {V w3 : World} {v v' : Value} {B : Nat} {l : List (ByteArray × GV)} {x : ByteArray × GV} {xs cs : List Value} (hgrow : V.grownBy w3 v.ownBlock) (hloc : v'.ownBlock = v.ownBlock ∨ v'.ownBlock = some V.heap.size)
    (h : LaidF V (fun b => B ≤ b ∧ v.ownBlock ≠ some b) l xs) (hx : LaidP V (fun b => B ≤ b ∧ v.ownBlock ≠ some b) x cs) : LaidF w3 (fun b => B ≤ b ∧ v'.ownBlock ≠ some b) (l ++ [x]) (xs ++ cs) :=
  LaidF.snoc (hx.conv (keep_own hgrow hloc)) (h.conv (keep_own hgrow hloc))

theorem own_kept {w w' : World} {base : Nat} {e : TypeId} {size : Nat} {v : Value} {n : Nat} {xs : List Value} (h : w.ownsRow base e size v n xs) (f : Below w.heap.size w w') : w'.ownsRow base e size v n xs :=
  own_fr (S := fun _ => False) h (Fr.of_below f) (fun _ _ => id)
theorem info65' : (Tryz.prog.info? 54).map (fun i => (i.zero, i.size, i.bytes)) = some (some (.agg #[.string ⟨#[]⟩, .int .i64 0, .bool false, .int .i64 0, .string ⟨#[]⟩, .slice none 0 0, .slice none 0 0]), 7, 104) := by kernel_rfl
theorem cells7' {w : World} {Z : Nat} {a0 a1 a2 a3 a4 a5 a6 : Value} {ty : TypeId} (h : w.heap[Z]? = some (.cells #[a0, a1, a2, a3, a4, a5, a6] ty (0, 0))) : ∀ j u, [a0, a1, a2, a3, a4, a5, a6][j]? = some u → w.cell? ((⟨Z, 0, none⟩ : Addr).add j) = some u := by
  intro j u hj
  rw [addr_add]
  simp only [World.cell?, h]
  simpa using hj
theorem own_form {w : World} {base : Nat} {e : TypeId} {size : Nat} {v : Value} {n : Nat} {xs : List Value} (h : w.ownsRow base e size v n xs) : ∃ a c, v = .slice a n c := by
  rcases h.2 with ⟨rfl, rfl⟩ | ⟨g, cap, cur, rfl, _⟩
  · exact ⟨_, _, rfl⟩
  · exact ⟨_, _, rfl⟩
/-- The two variables of copied, and that nothing old has turned. -/
structure CpAt (w : World) (c : Array Value) (w' : World) : Prop where
  v : w'.heap[w.heap.size]? = some (.cells c 25 (0, 0))
  z : w'.heap[w.heap.size + 1]? = some (.cells #[.int .i64 0, .bool false, .int .i64 0, .string ⟨#[]⟩, .slice none 0 0, .slice none 0 0] 25 (0, 0))
  b : Below w.heap.size w w'
  s : w.heap.size + 2 ≤ w'.heap.size
theorem CpAt.keep {w : World} {c : Array Value} {w1 w2 : World} (h : CpAt w c w1) (f : Below (w.heap.size + 2) w1 w2) : CpAt w c w2 :=
  ⟨(f.block _ (by omega)).trans h.v, (f.block _ (by omega)).trans h.z, h.b.trans (f.mono (by omega)), Nat.le_trans h.s f.size⟩

end Go.Proofs.YtiakidomcjpdhaaGreatDoor

namespace Go.Proofs.YtiakidomcjpdhaaGreatDoor
open Go.RowKit

/-- Where the four blocks lie. -/
structure Below4 (rb r1 vb B : Nat) : Prop where
  h1 : rb < B
  h2 : r1 < B
  h3 : vb < B
  h4 : rb ≠ vb
  h5 : rb ≠ r1
  h6 : vb ≠ r1
  h7 : 6 ≤ rb
  h8 : 6 ≤ vb
/-- What holds behind the call of value. -/
structure ML (W : World) (rb r1 vb B : Nat) (s : ByteArray) (bad : Int) (dep : Nat) (l : List GV) (n : Nat) (sa : Option Addr) (sc : Nat) (xs : List Value) (x : GV) (cs : List Value) (q : Nat) (V : World) : Prop where
  rd : RdAt V rb s q bad dep
  tb : Tabs V
  fr : Fr (Own rb) W V
  rv : V.heap[r1]? = some (.cells #[.pointer (some ⟨rb, 0, none⟩)] 75 (0, 0))
  hb : B ≤ V.heap.size
  hvv : V.heap[vb]? = some (.cells #[.int .i64 4, .bool false, .int .i64 0, .string ⟨#[]⟩, .slice sa n sc, .slice none 0 0] 25 (0, 0))
  hown : V.ownsRow B 25 6 (.slice sa n sc) n xs
  hlaid : LaidL V (fun b => B ≤ b ∧ (Value.slice sa n sc).ownBlock ≠ some b) l xs
  hx : LaidV V (fun b => B ≤ b ∧ (Value.slice sa n sc).ownBlock ≠ some b) x cs
theorem ML.alloc {W : World} {rb r1 vb B : Nat} {s : ByteArray} {bad : Int} {dep : Nat} {l : List GV} {n : Nat} {sa : Option Addr} {sc : Nat} {xs : List Value} {x : GV} {cs : List Value} {q : Nat} {V : World}
    (h : ML W rb r1 vb B s bad dep l n sa sc xs x cs q V) (o : Obj) : ML W rb r1 vb B s bad dep l n sa sc xs x cs q (V.alloc o) := by
  have f : Fr (fun _ => False) V (V.alloc o) := Fr.alloc _ _ _
  refine ⟨h.rd.alloc o, h.tb.alloc o, h.fr.allocNew o, (f.block _ (lt_of_block h.rv) id).trans h.rv, Nat.le_trans h.hb f.size, (f.block _ (lt_of_block h.hvv) id).trans h.hvv, h.hown.alloc o, ?_, ?_⟩
  · exact h.hlaid.conv (fun b hb hl => ⟨hb, f.block b hl id⟩)
  · exact h.hx.conv (fun b hb hl => ⟨hb, f.block b hl id⟩)
theorem Below4.after {W w w1 : World} {rb r1 vb B : Nat} (M : Below4 rb r1 vb B) {s : ByteArray} {bad : Int} {dep : Nat} {l : List GV} {n : Nat} {sa : Option Addr} {sc : Nat} {xs : List Value} {x : GV} {cs : List Value} {q : Nat}
    (fr : Fr (Own rb) W w) (rv : w.heap[r1]? = some (.cells #[.pointer (some ⟨rb, 0, none⟩)] 75 (0, 0))) (hb : B ≤ w.heap.size)
    (hvv : w.heap[vb]? = some (.cells #[.int .i64 4, .bool false, .int .i64 0, .string ⟨#[]⟩, .slice sa n sc, .slice none 0 0] 25 (0, 0)))
    (hown : w.ownsRow B 25 6 (.slice sa n sc) n xs) (hlaid : LaidL w (fun b => B ≤ b ∧ (Value.slice sa n sc).ownBlock ≠ some b) l xs) (tb : Tabs w) (f : Fr (Own rb) w w1) (rd : RdAt w1 rb s q bad dep) (hx : LaidV w1 (fun b => w.heap.size ≤ b) x cs) :
    ML W rb r1 vb B s bad dep l n sa sc xs x cs q w1 := by
  have h1 := M.h1
  have h4 := M.h4
  have h5 := M.h5
  have h7 := M.h7
  refine ⟨rd, tb.fr f (by show ¬ _ = _; omega) (by show ¬ _ = _; omega), fr.trans f, (f.block _ (lt_of_block rv) (by show ¬ _ = _; omega)).trans rv, Nat.le_trans hb f.size, (f.block _ (lt_of_block hvv) (by show ¬ _ = _; omega)).trans hvv, own_fr hown f (fun k hk e => by have : k = rb := e; omega), ?_, ?_⟩
  · exact hlaid.conv (fun b hb hl => ⟨hb, f.block b hl (by show ¬ _ = _; omega)⟩)
  · refine hx.conv (fun b hb' hl => ⟨⟨by omega, fun e => ?_⟩, rfl⟩)
    have := (hown.lt _ e).2
    omega

set_option maxRecDepth 20000 in
set_option maxHeartbeats 8000000 in
theorem list1_any (W : World) (rb r1 vb B : Nat) (s : ByteArray) (bad : Int) (dep : Nat) (val : Nat → Except (Nat × Nat) (GV × Nat)) (hv : ValueAt rb s bad dep val)
    (h1 : rb < B) (h2 : r1 < B) (h3 : vb < B) (h4 : rb ≠ vb) (h5 : rb ≠ r1) (h6 : vb ≠ r1) (h7 : 6 ≤ rb) (h8 : 6 ≤ vb) (hWv : W.heap.size ≤ vb) (hWB : W.heap.size ≤ B) (hs : s.size ≤ 65536)
    (l : List GV) (p : Nat) (w : World) (h : IL W rb r1 vb B s bad dep l p w) (hp : p ≤ s.size) :
    Calls Tryz.prog 133 #[.pointer (some ⟨vb, 0, none⟩), .pointer (some ⟨r1, 0, none⟩)] w (Out (oneL val l p)
      (fun x e w' => e = .returned (.tuple #[]) ∧ IL W rb r1 vb B s bad dep x.1 x.2 w' ∧ p < x.2 ∧ x.2 ≤ s.size) (Fr (Own rb) W)) := by
  obtain ⟨i0, hi, hz0, hz1, hz2⟩ := info_parts info26
  obtain ⟨rd, tb, fr, rv, len, hb, sa, sc, xs, hvv, hown, hlaid⟩ := h
  obtain ⟨n, hn⟩ : ∃ n, l.length = n := ⟨_, rfl⟩
  rw [hn] at hvv hown hlaid
  have cv := (box6 hvv).2.2.2.2.1
  have cr : w.cell? ⟨r1, 0, none⟩ = some (.pointer (some ⟨rb, 0, none⟩)) := by simp [World.cell?, rv]
  have lv := lt_of_block hvv
  have lr := lt_of_block rv
  have hvA : Calls Tryz.prog 70 #[.pointer (some ⟨rb, 0, none⟩)] w.drew (Out (val p) (fun x e w' => VOut (fun b => w.heap.size ≤ b) x.1 e w' ∧ RdAt w' rb s x.2 bad dep ∧ p < x.2 ∧ x.2 ≤ s.size ∧ Fr (Own rb) w w') (Fr (Own rb) W)) :=
    (hv w.drew p rd tb hp).mono (fun e w' ho => ho.imp (fun x hx => ⟨hx.1, hx.2.1, hx.2.2.1, hx.2.2.2.1, (Fr.drewN _ w 1).trans hx.2.2.2.2⟩) (fun hk => fr.trans ((Fr.drewN _ w 1).trans hk)))
  have hvB : Calls Tryz.prog 70 #[.pointer (some ⟨rb, 0, none⟩)] (w.alloc (.cells #[.int .i64 0, .bool false, .int .i64 0, .string ⟨#[]⟩, .slice none 0 0, .slice none 0 0] 25)).drew (Out (val p) (fun x e w' => VOut (fun b => w.heap.size + 1 ≤ b) x.1 e w' ∧ RdAt w' rb s x.2 bad dep ∧ p < x.2 ∧ x.2 ≤ s.size ∧ Fr (Own rb) (w.alloc (.cells #[.int .i64 0, .bool false, .int .i64 0, .string ⟨#[]⟩, .slice none 0 0, .slice none 0 0] 25)) w') (Fr (Own rb) W)) :=
    (hv (w.alloc (.cells #[.int .i64 0, .bool false, .int .i64 0, .string ⟨#[]⟩, .slice none 0 0, .slice none 0 0] 25)).drew p (rd.alloc _) (tb.alloc _) hp).mono (fun e w' ho => ho.imp (fun x hx => ⟨hx.1.imp (fun b hb => by simpa using hb), hx.2.1, hx.2.2.1, hx.2.2.2.1, (Fr.drewN _ _ 1).trans hx.2.2.2.2⟩) (fun hk => (fr.allocNew _).trans ((Fr.drewN _ _ 1).trans hk)))
  cases hc : val p with
  | error x =>
    have HE : Hid (oneL val l p = .error (x.1, x.2)) := by show _ = _; rw [oneL, hc]
    rw [hc] at hvA hvB
    clear hc
    go_enter Tryz.func133, Tryz.ntmps133
    go_wp2
    refine wp_region_any (by kernel_rfl) ?_
    change wpAny _ _ _ _ _ _ _ (World.drew _)
    refine wpAny_take (i := 0) (v := .pointer (some ⟨vb, 4, none⟩)) rfl (by kernel_rfl) (by kernel_rfl) (by kernel_rfl) (fun _ _ _ h => h) (Or.inl ⟨by rfl, fun w => by go_simp⟩) ?_
    try simp only [Act.put, List.setIfInBounds_toArray]
    refine wpAny_ready (rs := [1, 2, 5]) (by kernel_rfl) (by simp) ?_
    refine AllReady.cons rfl (fun K hK => ?_) (AllReady.cons rfl (fun K hK => ?_) (AllReady.cons rfl (fun K hK => ?_) (AllReady.nil)))
    · go_simp
      refine hK _ _ ?_
      clear hK K
      refine wpAny_take (i := 4) (v := .int .i64 (n : Int)) rfl (by kernel_rfl) (by kernel_rfl) (by kernel_rfl) (fun _ _ _ h => h) (Or.inl ⟨by rfl, fun w => by go_simp⟩) ?_
      try simp only [Act.put, List.setIfInBounds_toArray]
      refine wpAny_ready (rs := [2, 5]) (by kernel_rfl) (by simp) ?_
      refine AllReady.cons rfl (fun K hK => ?_) (AllReady.cons rfl (fun K hK => ?_) (AllReady.nil))
      · go_simp
        refine hK _ _ ?_
        clear hK K
        refine wpAny_ready (rs := [3, 5]) (by kernel_rfl) (by simp) ?_
        refine AllReady.cons rfl (fun K hK => ?_) (AllReady.cons rfl (fun K hK => ?_) (AllReady.nil))
        · go_simp
          refine hvA.mono ?_
          rintro e w1 ⟨⟨bk, rfl, hbk⟩, f1⟩
          exact panics0 (Out.no HE.out ⟨⟨_, rfl, hbk⟩, f1⟩)
        · go_simp
          refine hK _ _ ?_
          clear hK K
          refine wpAny_ready (rs := [3]) (by kernel_rfl) (by simp) ?_
          refine AllReady.cons rfl (fun K hK => ?_) (AllReady.nil)
          · go_simp
            refine hvB.mono ?_
            rintro e w1 ⟨⟨bk, rfl, hbk⟩, f1⟩
            exact panics0 (Out.no HE.out ⟨⟨_, rfl, hbk⟩, f1⟩)
      · go_simp
        refine hK _ _ ?_
        clear hK K
        refine wpAny_ready (rs := [2]) (by kernel_rfl) (by simp) ?_
        refine AllReady.cons rfl (fun K hK => ?_) (AllReady.nil)
        · go_simp
          refine hK _ _ ?_
          clear hK K
          refine wpAny_ready (rs := [3]) (by kernel_rfl) (by simp) ?_
          refine AllReady.cons rfl (fun K hK => ?_) (AllReady.nil)
          · go_simp
            refine hvB.mono ?_
            rintro e w1 ⟨⟨bk, rfl, hbk⟩, f1⟩
            exact panics0 (Out.no HE.out ⟨⟨_, rfl, hbk⟩, f1⟩)
    · go_simp
      refine hK _ _ ?_
      clear hK K
      refine wpAny_ready (rs := [1, 3, 5]) (by kernel_rfl) (by simp) ?_
      refine AllReady.cons rfl (fun K hK => ?_) (AllReady.cons rfl (fun K hK => ?_) (AllReady.cons rfl (fun K hK => ?_) (AllReady.nil)))
      · go_simp
        refine hK _ _ ?_
        clear hK K
        refine wpAny_take (i := 4) (v := .int .i64 (n : Int)) rfl (by kernel_rfl) (by kernel_rfl) (by kernel_rfl) (fun _ _ _ h => h) (Or.inl ⟨by rfl, fun w => by go_simp⟩) ?_
        try simp only [Act.put, List.setIfInBounds_toArray]
        refine wpAny_ready (rs := [3, 5]) (by kernel_rfl) (by simp) ?_
        refine AllReady.cons rfl (fun K hK => ?_) (AllReady.cons rfl (fun K hK => ?_) (AllReady.nil))
        · go_simp
          refine hvA.mono ?_
          rintro e w1 ⟨⟨bk, rfl, hbk⟩, f1⟩
          exact panics0 (Out.no HE.out ⟨⟨_, rfl, hbk⟩, f1⟩)
        · go_simp
          refine hK _ _ ?_
          clear hK K
          refine wpAny_ready (rs := [3]) (by kernel_rfl) (by simp) ?_
          refine AllReady.cons rfl (fun K hK => ?_) (AllReady.nil)
          · go_simp
            refine hvB.mono ?_
            rintro e w1 ⟨⟨bk, rfl, hbk⟩, f1⟩
            exact panics0 (Out.no HE.out ⟨⟨_, rfl, hbk⟩, f1⟩)
      · go_simp
        refine hvA.mono ?_
        rintro e w1 ⟨⟨bk, rfl, hbk⟩, f1⟩
        exact panics0 (Out.no HE.out ⟨⟨_, rfl, hbk⟩, f1⟩)
      · go_simp
        refine hK _ _ ?_
        clear hK K
        refine wpAny_ready (rs := [1, 3]) (by kernel_rfl) (by simp) ?_
        refine AllReady.cons rfl (fun K hK => ?_) (AllReady.cons rfl (fun K hK => ?_) (AllReady.nil))
        · go_simp
          refine hK _ _ ?_
          clear hK K
          refine wpAny_take (i := 4) (v := .int .i64 (n : Int)) rfl (by kernel_rfl) (by kernel_rfl) (by kernel_rfl) (fun _ _ _ h => h) (Or.inl ⟨by rfl, fun w => by go_simp⟩) ?_
          try simp only [Act.put, List.setIfInBounds_toArray]
          refine wpAny_ready (rs := [3]) (by kernel_rfl) (by simp) ?_
          refine AllReady.cons rfl (fun K hK => ?_) (AllReady.nil)
          · go_simp
            refine hvB.mono ?_
            rintro e w1 ⟨⟨bk, rfl, hbk⟩, f1⟩
            exact panics0 (Out.no HE.out ⟨⟨_, rfl, hbk⟩, f1⟩)
        · go_simp
          refine hvB.mono ?_
          rintro e w1 ⟨⟨bk, rfl, hbk⟩, f1⟩
          exact panics0 (Out.no HE.out ⟨⟨_, rfl, hbk⟩, f1⟩)
    · go_simp
      refine hK _ _ ?_
      clear hK K
      refine wpAny_ready (rs := [1, 2]) (by kernel_rfl) (by simp) ?_
      refine AllReady.cons rfl (fun K hK => ?_) (AllReady.cons rfl (fun K hK => ?_) (AllReady.nil))
      · go_simp
        refine hK _ _ ?_
        clear hK K
        refine wpAny_take (i := 4) (v := .int .i64 (n : Int)) rfl (by kernel_rfl) (by kernel_rfl) (by kernel_rfl) (fun _ _ _ h => h) (Or.inl ⟨by rfl, fun w => by go_simp⟩) ?_
        try simp only [Act.put, List.setIfInBounds_toArray]
        refine wpAny_ready (rs := [2]) (by kernel_rfl) (by simp) ?_
        refine AllReady.cons rfl (fun K hK => ?_) (AllReady.nil)
        · go_simp
          refine hK _ _ ?_
          clear hK K
          refine wpAny_ready (rs := [3]) (by kernel_rfl) (by simp) ?_
          refine AllReady.cons rfl (fun K hK => ?_) (AllReady.nil)
          · go_simp
            refine hvB.mono ?_
            rintro e w1 ⟨⟨bk, rfl, hbk⟩, f1⟩
            exact panics0 (Out.no HE.out ⟨⟨_, rfl, hbk⟩, f1⟩)
      · go_simp
        refine hK _ _ ?_
        clear hK K
        refine wpAny_ready (rs := [1, 3]) (by kernel_rfl) (by simp) ?_
        refine AllReady.cons rfl (fun K hK => ?_) (AllReady.cons rfl (fun K hK => ?_) (AllReady.nil))
        · go_simp
          refine hK _ _ ?_
          clear hK K
          refine wpAny_take (i := 4) (v := .int .i64 (n : Int)) rfl (by kernel_rfl) (by kernel_rfl) (by kernel_rfl) (fun _ _ _ h => h) (Or.inl ⟨by rfl, fun w => by go_simp⟩) ?_
          try simp only [Act.put, List.setIfInBounds_toArray]
          refine wpAny_ready (rs := [3]) (by kernel_rfl) (by simp) ?_
          refine AllReady.cons rfl (fun K hK => ?_) (AllReady.nil)
          · go_simp
            refine hvB.mono ?_
            rintro e w1 ⟨⟨bk, rfl, hbk⟩, f1⟩
            exact panics0 (Out.no HE.out ⟨⟨_, rfl, hbk⟩, f1⟩)
        · go_simp
          refine hvB.mono ?_
          rintro e w1 ⟨⟨bk, rfl, hbk⟩, f1⟩
          exact panics0 (Out.no HE.out ⟨⟨_, rfl, hbk⟩, f1⟩)
  | ok x =>
    obtain ⟨x, q⟩ := x
    have HE : Hid (oneL val l p = .ok (l ++ [x], q)) := by show _ = _; rw [oneL, hc]
    rw [hc] at hvA hvB
    clear hc
    have M0 : Below4 rb r1 vb B := ⟨h1, h2, h3, h4, h5, h6, h7, h8⟩
    go_enter Tryz.func133, Tryz.ntmps133
    go_wp2
    refine wp_region_any (by kernel_rfl) ?_
    change wpAny _ _ _ _ _ _ _ (World.drew _)
    refine wpAny_take (i := 0) (v := .pointer (some ⟨vb, 4, none⟩)) rfl (by kernel_rfl) (by kernel_rfl) (by kernel_rfl) (fun _ _ _ h => h) (Or.inl ⟨by rfl, fun w => by go_simp⟩) ?_
    try simp only [Act.put, List.setIfInBounds_toArray]
    refine wpAny_ready (rs := [1, 2, 5]) (by kernel_rfl) (by simp) ?_
    refine AllReady.cons rfl (fun K hK => ?_) (AllReady.cons rfl (fun K hK => ?_) (AllReady.cons rfl (fun K hK => ?_) (AllReady.nil)))
    · go_simp
      refine hK _ _ ?_
      clear hK K
      refine wpAny_take (i := 4) (v := .int .i64 (n : Int)) rfl (by kernel_rfl) (by kernel_rfl) (by kernel_rfl) (fun _ _ _ h => h) (Or.inl ⟨by rfl, fun w => by go_simp⟩) ?_
      try simp only [Act.put, List.setIfInBounds_toArray]
      refine wpAny_ready (rs := [2, 5]) (by kernel_rfl) (by simp) ?_
      refine AllReady.cons rfl (fun K hK => ?_) (AllReady.cons rfl (fun K hK => ?_) (AllReady.nil))
      · go_simp
        refine hK _ _ ?_
        clear hK K
        refine wpAny_ready (rs := [3, 5]) (by kernel_rfl) (by simp) ?_
        refine AllReady.cons rfl (fun K hK => ?_) (AllReady.cons rfl (fun K hK => ?_) (AllReady.nil))
        · go_simp
          refine hvA.mono ?_
          rintro e w1 ⟨⟨k, b, m, t, a1, l1, c1, a2, l2, c2, rfl, hx⟩, rd1, hq1, hq2, f1⟩
          have M := M0.after fr rv hb hvv hown hlaid tb f1 rd1 hx
          have lv1 := lt_of_block M.hvv; have lr1 := lt_of_block M.rv; have cv1 := (box6 M.hvv).2.2.2.2.1
          have cr1 : w1.cell? ⟨r1, 0, none⟩ = some (.pointer (some ⟨rb, 0, none⟩)) := by simp [World.cell?, M.rv]
          refine hK _ _ ?_
          clear hK K
          try simp only [Act.put, List.setIfInBounds_toArray, List.set_cons_zero, List.set_cons_succ]
          refine wpAny_ready (rs := [5]) (by kernel_rfl) (by simp) ?_
          refine AllReady.cons rfl (fun K hK => ?_) (AllReady.nil)
          · go_simp
            refine hK _ _ ?_
            clear hK K
            exact tail78 W rb r1 vb B s bad dep h1 h2 h3 h4 h6 h8 hWv hWB hs l n hn x q (w1.alloc _) hq2 (by have : p < q := hq1; omega) (M.alloc _).rd (M.alloc _).tb (M.alloc _).fr (M.alloc _).rv (M.alloc _).hb sa sc xs (M.alloc _).hvv (M.alloc _).hown (M.alloc _).hlaid k b m t a1 l1 c1 a2 l2 c2 (M.alloc _).hx w1.heap.size (heap_alloc_new _ _) _ (fun w' hI => Out.yes HE.out ⟨rfl, hI, hq1, hq2⟩)
        · go_simp
          refine hK _ _ ?_
          clear hK K
          refine wpAny_ready (rs := [3]) (by kernel_rfl) (by simp) ?_
          refine AllReady.cons rfl (fun K hK => ?_) (AllReady.nil)
          · go_simp
            refine hvB.mono ?_
            rintro e w1 ⟨⟨k, b, m, t, a1, l1, c1, a2, l2, c2, rfl, hx⟩, rd1, hq1, hq2, f1⟩
            have M := M0.after fr rv hb hvv hown hlaid tb ((Fr.alloc (Own rb) w _).trans f1) rd1 (hx.conv (fun b hb _ => ⟨(by omega : w.heap.size ≤ b), rfl⟩))
            have lv1 := lt_of_block M.hvv; have lr1 := lt_of_block M.rv; have cv1 := (box6 M.hvv).2.2.2.2.1
            have cr1 : w1.cell? ⟨r1, 0, none⟩ = some (.pointer (some ⟨rb, 0, none⟩)) := by simp [World.cell?, M.rv]
            refine hK _ _ ?_
            clear hK K
            try simp only [Act.put, List.setIfInBounds_toArray, List.set_cons_zero, List.set_cons_succ]
            exact tail78 W rb r1 vb B s bad dep h1 h2 h3 h4 h6 h8 hWv hWB hs l n hn x q w1 hq2 (by have : p < q := hq1; omega) M.rd M.tb M.fr M.rv M.hb sa sc xs M.hvv M.hown M.hlaid k b m t a1 l1 c1 a2 l2 c2 M.hx w.heap.size ((f1.block _ (by simp) (by show ¬ _ = _; omega)).trans (heap_alloc_new _ _)) _ (fun w' hI => Out.yes HE.out ⟨rfl, hI, hq1, hq2⟩)
      · go_simp
        refine hK _ _ ?_
        clear hK K
        refine wpAny_ready (rs := [2]) (by kernel_rfl) (by simp) ?_
        refine AllReady.cons rfl (fun K hK => ?_) (AllReady.nil)
        · go_simp
          refine hK _ _ ?_
          clear hK K
          refine wpAny_ready (rs := [3]) (by kernel_rfl) (by simp) ?_
          refine AllReady.cons rfl (fun K hK => ?_) (AllReady.nil)
          · go_simp
            refine hvB.mono ?_
            rintro e w1 ⟨⟨k, b, m, t, a1, l1, c1, a2, l2, c2, rfl, hx⟩, rd1, hq1, hq2, f1⟩
            have M := M0.after fr rv hb hvv hown hlaid tb ((Fr.alloc (Own rb) w _).trans f1) rd1 (hx.conv (fun b hb _ => ⟨(by omega : w.heap.size ≤ b), rfl⟩))
            have lv1 := lt_of_block M.hvv; have lr1 := lt_of_block M.rv; have cv1 := (box6 M.hvv).2.2.2.2.1
            have cr1 : w1.cell? ⟨r1, 0, none⟩ = some (.pointer (some ⟨rb, 0, none⟩)) := by simp [World.cell?, M.rv]
            refine hK _ _ ?_
            clear hK K
            try simp only [Act.put, List.setIfInBounds_toArray, List.set_cons_zero, List.set_cons_succ]
            exact tail78 W rb r1 vb B s bad dep h1 h2 h3 h4 h6 h8 hWv hWB hs l n hn x q w1 hq2 (by have : p < q := hq1; omega) M.rd M.tb M.fr M.rv M.hb sa sc xs M.hvv M.hown M.hlaid k b m t a1 l1 c1 a2 l2 c2 M.hx w.heap.size ((f1.block _ (by simp) (by show ¬ _ = _; omega)).trans (heap_alloc_new _ _)) _ (fun w' hI => Out.yes HE.out ⟨rfl, hI, hq1, hq2⟩)
    · go_simp
      refine hK _ _ ?_
      clear hK K
      refine wpAny_ready (rs := [1, 3, 5]) (by kernel_rfl) (by simp) ?_
      refine AllReady.cons rfl (fun K hK => ?_) (AllReady.cons rfl (fun K hK => ?_) (AllReady.cons rfl (fun K hK => ?_) (AllReady.nil)))
      · go_simp
        refine hK _ _ ?_
        clear hK K
        refine wpAny_take (i := 4) (v := .int .i64 (n : Int)) rfl (by kernel_rfl) (by kernel_rfl) (by kernel_rfl) (fun _ _ _ h => h) (Or.inl ⟨by rfl, fun w => by go_simp⟩) ?_
        try simp only [Act.put, List.setIfInBounds_toArray]
        refine wpAny_ready (rs := [3, 5]) (by kernel_rfl) (by simp) ?_
        refine AllReady.cons rfl (fun K hK => ?_) (AllReady.cons rfl (fun K hK => ?_) (AllReady.nil))
        · go_simp
          refine hvA.mono ?_
          rintro e w1 ⟨⟨k, b, m, t, a1, l1, c1, a2, l2, c2, rfl, hx⟩, rd1, hq1, hq2, f1⟩
          have M := M0.after fr rv hb hvv hown hlaid tb f1 rd1 hx
          have lv1 := lt_of_block M.hvv; have lr1 := lt_of_block M.rv; have cv1 := (box6 M.hvv).2.2.2.2.1
          have cr1 : w1.cell? ⟨r1, 0, none⟩ = some (.pointer (some ⟨rb, 0, none⟩)) := by simp [World.cell?, M.rv]
          refine hK _ _ ?_
          clear hK K
          try simp only [Act.put, List.setIfInBounds_toArray, List.set_cons_zero, List.set_cons_succ]
          refine wpAny_ready (rs := [5]) (by kernel_rfl) (by simp) ?_
          refine AllReady.cons rfl (fun K hK => ?_) (AllReady.nil)
          · go_simp
            refine hK _ _ ?_
            clear hK K
            exact tail78 W rb r1 vb B s bad dep h1 h2 h3 h4 h6 h8 hWv hWB hs l n hn x q (w1.alloc _) hq2 (by have : p < q := hq1; omega) (M.alloc _).rd (M.alloc _).tb (M.alloc _).fr (M.alloc _).rv (M.alloc _).hb sa sc xs (M.alloc _).hvv (M.alloc _).hown (M.alloc _).hlaid k b m t a1 l1 c1 a2 l2 c2 (M.alloc _).hx w1.heap.size (heap_alloc_new _ _) _ (fun w' hI => Out.yes HE.out ⟨rfl, hI, hq1, hq2⟩)
        · go_simp
          refine hK _ _ ?_
          clear hK K
          refine wpAny_ready (rs := [3]) (by kernel_rfl) (by simp) ?_
          refine AllReady.cons rfl (fun K hK => ?_) (AllReady.nil)
          · go_simp
            refine hvB.mono ?_
            rintro e w1 ⟨⟨k, b, m, t, a1, l1, c1, a2, l2, c2, rfl, hx⟩, rd1, hq1, hq2, f1⟩
            have M := M0.after fr rv hb hvv hown hlaid tb ((Fr.alloc (Own rb) w _).trans f1) rd1 (hx.conv (fun b hb _ => ⟨(by omega : w.heap.size ≤ b), rfl⟩))
            have lv1 := lt_of_block M.hvv; have lr1 := lt_of_block M.rv; have cv1 := (box6 M.hvv).2.2.2.2.1
            have cr1 : w1.cell? ⟨r1, 0, none⟩ = some (.pointer (some ⟨rb, 0, none⟩)) := by simp [World.cell?, M.rv]
            refine hK _ _ ?_
            clear hK K
            try simp only [Act.put, List.setIfInBounds_toArray, List.set_cons_zero, List.set_cons_succ]
            exact tail78 W rb r1 vb B s bad dep h1 h2 h3 h4 h6 h8 hWv hWB hs l n hn x q w1 hq2 (by have : p < q := hq1; omega) M.rd M.tb M.fr M.rv M.hb sa sc xs M.hvv M.hown M.hlaid k b m t a1 l1 c1 a2 l2 c2 M.hx w.heap.size ((f1.block _ (by simp) (by show ¬ _ = _; omega)).trans (heap_alloc_new _ _)) _ (fun w' hI => Out.yes HE.out ⟨rfl, hI, hq1, hq2⟩)
      · go_simp
        refine hvA.mono ?_
        rintro e w1 ⟨⟨k, b, m, t, a1, l1, c1, a2, l2, c2, rfl, hx⟩, rd1, hq1, hq2, f1⟩
        have M := M0.after fr rv hb hvv hown hlaid tb f1 rd1 hx
        have lv1 := lt_of_block M.hvv; have lr1 := lt_of_block M.rv; have cv1 := (box6 M.hvv).2.2.2.2.1
        have cr1 : w1.cell? ⟨r1, 0, none⟩ = some (.pointer (some ⟨rb, 0, none⟩)) := by simp [World.cell?, M.rv]
        refine hK _ _ ?_
        clear hK K
        try simp only [Act.put, List.setIfInBounds_toArray, List.set_cons_zero, List.set_cons_succ]
        refine wpAny_ready (rs := [1, 5]) (by kernel_rfl) (by simp) ?_
        refine AllReady.cons rfl (fun K hK => ?_) (AllReady.cons rfl (fun K hK => ?_) (AllReady.nil))
        · go_simp
          refine hK _ _ ?_
          clear hK K
          refine wpAny_take (i := 4) (v := .int .i64 (n : Int)) rfl (by kernel_rfl) (by kernel_rfl) (by kernel_rfl) (fun _ _ _ h => h) (Or.inl ⟨by rfl, fun w => by go_simp⟩) ?_
          try simp only [Act.put, List.setIfInBounds_toArray]
          refine wpAny_ready (rs := [5]) (by kernel_rfl) (by simp) ?_
          refine AllReady.cons rfl (fun K hK => ?_) (AllReady.nil)
          · go_simp
            refine hK _ _ ?_
            clear hK K
            exact tail78 W rb r1 vb B s bad dep h1 h2 h3 h4 h6 h8 hWv hWB hs l n hn x q (w1.alloc _) hq2 (by have : p < q := hq1; omega) (M.alloc _).rd (M.alloc _).tb (M.alloc _).fr (M.alloc _).rv (M.alloc _).hb sa sc xs (M.alloc _).hvv (M.alloc _).hown (M.alloc _).hlaid k b m t a1 l1 c1 a2 l2 c2 (M.alloc _).hx w1.heap.size (heap_alloc_new _ _) _ (fun w' hI => Out.yes HE.out ⟨rfl, hI, hq1, hq2⟩)
        · go_simp
          refine hK _ _ ?_
          clear hK K
          refine wpAny_ready (rs := [1]) (by kernel_rfl) (by simp) ?_
          refine AllReady.cons rfl (fun K hK => ?_) (AllReady.nil)
          · go_simp
            refine hK _ _ ?_
            clear hK K
            refine wpAny_take (i := 4) (v := .int .i64 (n : Int)) rfl (by kernel_rfl) (by kernel_rfl) (by kernel_rfl) (fun _ _ _ h => h) (Or.inl ⟨by rfl, fun w => by go_simp⟩) ?_
            try simp only [Act.put, List.setIfInBounds_toArray]
            exact tail78 W rb r1 vb B s bad dep h1 h2 h3 h4 h6 h8 hWv hWB hs l n hn x q (w1.alloc _) hq2 (by have : p < q := hq1; omega) (M.alloc _).rd (M.alloc _).tb (M.alloc _).fr (M.alloc _).rv (M.alloc _).hb sa sc xs (M.alloc _).hvv (M.alloc _).hown (M.alloc _).hlaid k b m t a1 l1 c1 a2 l2 c2 (M.alloc _).hx w1.heap.size (heap_alloc_new _ _) _ (fun w' hI => Out.yes HE.out ⟨rfl, hI, hq1, hq2⟩)
      · go_simp
        refine hK _ _ ?_
        clear hK K
        refine wpAny_ready (rs := [1, 3]) (by kernel_rfl) (by simp) ?_
        refine AllReady.cons rfl (fun K hK => ?_) (AllReady.cons rfl (fun K hK => ?_) (AllReady.nil))
        · go_simp
          refine hK _ _ ?_
          clear hK K
          refine wpAny_take (i := 4) (v := .int .i64 (n : Int)) rfl (by kernel_rfl) (by kernel_rfl) (by kernel_rfl) (fun _ _ _ h => h) (Or.inl ⟨by rfl, fun w => by go_simp⟩) ?_
          try simp only [Act.put, List.setIfInBounds_toArray]
          refine wpAny_ready (rs := [3]) (by kernel_rfl) (by simp) ?_
          refine AllReady.cons rfl (fun K hK => ?_) (AllReady.nil)
          · go_simp
            refine hvB.mono ?_
            rintro e w1 ⟨⟨k, b, m, t, a1, l1, c1, a2, l2, c2, rfl, hx⟩, rd1, hq1, hq2, f1⟩
            have M := M0.after fr rv hb hvv hown hlaid tb ((Fr.alloc (Own rb) w _).trans f1) rd1 (hx.conv (fun b hb _ => ⟨(by omega : w.heap.size ≤ b), rfl⟩))
            have lv1 := lt_of_block M.hvv; have lr1 := lt_of_block M.rv; have cv1 := (box6 M.hvv).2.2.2.2.1
            have cr1 : w1.cell? ⟨r1, 0, none⟩ = some (.pointer (some ⟨rb, 0, none⟩)) := by simp [World.cell?, M.rv]
            refine hK _ _ ?_
            clear hK K
            try simp only [Act.put, List.setIfInBounds_toArray, List.set_cons_zero, List.set_cons_succ]
            exact tail78 W rb r1 vb B s bad dep h1 h2 h3 h4 h6 h8 hWv hWB hs l n hn x q w1 hq2 (by have : p < q := hq1; omega) M.rd M.tb M.fr M.rv M.hb sa sc xs M.hvv M.hown M.hlaid k b m t a1 l1 c1 a2 l2 c2 M.hx w.heap.size ((f1.block _ (by simp) (by show ¬ _ = _; omega)).trans (heap_alloc_new _ _)) _ (fun w' hI => Out.yes HE.out ⟨rfl, hI, hq1, hq2⟩)
        · go_simp
          refine hvB.mono ?_
          rintro e w1 ⟨⟨k, b, m, t, a1, l1, c1, a2, l2, c2, rfl, hx⟩, rd1, hq1, hq2, f1⟩
          have M := M0.after fr rv hb hvv hown hlaid tb ((Fr.alloc (Own rb) w _).trans f1) rd1 (hx.conv (fun b hb _ => ⟨(by omega : w.heap.size ≤ b), rfl⟩))
          have lv1 := lt_of_block M.hvv; have lr1 := lt_of_block M.rv; have cv1 := (box6 M.hvv).2.2.2.2.1
          have cr1 : w1.cell? ⟨r1, 0, none⟩ = some (.pointer (some ⟨rb, 0, none⟩)) := by simp [World.cell?, M.rv]
          refine hK _ _ ?_
          clear hK K
          try simp only [Act.put, List.setIfInBounds_toArray, List.set_cons_zero, List.set_cons_succ]
          refine wpAny_ready (rs := [1]) (by kernel_rfl) (by simp) ?_
          refine AllReady.cons rfl (fun K hK => ?_) (AllReady.nil)
          · go_simp
            refine hK _ _ ?_
            clear hK K
            refine wpAny_take (i := 4) (v := .int .i64 (n : Int)) rfl (by kernel_rfl) (by kernel_rfl) (by kernel_rfl) (fun _ _ _ h => h) (Or.inl ⟨by rfl, fun w => by go_simp⟩) ?_
            try simp only [Act.put, List.setIfInBounds_toArray]
            exact tail78 W rb r1 vb B s bad dep h1 h2 h3 h4 h6 h8 hWv hWB hs l n hn x q w1 hq2 (by have : p < q := hq1; omega) M.rd M.tb M.fr M.rv M.hb sa sc xs M.hvv M.hown M.hlaid k b m t a1 l1 c1 a2 l2 c2 M.hx w.heap.size ((f1.block _ (by simp) (by show ¬ _ = _; omega)).trans (heap_alloc_new _ _)) _ (fun w' hI => Out.yes HE.out ⟨rfl, hI, hq1, hq2⟩)
    · go_simp
      refine hK _ _ ?_
      clear hK K
      refine wpAny_ready (rs := [1, 2]) (by kernel_rfl) (by simp) ?_
      refine AllReady.cons rfl (fun K hK => ?_) (AllReady.cons rfl (fun K hK => ?_) (AllReady.nil))
      · go_simp
        refine hK _ _ ?_
        clear hK K
        refine wpAny_take (i := 4) (v := .int .i64 (n : Int)) rfl (by kernel_rfl) (by kernel_rfl) (by kernel_rfl) (fun _ _ _ h => h) (Or.inl ⟨by rfl, fun w => by go_simp⟩) ?_
        try simp only [Act.put, List.setIfInBounds_toArray]
        refine wpAny_ready (rs := [2]) (by kernel_rfl) (by simp) ?_
        refine AllReady.cons rfl (fun K hK => ?_) (AllReady.nil)
        · go_simp
          refine hK _ _ ?_
          clear hK K
          refine wpAny_ready (rs := [3]) (by kernel_rfl) (by simp) ?_
          refine AllReady.cons rfl (fun K hK => ?_) (AllReady.nil)
          · go_simp
            refine hvB.mono ?_
            rintro e w1 ⟨⟨k, b, m, t, a1, l1, c1, a2, l2, c2, rfl, hx⟩, rd1, hq1, hq2, f1⟩
            have M := M0.after fr rv hb hvv hown hlaid tb ((Fr.alloc (Own rb) w _).trans f1) rd1 (hx.conv (fun b hb _ => ⟨(by omega : w.heap.size ≤ b), rfl⟩))
            have lv1 := lt_of_block M.hvv; have lr1 := lt_of_block M.rv; have cv1 := (box6 M.hvv).2.2.2.2.1
            have cr1 : w1.cell? ⟨r1, 0, none⟩ = some (.pointer (some ⟨rb, 0, none⟩)) := by simp [World.cell?, M.rv]
            refine hK _ _ ?_
            clear hK K
            try simp only [Act.put, List.setIfInBounds_toArray, List.set_cons_zero, List.set_cons_succ]
            exact tail78 W rb r1 vb B s bad dep h1 h2 h3 h4 h6 h8 hWv hWB hs l n hn x q w1 hq2 (by have : p < q := hq1; omega) M.rd M.tb M.fr M.rv M.hb sa sc xs M.hvv M.hown M.hlaid k b m t a1 l1 c1 a2 l2 c2 M.hx w.heap.size ((f1.block _ (by simp) (by show ¬ _ = _; omega)).trans (heap_alloc_new _ _)) _ (fun w' hI => Out.yes HE.out ⟨rfl, hI, hq1, hq2⟩)
      · go_simp
        refine hK _ _ ?_
        clear hK K
        refine wpAny_ready (rs := [1, 3]) (by kernel_rfl) (by simp) ?_
        refine AllReady.cons rfl (fun K hK => ?_) (AllReady.cons rfl (fun K hK => ?_) (AllReady.nil))
        · go_simp
          refine hK _ _ ?_
          clear hK K
          refine wpAny_take (i := 4) (v := .int .i64 (n : Int)) rfl (by kernel_rfl) (by kernel_rfl) (by kernel_rfl) (fun _ _ _ h => h) (Or.inl ⟨by rfl, fun w => by go_simp⟩) ?_
          try simp only [Act.put, List.setIfInBounds_toArray]
          refine wpAny_ready (rs := [3]) (by kernel_rfl) (by simp) ?_
          refine AllReady.cons rfl (fun K hK => ?_) (AllReady.nil)
          · go_simp
            refine hvB.mono ?_
            rintro e w1 ⟨⟨k, b, m, t, a1, l1, c1, a2, l2, c2, rfl, hx⟩, rd1, hq1, hq2, f1⟩
            have M := M0.after fr rv hb hvv hown hlaid tb ((Fr.alloc (Own rb) w _).trans f1) rd1 (hx.conv (fun b hb _ => ⟨(by omega : w.heap.size ≤ b), rfl⟩))
            have lv1 := lt_of_block M.hvv; have lr1 := lt_of_block M.rv; have cv1 := (box6 M.hvv).2.2.2.2.1
            have cr1 : w1.cell? ⟨r1, 0, none⟩ = some (.pointer (some ⟨rb, 0, none⟩)) := by simp [World.cell?, M.rv]
            refine hK _ _ ?_
            clear hK K
            try simp only [Act.put, List.setIfInBounds_toArray, List.set_cons_zero, List.set_cons_succ]
            exact tail78 W rb r1 vb B s bad dep h1 h2 h3 h4 h6 h8 hWv hWB hs l n hn x q w1 hq2 (by have : p < q := hq1; omega) M.rd M.tb M.fr M.rv M.hb sa sc xs M.hvv M.hown M.hlaid k b m t a1 l1 c1 a2 l2 c2 M.hx w.heap.size ((f1.block _ (by simp) (by show ¬ _ = _; omega)).trans (heap_alloc_new _ _)) _ (fun w' hI => Out.yes HE.out ⟨rfl, hI, hq1, hq2⟩)
        · go_simp
          refine hvB.mono ?_
          rintro e w1 ⟨⟨k, b, m, t, a1, l1, c1, a2, l2, c2, rfl, hx⟩, rd1, hq1, hq2, f1⟩
          have M := M0.after fr rv hb hvv hown hlaid tb ((Fr.alloc (Own rb) w _).trans f1) rd1 (hx.conv (fun b hb _ => ⟨(by omega : w.heap.size ≤ b), rfl⟩))
          have lv1 := lt_of_block M.hvv; have lr1 := lt_of_block M.rv; have cv1 := (box6 M.hvv).2.2.2.2.1
          have cr1 : w1.cell? ⟨r1, 0, none⟩ = some (.pointer (some ⟨rb, 0, none⟩)) := by simp [World.cell?, M.rv]
          refine hK _ _ ?_
          clear hK K
          try simp only [Act.put, List.setIfInBounds_toArray, List.set_cons_zero, List.set_cons_succ]
          refine wpAny_ready (rs := [1]) (by kernel_rfl) (by simp) ?_
          refine AllReady.cons rfl (fun K hK => ?_) (AllReady.nil)
          · go_simp
            refine hK _ _ ?_
            clear hK K
            refine wpAny_take (i := 4) (v := .int .i64 (n : Int)) rfl (by kernel_rfl) (by kernel_rfl) (by kernel_rfl) (fun _ _ _ h => h) (Or.inl ⟨by rfl, fun w => by go_simp⟩) ?_
            try simp only [Act.put, List.setIfInBounds_toArray]
            exact tail78 W rb r1 vb B s bad dep h1 h2 h3 h4 h6 h8 hWv hWB hs l n hn x q w1 hq2 (by have : p < q := hq1; omega) M.rd M.tb M.fr M.rv M.hb sa sc xs M.hvv M.hown M.hlaid k b m t a1 l1 c1 a2 l2 c2 M.hx w.heap.size ((f1.block _ (by simp) (by show ¬ _ = _; omega)).trans (heap_alloc_new _ _)) _ (fun w' hI => Out.yes HE.out ⟨rfl, hI, hq1, hq2⟩)
end Go.Proofs.YtiakidomcjpdhaaGreatDoor

namespace Go.Proofs.YtiakidomcjpdhaaGreatDoor
open Go.RowKit
namespace PlnW

theorem info5 : (Tryz.prog.info? 5).map (fun i => (i.zero, i.size, i.bytes)) = some (some (.int .u8 0), 1, 1) := by kernel_rfl

/-- A row of bytes that the call owns. -/
def RowB (base : Nat) (w : World) (v : Value) (bs : List UInt8) : Prop := w.ownsRow base 5 1 v bs.length (Lib.byteCells bs)
/-- Blocks of bytes from base on. -/
def Bt (base : Nat) (w : World) (k : Nat) : Prop := base ≤ k ∧ ∃ cur z, w.heap[k]? = some (.cells cur 5 z)
/-- All old blocks but rows of bytes from base on are as they were. -/
def Bw (base : Nat) (w w' : World) : Prop := Fr (Bt base w) w w'

theorem Bw.refl (base : Nat) (w : World) : Bw base w w := Fr.refl _ _
theorem Bw.trans {base : Nat} {a b c : World} (h : Bw base a b) (k : Bw base b c) : Bw base a c := by
  have h1 : Fr (Bt base a) a b := h
  have k1 : Fr (Bt base b) b c := k
  refine ⟨k1.os.trans h1.os, k1.tape.trans h1.tape, k1.output.trans h1.output, Nat.le_trans h1.size k1.size, fun i hi hn => ?_⟩
  have e := h1.block i hi hn
  refine (k1.block i (Nat.lt_of_lt_of_le hi h1.size) (fun hb => hn ⟨hb.1, ?_⟩)).trans e
  obtain ⟨cur, z, hz⟩ := hb.2
  exact ⟨cur, z, e ▸ hz⟩
theorem Bw.of_below {base : Nat} {w w' : World} (h : Below w.heap.size w w') : Bw base w w' := Fr.of_below h
theorem Bw.size {base : Nat} {w w' : World} (h : Bw base w w') : w.heap.size ≤ w'.heap.size := (show Fr _ _ _ from h).size
theorem Bw.below {base : Nat} {w w' : World} (h : Bw base w w') (hb : base ≤ w.heap.size) : Below base w w' := (show Fr _ _ _ from h).below hb (fun k hk hn => by have := hn.1; omega)
theorem Bw.keep {base : Nat} {w w' : World} (h : Bw base w w') {k : Nat} {c : Array Value} {t : TypeId} {z : Nat × Nat} (ht : t ≠ 5) (hk : w.heap[k]? = some (.cells c t z)) : w'.heap[k]? = some (.cells c t z) := by
  refine ((show Fr _ _ _ from h).block k (lt_of_block hk) (fun hn => ?_)).trans hk
  obtain ⟨cur, z', hz⟩ := hn.2
  rw [hk] at hz
  simp at hz
  exact ht hz.2.1
theorem Bw.alloc {base : Nat} {w w' : World} (h : Bw base w w') (o : Obj) : Bw base w (w'.alloc o) := h.trans (Bw.of_below ((Below.refl _ _).alloc (Nat.le_refl _) _))
theorem RowB.nil (base : Nat) (w : World) : RowB base w (.slice none 0 0) [] := World.ownsRow_nil _ _ _ _
theorem RowB.kept {base : Nat} {w w' : World} {v : Value} {bs : List UInt8} (h : RowB base w v bs) (f : Below w.heap.size w w') : RowB base w' v bs := own_kept h f
theorem RowB.form {base : Nat} {w : World} {v : Value} {bs : List UInt8} (h : RowB base w v bs) : ∃ a c, v = .slice a bs.length c := own_form h
theorem RowB.grown {base : Nat} {w w' : World} {v : Value} {n : Nat} {xs : List Value} (h : w.ownsRow base 5 1 v n xs) (g : w.grownBy w' v.ownBlock) : Bw base w w' := by
  refine Fr.grown g (fun k hk hl => ?_)
  rcases h.2 with ⟨rfl, _⟩ | ⟨b, cap, cur, rfl, hb, hg, _⟩
  · cases hk
  · have e : b = k := by simpa [Value.ownBlock] using hk
    subst e
    exact ⟨hb, cur, _, hg⟩
theorem RowB.more {base : Nat} {w : World} {v : Value} {bs ns : List UInt8} {m : Nat} {news : List Value} (h : w.ownsRow base 5 1 v (bs.length + m) (Lib.byteCells bs ++ news)) (hm : m = ns.length) (hn : news = Lib.byteCells ns) : RowB base w v (bs ++ ns) := by
  unfold RowB
  rw [List.length_append, ← hm]
  rw [hn] at h
  have e : Lib.byteCells (bs ++ ns) = Lib.byteCells bs ++ Lib.byteCells ns := by simp [Lib.byteCells]
  rw [e]
  exact h
theorem cells_new (w : World) (l : List Value) (t : TypeId) : ∀ j u, l[j]? = some u → (w.alloc (.cells l.toArray t)).cell? ((⟨w.heap.size, 0, none⟩ : Addr).add j) = some u := by
  intro j u hj
  rw [addr_add]
  have : (w.alloc (.cells l.toArray t)).heap[w.heap.size]? = some (.cells l.toArray t (0, 0)) := heap_alloc_new _ _
  simp only [World.cell?, this]
  simpa using hj
theorem one_byte (l : List UInt8) : ∀ u ∈ Lib.byteCells l, u.oneCell' = true := by
  intro u hu
  obtain ⟨b, _, rfl⟩ := List.mem_map.1 hu
  rfl
theorem str_cells (s : ByteArray) : Lib.strCells s = Lib.byteCells s.data.toList := rfl

/-! What is put for a byte of a text. -/
def hexB (k : Nat) : UInt8 := if k < 10 then (48 + k).toUInt8 else (87 + k).toUInt8
def escB (c : UInt8) : List UInt8 :=
  if c.toNat = 34 ∨ c.toNat = 92 then [92, c] else if c.toNat = 8 then [92, 98] else if c.toNat = 9 then [92, 116] else if c.toNat = 10 then [92, 110] else if c.toNat = 12 then [92, 102] else if c.toNat = 13 then [92, 114]
  else if c.toNat < 32 then [92, 117, 48, 48, hexB (c.toNat / 16), hexB (c.toNat % 16)] else [c]
def escL (l : List UInt8) : List UInt8 := l.flatMap escB
def quotedB (s : ByteArray) : List UInt8 := 34 :: escL s.data.toList ++ [34]
theorem escB_len (c : UInt8) : 1 ≤ (escB c).length ∧ (escB c).length ≤ 6 := by
  unfold escB
  repeat' split
  all_goals simp
theorem escL_len : ∀ l : List UInt8, (escL l).length ≤ 6 * l.length
  | [] => by simp [escL]
  | c :: l => by
    have h1 := escL_len l
    have h2 := escB_len c
    have e : escL (c :: l) = escB c ++ escL l := by simp [escL]
    rw [e, List.length_append, List.length_cons]
    omega
theorem escL_take (l : List UInt8) (i : Nat) (h : i < l.length) : escL (l.take (i + 1)) = escL (l.take i) ++ escB l[i] := by
  have e : ∀ a b : List UInt8, escL (a ++ b) = escL a ++ escL b := fun a b => by simp [escL]
  rw [List.take_succ_eq_append_getElem h, e]
  congr 1
  simp [escL]
theorem quotedB_len (s : ByteArray) : (quotedB s).length ≤ 6 * s.size + 2 := by
  have := escL_len s.data.toList
  rw [← Lib.size_eq] at this
  simp only [quotedB, List.length_append, List.length_cons, List.length_nil]
  omega
end PlnW
end Go.Proofs.YtiakidomcjpdhaaGreatDoor
