/- How great a value is, and how one element of a list or one field of an object lies in memory; nothing of the program. -/
import Derived.Test.YtehpdklnebognaaDoorLsA
namespace Go.Proofs.YtehpdklnebognaaDoor
open Go.RowKit

mutual
/-- How many values and bytes a value holds. -/
def GV.sz : GV → Nat
  | .mk _ _ _ t l f => 1 + t.size + szL l + szF f
def szL : List GV → Nat
  | [] => 0
  | x :: l => x.sz + szL l
def szF : List (ByteArray × GV) → Nat
  | [] => 0
  | x :: l => szP x + szF l
def szP : ByteArray × GV → Nat
  | (nm, x) => nm.size + x.sz
end
theorem GV.sz_pos : ∀ x : GV, 1 ≤ x.sz
  | .mk _ _ _ t l f => by unfold GV.sz; omega
theorem szL_get : ∀ (l : List GV) (i : Nat) (h : i < l.length), (l[i]).sz ≤ szL l
  | [], i, h => by simp at h
  | x :: l, 0, h => by simp [szL]
  | x :: l, i + 1, h => by
    have := szL_get l i (by simpa using h)
    simp [szL]
    omega
theorem szF_get : ∀ (l : List (ByteArray × GV)) (i : Nat) (h : i < l.length), (l[i]).1.size + (l[i]).2.sz ≤ szF l
  | [], i, h => by simp at h
  | (nm, x) :: l, 0, h => by simp [szF, szP]
  | x :: l, i + 1, h => by
    have := szF_get l i (by simpa using h)
    simp [szF]
    omega
theorem szL_len : ∀ l : List GV, l.length ≤ szL l
  | [] => by simp
  | x :: l => by have := szL_len l; have := x.sz_pos; simp [szL]; omega
theorem szF_len : ∀ l : List (ByteArray × GV), l.length ≤ szF l
  | [] => by simp
  | (nm, x) :: l => by have := szF_len l; have := x.sz_pos; simp [szF, szP]; omega

theorem SlAt.form {w : World} {ok : Nat → Prop} {v : Value} {n size : Nat} {xs : List Value} (h : SlAt w ok v n size xs) : ∃ a l c, v = .slice a l c ∧ l = n := by
  rcases h.2 with ⟨a, c, rfl, rfl⟩ | ⟨b, off, cap, rfl, _⟩
  · exact ⟨_, _, _, rfl, rfl⟩
  · exact ⟨_, _, _, rfl, rfl⟩
/-- A value's six cells, written out. -/
theorem LaidV.form {w : World} {ok : Nat → Prop} {k : Int} {b : Bool} {n : Int} {t : ByteArray} {l : List GV} {f : List (ByteArray × GV)} {cs : List Value} (h : LaidV w ok (.mk k b n t l f) cs) :
    ∃ a1 c1 a2 c2 xs ys, cs = [.int .i64 k, .bool b, .int .i64 n, .string t, .slice a1 l.length c1, .slice a2 f.length c2] ∧ SlAt w ok (.slice a1 l.length c1) l.length 6 xs ∧ SlAt w ok (.slice a2 f.length c2) f.length 7 ys ∧ LaidL w ok l xs ∧ LaidF w ok f ys := by
  unfold LaidV at h
  obtain ⟨sl, sf, xs, ys, rfl, h1, h2, h3, h4⟩ := h
  obtain ⟨a1, l1, c1, rfl, rfl⟩ := h1.form
  obtain ⟨a2, l2, c2, rfl, rfl⟩ := h2.form
  exact ⟨a1, c1, a2, c2, xs, ys, rfl, h1, h2, h3, h4⟩
theorem LaidL.len {w : World} {ok : Nat → Prop} : ∀ {l : List GV} {xs : List Value}, LaidL w ok l xs → xs.length = l.length * 6
  | [], xs, h => by unfold LaidL at h; subst h; rfl
  | x :: l, xs, h => by
    unfold LaidL at h
    obtain ⟨a, r, rfl, h1, h2⟩ := h
    simp [h1.len, LaidL.len h2]
    omega
theorem LaidL.get {w : World} {ok : Nat → Prop} : ∀ {l : List GV} {xs : List Value}, LaidL w ok l xs → ∀ (i : Nat) (h : i < l.length), ∃ a, LaidV w ok (l[i]) a ∧ ∀ j, j < 6 → xs[i * 6 + j]? = a[j]?
  | [], xs, _, i, h => by simp at h
  | x :: l, xs, hl, 0, h => by
    unfold LaidL at hl
    obtain ⟨a, r, rfl, h1, h2⟩ := hl
    exact ⟨a, h1, fun j hj => by rw [Nat.zero_mul, Nat.zero_add, List.getElem?_append_left (by rw [h1.len]; exact hj)]⟩
  | x :: l, xs, hl, i + 1, h => by
    unfold LaidL at hl
    obtain ⟨a, r, rfl, h1, h2⟩ := hl
    obtain ⟨c, h3, h4⟩ := LaidL.get h2 i (by simpa using h)
    exact ⟨c, h3, fun j hj => by rw [← h4 j hj, List.getElem?_append_right (by rw [h1.len]; omega), h1.len]; congr 1; omega⟩
theorem LaidP.len {w : World} {ok : Nat → Prop} {x : ByteArray × GV} {cs : List Value} (h : LaidP w ok x cs) : cs.length = 7 := by
  obtain ⟨nm, x⟩ := x
  unfold LaidP at h
  obtain ⟨a, rfl, h1⟩ := h
  simp [h1.len]
theorem LaidF.get {w : World} {ok : Nat → Prop} : ∀ {l : List (ByteArray × GV)} {xs : List Value}, LaidF w ok l xs → ∀ (i : Nat) (h : i < l.length), ∃ a, LaidV w ok (l[i]).2 a ∧ xs[i * 7]? = some (.string (l[i]).1) ∧ ∀ j, j < 6 → xs[i * 7 + (1 + j)]? = a[j]?
  | [], xs, _, i, h => by simp at h
  | (nm, x) :: l, xs, hl, 0, h => by
    unfold LaidF at hl
    obtain ⟨a, r, rfl, h1, h2⟩ := hl
    unfold LaidP at h1
    obtain ⟨c, rfl, h1⟩ := h1
    refine ⟨c, h1, by simp, fun j hj => ?_⟩
    rw [Nat.zero_mul, Nat.zero_add, List.getElem?_append_left (by simp [h1.len]; omega), Nat.add_comm]
    simp
  | x :: l, xs, hl, i + 1, h => by
    unfold LaidF at hl
    obtain ⟨a, r, rfl, h1, h2⟩ := hl
    obtain ⟨c, h3, h5, h4⟩ := LaidF.get h2 i (by simpa using h)
    refine ⟨c, h3, ?_, fun j hj => ?_⟩
    · show _ = some (Value.string (l[i]'(by simpa using h)).1)
      rw [← h5, List.getElem?_append_right (by rw [h1.len]; omega), h1.len]
      congr 1
      omega
    · rw [← h4 j hj, List.getElem?_append_right (by rw [h1.len]; omega), h1.len]
      congr 1
      omega
/-- The cells of one element of a slice of values. -/
theorem SlAt.elem {w : World} {ok : Nat → Prop} {a : Option Addr} {c : Nat} {l : List GV} {xs : List Value} (hs : SlAt w ok (.slice a l.length c) l.length 6 xs) (hl : LaidL w ok l xs) (i : Nat) (h : i < l.length) :
    ∃ b off cs, a = some ⟨b, off, none⟩ ∧ ok b ∧ LaidV w ok (l[i]) cs ∧ ∀ j, j < 6 → w.cell? ⟨b, off + i * 6 + j, none⟩ = cs[j]? := by
  obtain ⟨cs, h1, h2⟩ := hl.get i h
  rcases hs.2 with ⟨_, _, _, h0⟩ | ⟨b, off, cap, he, hb, _, hr⟩
  · omega
  · injection he with he _ _
    subst he
    exact ⟨b, off, cs, rfl, hb (by omega), h1, fun j hj => by rw [← h2 j hj, ← hr (i * 6 + j) (by omega), Nat.add_assoc]⟩
/-- The cells of one field of a slice of fields. -/
theorem SlAt.field {w : World} {ok : Nat → Prop} {a : Option Addr} {c : Nat} {l : List (ByteArray × GV)} {xs : List Value} (hs : SlAt w ok (.slice a l.length c) l.length 7 xs) (hl : LaidF w ok l xs) (i : Nat) (h : i < l.length) :
    ∃ b off cs, a = some ⟨b, off, none⟩ ∧ ok b ∧ LaidV w ok (l[i]).2 cs ∧ w.cell? ⟨b, off + i * 7, none⟩ = some (.string (l[i]).1) ∧ ∀ j, j < 6 → w.cell? ⟨b, off + i * 7 + (1 + j), none⟩ = cs[j]? := by
  obtain ⟨cs, h1, h3, h2⟩ := hl.get i h
  rcases hs.2 with ⟨_, _, _, h0⟩ | ⟨b, off, cap, he, hb, _, hr⟩
  · omega
  · injection he with he _ _
    subst he
    exact ⟨b, off, cs, rfl, hb (by omega), h1, by rw [hr (i * 7) (by omega), h3], fun j hj => by rw [← h2 j hj, ← hr (i * 7 + (1 + j)) (by omega), Nat.add_assoc]⟩
end Go.Proofs.YtehpdklnebognaaDoor
