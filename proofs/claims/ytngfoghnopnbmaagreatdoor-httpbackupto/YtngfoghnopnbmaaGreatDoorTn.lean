/- The step that a feed takes with a byte, whatever it waits for. -/
import Derived.Test.YtngfoghnopnbmaaGreatDoorTm
namespace Go.Proofs.YtngfoghnopnbmaaGreatDoor
open Go.RowKit
namespace Ht
open Bw

/-- What a feed that took at most N bytes holds. -/
structure Inv (N : Nat) (m : FM) : Prop where
  w : 1 ≤ m.wt ∧ m.wt ≤ 19
  d : 0 ≤ m.hd ∧ m.hd ≤ 8192
  t : m.tx.length ≤ N
  h : m.g.hs.length ≤ 64
  b : m.g.bo.length ≤ N
  o : m.wh.length ≤ N
  l : 0 ≤ m.lf ∧ m.lf ≤ 4294967296
  z : ∀ p ∈ m.g.hs, p.1.size ≤ N ∧ p.2.size ≤ N
  e : m.wt = 1 ∨ m.wt = 7 ∨ m.wt = 8 ∨ m.wt = 11 ∨ m.wt = 12 ∨ 14 ≤ m.wt → m.tx = []
  v : m.wt = 4 → m.tx.length ≤ 8
  s : m.wt = 5 ∨ m.wt = 13 → (∀ c ∈ m.tx, hxB c = true) ∧ m.tx.length ≤ 8
  q : m.wt = 10 → ∃ p nm old, m.g.hs = p ++ [(nm, old)]
  k : m.wt = 12 ∨ m.wt = 15 → 1 ≤ m.lf
/-- The step, by what is awaited. -/
def takeM (m : FM) (c : UInt8) : Option Int × FM :=
  if m.wt = 1 then tFirst m c else if m.wt = 2 then tMethod m c else if m.wt = 3 then tTarget m c else if m.wt = 4 then tVersion m c
  else if m.wt = 5 then tStatus m c else if m.wt = 6 then tReason m c else if m.wt = 7 then mustM m c 10 8 else if m.wt = 8 then tHeader m c
  else if m.wt = 9 then tName m c else if m.wt = 10 then tValue m c else if m.wt = 11 then tHeadEnd m c else if m.wt = 12 then tBody m c
  else if m.wt = 13 then tDigits m c else if m.wt = 14 then tDigitEnd m c else if m.wt = 15 then tPiece m c else if m.wt = 16 then mustM m c 13 17
  else if m.wt = 17 then mustM m c 10 13 else if m.wt = 18 then mustM m c 13 19 else tClose m c
section
variable {G : Nat → Prop} {base fb : Nat} {m : FM} {vt vh vb vw : Value} {zs : List Value} {w : World}
theorem takes_any {N : Nat} (hN : N ≤ 1000000000) (h : FA G base fb m vt vh vb vw zs w) (hi : Inv N m) (c : UInt8) : ∃ f, fnOf m.wt = .func (.func f) #[] #[] ∧ Calls Tryz.prog f #[.pointer (some ⟨fb, 0, none⟩), .int .u8 (c.toNat : Int)] w fun e w' => Took G base fb (takeM m c) w e w' := by
  have i1 := hi.w
  have i2 := hi.t
  have i3 := hi.h
  have i4 := hi.b
  have i5 := hi.o
  have i6 := hi.l
  have hz : ∀ p ∈ m.g.hs, p.1.size ≤ 9223372036854775806 ∧ p.2.size ≤ 9223372036854775806 := fun p hp => by have := hi.z p hp; omega
  have hcase : m.wt = 1 ∨ m.wt = 2 ∨ m.wt = 3 ∨ m.wt = 4 ∨ m.wt = 5 ∨ m.wt = 6 ∨ m.wt = 7 ∨ m.wt = 8 ∨ m.wt = 9 ∨ m.wt = 10 ∨ m.wt = 11 ∨ m.wt = 12 ∨ m.wt = 13 ∨ m.wt = 14 ∨ m.wt = 15 ∨ m.wt = 16 ∨ m.wt = 17 ∨ m.wt = 18 ∨ m.wt = 19 := by omega
  rcases hcase with e | e | e | e | e | e | e | e | e | e | e | e | e | e | e | e | e | e | e
  · exact ⟨91, by rw [e]; rfl, by simpa [takeM, e] using take91 h c (by rw [hi.e (.inl e)]; simp)⟩
  · exact ⟨92, by rw [e]; rfl, by simpa [takeM, e] using take92 h c (by omega)⟩
  · exact ⟨93, by rw [e]; rfl, by simpa [takeM, e] using take93 h c (by omega)⟩
  · exact ⟨94, by rw [e]; rfl, by simpa [takeM, e] using take94 h c (hi.v e)⟩
  · exact ⟨95, by rw [e]; rfl, by simpa [takeM, e] using take95 h c (by have := (hi.s (.inl e)).2; omega) (hi.s (.inl e)).1⟩
  · exact ⟨96, by rw [e]; rfl, by simpa [takeM, e] using take96 h c (by omega)⟩
  · exact ⟨97, by rw [e]; rfl, by simpa [takeM, e] using take97 h c⟩
  · exact ⟨98, by rw [e]; rfl, by simpa [takeM, e] using take98 h c (by omega) (by omega)⟩
  · exact ⟨99, by rw [e]; rfl, by simpa [takeM, e] using take99 h c (by omega) (by omega)⟩
  · obtain ⟨p, nm, old, hp⟩ := hi.q e
    exact ⟨100, by rw [e]; rfl, by simpa [takeM, e] using take100 h c (by omega) p nm old hp (by omega)⟩
  · exact ⟨101, by rw [e]; rfl, by simpa [takeM, e] using take101 h c (by omega) hz (by omega)⟩
  · exact ⟨102, by rw [e]; rfl, by simpa [takeM, e] using take102 h c (by omega) (by omega) (by omega)⟩
  · exact ⟨103, by rw [e]; rfl, by simpa [takeM, e] using take103 h c (by omega) (hi.s (.inr e)).1 (by have := (hi.s (.inr e)).2; omega)⟩
  · exact ⟨104, by rw [e]; rfl, by simpa [takeM, e] using take104 h c (by omega) (by omega)⟩
  · exact ⟨105, by rw [e]; rfl, by simpa [takeM, e] using take105 h c (by omega) (by omega)⟩
  · exact ⟨106, by rw [e]; rfl, by simpa [takeM, e] using take106 h c⟩
  · exact ⟨107, by rw [e]; rfl, by simpa [takeM, e] using take107 h c⟩
  · exact ⟨108, by rw [e]; rfl, by simpa [takeM, e] using take108 h c⟩
  · exact ⟨109, by rw [e]; rfl, by simpa [takeM, e] using take109 h c (by omega)⟩
end
end Ht
end Go.Proofs.YtngfoghnopnbmaaGreatDoor
