/- Plain: what a feed holds stays within bounds, byte by byte: the step 'next'. Nothing of the program. -/
import Derived.Test.YtngfoghnopnbmaaGreatDoorTp
namespace Go.Proofs.YtngfoghnopnbmaaGreatDoor
open Go.RowKit
namespace Ht

section
variable {N : Nat} {m m' : FM} {c : UInt8}
/-- Where a header's name is awaited, one more has room. -/
def Nine (m : FM) : Prop := m.wt = 9 → m.g.hs.length < 64
theorem nine_of (h : m.wt ≠ 9) : Nine m := fun e => absurd e h
theorem must_nine {o : UInt8} {n : Int} (hn : n ≠ 9) (h : mustM m c o n = (none, m')) : Nine m' := by
  unfold mustM at h
  split at h
  · injection h with _ h
    rw [← h]
    exact nine_of hn
  · exact (amiss_no h).elim
theorem tVersion_nine (hw : m.wt ≠ 9) (h : tVersion m c = (none, m')) : Nine m' := by
  unfold tVersion keepM at h
  split at h
  · exact must_nine (by split <;> omega) h
  · split at h
    · injection h with _ h
      rw [← h]
      exact nine_of hw
    · exact (amiss_no h).elim
theorem tMethod_nine (hw : m.wt ≠ 9) (h : tMethod m c = (none, m')) : Nine m' := by
  unfold tMethod keepM at h
  split at h
  · injection h with _ h
    rw [← h]
    exact nine_of hw
  · split at h
    · injection h with _ h
      rw [← h]
      exact nine_of (by simp)
    · exact (amiss_no h).elim
theorem tName_nine (h64 : m.g.hs.length < 64) (h : tName m c = (none, m')) : Nine m' := by
  unfold tName keepM at h
  split at h
  · injection h with _ h
    rw [← h]
    exact fun _ => h64
  · split at h
    · injection h with _ h
      rw [← h]
      exact nine_of (by simp)
    · exact (amiss_no h).elim
theorem take_nine (hi : Inv N m) (h9 : Nine m) (h : takeM m c = (none, m')) : Nine m' := by
  have hw := hi.w
  have hcase : m.wt = 1 ∨ m.wt = 2 ∨ m.wt = 3 ∨ m.wt = 4 ∨ m.wt = 5 ∨ m.wt = 6 ∨ m.wt = 7 ∨ m.wt = 8 ∨ m.wt = 9 ∨ m.wt = 10 ∨ m.wt = 11 ∨ m.wt = 12 ∨ m.wt = 13 ∨ m.wt = 14 ∨ m.wt = 15 ∨ m.wt = 16 ∨ m.wt = 17 ∨ m.wt = 18 ∨ m.wt = 19 := by omega
  rcases hcase with e | e | e | e | e | e | e | e | e | e | e | e | e | e | e | e | e | e | e <;> simp only [takeM, e] at h
  · replace h : tFirst m c = (none, m') := by simpa using h
    unfold tFirst at h
    split at h
    · exact tVersion_nine (by simp) h
    · exact tMethod_nine (by simp) h
  · exact tMethod_nine (m := m) (c := c) (by omega) (by simpa using h)
  · replace h : tTarget m c = (none, m') := by simpa using h
    unfold tTarget keepM at h
    repeat' split at h
    all_goals first
      | cases h; done
      | exact (amiss_no h).elim
      | (injection h with _ h; rw [← h]; exact nine_of (by simp only; omega))
  · exact tVersion_nine (m := m) (c := c) (by omega) (by simpa using h)
  · replace h : tStatus m c = (none, m') := by simpa using h
    unfold tStatus keepM at h
    repeat' split at h
    all_goals first
      | exact (amiss_no h).elim
      | (injection h with _ h; rw [← h]; exact nine_of (by simp only; omega))
  · replace h : tReason m c = (none, m') := by simpa using h
    unfold tReason keepM at h
    repeat' split at h
    all_goals first
      | exact (amiss_no h).elim
      | (injection h with _ h; rw [← h]; exact nine_of (by simp only; omega))
  · exact must_nine (n := 8) (by decide) (by simpa using h)
  · replace h : tHeader m c = (none, m') := by simpa using h
    have hh := hi.h
    unfold tHeader at h
    split at h
    · injection h with _ h
      rw [← h]
      exact nine_of (by simp)
    · split at h
      · cases h
      · exact tName_nine (by simp only; omega) h
  · exact tName_nine (h9 e) (by simpa using h)
  · replace h : tValue m c = (none, m') := by simpa using h
    unfold tValue keepM at h
    repeat' split at h
    all_goals first
      | exact (amiss_no h).elim
      | (injection h with _ h; rw [← h]; exact nine_of (by simp only; omega))
  · replace h : tHeadEnd m c = (none, m') := by simpa using h
    unfold tHeadEnd at h
    split at h
    · obtain ⟨⟨n, pc, er⟩, hR⟩ : ∃ R, bodyM m.g.hs = R := ⟨_, rfl⟩
      rw [hR] at h
      cases er with
      | some e0 => cases h
      | none =>
        cases pc with
        | true =>
          simp only [headM] at h
          injection h with _ h
          rw [← h]
          exact nine_of (by simp)
        | false =>
          simp only [headM] at h
          split at h
          all_goals
            injection h with _ h
            rw [← h]
            exact nine_of (by simp [finM])
    · exact (amiss_no h).elim
  · replace h : tBody m c = (none, m') := by simpa using h
    unfold tBody at h
    split at h
    all_goals
      injection h with _ h
      rw [← h]
      exact nine_of (by simp [finM, addM, e])
  · replace h : tDigits m c = (none, m') := by simpa using h
    unfold tDigits keepM at h
    repeat' split at h
    all_goals first
      | exact (amiss_no h).elim
      | (injection h with _ h; rw [← h]; exact nine_of (by simp only; omega))
  · replace h : tDigitEnd m c = (none, m') := by simpa using h
    unfold tDigitEnd at h
    repeat' split at h
    all_goals first
      | cases h; done
      | exact (amiss_no h).elim
      | (injection h with _ h; rw [← h]; exact nine_of (by simp only; omega))
  · replace h : tPiece m c = (none, m') := by simpa using h
    unfold tPiece at h
    split at h
    all_goals
      injection h with _ h
      rw [← h]
      exact nine_of (by simp [addM, e])
  · exact must_nine (n := 17) (by decide) (by simpa using h)
  · exact must_nine (n := 13) (by decide) (by simpa using h)
  · exact must_nine (n := 19) (by decide) (by simpa using h)
  · replace h : tClose m c = (none, m') := by simpa using h
    unfold tClose at h
    split at h
    · injection h with _ h
      rw [← h]
      exact nine_of (by simp [finM])
    · exact (amiss_no h).elim
/-- What a feed holds that took at most N bytes. -/
structure Ok (N : Nat) (m : FM) : Prop where
  i : Inv N m
  n : Nine m
theorem next_ok (h0 : Ok N m) (h : nextM m c = (none, m')) : Ok (N + 1) m' := by
  unfold nextM at h
  split at h
  · split at h
    · cases h
    · have hd := h0.i.d
      have i := h0.i.hd (d := m.hd + 1) (by omega) (by omega)
      have n : Nine { m with hd := m.hd + 1 } := h0.n
      exact ⟨take_inv i n h, take_nine i n h⟩
  · exact ⟨take_inv h0.i h0.n h, take_nine h0.i h0.n h⟩
end
end Ht
end Go.Proofs.YtngfoghnopnbmaaGreatDoor
