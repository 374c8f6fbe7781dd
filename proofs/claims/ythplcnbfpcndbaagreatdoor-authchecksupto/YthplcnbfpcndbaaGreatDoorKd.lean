/- The names of users, rooms, events and keys. -/
import Derived.Test.YthplcnbfpcndbaaGreatDoorKc
namespace Go.Proofs.YthplcnbfpcndbaaGreatDoor
open Go.RowKit

/-- A text's bytes as such. -/
abbrev ofB (l : List UInt8) : ByteArray := ⟨l.toArray⟩
theorem indexByte_lt {l : List UInt8} {c : UInt8} {k : Nat} (h : Lib.indexByte l c = k) : k < l.length := by
  have := (Lib.indexByte_some h).1
  exact (List.getElem?_eq_some_iff.1 this).1

set_option maxHeartbeats 4000000 in
theorem cut_miss (s : ByteArray) (w : World) (h : Lib.indexByte s.data.toList 58 = -1) :
    Calls Tryz.prog 92 #[.string s, .string ⟨#[58]⟩] w fun e w' => e = .returned (.tuple #[.string s, .string ⟨#[]⟩, .bool false]) ∧ Below w.heap.size w w' := by
  have h1 := fun W => stringslite_Index_one s 58 W
  rw [h] at h1
  have h2 : ∀ W, Calls Tryz.prog 103 #[.string s, .string ⟨#[58]⟩] W fun e w' => e = .returned (.tuple #[.string s, .string ⟨#[]⟩, .bool false]) ∧ Below W.heap.size W w' := by
    intro W
    go_enter Tryz.func103, Tryz.ntmps103
    go_wp2_with (go_at_call 108; refine (h1 _).mono ?_; rintro e w' ⟨rfl, rfl⟩)
    go_ret3
    exact ⟨rfl, Below.refl _ _⟩
  go_enter Tryz.func92, Tryz.ntmps92
  go_wp2_with (go_at_call 103; refine (h2 _).mono ?_; rintro e w' ⟨rfl, hb⟩)
  go_ret3
  exact ⟨rfl, hb⟩
set_option maxHeartbeats 4000000 in
theorem cut_hit (s : ByteArray) (k : Nat) (w : World) (hs : s.size ≤ 1125899906842624) (h : Lib.indexByte s.data.toList 58 = k) :
    Calls Tryz.prog 92 #[.string s, .string ⟨#[58]⟩] w fun e w' => e = .returned (.tuple #[.string (s.extract 0 k), .string (s.extract (k + 1) s.size), .bool true]) ∧ Below w.heap.size w w' := by
  have hlt : k < s.size := by simpa using indexByte_lt h
  have h1 := fun W => stringslite_Index_one s 58 W
  rw [h] at h1
  have h2 : ∀ W, Calls Tryz.prog 103 #[.string s, .string ⟨#[58]⟩] W fun e w' => e = .returned (.tuple #[.string (s.extract 0 k), .string (s.extract (k + 1) s.size), .bool true]) ∧ Below W.heap.size W w' := by
    intro W
    clear h
    go_enter Tryz.func103, Tryz.ntmps103
    go_wp2_with (go_at_call 108; refine (h1 _).mono ?_; rintro e w' ⟨rfl, rfl⟩)
    go_quiet (fail)
    go_wp2
    go_ret3
    exact ⟨rfl, below_drewN (Below.refl _ _) _⟩
  go_enter Tryz.func92, Tryz.ntmps92
  go_wp2_with (go_at_call 103; refine (h2 _).mono ?_; rintro e w' ⟨rfl, hb⟩)
  go_ret3
  exact ⟨rfl, hb⟩
theorem cut_any (s : ByteArray) (w : World) (hs : s.size ≤ 1125899906842624) :
    Calls Tryz.prog 92 #[.string s, .string ⟨#[58]⟩] w fun e w' => ∃ A B c, e = .returned (.tuple #[.string A, .string B, .bool c]) ∧ Below w.heap.size w w' := by
  have hg := Lib.indexByte_ge s.data.toList 58
  by_cases h : Lib.indexByte s.data.toList 58 = -1
  · exact (cut_miss s w h).mono fun e w' ⟨he, hb⟩ => ⟨_, _, _, he, hb⟩
  · exact (cut_hit s (Lib.indexByte s.data.toList 58).toNat w hs (by omega)).mono fun e w' ⟨he, hb⟩ => ⟨_, _, _, he, hb⟩

/-- What may stand behind a mark. -/
def locL (mark l : List UInt8) : Bool := if mark = [64] then madeL 32 (lowP [46, 95, 61, 45, 47]) l else if mark = [33] then madeL 32 (letP [95, 45]) l else false

set_option maxHeartbeats 4000000 in
theorem isLocal_any (s m : ByteArray) (w : World) :
    Calls Tryz.prog 93 #[.string s, .string m] w fun e w' => e = .returned (.bool (locL m.data.toList s.data.toList)) ∧ Below w.heap.size w w' := by
  have hl := fun W => lowOr_any ⟨#[46, 95, 61, 45, 47]⟩ W (by decide) (asc_lit (by decide))
  have hu := fun W => letterOr_any ⟨#[95, 45]⟩ W (by decide) (asc_lit (by decide))
  have hm := fun v W hk => made_any s 32 v (lowP [46, 95, 61, 45, 47]) W hk (lowP_high _) (by decide)
  have hn := fun v W hk => made_any s 32 v (letP [95, 45]) W hk (letP_high _) (by decide)
  have e1 : m.toList = m.data.toList := Lib.toList_data m
  obtain ⟨M, hM⟩ : ∃ M, m.data.toList = M := ⟨_, rfl⟩
  rw [hM] at e1
  rw [hM]
  clear hM
  by_cases h1 : M = [64]
  · subst h1
    rw [locL, if_pos rfl]
    clear hu hn
    go_enter Tryz.func93, Tryz.ntmps93
    go_wp2_with (first
      | (go_at_call 105; refine (hl _).mono ?_; rintro e w1 ⟨v, rfl, hk, hb1⟩)
      | (go_at_call 104; refine (hm _ _ hk).mono ?_; rintro e w2 ⟨rfl, hb2⟩))
    go_ret
    exact ⟨rfl, hb1.trans (hb2.mono hb1.size)⟩
  · by_cases h2 : M = [33]
    · subst h2
      rw [locL, if_neg h1, if_pos rfl]
      clear hl hm h1
      go_enter Tryz.func93, Tryz.ntmps93
      go_wp2_with (first
        | (go_at_call 106; refine (hu _).mono ?_; rintro e w1 ⟨v, rfl, hk, hb1⟩)
        | (go_at_call 104; refine (hn _ _ hk).mono ?_; rintro e w2 ⟨rfl, hb2⟩))
      go_ret
      exact ⟨rfl, hb1.trans (hb2.mono hb1.size)⟩
    · rw [locL, if_neg h1, if_neg h2]
      clear hl hm hu hn
      have f1 : (M == [64]) = false := by simpa using h1
      have f2 : (M == [33]) = false := by simpa using h2
      go_enter Tryz.func93, Tryz.ntmps93
      go_wp2
      go_ret
      exact ⟨rfl, Below.refl _ _⟩
end Go.Proofs.YthplcnbfpcndbaaGreatDoor
