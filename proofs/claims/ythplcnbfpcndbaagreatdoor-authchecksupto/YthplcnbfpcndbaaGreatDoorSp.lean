/- Split of a name: what it answers. -/
import Derived.Test.YthplcnbfpcndbaaGreatDoorKe
import Derived.Laws.Strings2
namespace Go.Proofs.YthplcnbfpcndbaaGreatDoor
open Go.RowKit
theorem len_eq (s : ByteArray) : s.data.toList.length = s.size := by simp
abbrev errV : Value := .iface 106 (.int .i64 3)
theorem clone_any (s : ByteArray) (w : World) (hs : s.size ≤ 140737488355328) :
    Calls Tryz.prog 29 #[.string s] w fun e w' => e = .returned (.string s) ∧ Below w.heap.size w w' := by
  have h := fun W => stringslite_Clone s W (by omega)
  go_enter Tryz.func29, Tryz.ntmps29
  go_wp2_with (go_at_call 64; refine (h _).mono ?_; rintro e w' ⟨rfl, hb⟩)
  go_ret
  exact ⟨rfl, hb⟩

/-- A user or a room? -/
def urL (l : List UInt8) : Bool := ofL 64 l || ofL 33 l
theorem of_parts {m : UInt8} {l : List UInt8} (h : ofL m l = true) : ∃ j : Nat, Lib.indexByte (l.drop 1) 58 = j ∧ 1 ≤ l.length ∧ l = m :: l.drop 1 := by
  rw [ofL, Bool.and_eq_true] at h
  cases l with
  | nil => exact absurd h.1 (by simp [Lib.hasPrefix])
  | cons c rest =>
    obtain ⟨h1, h2⟩ := h
    rw [Lib.trimPrefix, h1, if_pos rfl, restL, Bool.and_eq_true] at h2
    have h3 : (0 : Int) ≤ Lib.indexByte ((c :: rest).drop 1) 58 := of_decide_eq_true h2.1
    have h4 : m = c := by
      have : (m == c && _) = true := h1
      rw [Bool.and_eq_true] at this
      exact eq_of_beq this.1
    subst h4
    exact ⟨(Lib.indexByte ((m :: rest).drop 1) 58).toNat, by omega, by simp, rfl⟩
theorem ur_parts {l : List UInt8} (h : urL l = true) : ∃ j : Nat, Lib.indexByte (l.drop 1) 58 = j ∧ 1 ≤ l.length := by
  rw [urL, Bool.or_eq_true] at h
  rcases h with h | h
  · obtain ⟨j, h1, h2, _⟩ := of_parts h
    exact ⟨j, h1, h2⟩
  · obtain ⟨j, h1, h2, _⟩ := of_parts h
    exact ⟨j, h1, h2⟩

set_option maxHeartbeats 4000000 in
theorem split_bad (s : ByteArray) (w : World) (hs : s.size ≤ 140737488355328) (h : urL s.data.toList = false) :
    Calls Tryz.prog 66 #[.string s] w fun e w' => e = .returned (.tuple #[.string ⟨#[]⟩, .string ⟨#[]⟩, errV]) ∧ Below w.heap.size w w' := by
  rw [urL, Bool.or_eq_false_iff] at h
  have hu := fun W => user_any s W (by omega)
  have hr := fun W => room_any s W (by omega)
  rw [h.1] at hu
  rw [h.2] at hr
  clear h
  go_enter Tryz.func66, Tryz.ntmps66
  go_wp2_with (first
    | (go_at_call 31; refine (hu _).mono ?_; rintro e w1 ⟨rfl, hb1⟩)
    | (go_at_call 30; refine (hr _).mono ?_; rintro e w2 ⟨rfl, hb2⟩))
  go_ret3
  exact ⟨rfl, hb1.trans (hb2.mono hb1.size)⟩
theorem ext_ext (s : ByteArray) (a j : Nat) : ((s.extract a s.size).extract 0 j) = s.extract a (min (a + j) s.size) := by
  rw [ByteArray.extract_extract, Nat.add_zero]
theorem ext_ext2 (s : ByteArray) (a j : Nat) : ((s.extract a s.size).extract j (s.extract a s.size).size) = s.extract (a + j) s.size := by
  rw [ByteArray.extract_extract, ByteArray.size_extract]
  congr 1
  omega

set_option maxHeartbeats 4000000 in
theorem split_ok (s : ByteArray) (j : Nat) (w : World) (hs : s.size ≤ 140737488355328) (h : urL s.data.toList = true) (hj : Lib.indexByte (s.data.toList.drop 1) 58 = j) (h1 : 1 ≤ s.size) :
    Calls Tryz.prog 66 #[.string s] w fun e w' => e = .returned (.tuple #[.string (s.extract 1 (j + 1)), .string (s.extract (j + 2) s.size), .nilIface]) ∧ Below w.heap.size w w' := by
  have hu := fun W => user_any s W (by omega)
  have hr := fun W => room_any s W (by omega)
  have hjl := indexByte_lt hj
  rw [List.length_drop, len_eq] at hjl
  have hc := fun W => cut_hit (s.extract 1 s.size) j W (by rw [ByteArray.size_extract]; omega) (by rw [ext_drop]; exact hj)
  rw [ext_ext, ext_ext2, show min (1 + j) s.size = j + 1 by omega, show 1 + (j + 1) = j + 2 by omega] at hc
  have hA : (s.extract 1 (j + 1)).size ≤ 140737488355328 := by rw [ByteArray.size_extract]; omega
  have hB : (s.extract (j + 2) s.size).size ≤ 140737488355328 := by rw [ByteArray.size_extract]; omega
  generalize s.extract 1 (j + 1) = A at *
  generalize s.extract (j + 2) s.size = B at *
  have ka := fun W => clone_any A W hA
  have kb := fun W => clone_any B W hB
  rw [urL] at h
  cases hU : ofL 64 s.data.toList
  · rw [hU] at h hu
    have hR : ofL 33 s.data.toList = true := h
    rw [hR] at hr
    clear hR h hU hj
    go_enter Tryz.func66, Tryz.ntmps66
    go_wp2_with (first
      | (go_at_call 31; refine (hu _).mono ?_; rintro e w1 ⟨rfl, hb1⟩)
      | (go_at_call 30; refine (hr _).mono ?_; rintro e w2 ⟨rfl, hb2⟩)
      | (go_at_call 92; refine (hc _).mono ?_; rintro e w3 ⟨rfl, hb3⟩)
      | (have hq := hb4; clear hq; go_at_call 29; refine (kb _).mono ?_; rintro e w5 ⟨rfl, hb5⟩)
      | (go_at_call 29; refine (ka _).mono ?_; rintro e w4 ⟨rfl, hb4⟩))
    go_ret3
    exact ⟨rfl, (((hb1.trans (hb2.mono hb1.size)).trans (hb3.mono (Nat.le_trans hb1.size hb2.size))).trans (hb4.mono (Nat.le_trans (Nat.le_trans hb1.size hb2.size) hb3.size))).trans (hb5.mono (Nat.le_trans (Nat.le_trans (Nat.le_trans hb1.size hb2.size) hb3.size) hb4.size))⟩
  · rw [hU] at hu
    clear h hU hj hr
    go_enter Tryz.func66, Tryz.ntmps66
    go_wp2_with (first
      | (go_at_call 31; refine (hu _).mono ?_; rintro e w1 ⟨rfl, hb1⟩)
      | (go_at_call 92; refine (hc _).mono ?_; rintro e w3 ⟨rfl, hb3⟩)
      | (have hq := hb4; clear hq; go_at_call 29; refine (kb _).mono ?_; rintro e w5 ⟨rfl, hb5⟩)
      | (go_at_call 29; refine (ka _).mono ?_; rintro e w4 ⟨rfl, hb4⟩))
    go_ret3
    exact ⟨rfl, ((hb1.trans (hb3.mono hb1.size)).trans (hb4.mono (Nat.le_trans hb1.size hb3.size))).trans (hb5.mono (Nat.le_trans (Nat.le_trans hb1.size hb3.size) hb4.size))⟩

end Go.Proofs.YthplcnbfpcndbaaGreatDoor
