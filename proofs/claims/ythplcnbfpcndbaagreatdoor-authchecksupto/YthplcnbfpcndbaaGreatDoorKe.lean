/- The names of users, rooms, events and keys: the calls. -/
import Derived.Test.YthplcnbfpcndbaaGreatDoorKd
namespace Go.Proofs.YthplcnbfpcndbaaGreatDoor
open Go.RowKit

/-- Behind the mark: what is its own, a colon, a server. -/
def restL (mark rest : List UInt8) : Bool := decide (0 ≤ Lib.indexByte rest 58) && (locL mark (rest.take (Lib.indexByte rest 58).toNat) && srvL (rest.drop ((Lib.indexByte rest 58).toNat + 1)))
def ofL (m : UInt8) (l : List UInt8) : Bool := Lib.hasPrefix l [m] && restL [m] (Lib.trimPrefix l [m])
def evL (l : List UInt8) : Bool := Lib.hasPrefix l [36] && (decide ((Lib.trimPrefix l [36]).length = 43) && madeL 43 (letP [95, 45]) (Lib.trimPrefix l [36]))
def keyL (l : List UInt8) : Bool := Lib.hasPrefix l [101, 100, 50, 53, 53, 49, 57, 58] && madeL 16 (letP [95]) (Lib.trimPrefix l [101, 100, 50, 53, 53, 49, 57, 58])
theorem trim_le (l p : List UInt8) : (Lib.trimPrefix l p).length ≤ l.length := by
  unfold Lib.trimPrefix
  split
  · simp
  · exact Nat.le_refl _
theorem ext_take (s : ByteArray) (k : Nat) : (s.extract 0 k).data.toList = s.data.toList.take k := by
  simp [ByteArray.data_extract]
theorem ext_drop (s : ByteArray) (k : Nat) : (s.extract k s.size).data.toList = s.data.toList.drop k := by
  simp only [ByteArray.data_extract, Array.toList_extract, List.extract_eq_take_drop]
  rw [List.take_of_length_le (by simp)]

set_option maxHeartbeats 4000000 in
theorem ofServer_any (s : ByteArray) (m : UInt8) (w : World) (hs : s.size ≤ 1125899906842624) :
    Calls Tryz.prog 65 #[.string s, .string ⟨#[m]⟩] w fun e w' => e = .returned (.bool (ofL m s.data.toList)) ∧ Below w.heap.size w w' := by
  have hc := fun W => strings_CutPrefix s ⟨#[m]⟩ W
  have hz := trim_le s.data.toList [m]
  obtain ⟨R, hR⟩ : ∃ R : ByteArray, (⟨(Lib.trimPrefix s.data.toList [m]).toArray⟩ : ByteArray) = R := ⟨_, rfl⟩
  have hRl : Hid (Lib.trimPrefix s.data.toList [m] = R.data.toList) := by rw [← hR]; rfl
  have hRs : R.size ≤ 1125899906842624 := by rw [hRl.out] at hz; simp at hz; omega
  have hc : ∀ W, Calls Tryz.prog 91 #[.string s, .string ⟨#[m]⟩] W fun e w' => e = .returned (.tuple #[.string R, .bool (Lib.hasPrefix s.data.toList [m])]) ∧ w' = W := fun W => by
    have h := hc W
    rw [show (⟨#[m]⟩ : ByteArray).data.toList = [m] from rfl, hR] at h
    exact h
  clear hR hz
  obtain ⟨M, hM⟩ : ∃ M, Lib.hasPrefix s.data.toList [m] = M := ⟨_, rfl⟩
  rw [hM] at hc
  cases M
  · have HF : Hid (ofL m s.data.toList = false) := by show _ = _; rw [ofL, hM]; rfl
    have hk := fun W => cut_any R W hRs
    clear hM
    go_enter Tryz.func65, Tryz.ntmps65
    go_wp2_with (first
      | (go_at_call 91; refine (hc _).mono ?_; rintro e w1 ⟨rfl, rfl⟩)
      | (go_at_call 92; refine (hk _).mono ?_; rintro e w2 ⟨A, B, c, rfl, hb2⟩))
    go_ret
    exact ⟨ret_bool HF.out.symm, hb2⟩
  · have hg := Lib.indexByte_ge R.data.toList 58
    by_cases hi : Lib.indexByte R.data.toList 58 = -1
    · have HF : Hid (ofL m s.data.toList = false) := by show _ = _; rw [ofL, hM, hRl.out, restL, hi]; rfl
      have hk := fun W => cut_miss R W hi
      clear hM hg hi
      go_enter Tryz.func65, Tryz.ntmps65
      go_wp2_with (first
        | (go_at_call 91; refine (hc _).mono ?_; rintro e w1 ⟨rfl, rfl⟩)
        | (go_at_call 92; refine (hk _).mono ?_; rintro e w2 ⟨rfl, hb2⟩))
      go_ret
      exact ⟨ret_bool HF.out.symm, hb2⟩
    · obtain ⟨k, hk0⟩ : ∃ k : Nat, Lib.indexByte R.data.toList 58 = k := ⟨(Lib.indexByte R.data.toList 58).toNat, by omega⟩
      have hk := fun W => cut_hit R k W hRs hk0
      have HF : Hid (ofL m s.data.toList = (locL [m] (R.data.toList.take k) && srvL (R.data.toList.drop (k + 1)))) := by
        show _ = _
        rw [ofL, hM, hRl.out, restL, hk0]
        simp
      obtain ⟨A, hA⟩ : ∃ A, R.extract 0 k = A := ⟨_, rfl⟩
      obtain ⟨B, hB⟩ : ∃ B, R.extract (k + 1) R.size = B := ⟨_, rfl⟩
      rw [← ext_take, ← ext_drop, hA, hB] at HF
      rw [hA, hB] at hk
      clear hM hg hi hA hB hk0
      have h34 := fun W => isLocal_any A ⟨#[m]⟩ W
      rw [show (⟨#[m]⟩ : ByteArray).data.toList = [m] from rfl] at h34
      have h8 := fun W => server_any B W
      obtain ⟨P, hP⟩ : ∃ P, locL [m] A.data.toList = P := ⟨_, rfl⟩
      rw [hP] at h34 HF
      clear hP
      cases P
      · have HF : Hid (ofL m s.data.toList = false) := by show _ = _; rw [HF.out]; rfl
        go_enter Tryz.func65, Tryz.ntmps65
        go_wp2_with (first
          | (go_at_call 91; refine (hc _).mono ?_; rintro e w1 ⟨rfl, rfl⟩)
          | (go_at_call 92; refine (hk _).mono ?_; rintro e w2 ⟨rfl, hb2⟩)
          | (go_at_call 93; refine (h34 _).mono ?_; rintro e w3 ⟨rfl, hb3⟩))
        go_ret
        exact ⟨ret_bool HF.out.symm, hb2.trans (hb3.mono hb2.size)⟩
      · have HF : Hid (ofL m s.data.toList = srvL B.data.toList) := by show _ = _; rw [HF.out]; rfl
        go_enter Tryz.func65, Tryz.ntmps65
        go_wp2_with (first
          | (go_at_call 91; refine (hc _).mono ?_; rintro e w1 ⟨rfl, rfl⟩)
          | (go_at_call 92; refine (hk _).mono ?_; rintro e w2 ⟨rfl, hb2⟩)
          | (go_at_call 93; refine (h34 _).mono ?_; rintro e w3 ⟨rfl, hb3⟩)
          | (go_at_call 94; refine (h8 _).mono ?_; rintro e w4 ⟨rfl, hb4⟩))
        go_ret
        exact ⟨ret_bool HF.out.symm, (hb2.trans (hb3.mono hb2.size)).trans (hb4.mono (Nat.le_trans hb2.size hb3.size))⟩

theorem user_any (s : ByteArray) (w : World) (hs : s.size ≤ 1125899906842624) :
    Calls Tryz.prog 31 #[.string s] w fun e w' => e = .returned (.bool (ofL 64 s.data.toList)) ∧ Below w.heap.size w w' := by
  have h := fun W => ofServer_any s 64 W hs
  go_enter Tryz.func31, Tryz.ntmps31
  go_wp2_with (go_at_call 65; refine (h _).mono ?_; rintro e w1 ⟨rfl, hb⟩)
  go_ret
  exact ⟨rfl, hb⟩
theorem room_any (s : ByteArray) (w : World) (hs : s.size ≤ 1125899906842624) :
    Calls Tryz.prog 30 #[.string s] w fun e w' => e = .returned (.bool (ofL 33 s.data.toList)) ∧ Below w.heap.size w w' := by
  have h := fun W => ofServer_any s 33 W hs
  go_enter Tryz.func30, Tryz.ntmps30
  go_wp2_with (go_at_call 65; refine (h _).mono ?_; rintro e w1 ⟨rfl, hb⟩)
  go_ret
  exact ⟨rfl, hb⟩

end Go.Proofs.YthplcnbfpcndbaaGreatDoor
