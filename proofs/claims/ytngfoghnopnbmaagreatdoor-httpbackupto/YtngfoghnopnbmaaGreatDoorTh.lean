/- strings.Trim of blanks. -/
import Derived.Test.YtngfoghnopnbmaaGreatDoorTg
namespace Go.Proofs.YtngfoghnopnbmaaGreatDoor
open Go.RowKit
namespace Ht
open Bw

/-- Is a byte a blank? -/
def blB (c : UInt8) : Bool := decide (c = 32) || decide (c = 9)
/-- A set of the blanks, in a block. -/
def SetAt (w : World) (b : Nat) : Prop := ∀ c : UInt8, w.cell? ⟨b, c.toNat, none⟩ = some (.bool (blB c))
def dropL (l : List UInt8) : List UInt8 := l.dropWhile blB
def dropR (l : List UInt8) : List UInt8 := (l.reverse.dropWhile blB).reverse
def strOf' : Value → List UInt8
  | .string s => s.data.toList
  | _ => []
theorem bytes_ext {s t : ByteArray} (h : s.data.toList = t.data.toList) : s = t := by
  cases s
  cases t
  simpa using h
theorem ext_tail {t : ByteArray} {c : UInt8} {r : List UInt8} (h : t.data.toList = c :: r) : (t.extract 1 t.size).data.toList = r := by
  have hs : t.size = r.length + 1 := by rw [Lib.size_eq, h]; simp
  rw [ByteArray.data_extract, Array.toList_extract, h]
  simp [hs, List.extract]
theorem ext_init {t : ByteArray} {c : UInt8} {r : List UInt8} {n : Nat} (h : t.data.toList = r ++ [c]) (hn : r.length = n) : (t.extract 0 n).data.toList = r := by
  subst hn
  rw [ByteArray.data_extract, Array.toList_extract, h]
  simp [List.extract]
set_option maxRecDepth 20000 in
set_option maxHeartbeats 2000000 in
theorem tl144 (s : ByteArray) (b : Nat) (w : World) (hset : SetAt w b) : Calls Tryz.prog 144 #[.string s, .pointer (some ⟨b, 0, none⟩)] w fun e w' => e = .returned (.string ⟨(dropL s.data.toList).toArray⟩) ∧ w' = w := by
  have HQ : Hid (∀ c : UInt8, Calls Tryz.prog 153 #[.pointer (some ⟨b, 0, none⟩), .int .u8 (c.toNat : Int)] w fun e w' => e = .returned (.bool (blB c)) ∧ w' = w) := fun c => asciiSet_contains b c (blB c) w (hset c)
  clear hset
  go_enter Tryz.func144, Tryz.ntmps144
  go_wp2
  go_loopw [0] (fun u w' => ∃ t : ByteArray, u = .string t ∧ Hid (dropL t.data.toList = dropL s.data.toList) ∧ w' = w) (fun u _ => (strOf' u).length)
  case atStart => exact ⟨s, rfl, rfl, rfl⟩
  case round =>
    obtain ⟨t, rfl, HT, rfl⟩ := hrel
    by_cases h0 : 0 < t.size
    · have h0' : (0 : Int) < (t.size : Int) := by omega
      obtain ⟨c, r, hcr⟩ : ∃ c r, t.data.toList = c :: r := by
        cases h : t.data.toList with
        | nil => rw [Lib.size_eq, h] at h0; simp at h0
        | cons c r => exact ⟨c, r, rfl⟩
      have hget : t[0]'h0 = c := by
        show t.data[0] = c
        rw [← Array.getElem_toList]
        simp [hcr]
      have q := HQ.out c
      have hte := ext_tail hcr
      have H1 : Hid (dropL (c :: r) = dropL s.data.toList) := by show _ = _; rw [← hcr]; exact HT.out
      have HM : Hid ((strOf' (.string t)).length = r.length + 1) := by show _ = _; unfold strOf'; simp only [hcr, List.length_cons]
      have HS : Hid (⟨(c :: r).toArray⟩ = t) := by
        show _ = t
        rw [← hcr]
      obtain ⟨T2, hT2⟩ : ∃ T2, t.extract 1 t.size = T2 := ⟨_, rfl⟩
      rw [hT2] at hte
      have HE : Hid (T2.data.toList = r) := hte
      have h1 : (1 : Int) ≤ (t.size : Int) := by omega
      clear hte HT hcr
      cases hb : blB c with
      | true =>
        have H2 : Hid (dropL r = dropL s.data.toList) := by
          show _ = _
          rw [← H1.out]
          simp [dropL, hb]
        rw [hb] at q
        clear hb H1
        go_wp2_with (go_at_call 153; refine q.mono ?_; rintro e w1 ⟨rfl, rfl⟩)
        go_roundw
        case rel => exact ⟨T2, rfl, by show _ = _; rw [HE.out]; exact H2.out, trivial⟩
        case measure =>
          have := HM.out
          show (strOf' (.string T2)).length < _
          rw [this]
          unfold strOf'
          simp only [HE.out]
          omega
      | false =>
        have H2 : Hid (dropL s.data.toList = c :: r) := by
          show _ = _
          rw [← H1.out]
          simp [dropL, hb]
        rw [hb] at q
        clear hb H1
        go_wp2_with (go_at_call 153; refine q.mono ?_; rintro e w1 ⟨rfl, rfl⟩)
        go_ret
        exact ⟨by rw [H2.out, HS.out]; rfl, rfl⟩
    · have h0' : ¬ (0 : Int) < (t.size : Int) := by omega
      have H2 : Hid (⟨(dropL s.data.toList).toArray⟩ = t) := by
        show _ = t
        have : t.data.toList = [] := List.eq_nil_of_length_eq_zero (by rw [← Lib.size_eq]; omega)
        rw [← HT.out, this]
        apply bytes_ext
        rw [this]
        rfl
      clear HT
      go_wp2
      go_ret
      exact ⟨by rw [H2.out]; rfl, rfl⟩
set_option maxRecDepth 20000 in
set_option maxHeartbeats 2000000 in
theorem tr145 (s : ByteArray) (b : Nat) (w : World) (hs : s.size ≤ 9223372036854775806) (hset : SetAt w b) : Calls Tryz.prog 145 #[.string s, .pointer (some ⟨b, 0, none⟩)] w fun e w' => e = .returned (.string ⟨(dropR s.data.toList).toArray⟩) ∧ w' = w := by
  have HQ : Hid (∀ c : UInt8, Calls Tryz.prog 153 #[.pointer (some ⟨b, 0, none⟩), .int .u8 (c.toNat : Int)] w fun e w' => e = .returned (.bool (blB c)) ∧ w' = w) := fun c => asciiSet_contains b c (blB c) w (hset c)
  clear hset
  go_enter Tryz.func145, Tryz.ntmps145
  go_wp2
  go_loopw [0] (fun u w' => ∃ t : ByteArray, u = .string t ∧ t.size ≤ 9223372036854775806 ∧ Hid (dropR t.data.toList = dropR s.data.toList) ∧ w' = w) (fun u _ => (strOf' u).length)
  case atStart => exact ⟨s, rfl, hs, rfl, rfl⟩
  case round =>
    obtain ⟨t, rfl, hts, HT, rfl⟩ := hrel
    by_cases h0 : 0 < t.size
    · have h0' : (0 : Int) < (t.size : Int) := by omega
      have hne : t.data.toList ≠ [] := fun h => by rw [Lib.size_eq, h] at h0; simp at h0
      obtain ⟨c, r, hcr⟩ : ∃ c r, t.data.toList = r ++ [c] := ⟨_, _, (List.dropLast_concat_getLast hne).symm⟩
      obtain ⟨n, hn⟩ : ∃ n, r.length = n := ⟨_, rfl⟩
      have hrs : t.size = n + 1 := by rw [Lib.size_eq, hcr]; simp [hn]
      have hget : t[n]'(by omega) = c := by
        show t.data[n]'(by show n < t.size; omega) = c
        rw [← Array.getElem_toList]
        simp [hcr, ← hn]
      clear hne
      have q := HQ.out c
      have hte := ext_init hcr hn
      have H1 : Hid (dropR (r ++ [c]) = dropR s.data.toList) := by show _ = _; rw [← hcr]; exact HT.out
      have HM : Hid ((strOf' (.string t)).length = r.length + 1) := by show _ = _; unfold strOf'; simp only [hcr, List.length_append, List.length_cons, List.length_nil, Nat.zero_add]
      have HS : Hid (⟨(r ++ [c]).toArray⟩ = t) := by
        show _ = t
        rw [← hcr]
      obtain ⟨T2, hT2⟩ : ∃ T2, t.extract 0 n = T2 := ⟨_, rfl⟩
      rw [hT2] at hte
      have HE : Hid (T2.data.toList = r) := hte
      have hnb : (n : Int) ≤ 9223372036854775805 := by omega
      have HN : Hid (T2.size ≤ 9223372036854775806) := by show _ ≤ _; rw [Lib.size_eq, HE.out, hn]; omega
      clear hn
      clear hte HT hcr
      cases hb : blB c with
      | true =>
        have H2 : Hid (dropR r = dropR s.data.toList) := by
          show _ = _
          rw [← H1.out]
          simp [dropR, hb]
        rw [hb] at q
        clear hb H1
        go_wp2_with (go_at_call 153; refine q.mono ?_; rintro e w1 ⟨rfl, rfl⟩)
        go_roundw
        case rel => exact ⟨T2, rfl, HN.out, by show _ = _; rw [HE.out]; exact H2.out, trivial⟩
        case measure =>
          have := HM.out
          show (strOf' (.string T2)).length < _
          rw [this]
          unfold strOf'
          simp only [HE.out]
          omega
      | false =>
        have H2 : Hid (dropR s.data.toList = r ++ [c]) := by
          show _ = _
          rw [← H1.out]
          simp [dropR, hb]
        rw [hb] at q
        clear hb H1
        go_wp2_with (go_at_call 153; refine q.mono ?_; rintro e w1 ⟨rfl, rfl⟩)
        go_ret
        exact ⟨by rw [H2.out, HS.out]; rfl, rfl⟩
    · have h0' : ¬ (0 : Int) < (t.size : Int) := by omega
      have H2 : Hid (⟨(dropR s.data.toList).toArray⟩ = t) := by
        show _ = t
        have : t.data.toList = [] := List.eq_nil_of_length_eq_zero (by rw [← Lib.size_eq]; omega)
        rw [← HT.out, this]
        apply bytes_ext
        rw [this]
        rfl
      clear HT
      go_wp2
      go_ret
      exact ⟨by rw [H2.out]; rfl, rfl⟩
end Ht
end Go.Proofs.YtngfoghnopnbmaaGreatDoor
