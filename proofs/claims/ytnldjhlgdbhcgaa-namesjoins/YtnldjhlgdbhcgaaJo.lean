/- Join, the reference's too; the examples at the head of all statements. -/
import Derived.Test.YtnldjhlgdbhcgaaSp
namespace Go.Proofs.Ytnldjhlgdbhcgaa
open Go.RowKit

theorem ix_free : ∀ (a b : List UInt8), 58 ∉ a → Lib.indexByte (a ++ 58 :: b) 58 = a.length
  | [], b, _ => by simp [Lib.indexByte]
  | x :: a, b, h => by
    have h1 : x ≠ 58 := fun e => h (by simp [e])
    have ih := ix_free a b (fun e => h (by simp [e]))
    rw [List.cons_append, Lib.indexByte, if_neg (by simpa using h1), ih, if_neg (by simp)]
    simp
theorem ix_in : ∀ (a b : List UInt8), 58 ∈ a → ∃ j : Nat, j < a.length ∧ Lib.indexByte (a ++ b) 58 = j
  | [], _, h => by simp at h
  | x :: a, b, h => by
    by_cases h1 : x = 58
    · subst h1
      exact ⟨0, by simp, by simp [Lib.indexByte]⟩
    · have h2 : 58 ∈ a := by
        rcases List.mem_cons.1 h with h | h
        · exact absurd h.symm h1
        · exact h
      obtain ⟨j, hj, e⟩ := ix_in a b h2
      refine ⟨j + 1, by simp; omega, ?_⟩
      rw [List.cons_append, Lib.indexByte, if_neg (by simpa using h1), e, if_neg (by simp)]
      simp
theorem made_no {m : Int} {p : Int → Bool} {l : List UInt8} {x : UInt8} (h : x ∈ l) (hp : p (x.toNat : Int) = false) : madeL m p l = false := by
  have : l.all (fun b => p (b.toNat : Int)) = false := by
    rw [List.all_eq_false]
    exact ⟨x, h, by simp [hp]⟩
  rw [madeL, this, Bool.and_false]
theorem srv_no {l : List UInt8} {x : UInt8} (h : x ∈ l) (hp : lowP [46, 45] (x.toNat : Int) = false) : srvL l = false := by
  rw [srvL, made_no h hp, Bool.false_and]
theorem rest_join (m : UInt8) (p : Int → Bool) (hp : ∀ x, locL [m] x = madeL 32 p x) (h58 : p 58 = false) (a b : List UInt8) : restL [m] (a ++ 58 :: b) = (locL [m] a && srvL b) := by
  rw [restL]
  by_cases h : 58 ∈ a
  · obtain ⟨j, hj, e⟩ := ix_in a (58 :: b) h
    rw [e, hp, hp, made_no h (show p ((58 : UInt8).toNat : Int) = false from h58)]
    have hm : 58 ∈ (a ++ 58 :: b).drop (j + 1) := by
      rw [List.drop_append]
      refine List.mem_append.2 (.inr ?_)
      rw [show j + 1 - a.length = 0 by omega]
      simp
    rw [Int.toNat_natCast, srv_no hm (by decide)]
    simp
  · rw [ix_free a b h, Int.toNat_natCast, List.take_append_of_le_length (Nat.le_refl _), List.take_length, List.drop_append]
    rw [List.drop_eq_nil_of_le (by omega), show a.length + 1 - a.length = 1 by omega]
    simp
/-- The name of such parts. -/
abbrev joB (m l v : ByteArray) : ByteArray := ((m ++ l) ++ ⟨#[58]⟩) ++ v
def joL (m l v : List UInt8) : Bool := locL m l && srvL v
theorem joB_data (m l v : ByteArray) : (joB m l v).data.toList = m.data.toList ++ (l.data.toList ++ 58 :: v.data.toList) := by simp [joB]
theorem jo_of (m : UInt8) (p : Int → Bool) (hp : ∀ x, locL [m] x = madeL 32 p x) (h58 : p 58 = false) (l v : List UInt8) : ofL m ([m] ++ (l ++ 58 :: v)) = joL [m] l v := by
  have hpre : Lib.hasPrefix ([m] ++ (l ++ 58 :: v)) [m] = true := by simp [Lib.hasPrefix]
  have htr : Lib.trimPrefix ([m] ++ (l ++ 58 :: v)) [m] = l ++ 58 :: v := by rw [Lib.trimPrefix, hpre]; rfl
  rw [ofL, hpre, htr, rest_join m p hp h58, joL]
  rfl
theorem jo_user (l v : List UInt8) : ofL 64 ([64] ++ (l ++ 58 :: v)) = joL [64] l v := jo_of 64 (lowP [46, 95, 61, 45, 47]) (fun x => by rw [locL, if_pos rfl]) (by decide) l v
theorem jo_room (l v : List UInt8) : ofL 33 ([33] ++ (l ++ 58 :: v)) = joL [33] l v := jo_of 33 (letP [95, 45]) (fun x => by rw [locL, if_neg (by decide), if_pos rfl]) (by decide) l v

set_option maxHeartbeats 4000000 in
theorem join_bad (m l v : ByteArray) (w : World) (h : joL m.data.toList l.data.toList v.data.toList = false) :
    Calls Try.prog 21 #[.string m, .string l, .string v] w fun e w' => e = .returned (.tuple #[.string ⟨#[]⟩, errV]) ∧ Below w.heap.size w w' := by
  have hl := fun W => isLocal_any l m W
  have hs := fun W => server_any v W
  rw [joL] at h
  cases hL : locL m.data.toList l.data.toList
  · rw [hL] at hl
    clear hL h hs
    go_enter Try.func21, Try.ntmps21
    go_wp2_with (go_at_call 34; refine (hl _).mono ?_; rintro e w1 ⟨rfl, hb1⟩)
    go_ret2
    exact ⟨rfl, hb1⟩
  · rw [hL, Bool.true_and] at h
    rw [hL] at hl
    rw [h] at hs
    clear hL h
    go_enter Try.func21, Try.ntmps21
    go_wp2_with (first
      | (go_at_call 34; refine (hl _).mono ?_; rintro e w1 ⟨rfl, hb1⟩)
      | (go_at_call 8; refine (hs _).mono ?_; rintro e w2 ⟨rfl, hb2⟩))
    go_ret2
    exact ⟨rfl, hb1.trans (hb2.mono hb1.size)⟩
set_option maxHeartbeats 4000000 in
theorem join_ok (m l v : ByteArray) (w : World) (h : joL m.data.toList l.data.toList v.data.toList = true) (hm : m.size ≤ 140737488355328) (hll : l.size ≤ 140737488355328) (hv : v.size ≤ 140737488355328) :
    Calls Try.prog 21 #[.string m, .string l, .string v] w fun e w' => e = .returned (.tuple #[.string (joB m l v), .nilIface]) ∧ Below w.heap.size w w' := by
  have hl := fun W => isLocal_any l m W
  have hs := fun W => server_any v W
  rw [joL, Bool.and_eq_true] at h
  rw [h.1] at hl
  rw [h.2] at hs
  have z1 : (m ++ l).size ≤ 281474976710656 := by rw [ByteArray.size_append]; omega
  have z2 : (m ++ l ++ ⟨#[58]⟩).size ≤ 281474976710657 := by rw [ByteArray.size_append]; show _ + 1 ≤ _; omega
  have z3 : (joB m l v).size ≤ 422212465065985 := by rw [ByteArray.size_append]; omega
  clear h
  go_enter Try.func21, Try.ntmps21
  go_wp2_with (first
    | (go_at_call 34; refine (hl _).mono ?_; rintro e w1 ⟨rfl, hb1⟩)
    | (go_at_call 8; refine (hs _).mono ?_; rintro e w2 ⟨rfl, hb2⟩))
  go_ret2
  exact ⟨rfl, hb1.trans (hb2.mono hb1.size)⟩

set_option maxHeartbeats 4000000 in
theorem rjoin_any (m l v : ByteArray) (w : World) (hm : m.size ≤ 140737488355328) (hll : l.size ≤ 140737488355328) (hv : v.size ≤ 140737488355328) :
    Calls Try.prog 22 #[.string m, .string l, .string v] w fun e w' => e = .returned (if joL m.data.toList l.data.toList v.data.toList then .tuple #[.string (joB m l v), .int .i64 0] else .tuple #[.string ⟨#[]⟩, .int .i64 3]) ∧ Below w.heap.size w w' := by
  have z1 : (m ++ l).size ≤ 281474976710656 := by rw [ByteArray.size_append]; omega
  have z2 : (m ++ l ++ ⟨#[58]⟩).size ≤ 281474976710657 := by rw [ByteArray.size_append]; show _ + 1 ≤ _; omega
  have z3 : (joB m l v).size ≤ 422212465065985 := by rw [ByteArray.size_append]; omega
  have hu := fun W => ruser_any' (joB m l v) W (by omega)
  have hr := fun W => rroom_any' (joB m l v) W (by omega)
  have ml : m.toList = m.data.toList := Lib.toList_data m
  have HD := joB_data m l v
  by_cases h1 : m.data.toList = [64]
  · rw [h1] at HD ml
    rw [HD, jo_user] at hu
    rw [h1]
    generalize joL [64] l.data.toList v.data.toList = J at hu ⊢
    generalize ofL 33 (joB m l v).data.toList = Q at hr
    clear h1 HD
    cases J
    all_goals
      go_enter Try.func22, Try.ntmps22
      go_wp2_with (first
        | (go_at_call 11; refine (hu _).mono ?_; rintro e w1 ⟨rfl, rfl⟩)
        | (go_at_call 13; refine (hr _).mono ?_; rintro e w2 ⟨rfl, rfl⟩))
      go_ret2
      exact ⟨rfl, Below.refl _ _⟩
  · by_cases h2 : m.data.toList = [33]
    · rw [h2] at HD ml
      rw [HD, jo_room] at hr
      rw [h2]
      generalize joL [33] l.data.toList v.data.toList = J at hr ⊢
      generalize ofL 64 (joB m l v).data.toList = Q at hu
      clear h1 h2 HD
      cases J
      all_goals
        go_enter Try.func22, Try.ntmps22
        go_wp2_with (first
          | (go_at_call 11; refine (hu _).mono ?_; rintro e w1 ⟨rfl, rfl⟩)
          | (go_at_call 13; refine (hr _).mono ?_; rintro e w2 ⟨rfl, rfl⟩))
        go_ret2
        exact ⟨rfl, Below.refl _ _⟩
    · have f1 : (m.data.toList == [64]) = false := by simpa using h1
      have f2 : (m.data.toList == [33]) = false := by simpa using h2
      rw [show joL m.data.toList l.data.toList v.data.toList = false by rw [joL, locL, if_neg h1, if_neg h2]; rfl]
      generalize ofL 64 (joB m l v).data.toList = Q1 at hu
      generalize ofL 33 (joB m l v).data.toList = Q2 at hr
      clear h1 h2 HD
      go_enter Try.func22, Try.ntmps22
      go_wp2_with (first
        | (go_at_call 11; refine (hu _).mono ?_; rintro e w1 ⟨rfl, rfl⟩)
        | (go_at_call 13; refine (hr _).mono ?_; rintro e w2 ⟨rfl, rfl⟩))
      go_ret2
      exact ⟨rfl, Below.refl _ _⟩

set_option maxHeartbeats 400000 in
theorem up_any (w : World) : Calls Try.prog 7 #[] w fun e w' => e = .returned (.bool true) ∧ Below w.heap.size w w' := by
  have h18 : ∀ W, Calls Try.prog 18 #[.string ⟨#[64, 97, 108, 58, 120, 46, 121]⟩] W fun e w' => e = .returned (.tuple #[.string ⟨#[97, 108]⟩, .string ⟨#[120, 46, 121]⟩, .nilIface]) ∧ Below W.heap.size W w' := fun W => by
    have h := split_ok ⟨#[64, 97, 108, 58, 120, 46, 121]⟩ 2 W (by decide) (by kernel_rfl) (by kernel_rfl) (by decide)
    rw [show ByteArray.extract ⟨#[64, 97, 108, 58, 120, 46, 121]⟩ 1 (2 + 1) = ⟨#[97, 108]⟩ by kernel_rfl, show ByteArray.extract ⟨#[64, 97, 108, 58, 120, 46, 121]⟩ (2 + 2) (ByteArray.size ⟨#[64, 97, 108, 58, 120, 46, 121]⟩) = ⟨#[120, 46, 121]⟩ by kernel_rfl] at h
    exact h
  have h8a : ∀ W, Calls Try.prog 8 #[.string ⟨#[97, 46, 101, 120, 97, 109, 112, 108, 101]⟩] W fun e w' => e = .returned (.bool true) ∧ Below W.heap.size W w' := fun W => by
    have h := server_any ⟨#[97, 46, 101, 120, 97, 109, 112, 108, 101]⟩ W
    rwa [show srvL (ByteArray.data ⟨#[97, 46, 101, 120, 97, 109, 112, 108, 101]⟩).toList = true by kernel_rfl] at h
  have h8b : ∀ W, Calls Try.prog 8 #[.string ⟨#[97, 46, 46, 98]⟩] W fun e w' => e = .returned (.bool false) ∧ Below W.heap.size W w' := fun W => by
    have h := server_any ⟨#[97, 46, 46, 98]⟩ W
    rwa [show srvL (ByteArray.data ⟨#[97, 46, 46, 98]⟩).toList = false by kernel_rfl] at h
  have h12 : ∀ W, Calls Try.prog 12 #[.string ⟨#[33, 65, 98, 95, 45, 58, 120]⟩] W fun e w' => e = .returned (.bool true) ∧ Below W.heap.size W w' := fun W => by
    have h := room_any ⟨#[33, 65, 98, 95, 45, 58, 120]⟩ W (by decide)
    rwa [show ofL 33 (ByteArray.data ⟨#[33, 65, 98, 95, 45, 58, 120]⟩).toList = true by kernel_rfl] at h
  have h16 : ∀ W, Calls Try.prog 16 #[.string ⟨#[101, 100, 50, 53, 53, 49, 57, 58, 107, 95, 49]⟩] W fun e w' => e = .returned (.bool true) ∧ Below W.heap.size W w' := fun W => by
    have h := key_any ⟨#[101, 100, 50, 53, 53, 49, 57, 58, 107, 95, 49]⟩ W
    rwa [show keyL (ByteArray.data ⟨#[101, 100, 50, 53, 53, 49, 57, 58, 107, 95, 49]⟩).toList = true by kernel_rfl] at h
  have hb0 := Below.refl w.heap.size w
  have fl : Hid (0 = 0) := rfl
  go_enter Try.func7, Try.ntmps7
  go_wp2_with (first
    | (go_at_call 18; refine (h18 _).mono ?_; rintro e w1 ⟨rfl, hb⟩; replace hb0 := hb0.trans (hb.mono hb0.size); clear hb)
    | (go_at_call 8; have hq := fl; clear hq fl; refine (h8a _).mono ?_; rintro e w2 ⟨rfl, hb⟩; replace hb0 := hb0.trans (hb.mono hb0.size); clear hb)
    | (go_at_call 8; refine (h8b _).mono ?_; rintro e w2 ⟨rfl, hb⟩; replace hb0 := hb0.trans (hb.mono hb0.size); clear hb)
    | (go_at_call 12; refine (h12 _).mono ?_; rintro e w1 ⟨rfl, hb⟩; replace hb0 := hb0.trans (hb.mono hb0.size); clear hb)
    | (go_at_call 16; refine (h16 _).mono ?_; rintro e w1 ⟨rfl, hb⟩; replace hb0 := hb0.trans (hb.mono hb0.size); clear hb))
  go_ret
  exact ⟨rfl, hb0⟩
end Go.Proofs.Ytnldjhlgdbhcgaa
