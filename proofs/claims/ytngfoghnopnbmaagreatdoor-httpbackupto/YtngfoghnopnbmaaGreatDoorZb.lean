/- Parts come back from their target: plain mathematics, nothing of the program's memory. -/
import Derived.Test.YtngfoghnopnbmaaGreatDoorXa
import Derived.Test.YtngfoghnopnbmaaGreatDoorSu
namespace Go.Proofs.YtngfoghnopnbmaaGreatDoor
open Go.RowKit
namespace Ht
open Bw

set_option maxRecDepth 20000 in
theorem esc_fin : ∀ n : Fin 256, (plB (UInt8.ofNat n.val) = true → tgB (UInt8.ofNat n.val) = true ∧ UInt8.ofNat n.val ∉ ([35, 37, 47, 63, 61, 38] : List UInt8)) ∧ hxB (hexU (n.val / 16)) = true ∧ hxB (hexU (n.val % 16)) = true ∧ UInt8.ofNat ((dvN (hexU (n.val / 16))).toNat * 16 + (dvN (hexU (n.val % 16))).toNat) = UInt8.ofNat n.val := by decide +kernel
theorem esc_one (c : UInt8) : (plB c = true → tgB c = true ∧ c ∉ ([35, 37, 47, 63, 61, 38] : List UInt8)) ∧ hxB (hexU (c.toNat / 16)) = true ∧ hxB (hexU (c.toNat % 16)) = true ∧ UInt8.ofNat ((dvN (hexU (c.toNat / 16))).toNat * 16 + (dvN (hexU (c.toNat % 16))).toNat) = c := by
  have h := esc_fin ⟨c.toNat, UInt8.toNat_lt c⟩
  simpa using h
theorem rc_esc (c : UInt8) (r : List UInt8) : rcM (escB c ++ r) = some (c, (escB c).length) := by
  obtain ⟨h1, h2, h3, h4⟩ := esc_one c
  unfold escB
  by_cases hp : plB c = true
  · obtain ⟨k1, k2⟩ := h1 hp
    simp only [List.mem_cons, List.not_mem_nil, or_false, not_or] at k2
    rw [if_pos hp]
    simp only [List.singleton_append, rcM, List.length_singleton]
    rw [if_pos ⟨k1, k2.1⟩, if_pos k2.2.1]
  · rw [if_neg hp]
    simp only [List.cons_append, List.nil_append, rcM, List.length_cons, List.length_nil]
    rw [if_pos ⟨by decide, by decide⟩, if_neg (by decide), if_pos ⟨h2, h3⟩, h4]
theorem esc_head (c : UInt8) : ∃ x t, escB c = x :: t ∧ x ∉ ([47, 63, 61, 38] : List UInt8) := by
  unfold escB
  by_cases hp : plB c = true
  · rw [if_pos hp]
    have h := ((esc_one c).1 hp).2
    simp only [List.mem_cons, List.not_mem_nil, or_false, not_or] at h
    exact ⟨c, [], rfl, by simp only [List.mem_cons, List.not_mem_nil, or_false, not_or]; exact ⟨h.2.2.1, h.2.2.2.1, h.2.2.2.2.1, h.2.2.2.2.2⟩⟩
  · rw [if_neg hp]
    exact ⟨37, _, rfl, by decide⟩
/-- These bytes end a piece. -/
def Ends (ends r : List UInt8) : Prop := r = [] ∨ ∃ x y, r = x :: y ∧ x ∈ ends
theorem pc_esc {ends : List UInt8} (he : ∀ x ∈ ends, x ∈ ([47, 63, 61, 38] : List UInt8)) {r : List UInt8} (hr : Ends ends r) : ∀ (l : List UInt8) (n : Nat) (acc : List UInt8) (k : Nat), (escL l ++ r).length ≤ n → pcM ends n (escL l ++ r) acc k = (true, acc ++ l, k + (escL l).length)
  | [], n, acc, k, hn => by
    rcases hr with rfl | ⟨x, y, rfl, hx⟩
    · simp [escL, pc_end]
    · simp only [escL, List.flatMap_nil, List.nil_append, List.length_cons] at hn ⊢
      rw [pc_stop _ _ _ _ _ _ hx (by omega)]
      simp
  | c :: l, n, acc, k, hn => by
    have e : escL (c :: l) = escB c ++ escL l := by simp [escL]
    obtain ⟨x, t, hx, hxe⟩ := esc_head c
    have hrc := rc_esc c (escL l ++ r)
    have hd : (escB c ++ (escL l ++ r)).drop (escB c).length = escL l ++ r := List.drop_left
    rw [e, List.append_assoc] at hn ⊢
    rw [List.length_append] at hn
    rw [show (escB c ++ escL l).length = (escB c).length + (escL l).length from List.length_append]
    have ih := pc_esc he hr l (n - (escB c).length) (acc ++ [c]) (k + (escB c).length) (by omega)
    obtain ⟨z, hz⟩ : ∃ z, (escB c).length = z := ⟨_, rfl⟩
    have hzt : z = t.length + 1 := by rw [← hz, hx]; rfl
    rw [hz] at hrc hd ih hn ⊢
    rw [hx, List.cons_append] at hrc hd ⊢
    rw [pc_go ends n x _ acc k (fun h => hxe (he x h)) hrc (by rw [List.length_append]; omega), hd, ih, List.append_assoc, List.singleton_append, Nat.add_assoc]
theorem piece_esc {ends : List UInt8} (he : ∀ x ∈ ends, x ∈ ([47, 63, 61, 38] : List UInt8)) (pre t r : List UInt8) (hr : Ends ends r) (hs : sndB t = true) (p : Nat) (hp : p = pre.length) : pieceM (pre ++ (escL t ++ r)) p ends = .ok (t, p + (escL t).length) := by
  subst hp
  unfold pieceM
  rw [List.drop_left, pc_esc he hr t _ [] 0 (by simp)]
  simp only [pieceF, List.nil_append, Nat.zero_add]
  rw [if_pos hs]
def flat (l : List (List UInt8)) : List UInt8 := l.flatMap fun a => 47 :: escL a
theorem jp_false : ∀ l : List (List UInt8), jp false l = flat l
  | [] => rfl
  | a :: l => by
    have h := jp_false l
    simp only [jp, h]
    simp [flat]
theorem jp_true (a : List UInt8) (l : List (List UInt8)) : [47] ++ jp true (a :: l) = flat (a :: l) := by
  simp only [jp, jp_false]
  simp [flat]
theorem flat_cons (a : List UInt8) (l : List (List UInt8)) : flat (a :: l) = 47 :: (escL a ++ flat l) := by simp [flat]
theorem jq_cons (f : Bool) (a : List UInt8 × List UInt8) (l : List (List UInt8 × List UInt8)) : jq f (a :: l) = (if f = true then 63 else 38) :: (escL a.1 ++ (61 :: (escL a.2 ++ jq false l))) := by simp [jq]
theorem at_pre (pre : List UInt8) (x : UInt8) (r : List UInt8) : (pre ++ x :: r)[pre.length]? = some x := by simp
theorem path_flat {rest : List UInt8} (hrest : Ends [63] rest) : ∀ (l : List (List UInt8)) (pre : List UInt8) (acc : List (List UInt8)) (n : Nat), (∀ a ∈ l, sndB a = true) → (pre ++ (flat l ++ rest)).length ≤ pre.length + n → pathM (pre ++ (flat l ++ rest)) n pre.length acc = .ok (acc ++ l, pre.length + (flat l).length)
  | [], pre, acc, n, _, _ => by
    have h : (pre ++ (flat [] ++ rest))[pre.length]? ≠ some 47 := by
      rcases hrest with rfl | ⟨x, y, rfl, hx⟩
      · simp [flat]
      · simp only [flat, List.flatMap_nil, List.nil_append]
        rw [at_pre]
        simp at hx
        rw [hx]
        decide
    rw [path_stop h]
    simp [flat]
  | a :: l, pre, acc, n, hs, hn => by
    have e : pre ++ (flat (a :: l) ++ rest) = (pre ++ [47]) ++ (escL a ++ (flat l ++ rest)) := by rw [flat_cons]; simp
    have e2 : pre ++ (flat (a :: l) ++ rest) = (pre ++ 47 :: escL a) ++ (flat l ++ rest) := by rw [flat_cons]; simp
    have hend : Ends [47, 63] (flat l ++ rest) := by
      cases l with
      | nil =>
        rcases hrest with rfl | ⟨x, y, rfl, hx⟩
        · exact .inl rfl
        · exact .inr ⟨x, y, rfl, by simp at hx; simp [hx]⟩
      | cons b l => exact .inr ⟨47, _, by rw [flat_cons]; rfl, by simp⟩
    have h47 : (pre ++ (flat (a :: l) ++ rest))[pre.length]? = some 47 := by rw [flat_cons]; exact at_pre _ _ _
    have hp : pieceM (pre ++ (flat (a :: l) ++ rest)) (pre.length + 1) [47, 63] = .ok (a, pre.length + 1 + (escL a).length) := by
      rw [e]
      exact piece_esc (by simp) (pre ++ [47]) a _ hend (hs a (by simp)) _ (by simp)
    rw [path_go h47 hn acc hp]
    have ih := path_flat hrest l (pre ++ 47 :: escL a) (acc ++ [a]) ((pre ++ (flat (a :: l) ++ rest)).length - (pre.length + 1 + (escL a).length)) (fun b hb => hs b (by simp [hb])) (by rw [← e2]; simp; omega)
    rw [← e2] at ih
    have hl : (pre ++ 47 :: escL a).length = pre.length + 1 + (escL a).length := by simp; omega
    rw [hl] at ih
    rw [ih, List.append_assoc, List.singleton_append, flat_cons]
    simp only [List.length_cons, List.length_append]
    congr 2
    omega
theorem query_flat : ∀ (l : List (List UInt8 × List UInt8)) (f : Bool) (pre : List UInt8) (acc : List (List UInt8 × List UInt8)) (n : Nat), (∀ a ∈ l, sndB a.1 = true ∧ sndB a.2 = true) → (pre ++ jq f l).length ≤ pre.length + n → queryL (pre ++ jq f l) n pre.length acc = .ok (acc ++ l)
  | [], f, pre, acc, n, _, _ => by
    rw [query_stop (by simp [jq])]
    simp
  | a :: l, f, pre, acc, n, hs, hn => by
    obtain ⟨x, hx⟩ : ∃ x : UInt8, (if f = true then 63 else 38) = x := ⟨_, rfl⟩
    have ec := jq_cons f a l
    rw [hx] at ec
    have e : pre ++ jq f (a :: l) = (pre ++ [x]) ++ (escL a.1 ++ (61 :: (escL a.2 ++ jq false l))) := by rw [ec]; simp
    have e1 : pre ++ jq f (a :: l) = (pre ++ x :: escL a.1) ++ (61 :: (escL a.2 ++ jq false l)) := by rw [ec]; simp
    have e2 : pre ++ jq f (a :: l) = (pre ++ x :: (escL a.1 ++ [61])) ++ (escL a.2 ++ jq false l) := by rw [ec]; simp
    have e3 : pre ++ jq f (a :: l) = (pre ++ x :: (escL a.1 ++ 61 :: escL a.2)) ++ jq false l := by rw [ec]; simp
    have hend : Ends [38] (jq false l) := by
      cases l with
      | nil => exact .inl rfl
      | cons b l => exact .inr ⟨38, _, by rw [jq_cons]; rfl, by simp⟩
    have h1 : pieceM (pre ++ jq f (a :: l)) (pre.length + 1) [61, 38] = .ok (a.1, pre.length + 1 + (escL a.1).length) := by
      rw [e]
      exact piece_esc (by simp) (pre ++ [x]) a.1 _ (.inr ⟨61, _, rfl, by simp⟩) (hs a (by simp)).1 _ (by simp)
    have h61 : (pre ++ jq f (a :: l))[pre.length + 1 + (escL a.1).length]? = some 61 := by
      rw [e1]
      have := at_pre (pre ++ x :: escL a.1) 61 (escL a.2 ++ jq false l)
      rw [show (pre ++ x :: escL a.1).length = pre.length + 1 + (escL a.1).length by simp; omega] at this
      exact this
    have h2 : pieceM (pre ++ jq f (a :: l)) (pre.length + 1 + (escL a.1).length + 1) [38] = .ok (a.2, pre.length + 1 + (escL a.1).length + 1 + (escL a.2).length) := by
      rw [e2]
      exact piece_esc (by simp) (pre ++ x :: (escL a.1 ++ [61])) a.2 _ hend (hs a (by simp)).2 _ (by simp; omega)
    have hp : paramM (pre ++ jq f (a :: l)) (pre.length + 1) = .ok (a, pre.length + 1 + (escL a.1).length + 1 + (escL a.2).length) := by
      unfold paramM
      rw [h1]
      simp only [h61, if_true, h2]
    have hl : pre.length < (pre ++ jq f (a :: l)).length := by rw [ec]; simp
    rw [query_go hl hn acc hp]
    have ih := query_flat l false (pre ++ x :: (escL a.1 ++ 61 :: escL a.2)) (acc ++ [a]) ((pre ++ jq f (a :: l)).length - (pre.length + 1 + (escL a.1).length + 1 + (escL a.2).length)) (fun b hb => hs b (by simp [hb])) (by rw [← e3]; simp; omega)
    rw [← e3] at ih
    have hll : (pre ++ x :: (escL a.1 ++ 61 :: escL a.2)).length = pre.length + 1 + (escL a.1).length + 1 + (escL a.2).length := by simp; omega
    rw [hll] at ih
    rw [ih, List.append_assoc, List.singleton_append]
/-- Parts that are sound come back from their target. -/
theorem split_join (P : List (List UInt8)) (Q : List (List UInt8 × List UInt8)) (h0 : P ≠ []) (hP : ∀ a ∈ P, sndB a = true) (hQ : ∀ a ∈ Q, sndB a.1 = true ∧ sndB a.2 = true) : splitM (joinM P Q) = .ok (P, Q) := by
  obtain ⟨a, l, rfl⟩ : ∃ a l, P = a :: l := by
    cases P with
    | nil => exact absurd rfl h0
    | cons a l => exact ⟨a, l, rfl⟩
  have e : joinM (a :: l) Q = [] ++ (flat (a :: l) ++ jq true Q) := by
    unfold joinM
    rw [jp_true]
    rfl
  have hend : Ends [63] (jq true Q) := by
    cases Q with
    | nil => exact .inl rfl
    | cons b l => exact .inr ⟨63, _, by rw [jq_cons]; rfl, by simp⟩
  have hp := path_flat hend (a :: l) [] [] (joinM (a :: l) Q).length hP (by rw [← e]; simp)
  rw [← e] at hp
  simp only [List.length_nil, List.nil_append, Nat.zero_add] at hp
  have e2 : joinM (a :: l) Q = flat (a :: l) ++ jq true Q := e
  have hq : queryM (joinM (a :: l) Q) (flat (a :: l)).length = .ok Q := by
    unfold queryM
    cases Q with
    | nil =>
      rw [if_pos (by rw [e2]; simp [jq])]
    | cons b Q =>
      rw [if_neg (by rw [e2, jq_cons]; simp only [List.length_append, List.length_cons]; omega), e2]
      have := query_flat (b :: Q) true (flat (a :: l)) [] ((flat (a :: l) ++ jq true (b :: Q)).length - (flat (a :: l)).length) hQ (by simp)
      simpa using this
  unfold splitM
  rw [if_pos (by rw [e2, flat_cons]; rfl), hp]
  simp only [hq]
end Ht
end Go.Proofs.YtngfoghnopnbmaaGreatDoor
