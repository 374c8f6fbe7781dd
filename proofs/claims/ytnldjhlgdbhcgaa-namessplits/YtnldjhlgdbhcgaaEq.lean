/- The program's names and the reference's are the same. -/
import Derived.Test.YtnldjhlgdbhcgaaRg
namespace Go.Proofs.Ytnldjhlgdbhcgaa
open Go.RowKit

theorem low2 (C : Int) (h0 : 0 ≤ C) : lowP [46, 45] C = (lowP [] C || ((C == 46) || (C == 45))) := by
  simp only [lowP, one_nil]
  rw [one_cons 46 (by decide) _ C h0, one_cons 45 (by decide) _ C h0, one_nil]
  simp [Bool.or_assoc]
theorem low46 : lowP [] 46 = false := by decide
theorem low45 : lowP [] 45 = false := by decide
theorem low_ne {C : Int} (h : lowP [] C = true) : (C == 46) = false ∧ (C == 45) = false := by
  constructor
  · rw [beq_eq_false_iff_ne]
    rintro rfl
    rw [low46] at h
    cases h
  · rw [beq_eq_false_iff_ne]
    rintro rfl
    rw [low45] at h
    cases h
abbrev pD : UInt8 → Bool := fun b => lowP [46, 45] (b.toNat : Int)

theorem scan_some : ∀ (l : List UInt8) (B : Int), l ≠ [] → (lowP [] B = true ∨ B = 46 ∨ B = 45) → (l.all pD && scanI B (l ++ [46])) = refGo l (some B)
  | [], _, h, _ => absurd rfl h
  | [c], B, _, _ => by
    have hc : (0 : Int) ≤ (c.toNat : Int) := by omega
    simp only [List.all_cons, List.all_nil, List.cons_append, List.nil_append, scanI, refGo, pD]
    rw [low2 _ hc]
    generalize (c.toNat : Int) = C at hc
    cases h : lowP [] C
    · simp
    · obtain ⟨h1, h2⟩ := low_ne h
      simp [h1, h2, pairB]
  | c :: d :: t, B, _, hB => by
    have hc : (0 : Int) ≤ (c.toNat : Int) := by omega
    have ih := scan_some (d :: t) (c.toNat : Int) (by simp)
    rw [List.all_cons, List.cons_append, scanI, refGo, pD, low2 _ hc]
    generalize (d :: t).all pD = A at ih
    generalize scanI (c.toNat : Int) (d :: t ++ [46]) = S at ih
    generalize refGo (d :: t) (some (c.toNat : Int)) = G at ih
    generalize (c.toNat : Int) = C at hc ih
    cases h : lowP [] C
    · by_cases h1 : C = 46
      · subst h1
        have ih := ih (.inr (.inl rfl))
        rw [← ih]
        rcases hB with hB | rfl | rfl
        · obtain ⟨g1, g2⟩ := low_ne hB
          simp [g1, g2, hB, pairB]
        · simp [pairB]
        · simp [pairB, low45]
      · by_cases h2 : C = 45
        · subst h2
          have ih := ih (.inr (.inr rfl))
          rw [← ih]
          rcases hB with hB | rfl | rfl
          · obtain ⟨g1, g2⟩ := low_ne hB
            simp [g1, pairB]
          · simp [pairB]
          · simp [pairB]
        · have k1 : (C == 46) = false := by simpa using h1
          have k2 : (C == 45) = false := by simpa using h2
          simp [k1, k2, bne]
    · obtain ⟨h1, h2⟩ := low_ne h
      have ih := ih (.inl h)
      rw [← ih]
      simp [h1, h2, pairB]
theorem scan_none (l : List UInt8) (hl : l ≠ []) : (l.all pD && scanI 46 (l ++ [46])) = refGo l none := by
  cases l with
  | nil => exact absurd rfl hl
  | cons c t =>
    have hc : (0 : Int) ≤ (c.toNat : Int) := by omega
    rw [List.all_cons, List.cons_append, scanI, refGo, pD, low2 _ hc]
    cases h : lowP [] (c.toNat : Int)
    · simp
    · obtain ⟨h1, h2⟩ := low_ne h
      by_cases ht : t = []
      · subst ht
        simp [h1, scanI, refGo, pairB, h]
      · rw [← scan_some t _ ht (.inl h)]
        simp [h1, pairB]
theorem srv_eq (l : List UInt8) : srvL l = refSrv l := by
  by_cases hl : l = []
  · subst hl
    rfl
  · have e := scan_none l hl
    have h1 : 1 ≤ l.length := by
      cases l with
      | nil => exact absurd rfl hl
      | cons => simp
    rw [srvL, refSrv, madeL, ← e]
    by_cases h2 : l.length ≤ 64
    · have h3 : (l.length : Int) ≤ 64 := by omega
      simp [hl, h1, h2, h3]
    · have h3 : ¬ (l.length : Int) ≤ 64 := by omega
      simp [h2, h3]

theorem of_eq (m : UInt8) (p : Int → Bool) (l : List UInt8) (hm : m ≠ 58) (hp : ∀ x, locL [m] x = madeL 32 p x) : ofL m l = refOf m p l := by
  cases l with
  | nil => rfl
  | cons c rest =>
    by_cases hc : c = m
    · subst hc
      have hpre : Lib.hasPrefix (c :: rest) [c] = true := by simp [Lib.hasPrefix]
      have htr : Lib.trimPrefix (c :: rest) [c] = rest := by rw [Lib.trimPrefix, hpre]; rfl
      have hix : Lib.indexByte (c :: rest) 58 = if Lib.indexByte rest 58 = -1 then -1 else Lib.indexByte rest 58 + 1 := by
        rw [Lib.indexByte, if_neg (by simpa using hm)]
        simp
      rw [ofL, hpre, htr, restL, refOf, hix]
      have hge := Lib.indexByte_ge rest 58
      by_cases h1 : Lib.indexByte rest 58 = -1
      · simp [h1]
      · obtain ⟨j, hj⟩ : ∃ j : Nat, Lib.indexByte rest 58 = j := ⟨(Lib.indexByte rest 58).toNat, by omega⟩
        have hlt := indexByte_lt hj
        rw [if_neg h1, hj, hp, srv_eq, madeL]
        have e1 : ((j : Int) + 1).toNat = j + 1 := by omega
        have e2 : (rest.take j).length = j := by rw [List.length_take]; omega
        rw [e1, Int.toNat_natCast, e2]
        simp only [ List.take_succ_cons, List.drop_succ_cons, List.drop_zero, List.head?_cons]
        by_cases h2 : j = 0
        · subst h2
          simp
        · have e3 : rest.take j ≠ [] := fun h => h2 (by rw [h] at e2; simpa using e2.symm)
          by_cases h3 : j ≤ 32
          · simp [e3, show (j : Int) ≤ 32 by omega, show (2 : Int) ≤ (j : Int) + 1 by omega, show (j : Int) + 1 ≤ 33 by omega]
          · simp [show ¬ (j : Int) ≤ 32 by omega, show ¬ (j : Int) + 1 ≤ 33 by omega]
    · have hpre : Lib.hasPrefix (c :: rest) [m] = false := by
        show (m == c && _) = false
        rw [beq_eq_false_iff_ne.2 (Ne.symm hc)]
        rfl
      rw [ofL, hpre, refOf]
      simp [hc]
theorem user_eq (l : List UInt8) : ofL 64 l = refOf 64 (lowP [46, 95, 61, 45, 47]) l := of_eq _ _ _ (by decide) (fun x => by rw [locL, if_pos rfl])
theorem room_eq (l : List UInt8) : ofL 33 l = refOf 33 (letP [95, 45]) l := of_eq _ _ _ (by decide) (fun x => by rw [locL, if_neg (by decide), if_pos rfl])
theorem pre_take (l p : List UInt8) : Lib.hasPrefix l p = decide (l.take p.length = p) := by
  rw [Lib.hasPrefix, Bool.eq_iff_iff, List.isPrefixOf_iff_prefix, decide_eq_true_eq, List.prefix_iff_eq_take]
  exact eq_comm
theorem ev_eq (l : List UInt8) : evL l = refEv l := by
  cases l with
  | nil => rfl
  | cons c rest =>
    by_cases hc : c = 36
    · subst hc
      have hpre : Lib.hasPrefix (36 :: rest) [36] = true := by simp [Lib.hasPrefix]
      have htr : Lib.trimPrefix (36 :: rest) [36] = rest := by rw [Lib.trimPrefix, hpre]; rfl
      rw [evL, hpre, htr, refEv, madeL]
      by_cases h : rest.length = 43
      · have hne : rest ≠ [] := fun e => by rw [e] at h; cases h
        simp [h, hne]
      · simp [h]
    · have hpre : Lib.hasPrefix (c :: rest) [36] = false := by
        show ((36 : UInt8) == c && _) = false
        rw [beq_eq_false_iff_ne.2 (Ne.symm hc)]
        rfl
      rw [evL, hpre, refEv]
      simp [hc]
theorem key_eq (l : List UInt8) : keyL l = refKey l := by
  rw [keyL, refKey]
  by_cases h : Lib.hasPrefix l [101, 100, 50, 53, 53, 49, 57, 58] = true
  · have htr : Lib.trimPrefix l [101, 100, 50, 53, 53, 49, 57, 58] = l.drop 8 := by rw [Lib.trimPrefix, h]; rfl
    rw [htr, h]
    rw [pre_take] at h
    have h2 : l.take 8 = [101, 100, 50, 53, 53, 49, 57, 58] := of_decide_eq_true h
    rw [h2, madeL]
    have h8 : 8 ≤ l.length := by
      have := congrArg List.length h2
      rw [List.length_take] at this
      simp only [List.length_cons, List.length_nil] at this
      omega
    by_cases h9 : 9 ≤ l.length
    · have hne : l.drop 8 ≠ [] := fun e => by
        have := congrArg List.length e
        simp at this
        omega
      by_cases h24 : l.length ≤ 24
      · simp [h9, h24, show ((l.length - 8 : Nat) : Int) ≤ 16 by omega]
        intro hh
        omega
      · simp [h24, show ¬ ((l.length - 8 : Nat) : Int) ≤ 16 by omega]
    · have he : l.drop 8 = [] := List.drop_eq_nil_of_le (by omega)
      simp [h9, he]
  · have h1 : Lib.hasPrefix l [101, 100, 50, 53, 53, 49, 57, 58] = false := by simpa using h
    rw [h1]
    rw [pre_take] at h1
    have h2 : ¬ l.take 8 = [101, 100, 50, 53, 53, 49, 57, 58] := of_decide_eq_false h1
    rw [decide_eq_false h2]
    simp
end Go.Proofs.Ytnldjhlgdbhcgaa
