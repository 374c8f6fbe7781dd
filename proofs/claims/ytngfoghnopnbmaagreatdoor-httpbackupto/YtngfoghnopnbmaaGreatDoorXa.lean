/- The target that parts make: plain mathematics, nothing of the program's memory. -/
import Derived.Test.YtngfoghnopnbmaaGreatDoorSp
namespace Go.Proofs.YtngfoghnopnbmaaGreatDoor
open Go.RowKit
namespace Ht
open Bw

def plL : List UInt8 := [45, 46, 95, 126, 33, 36, 58, 64]
/-- Does a byte stand in a target as itself? -/
def plB (c : UInt8) : Bool := ldB c || decide (c ∈ plL)
def hexU (k : Nat) : UInt8 := UInt8.ofNat (if k < 10 then 48 + k else 55 + k)
/-- A byte, as it stands in a target. -/
def escB (c : UInt8) : List UInt8 := if plB c = true then [c] else [37, hexU (c.toNat / 16), hexU (c.toNat % 16)]
def escL (l : List UInt8) : List UInt8 := l.flatMap escB
/-- The parts of a path, one behind the other; first: none stands ahead of them. -/
def jp : Bool → List (List UInt8) → List UInt8
  | _, [] => []
  | f, a :: r => (if f = true then [] else [47]) ++ escL a ++ jp false r
def jq : Bool → List (List UInt8 × List UInt8) → List UInt8
  | _, [] => []
  | f, a :: r => [if f = true then 63 else 38] ++ escL a.1 ++ [61] ++ escL a.2 ++ jq false r
/-- The target that parts make. -/
def joinM (p : List (List UInt8)) (q : List (List UInt8 × List UInt8)) : List UInt8 := [47] ++ jp true p ++ jq true q
theorem escB_len (c : UInt8) : (escB c).length ≤ 3 := by
  unfold escB
  split <;> simp
theorem escL_len : ∀ l : List UInt8, (escL l).length ≤ 3 * l.length
  | [] => by simp [escL]
  | c :: l => by
    have h1 := escL_len l
    have h2 := escB_len c
    have e : escL (c :: l) = escB c ++ escL l := by simp [escL]
    rw [e, List.length_append, List.length_cons]
    omega
theorem escL_take (l : List UInt8) (i : Nat) (h : i < l.length) : escL (l.take (i + 1)) = escL (l.take i) ++ escB l[i] := by
  unfold escL
  rw [List.take_succ_eq_append_getElem h, List.flatMap_append]
  simp
theorem jp_snoc (a : List UInt8) : ∀ (f : Bool) (l : List (List UInt8)), jp f (l ++ [a]) = jp f l ++ ((if f = true ∧ l = [] then [] else [47]) ++ escL a)
  | f, [] => by simp [jp]
  | f, b :: l => by
    have h := jp_snoc a false l
    simp only [List.cons_append, jp, h]
    simp
theorem jq_snoc (a : List UInt8 × List UInt8) : ∀ (f : Bool) (l : List (List UInt8 × List UInt8)), jq f (l ++ [a]) = jq f l ++ ([if f = true ∧ l = [] then 63 else 38] ++ escL a.1 ++ [61] ++ escL a.2)
  | f, [] => by simp [jq]
  | f, b :: l => by
    have h := jq_snoc a false l
    simp only [List.cons_append, jq, h]
    simp
/-- How much some texts, some pairs of texts hold. -/
def wtT (l : List (List UInt8)) : Nat := (l.map List.length).sum
def wtP (l : List (List UInt8 × List UInt8)) : Nat := (l.map fun p => p.1.length + p.2.length).sum
theorem wtT_take (l : List (List UInt8)) (i : Nat) : wtT (l.take i) ≤ wtT l := by
  have h : wtT l = wtT (l.take i) + wtT (l.drop i) := by
    unfold wtT
    rw [← List.sum_append, ← List.map_append, List.take_append_drop]
  omega
theorem wtP_take (l : List (List UInt8 × List UInt8)) (i : Nat) : wtP (l.take i) ≤ wtP l := by
  have h : wtP l = wtP (l.take i) + wtP (l.drop i) := by
    unfold wtP
    rw [← List.sum_append, ← List.map_append, List.take_append_drop]
  omega
theorem jp_len : ∀ (f : Bool) (l : List (List UInt8)), (jp f l).length ≤ 3 * wtT l + l.length
  | _, [] => by simp [jp]
  | f, a :: l => by
    have h1 := jp_len false l
    have h2 := escL_len a
    have h3 : ((if f = true then [] else [47]) : List UInt8).length ≤ 1 := by split <;> simp
    have e : wtT (a :: l) = a.length + wtT l := by simp [wtT]
    rw [jp, List.length_append, List.length_append, List.length_cons, e]
    omega
theorem jq_len : ∀ (f : Bool) (l : List (List UInt8 × List UInt8)), (jq f l).length ≤ 3 * wtP l + 2 * l.length
  | _, [] => by simp [jq]
  | f, a :: l => by
    have h1 := jq_len false l
    have h2 := escL_len a.1
    have h3 := escL_len a.2
    have e : wtP (a :: l) = a.1.length + a.2.length + wtP l := by simp [wtP]
    rw [jq, e]
    simp only [List.length_append, List.length_cons, List.length_nil]
    omega
theorem wtT_split (l : List (List UInt8)) {i : Nat} (h : i < l.length) : wtT (l.take i) + l[i].length ≤ wtT l := by
  have h1 := wtT_take l (i + 1)
  rw [List.take_succ_eq_append_getElem h] at h1
  unfold wtT at h1 ⊢
  rw [List.map_append, List.sum_append] at h1
  simpa only [List.map_cons, List.map_nil, List.sum_cons, List.sum_nil, Nat.add_zero] using h1
theorem wtP_split (l : List (List UInt8 × List UInt8)) {i : Nat} (h : i < l.length) : wtP (l.take i) + (l[i].1.length + l[i].2.length) ≤ wtP l := by
  have h1 := wtP_take l (i + 1)
  rw [List.take_succ_eq_append_getElem h] at h1
  unfold wtP at h1 ⊢
  rw [List.map_append, List.sum_append] at h1
  simpa only [List.map_cons, List.map_nil, List.sum_cons, List.sum_nil, Nat.add_zero] using h1
/-! Where a piece, a path, a name and its value end. -/
theorem pc_at (ends : List UInt8) : ∀ (n : Nat) (l acc : List UInt8) (k : Nat) (t : List UInt8) (k' : Nat), l.length ≤ n → pcM ends n l acc k = (true, t, k') → ∀ c, l[k' - k]? = some c → c ∈ ends
  | 0, l, acc, k, t, k', hl, _, c, hc => by
    obtain rfl := List.eq_nil_of_length_eq_zero (Nat.le_zero.1 hl)
    simp at hc
  | _ + 1, [], _, _, _, _, _, _, c, hc => by simp at hc
  | n + 1, x :: r, acc, k, t, k', hl, h, c, hc => by
    have hb := pc_bd ends (n + 1) (x :: r) acc k
    rw [h] at hb
    unfold pcM at h
    split at h
    · rename_i hx
      injection h with _ h
      injection h with _ h
      subst h
      rw [Nat.sub_self] at hc
      simp at hc
      rw [← hc]
      exact hx
    · split at h
      · cases h
      · rename_i d z hz
        have hzb := rc_bd hz
        have hb2 := pc_bd ends n ((x :: r).drop z) (acc ++ [d]) (k + z)
        rw [h] at hb2
        simp only [List.length_cons] at hl hzb
        refine pc_at ends n ((x :: r).drop z) _ (k + z) t k' (by simp; omega) h c ?_
        rw [List.getElem?_drop, ← hc]
        congr 1
        simp only at hb2
        omega
theorem piece_at {s : List UInt8} {p : Nat} {ends t : List UInt8} {q : Nat} (hp : p ≤ s.length) (h : pieceM s p ends = .ok (t, q)) (c : UInt8) (hc : s[q]? = some c) : c ∈ ends := by
  have hb := piece_bd hp h
  unfold pieceM at h
  rcases hk : pcM ends (s.length - p) (s.drop p) [] 0 with ⟨b, x, k⟩
  rw [hk] at h
  cases b with
  | false => cases h
  | true =>
    simp only [pieceF] at h
    split at h
    · injection h with h
      injection h with h1 h2
      subst h1 h2
      exact pc_at ends _ _ _ 0 _ k (by simp) hk c (by rw [List.getElem?_drop, Nat.sub_zero]; exact hc)
    · cases h
theorem lt_of_get {l : List UInt8} {n : Nat} {c : UInt8} (h : l[n]? = some c) : n < l.length := by
  rcases Nat.lt_or_ge n l.length with g | g
  · exact g
  · rw [List.getElem?_eq_none g] at h
    cases h
theorem path_at (s : List UInt8) : ∀ (n p : Nat) (acc l : List (List UInt8)) (q : Nat), s.length ≤ p + n → (∀ c, s[p]? = some c → c = 47 ∨ c = 63) → pathM s n p acc = .ok (l, q) → ∀ c, s[q]? = some c → c = 63
  | 0, p, acc, l, q, hl, _, h, c, hc => by
    injection h with h
    injection h with _ h
    subst h
    have := lt_of_get hc
    omega
  | n + 1, p, acc, l, q, hl, hp, h, c, hc => by
    unfold pathM at h
    split at h
    · rename_i h47
      have h1 := lt_of_get h47
      split at h
      · cases h
      · rename_i t q' hq
        have hb := piece_bd (by omega) hq
        refine path_at s n q' _ l q (by omega) (fun x hx => ?_) h c hc
        have := piece_at (by omega) hq x hx
        simpa using this
    · rename_i h47
      injection h with h
      injection h with _ h
      subst h
      rcases hp c hc with rfl | rfl
      · exact absurd hc h47
      · rfl
theorem param_at {s : List UInt8} {p : Nat} {t : List UInt8 × List UInt8} {q : Nat} (hp : p ≤ s.length) (h : paramM s p = .ok (t, q)) (c : UInt8) (hc : s[q]? = some c) : c = 38 := by
  unfold paramM at h
  split at h
  · cases h
  · rename_i u r hr
    split at h
    · rename_i hs
      have hl := lt_of_get hs
      split at h
      · cases h
      · rename_i u' r' hr'
        injection h with h
        injection h with _ h
        subst h
        simpa using piece_at (by omega) hr' c hc
    · rename_i hs
      injection h with h
      injection h with _ h
      subst h
      have := piece_at hp hr c hc
      simp at this
      rcases this with rfl | rfl
      · exact absurd hc hs
      · rfl
end Ht
end Go.Proofs.YtngfoghnopnbmaaGreatDoor
