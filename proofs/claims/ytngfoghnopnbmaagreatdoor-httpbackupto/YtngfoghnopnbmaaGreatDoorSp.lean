/- The parts of a target: plain mathematics, nothing of the program's memory. -/
import Derived.Test.YtngfoghnopnbmaaGreatDoorTs
import Derived.Test.YtngfoghnopnbmaaGreatDoorPlain
namespace Go.Proofs.YtngfoghnopnbmaaGreatDoor
open Go.RowKit
namespace Ht
open Bw

/-- The byte that a text begins with, coded or plain, and how many bytes tell it. -/
def rcM : List UInt8 → Option (UInt8 × Nat)
  | [] => none
  | c :: r => if tgB c = true ∧ c ≠ 35 then (if c ≠ 37 then some (c, 1) else match r with
      | a :: b :: _ => if hxB a = true ∧ hxB b = true then some (UInt8.ofNat ((dvN a).toNat * 16 + (dvN b).toNat), 3) else none
      | _ => none) else none
/-- A part, a name or a value, up to one of these ends: whether nothing is amiss, the bytes that it tells, how many tell them. -/
def pcM (ends : List UInt8) : Nat → List UInt8 → List UInt8 → Nat → Bool × List UInt8 × Nat
  | 0, _, acc, k => (true, acc, k)
  | _ + 1, [], acc, k => (true, acc, k)
  | n + 1, c :: r, acc, k => if c ∈ ends then (true, acc, k) else match rcM (c :: r) with
      | none => (false, acc, k)
      | some (d, z) => pcM ends n ((c :: r).drop z) (acc ++ [d]) (k + z)
/-- Are these bytes a text? -/
def sndB (l : List UInt8) : Bool := decide (badAt ⟨l.toArray⟩ 0 = -1)
/-- What a piece tells and where it ends, or the place and the code of what is amiss. -/
def pieceF (p : Nat) : Bool × List UInt8 × Nat → Except (Nat × Int) (List UInt8 × Nat)
  | (false, _, k) => .error (p + k, 3)
  | (true, t, k) => if sndB t = true then .ok (t, p + k) else .error (p, 7)
/-- A piece from a place on. -/
def pieceM (s : List UInt8) (p : Nat) (ends : List UInt8) : Except (Nat × Int) (List UInt8 × Nat) := pieceF p (pcM ends (s.length - p) (s.drop p) [] 0)
def pathM (s : List UInt8) : Nat → Nat → List (List UInt8) → Except (Nat × Int) (List (List UInt8) × Nat)
  | 0, p, acc => .ok (acc, p)
  | n + 1, p, acc => if s[p]? = some 47 then (match pieceM s (p + 1) [47, 63] with
      | .error e => .error e
      | .ok (t, q) => pathM s n q (acc ++ [t])) else .ok (acc, p)
def paramM (s : List UInt8) (p : Nat) : Except (Nat × Int) ((List UInt8 × List UInt8) × Nat) :=
  match pieceM s p [61, 38] with
  | .error e => .error e
  | .ok (t, q) => if s[q]? = some 61 then (match pieceM s (q + 1) [38] with
      | .error e => .error e
      | .ok (u, q') => .ok ((t, u), q')) else .ok ((t, []), q)
def queryL (s : List UInt8) : Nat → Nat → List (List UInt8 × List UInt8) → Except (Nat × Int) (List (List UInt8 × List UInt8))
  | 0, _, acc => .ok acc
  | n + 1, p, acc => if p < s.length then (match paramM s (p + 1) with
      | .error e => .error e
      | .ok (t, q) => queryL s n q (acc ++ [t])) else .ok acc
def queryM (s : List UInt8) (p : Nat) : Except (Nat × Int) (List (List UInt8 × List UInt8)) := if s.length - p ≤ 1 then .ok [] else queryL s (s.length - p) p []
def splitM (s : List UInt8) : Except (Nat × Int) (List (List UInt8) × List (List UInt8 × List UInt8)) :=
  if s[0]? = some 47 then (match pathM s s.length 0 [] with
    | .error e => .error e
    | .ok (l, p) => match queryM s p with
      | .error e => .error e
      | .ok q => .ok (l, q)) else .error (0, 3)
theorem rc_bd {l : List UInt8} {d : UInt8} {z : Nat} (h : rcM l = some (d, z)) : 1 ≤ z ∧ z ≤ l.length := by
  cases l with
  | nil => cases h
  | cons c r =>
    simp only [rcM] at h
    split at h
    · split at h
      · simp at h
        obtain ⟨_, rfl⟩ := h
        exact ⟨by omega, by simp⟩
      · split at h
        · split at h
          · simp at h
            obtain ⟨_, rfl⟩ := h
            exact ⟨by omega, by simp⟩
          · cases h
        · cases h
    · cases h
/-- More steps than bytes change nothing. -/
theorem pc_fuel (ends : List UInt8) : ∀ (n m : Nat) (l acc : List UInt8) (k : Nat), l.length ≤ n → l.length ≤ m → pcM ends n l acc k = pcM ends m l acc k
  | 0, 0, _, _, _, _, _ => rfl
  | 0, m + 1, l, acc, k, h, _ => by
    obtain rfl := List.eq_nil_of_length_eq_zero (Nat.le_zero.1 h)
    rfl
  | n + 1, 0, l, acc, k, _, h => by
    obtain rfl := List.eq_nil_of_length_eq_zero (Nat.le_zero.1 h)
    rfl
  | n + 1, m + 1, [], acc, k, _, _ => rfl
  | n + 1, m + 1, c :: r, acc, k, h1, h2 => by
    unfold pcM
    split
    · rfl
    · split
      · rfl
      · rename_i d z hz
        have hb := rc_bd hz
        simp only [List.length_cons] at h1 h2 hb
        exact pc_fuel ends n m _ _ _ (by simp; omega) (by simp; omega)
theorem pc_end (ends : List UInt8) (n : Nat) (acc : List UInt8) (k : Nat) : pcM ends n [] acc k = (true, acc, k) := by cases n <;> rfl
theorem pc_stop (ends : List UInt8) (n : Nat) (c : UInt8) (r acc : List UInt8) (k : Nat) (h : c ∈ ends) (hn : 0 < n) : pcM ends n (c :: r) acc k = (true, acc, k) := by
  obtain ⟨m, rfl⟩ : ∃ m, n = m + 1 := ⟨n - 1, by omega⟩
  unfold pcM
  rw [if_pos h]
theorem pc_bad (ends : List UInt8) (n : Nat) (c : UInt8) (r acc : List UInt8) (k : Nat) (h : c ∉ ends) (hz : rcM (c :: r) = none) (hn : 0 < n) : pcM ends n (c :: r) acc k = (false, acc, k) := by
  obtain ⟨m, rfl⟩ : ∃ m, n = m + 1 := ⟨n - 1, by omega⟩
  unfold pcM
  rw [if_neg h, hz]
theorem pc_go (ends : List UInt8) (n : Nat) (c : UInt8) (r acc : List UInt8) (k : Nat) {d : UInt8} {z : Nat} (h : c ∉ ends) (hz : rcM (c :: r) = some (d, z)) (hn : r.length < n) : pcM ends n (c :: r) acc k = pcM ends (n - z) ((c :: r).drop z) (acc ++ [d]) (k + z) := by
  obtain ⟨m, rfl⟩ : ∃ m, n = m + 1 := ⟨n - 1, by omega⟩
  have hb := rc_bd hz
  simp only [List.length_cons] at hb
  rw [pcM, if_neg h, hz]
  exact pc_fuel ends _ _ _ _ _ (by simp; omega) (by simp; omega)
/-- How far a piece goes. -/
theorem pc_bd (ends : List UInt8) : ∀ (n : Nat) (l acc : List UInt8) (k : Nat), (pcM ends n l acc k).2.2 ≤ k + l.length ∧ k ≤ (pcM ends n l acc k).2.2 ∧ (pcM ends n l acc k).2.1.length + k ≤ acc.length + (pcM ends n l acc k).2.2
  | 0, _, _, _ => ⟨by simp [pcM], by simp [pcM], by simp [pcM]⟩
  | _ + 1, [], _, _ => ⟨by simp [pcM], by simp [pcM], by simp [pcM]⟩
  | n + 1, c :: r, acc, k => by
    unfold pcM
    split
    · simp
    · split
      · simp
      · rename_i d z hz
        have hb := rc_bd hz
        have h := pc_bd ends n ((c :: r).drop z) (acc ++ [d]) (k + z)
        simp only [List.length_drop, List.length_append, List.length_singleton] at h
        simp only [List.length_cons] at hb h ⊢
        omega
theorem piece_bd {s : List UInt8} {p : Nat} {ends t : List UInt8} {q : Nat} (hp : p ≤ s.length) (h : pieceM s p ends = .ok (t, q)) : p ≤ q ∧ q ≤ s.length ∧ t.length + p ≤ q := by
  have hb := pc_bd ends (s.length - p) (s.drop p) [] 0
  unfold pieceM at h
  rcases hk : pcM ends (s.length - p) (s.drop p) [] 0 with ⟨b, x, k⟩
  rw [hk] at h hb
  simp only [List.length_drop, List.length_nil] at hb
  cases b with
  | false => cases h
  | true =>
    simp only [pieceF] at h
    split at h
    · injection h with h
      injection h with h1 h2
      subst h1 h2
      omega
    · cases h
theorem param_bd {s : List UInt8} {p : Nat} {t : List UInt8 × List UInt8} {q : Nat} (hp : p ≤ s.length) (h : paramM s p = .ok (t, q)) : p ≤ q ∧ q ≤ s.length := by
  unfold paramM at h
  split at h
  · cases h
  · rename_i u r hr
    have h1 := piece_bd hp hr
    split at h
    · rename_i hs
      have hl : r < s.length := by
        rcases Nat.lt_or_ge r s.length with g | g
        · exact g
        · rw [List.getElem?_eq_none g] at hs
          cases hs
      split at h
      · cases h
      · rename_i u' r' hr'
        have h2 := piece_bd (by omega) hr'
        injection h with h
        injection h with _ h
        omega
    · injection h with h
      injection h with _ h
      omega
end Ht
end Go.Proofs.YtngfoghnopnbmaaGreatDoor
