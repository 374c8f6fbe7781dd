/- What the reference's readers of records say, and that it is what the program's say: plain mathematics. What the reference reads out of a snapshot's record: plain mathematics. The reference's Set and Open, as lists: plain mathematics. -/
import Derived.Test.YtcinjdaanhpbjaaGreatXal
import Derived.Test.YtcinjdaanhpbjaaGreatRx
namespace Go.Proofs.YtcinjdaanhpbjaaGreat
open Go.RowKit
namespace Kv
open Bw Rg Dk Rf Wl

def wrQ (s : RS) : Wrt × RS :=
  let a := numQ 1 s
  let k := takeQ a.1 a.2
  let t := numQ 1 k.2
  let g := numQ 4 t.2
  let v := if t.1 = 0 then takeQ g.1 (orBad (decide (262144 < g.1)) g.2) else ([], t.2)
  (⟨baK k.1, v.1, decide (t.1 = 1)⟩, orBad (decide (a.1 = 0 ∨ 1 < t.1)) v.2)
def wrsQ : Nat → RS → List Wrt × RS
  | 0, s => ([], s)
  | n + 1, s => if s.2 = true then ([], s) else ((wrQ s).1 :: (wrsQ n (wrQ s).2).1, (wrsQ n (wrQ s).2).2)
def batchQ (bs : List UInt8) : Option (Nat × List Wrt) :=
  let a := numQ 8 (bs, false)
  let b := numQ 2 a.2
  let c := wrsQ b.1 b.2
  if wholeM c.2 = true ∧ 1 ≤ b.1 ∧ b.1 ≤ 4096 then some (a.1, c.1) else none
def prQ (last : ByteArray) (s : RS) : Fl × RS :=
  let a := numQ 1 s
  let k := takeQ a.1 a.2
  let g := numQ 4 k.2
  let v := takeQ g.1 g.2
  ((baK k.1, v.1, 0), orBad (decide (lt last (baK k.1) = false ∨ 262144 < g.1)) v.2)
def prsQ : Nat → ByteArray → RS → List Fl × RS
  | 0, _, s => ([], s)
  | n + 1, last, s => if s.2 = true then ([], s) else ((prQ last s).1 :: (prsQ n (prQ last s).1.1 (prQ last s).2).1, (prsQ n (prQ last s).1.1 (prQ last s).2).2)
def keptQ (bs : List UInt8) : Option (Nat × List Fl) :=
  let a := numQ 8 (bs, false)
  let b := numQ 4 a.2
  let c := prsQ b.1 ⟨#[]⟩ b.2
  if wholeM c.2 = true ∧ a.1 ≤ 4611686018427387904 then some (a.1, c.1) else none

theorem takeQ_good (n : Nat) (b : List UInt8) : takeQ n (b, false) = takeM n (b, false) := by
  unfold takeQ takeM
  simp
theorem takeQ_bad {n : Nat} {s : RS} (h : s.2 = true) : (takeQ n s).2.2 = true := by
  unfold takeQ
  split
  · rfl
  · exact h
theorem takeM_bad {n : Nat} {s : RS} (h : s.2 = true) : takeM n s = ([], (s.1, true)) := by
  unfold takeM
  rw [if_pos (.inl h)]
theorem numQ_good {k : Nat} (hk : k ≤ 7) (b : List UInt8) : numQ k (b, false) = numM k (b, false) := by
  unfold numQ numM
  rw [takeQ_good]
  have h1 := leN_lt (takeM k (b, false)).1
  have h2 := takeM_le k (b, false)
  have h3 : 256 ^ (takeM k (b, false)).1.length ≤ 256 ^ 7 := Nat.pow_le_pow_right (by decide) (by omega)
  have p : 256 ^ 7 = 72057594037927936 := by decide
  rw [if_neg (by omega)]
theorem numQ_bad {k : Nat} {s : RS} (h : s.2 = true) : (numQ k s).2.2 = true := by
  unfold numQ
  split
  · rfl
  · exact takeQ_bad h
theorem numM_bad {k : Nat} {s : RS} (h : s.2 = true) : (numM k s).2.2 = true := by
  unfold numM
  rw [takeM_bad h]
theorem orBad_bad {b : Bool} {s : RS} (h : s.2 = true) : (orBad b s).2 = true := by
  unfold orBad
  simp [h]
theorem keyM_bad {s : RS} (h : s.2 = true) : (keyM s).2.2 = true := by
  unfold keyM
  rw [takeM_bad (orBad_bad (numM_bad h))]
theorem valM_bad {s : RS} (h : s.2 = true) : (valM s).2.2 = true := by
  unfold valM
  rw [takeM_bad (orBad_bad (numM_bad h))]
theorem wrM_bad {s : RS} (h : s.2 = true) : (wrM s).2.2 = true := by
  have h1 := numM_bad (k := 1) (keyM_bad h)
  unfold wrM
  split
  · exact valM_bad h1
  · split
    · exact h1
    · exact orBad_bad h1
theorem wrsM_bad : ∀ (n : Nat) {s : RS}, s.2 = true → (wrsM n s).2.2 = true
  | 0, _, h => h
  | n + 1, _s, h => wrsM_bad n (wrM_bad h)
/-- Two readers' answers: bad alike, and the same where they are not. -/
def Like {α : Type} (q m : α × RS) : Prop := q.2.2 = m.2.2 ∧ (m.2.2 = false → q = m)
theorem Like.bad {α : Type} {q m : α × RS} (h1 : q.2.2 = true) (h2 : m.2.2 = true) : Like q m := ⟨h1.trans h2.symm, fun h => by rw [h2] at h; cases h⟩
theorem RS_good {s : RS} (h : s.2 = false) : s = (s.1, false) := by rw [← h]
theorem bool_cases (b : Bool) : b = true ∨ b = false := by cases b <;> simp
/-- A key. -/
theorem key_like (b : List UInt8) : Like ((takeQ (numQ 1 (b, false)).1 (numQ 1 (b, false)).2).1, orBad (decide ((numQ 1 (b, false)).1 = 0)) (takeQ (numQ 1 (b, false)).1 (numQ 1 (b, false)).2).2) (keyM (b, false)) := by
  rw [numQ_good (by decide)]
  unfold keyM
  obtain ⟨a, s⟩ := numM 1 (b, false)
  simp only
  rcases bool_cases s.2 with h | h
  · exact Like.bad (orBad_bad (takeQ_bad h)) (by rw [takeM_bad (orBad_bad h)])
  · by_cases h0 : a = 0
    · exact Like.bad (by simp [orBad, h0]) (by rw [takeM_bad (by simp [orBad, h0])])
    · rw [RS_good h, takeQ_good]
      have e : ∀ s : RS, orBad (decide (a = 0)) s = s := fun s => by simp [orBad, h0]
      rw [e, e]
      exact ⟨rfl, fun _ => rfl⟩
/-- A value. -/
theorem val_like (b : List UInt8) : Like (takeQ (numQ 4 (b, false)).1 (orBad (decide (262144 < (numQ 4 (b, false)).1)) (numQ 4 (b, false)).2)) (valM (b, false)) := by
  rw [numQ_good (by decide)]
  unfold valM
  obtain ⟨a, s⟩ := numM 4 (b, false)
  simp only
  obtain ⟨t, ht⟩ : ∃ t, orBad (decide (262144 < a)) s = t := ⟨_, rfl⟩
  rw [ht]
  rcases bool_cases t.2 with h | h
  · exact Like.bad (takeQ_bad h) (by rw [takeM_bad h])
  · rw [RS_good h, takeQ_good]
    exact ⟨rfl, fun _ => rfl⟩
theorem orBad_or (a b : Bool) (s : RS) : orBad a (orBad b s) = orBad (a || b) s := by
  unfold orBad
  simp [Bool.or_assoc]
theorem orBad_false (s : RS) : orBad false s = s := by
  unfold orBad
  simp
theorem wr_like (b : List UInt8) : Like (wrQ (b, false)) (wrM (b, false)) := by
  have hk := key_like b
  unfold wrQ wrM
  obtain ⟨⟨a, s⟩, ha⟩ : ∃ a, numQ 1 (b, false) = a := ⟨_, rfl⟩
  rw [ha] at hk ⊢
  obtain ⟨⟨kq, sq⟩, hq⟩ : ∃ k, takeQ a s = k := ⟨_, rfl⟩
  simp only at hk ⊢
  rw [hq] at hk ⊢
  obtain ⟨⟨km, sm⟩, hm⟩ : ∃ k, keyM (b, false) = k := ⟨_, rfl⟩
  rw [hm] at hk ⊢
  obtain ⟨k1, k2⟩ := hk
  simp only at k1 k2 ⊢
  rcases bool_cases sm.2 with h | h
  · -- bad
    refine Like.bad ?_ ?_
    · rw [h] at k1
      unfold orBad at k1 ⊢
      simp only [Bool.or_eq_true, decide_eq_true_eq] at k1 ⊢
      rcases k1 with k1 | k1
      · exact .inl (.inl k1)
      · refine .inr ?_
        have h1 : (numQ 1 sq).2.2 = true := numQ_bad k1
        split
        · exact takeQ_bad (orBad_bad (numQ_bad h1))
        · exact h1
    · have h1 : (numM 1 sm).2.2 = true := numM_bad h
      split
      · exact valM_bad h1
      · split
        · exact h1
        · exact orBad_bad h1
  · have e := k2 h
    injection e with e1 e2
    subst e1
    have h0 : ¬ a = 0 := fun h0 => by
      rw [h] at k1
      simp [orBad, h0] at k1
    have e3 : sq = sm := by
      rw [← e2]
      simp [orBad, h0]
    subst e3
    have hs := RS_good h
    rw [hs, numQ_good (by decide)]
    obtain ⟨⟨t, s1⟩, ht⟩ : ∃ t, numM 1 (sq.1, false) = t := ⟨_, rfl⟩
    rw [ht]
    simp only
    have e0 : decide (a = 0 ∨ 1 < t) = decide (1 < t) := by simp [h0]
    rw [e0]
    by_cases t0 : t = 0
    · subst t0
      simp only [if_true, Nat.not_lt_zero, decide_false, orBad_false]
      rcases bool_cases s1.2 with g | g
      · exact Like.bad (takeQ_bad (orBad_bad (numQ_bad g))) (valM_bad g)
      · have hv := val_like s1.1
        rw [RS_good g]
        refine ⟨hv.1, fun hg => ?_⟩
        rw [hv.2 hg]
        rfl
    · rw [if_neg t0, if_neg t0]
      by_cases t1 : t = 1
      · subst t1
        simp only [if_true, Nat.lt_irrefl, decide_false, orBad_false, decide_true]
        exact ⟨rfl, fun _ => rfl⟩
      · rw [if_neg t1]
        have h2 : decide (1 < t) = true := decide_eq_true (by omega)
        rw [h2]
        exact Like.bad (by simp [orBad]) (by simp [orBad])
theorem wrsQ_bad (n : Nat) {s : RS} (h : s.2 = true) : wrsQ n s = ([], s) := by
  cases n with
  | zero => rfl
  | succ n => exact if_pos h
theorem wrs_like : ∀ (n : Nat) (b : List UInt8), Like (wrsQ n (b, false)) (wrsM n (b, false))
  | 0, _ => ⟨rfl, fun _ => rfl⟩
  | n + 1, b => by
    have h := wr_like b
    unfold wrsQ wrsM
    rw [if_neg (by simp)]
    obtain ⟨q, hq⟩ : ∃ q, wrQ (b, false) = q := ⟨_, rfl⟩
    obtain ⟨m, hm⟩ : ∃ m, wrM (b, false) = m := ⟨_, rfl⟩
    rw [hq, hm] at h ⊢
    rcases bool_cases m.2.2 with g | g
    · refine Like.bad ?_ (wrsM_bad n g)
      show (wrsQ n q.2).2.2 = true
      rw [wrsQ_bad n (h.1.trans g)]
      exact h.1.trans g
    · have e := h.2 g
      subst e
      have ih := wrs_like n q.2.1
      rw [← RS_good g] at ih
      exact ⟨ih.1, fun hg => by rw [ih.2 hg]⟩
theorem numQ8 (b : List UInt8) : numQ 8 (b, false) = if 9223372036854775808 ≤ (numM 8 (b, false)).1 then (0, ((numM 8 (b, false)).2.1, true)) else numM 8 (b, false) := by
  unfold numQ numM
  rw [takeQ_good]
theorem wholeM_bad {s : RS} (h : s.2 = true) : wholeM s = false := by
  unfold wholeM
  simp [h]
/-- What the reference's Batch says is what the program's reader says, but for numbers beyond its range. -/
theorem batchQ_eq (bs : List UInt8) : batchQ bs = match batchM bs with | none => none | some (m, l) => if 9223372036854775808 ≤ m then none else some (m, l) := by
  unfold batchQ batchM
  rw [numQ8]
  obtain ⟨⟨a, s⟩, ha⟩ : ∃ a, numM 8 (bs, false) = a := ⟨_, rfl⟩
  rw [ha]
  simp only
  by_cases hbig : 9223372036854775808 ≤ a
  · rw [if_pos hbig]
    have hb : (numQ 2 (s.1, true)).2.2 = true := numQ_bad rfl
    simp only
    rw [wrsQ_bad _ hb, if_neg (by rw [wholeM_bad hb]; simp)]
    generalize numM 2 s = y
    by_cases h1 : y.1 = 0 ∨ 4096 < y.1
    · rw [if_pos h1]
    · rw [if_neg h1]
      by_cases h2 : wholeM (wrsM y.1 y.2).2 = true
      · rw [if_pos h2]
        simp only
        rw [if_pos hbig]
      · rw [if_neg h2]
  · rw [if_neg hbig]
    simp only
    rcases bool_cases s.2 with h | h
    · have hb : (numQ 2 s).2.2 = true := numQ_bad h
      have hc : (numM 2 s).2.2 = true := numM_bad h
      rw [wrsQ_bad _ hb, if_neg (by rw [wholeM_bad hb]; simp)]
      rw [if_neg (c := wholeM _ = true) (by rw [wholeM_bad (wrsM_bad _ hc)]; simp)]
      rw [ite_self]
    · rw [RS_good h, numQ_good (by decide)]
      obtain ⟨⟨b, t⟩, hb⟩ : ∃ b, numM 2 (s.1, false) = b := ⟨_, rfl⟩
      rw [hb]
      simp only
      rcases bool_cases t.2 with g | g
      · rw [wrsQ_bad _ g, if_neg (by rw [wholeM_bad g]; simp)]
        rw [if_neg (c := wholeM _ = true) (by rw [wholeM_bad (wrsM_bad _ g)]; simp)]
        rw [ite_self]
      · have hl := wrs_like b t.1
        rw [← RS_good g] at hl
        obtain ⟨q, hq⟩ : ∃ q, wrsQ b t = q := ⟨_, rfl⟩
        obtain ⟨m, hm⟩ : ∃ m, wrsM b t = m := ⟨_, rfl⟩
        rw [hq, hm] at hl ⊢
        by_cases hr : b = 0 ∨ 4096 < b
        · rw [if_pos hr, if_neg (by omega)]
        · rw [if_neg hr]
          rcases bool_cases m.2.2 with g2 | g2
          · rw [if_neg (by rw [wholeM_bad (hl.1.trans g2)]; simp), if_neg (by rw [wholeM_bad g2]; simp)]
          · rw [hl.2 g2]
            by_cases hw : wholeM m.2 = true
            · rw [if_pos ⟨hw, by omega, by omega⟩, if_pos hw]
              simp [hbig]
            · rw [if_neg (fun h => hw h.1), if_neg hw]
end Kv
end Go.Proofs.YtcinjdaanhpbjaaGreat

namespace Go.Proofs.YtcinjdaanhpbjaaGreat
open Go.RowKit
namespace Kv
open Bw Rg Dk Rf Wl

theorem lt_empty (a : ByteArray) : lt a (baK []) = false := by
  rw [Bool.eq_false_iff]
  intro h
  rw [lt_iff] at h
  have e : (baK []).data.toList = [] := rfl
  rw [e] at h
  exact List.not_lt_nil _ h
theorem val_like2 (b : List UInt8) : Like ((takeQ (numQ 4 (b, false)).1 (numQ 4 (b, false)).2).1, orBad (decide (262144 < (numQ 4 (b, false)).1)) (takeQ (numQ 4 (b, false)).1 (numQ 4 (b, false)).2).2) (valM (b, false)) := by
  rw [numQ_good (by decide)]
  unfold valM
  obtain ⟨a, s⟩ := numM 4 (b, false)
  simp only
  rcases bool_cases s.2 with h | h
  · exact Like.bad (orBad_bad (takeQ_bad h)) (by rw [takeM_bad (orBad_bad h)])
  · by_cases h0 : 262144 < a
    · exact Like.bad (by simp [orBad, h0]) (by rw [takeM_bad (by simp [orBad, h0])])
    · rw [RS_good h, takeQ_good]
      have e : ∀ s : RS, orBad (decide (262144 < a)) s = s := fun s => by simp [orBad, h0]
      rw [e, e]
      exact ⟨rfl, fun _ => rfl⟩
/-- A pair is read. -/
theorem pr_like (last : ByteArray) (b : List UInt8) : Like (prQ last (b, false)) ((baK (keyM (b, false)).1, (valM (keyM (b, false)).2).1, 0), orBad (decide (lt last (baK (keyM (b, false)).1) = false)) (valM (keyM (b, false)).2).2) := by
  have hk := key_like b
  unfold prQ
  obtain ⟨⟨a, s⟩, ha⟩ : ∃ a, numQ 1 (b, false) = a := ⟨_, rfl⟩
  rw [ha] at hk ⊢
  obtain ⟨⟨kq, sq⟩, hq⟩ : ∃ k, takeQ a s = k := ⟨_, rfl⟩
  simp only at hk ⊢
  rw [hq] at hk ⊢
  obtain ⟨⟨km, sm⟩, hm⟩ : ∃ k, keyM (b, false) = k := ⟨_, rfl⟩
  rw [hm] at hk ⊢
  obtain ⟨k1, k2⟩ := hk
  simp only at k1 k2 ⊢
  rcases bool_cases sm.2 with h | h
  · refine Like.bad ?_ (orBad_bad (valM_bad h))
    rw [h] at k1
    unfold orBad at k1
    simp only [Bool.or_eq_true, decide_eq_true_eq] at k1
    rcases k1 with k1 | k1
    · -- the key is empty
      subst k1
      have hl := (takeQ_le 0 s).1
      rw [hq] at hl
      have e : kq = [] := List.eq_nil_of_length_eq_zero (by simpa using hl)
      subst e
      simp only [lt_empty]
      simp [orBad]
    · exact orBad_bad (takeQ_bad (numQ_bad k1))
  · have e := k2 h
    injection e with e1 e2
    subst e1
    have h0 : ¬ a = 0 := fun h0 => by
      rw [h] at k1
      simp [orBad, h0] at k1
    have e3 : sq = sm := by
      rw [← e2]
      simp [orBad, h0]
    subst e3
    have hv := val_like2 sq.1
    rw [← RS_good h] at hv
    obtain ⟨⟨g, t⟩, hg⟩ : ∃ g, numQ 4 sq = g := ⟨_, rfl⟩
    rw [hg] at hv ⊢
    obtain ⟨⟨vq, tq⟩, hvq⟩ : ∃ g', takeQ g t = g' := ⟨_, rfl⟩
    simp only at hv ⊢
    rw [hvq] at hv ⊢
    obtain ⟨⟨vm, tm⟩, hvm⟩ : ∃ g', valM sq = g' := ⟨_, rfl⟩
    rw [hvm] at hv ⊢
    obtain ⟨v1, v2⟩ := hv
    simp only at v1 v2 ⊢
    have eo : orBad (decide (lt last (baK kq) = false ∨ 262144 < g)) tq = orBad (decide (lt last (baK kq) = false)) (orBad (decide (262144 < g)) tq) := by
      rw [orBad_or, Bool.decide_or]
    rw [eo]
    rcases bool_cases tm.2 with h2 | h2
    · exact Like.bad (orBad_bad (v1.trans h2)) (orBad_bad h2)
    · have e := v2 h2
      injection e with e1 e2
      rw [e1, e2]
      exact ⟨rfl, fun _ => rfl⟩
theorem prsQ_bad (n : Nat) (last : ByteArray) {s : RS} (h : s.2 = true) : prsQ n last s = ([], s) := by
  cases n with
  | zero => rfl
  | succ n => exact if_pos h
theorem prs_like : ∀ (n : Nat) (last : ByteArray) (b : List UInt8), prsM n last (b, false) = if (prsQ n last (b, false)).2.2 = true then none else some (prsQ n last (b, false))
  | 0, _, _ => rfl
  | n + 1, last, b => by
    have h := pr_like last b
    unfold prsQ prsM
    rw [if_neg (show ¬ (b, false).2 = true by simp)]
    obtain ⟨q, hq⟩ : ∃ q, prQ last (b, false) = q := ⟨_, rfl⟩
    obtain ⟨k, hk⟩ : ∃ k, keyM (b, false) = k := ⟨_, rfl⟩
    obtain ⟨v, hv⟩ : ∃ v, valM k.2 = v := ⟨_, rfl⟩
    rw [hq, hk, hv] at h
    rw [hq, hk]
    simp only
    rw [hv]
    have ho : (orBad (decide (lt last (baK k.1) = false)) v.2).2 = true ↔ v.2.2 = true ∨ lt last (baK k.1) = false := by
      unfold orBad
      simp only [Bool.or_eq_true, decide_eq_true_eq]
      exact Or.comm
    rcases bool_cases (orBad (decide (lt last (baK k.1) = false)) v.2).2 with g | g
    · rw [if_pos (ho.1 g)]
      have hb : q.2.2 = true := h.1.trans g
      rw [prsQ_bad n _ hb, if_pos hb]
    · have e := h.2 g
      have hn : ¬ (v.2.2 = true ∨ lt last (baK k.1) = false) := fun h9 => by rw [ho.2 h9] at g; cases g
      have hl : ¬ lt last (baK k.1) = false := fun h9 => hn (.inr h9)
      have e2 : q = ((baK k.1, v.1, 0), v.2) := by
        rw [e]
        simp [orBad, hl]
      have gv : v.2.2 = false := by
        rcases bool_cases v.2.2 with h9 | h9
        · exact absurd (.inl h9) hn
        · exact h9
      rw [if_neg hn, e2]
      have ih := prs_like n (baK k.1) v.2.1
      rw [← RS_good gv] at ih
      simp only
      rw [ih]
      rcases bool_cases (prsQ n (baK k.1) v.2).2.2 with h9 | h9
      · rw [if_pos h9, if_pos h9]
      · rw [if_neg (by rw [h9]; simp), if_neg (by rw [h9]; simp)]
/-- What the reference's kept says is what the program's reader says. -/
theorem keptQ_eq (bs : List UInt8) : keptQ bs = snapM bs := by
  unfold keptQ snapM
  rw [numQ8]
  obtain ⟨⟨a, s⟩, ha⟩ : ∃ a, numM 8 (bs, false) = a := ⟨_, rfl⟩
  rw [ha]
  simp only
  by_cases hbig : 9223372036854775808 ≤ a
  · rw [if_pos hbig]
    have hb : (numQ 4 (s.1, true)).2.2 = true := numQ_bad rfl
    simp only
    rw [prsQ_bad _ _ hb, if_neg (by rw [wholeM_bad hb]; simp), if_pos (by omega)]
  · rw [if_neg hbig]
    simp only
    by_cases hc : 4611686018427387904 < a
    · rw [if_pos hc, if_neg (by omega)]
    · rw [if_neg hc]
      rcases bool_cases s.2 with h | h
      · have hb : (numQ 4 s).2.2 = true := numQ_bad h
        have hm : (numM 4 s).2.2 = true := numM_bad h
        rw [prsQ_bad _ _ hb, if_neg (by rw [wholeM_bad hb]; simp)]
        split
        · rfl
        · rename_i r hr
          have : wholeM r.2 = false := by
            revert hr
            cases (numM 4 s).1 with
            | zero =>
              intro hr
              unfold prsM at hr
              obtain rfl := Option.some.inj hr
              exact wholeM_bad hm
            | succ n =>
              intro hr
              unfold prsM at hr
              simp only at hr
              rw [if_pos (.inl (valM_bad (keyM_bad hm)))] at hr
              cases hr
          rw [this]
          simp
      · rw [RS_good h, numQ_good (by decide)]
        obtain ⟨⟨b, t⟩, hb⟩ : ∃ b, numM 4 (s.1, false) = b := ⟨_, rfl⟩
        rw [hb]
        simp only
        rcases bool_cases t.2 with g | g
        · rw [prsQ_bad _ _ g, if_neg (by rw [wholeM_bad g]; simp)]
          split
          · rfl
          · rename_i r hr
            have : wholeM r.2 = false := by
              revert hr
              cases b with
              | zero =>
                intro hr
                unfold prsM at hr
                obtain rfl := Option.some.inj hr
                exact wholeM_bad g
              | succ n =>
                intro hr
                unfold prsM at hr
                simp only at hr
                rw [if_pos (.inl (valM_bad (keyM_bad g)))] at hr
                cases hr
            rw [this]
            simp
        · have hl := prs_like b ⟨#[]⟩ t.1
          rw [← RS_good g] at hl
          rw [hl]
          obtain ⟨q, hq⟩ : ∃ q, prsQ b ⟨#[]⟩ t = q := ⟨_, rfl⟩
          rw [hq]
          rcases bool_cases q.2.2 with g2 | g2
          · rw [if_pos g2, if_neg (by rw [wholeM_bad g2]; simp)]
          · rw [if_neg (c := q.2.2 = true) (by rw [g2]; simp)]
            by_cases hw : wholeM q.2 = true
            · rw [if_pos ⟨hw, by omega⟩]
              simp only
              rw [if_pos hw]
            · rw [if_neg (fun h => hw h.1)]
              simp only
              rw [if_neg hw]
end Kv
end Go.Proofs.YtcinjdaanhpbjaaGreat

namespace Go.Proofs.YtcinjdaanhpbjaaGreat
open Go.RowKit
namespace Kv
open Bw Rg Dk Rf Wl

/-- Set, from where its loop stands. -/
def setX (k : ByteArray) (v : List UInt8) : List Fl → Bool → List Fl
  | [], done => if done = true then [] else [(k, v, 0)]
  | x :: L, done => (if done = false ∧ lt x.1 k = false then [(k, v, 0)] else []) ++ ((if x.1 ≠ k then [x] else []) ++ setX k v L (done || !lt x.1 k))
theorem setX_done (k : ByteArray) (v : List UInt8) : ∀ L, setX k v L true = rm k L
  | [] => rfl
  | x :: L => by
    unfold setX
    rw [if_neg (by simp), Bool.true_or, setX_done k v L]
    unfold rm
    rw [List.filter_cons]
    by_cases h : x.1 = k
    · simp [h]
    · simp [h]
theorem ins_min {x : Fl} {L : List Fl} (h : ∀ y ∈ L, lt x.1 y.1 = true) : ins x L = x :: L := by
  cases L with
  | nil => rfl
  | cons y L => exact if_pos (h y (by simp))
theorem setX_set (k : ByteArray) (v : List UInt8) : ∀ L, Up L → setX k v L false = setK k v L
  | [], _ => rfl
  | x :: L, h => by
    obtain ⟨h1, h2⟩ := List.pairwise_cons.1 h
    unfold setX
    by_cases hx : lt x.1 k = true
    · rw [if_neg (by rw [hx]; simp), hx]
      have hne : x.1 ≠ k := fun e => by
        rw [e] at hx
        exact lt_irr _ hx
      rw [if_pos hne]
      simp only [Bool.not_true, Bool.or_false, List.nil_append]
      rw [setX_set k v L h2]
      unfold setK
      have e : rm k (x :: L) = x :: rm k L := by
        unfold rm
        rw [List.filter_cons, if_pos (by simpa using hne)]
      rw [e]
      show x :: ins (k, v, 0) (rm k L) = if lt k x.1 = true then _ else _
      rw [if_neg (fun h9 => lt_irr _ (lt_tr hx h9))]
    · have hx' : lt x.1 k = false := by simpa using hx
      rw [if_pos ⟨rfl, hx'⟩, hx']
      simp only [Bool.not_false, Bool.or_true]
      rw [setX_done]
      have e : (if x.1 ≠ k then [x] else []) ++ rm k L = rm k (x :: L) := by
        unfold rm
        rw [List.filter_cons]
        by_cases h9 : x.1 = k
        · simp [h9]
        · simp [h9]
      rw [e]
      unfold setK
      rw [ins_min]
      · rfl
      · intro y hy
        obtain ⟨hy, hyk⟩ := List.mem_filter.1 hy
        have hyk' : y.1 ≠ k := by simpa using hyk
        have hkx : lt k x.1 = true ∨ k = x.1 := by
          by_cases e9 : x.1 = k
          · exact .inr e9.symm
          · exact .inl (lt_tot hx e9)
        rcases List.mem_cons.1 hy with rfl | hy
        · rcases hkx with h9 | h9
          · exact h9
          · exact absurd h9.symm hyk'
        · have h8 := h1 y hy
          rcases hkx with h9 | h9
          · exact lt_tr h9 h8
          · rw [h9]
            exact h8
/-- The reference's replay of a log. -/
def playQ : List (List UInt8) → Nat → List Fl → Nat → Bool → Option (Nat × List Fl)
  | [], n, L, _, _ => some (n, L)
  | r :: rs, n, L, last, first => match batchQ r with
    | none => none
    | some (m, l) => if folM m last n first = false then none else playQ rs (if n < m then n + 1 else n) (if n < m then doAll l L else L) m false
theorem playQ_eq : ∀ (rs : List (List UInt8)) (n : Nat) (L : List Fl) (last : Nat) (first : Bool), n + rs.length < 9223372036854775800 → last + rs.length < 9223372036854775800 → playQ rs n L last first = (playM rs n L last first).map fun x => (x.1, x.2.1)
  | [], _, _, _, _, _, _ => rfl
  | r :: rs, n, L, last, first, h1, h2 => by
    rw [List.length_cons] at h1 h2
    unfold playQ playM
    rw [batchQ_eq]
    cases batchM r with
    | none => rfl
    | some p =>
      obtain ⟨m, l⟩ := p
      simp only
      by_cases hf : folM m last n first = false
      · rw [if_pos hf]
        split
        · rfl
        · rename_i hq
          split at hq
          · cases hq
          · injection hq with hq
            injection hq with e1 e2
            subst e1 e2
            rw [if_pos hf]
            rfl
      · have hm : m ≤ n + 1 ∨ m ≤ last + 1 := by
          unfold folM at hf
          split at hf
          · simp only [decide_eq_false_iff_not, Classical.not_not] at hf
            omega
          · simp only [decide_eq_false_iff_not, Classical.not_not] at hf
            omega
        rw [if_neg (by omega : ¬ 9223372036854775808 ≤ m)]
        simp only
        rw [if_neg hf, if_neg hf]
        exact playQ_eq rs _ _ _ _ (by split <;> omega) (by rcases hm with hm | hm <;> omega)
/-- The reference's Open: an error's number, the pairs, how many batches were done. -/
def opnQ (snap : List UInt8) (has : Bool) (log : List UInt8) : Option (Nat × List Fl) :=
  match (if has = true then oneM snap else some (0, [])) with
  | none => none
  | some (c, L) => playQ (scan log).1 c L 0 true
end Kv
end Go.Proofs.YtcinjdaanhpbjaaGreat
