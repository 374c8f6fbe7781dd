/- How far the plain readings of escapes and texts go, and how many characters a text has at most; nothing of the program. -/
import Derived.Test.YtehpdklnebognaaDoorQu
namespace Go.Proofs.YtehpdklnebognaaDoor

theorem hexF_ok (s : ByteArray) (bad : Int) : ∀ (k n p m q : Nat), hexF s bad k n p = .ok (m, q) → p ≤ s.size → p ≤ q ∧ q ≤ s.size
  | 0, n, p, m, q, h, hp => by
    unfold hexF at h
    injection h with h
    injection h with _ h2
    omega
  | k + 1, n, p, m, q, h, hp => by
    unfold hexF at h
    cases hc : chS s bad p with
    | error x => rw [hc] at h; cases h
    | ok x =>
      obtain ⟨c, r⟩ := x
      rw [hc] at h
      have h1 := chS_ok hc hp
      simp only at h
      split at h
      · cases h
      · have h2 := hexF_ok s bad k _ _ _ _ h h1.2.2
        omega
theorem numberedS_ok {s : ByteArray} {bad : Int} {slash p m q : Nat} (h : numberedS s bad slash p = .ok (m, q)) (hp : p ≤ s.size) : p ≤ q ∧ q ≤ s.size := by
  unfold numberedS at h
  cases hc : hexF s bad 4 0 p with
  | error x => rw [hc] at h; cases h
  | ok x =>
    obtain ⟨n, r⟩ := x
    rw [hc] at h
    have h1 := hexF_ok s bad _ _ _ _ _ hc hp
    simp only at h
    split at h
    · injection h with h
      injection h with _ h2
      omega
    · split at h
      · rename_i h3
        have h4 := aheadS_room s r (by omega)
        injection h with h
        injection h with _ h2
        omega
      · cases h
theorem escS_ok {s : ByteArray} {bad : Int} {slash p m q : Nat} (h : escS s bad slash p = .ok (m, q)) (hp : p ≤ s.size) : p < q ∧ q ≤ s.size := by
  unfold escS at h
  cases hc : chS s bad p with
  | error x => rw [hc] at h; cases h
  | ok x =>
    obtain ⟨c, r⟩ := x
    rw [hc] at h
    have h1 := chS_ok hc hp
    simp only [escC] at h
    repeat' split at h
    all_goals first
      | (injection h with h; injection h with _ h2; omega)
      | (cases h; done)
      | (have h2 := numberedS_ok h h1.2.2; omega)
theorem quF_ok (s : ByteArray) (bad : Int) : ∀ (f : Nat) (acc : List Nat) (p : Nat) (cs : List Nat) (q : Nat), quF s bad f acc p = .ok (cs, q) → p ≤ s.size → p < q ∧ q ≤ s.size ∧ cs.length + p ≤ acc.length + q
  | 0, acc, p, cs, q, h, hp => by unfold quF at h; cases h
  | f + 1, acc, p, cs, q, h, hp => by
    unfold quF at h
    cases hc : chS s bad p with
    | error x => rw [hc] at h; cases h
    | ok x =>
      obtain ⟨c, r⟩ := x
      rw [hc] at h
      have h1 := chS_ok hc hp
      simp only at h
      split at h
      · injection h with h
        injection h with h2 h3
        subst h2
        omega
      · split at h
        · cases he : escS s bad p r with
          | error x => rw [he] at h; cases h
          | ok x =>
            obtain ⟨d, r2⟩ := x
            rw [he] at h
            have h2 := escS_ok he h1.2.2
            have h3 := quF_ok s bad f _ _ _ _ h h2.2
            simp at h3
            omega
        · split at h
          · cases h
          · have h3 := quF_ok s bad f _ _ _ _ h h1.2.2
            simp at h3
            omega
theorem quotedS_ok {s : ByteArray} {bad : Int} {p : Nat} {cs : List Nat} {q : Nat} (h : quotedS s bad p = .ok (cs, q)) (_hp : p ≤ s.size) : p < q ∧ q ≤ s.size ∧ cs.length ≤ q := by
  unfold quotedS at h
  split at h
  · rename_i h0
    have hl := lt_of_nx (s := s) (p := p) (by omega)
    have h1 := quF_ok s bad _ _ _ _ _ h hl
    simp at h1
    omega
  · cases h
end Go.Proofs.YtehpdklnebognaaDoor
