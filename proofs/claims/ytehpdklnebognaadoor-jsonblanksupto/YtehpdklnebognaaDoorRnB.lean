/- Plain mathematics: numbers that were told are read again; what stands where a value is told; a text too long is told too long. Nothing of the program. -/
import Derived.Test.YtehpdklnebognaaDoorRnA
namespace Go.Proofs.YtehpdklnebognaaDoor
open Go.RowKit
namespace RndW
open RefW EncW SndW PlnW

/-! Numbers. -/
def valD (l : List UInt8) (a : Nat) : Nat := l.foldl (fun a d => a * 10 + (d.toNat - 48)) a
def Digs (l : List UInt8) : Prop := ∀ d ∈ l, 48 ≤ d.toNat ∧ d.toNat ≤ 57
theorem valD_shift : ∀ (l : List UInt8) (a : Nat), valD l a = a * 10 ^ l.length + valD l 0
  | [], a => by simp [valD]
  | d :: l, a => by
    have h1 := valD_shift l (a * 10 + (d.toNat - 48))
    have h2 := valD_shift l (0 * 10 + (d.toNat - 48))
    show valD l (a * 10 + (d.toNat - 48)) = _ + valD l (0 * 10 + (d.toNat - 48))
    rw [h1, h2, List.length_cons, Nat.pow_succ]
    generalize 10 ^ l.length = m
    generalize d.toNat - 48 = e
    rw [Nat.add_mul, Nat.add_mul, Nat.zero_mul, Nat.mul_assoc a 10 m, Nat.mul_comm 10 m]
    omega
theorem valD_ge (l : List UInt8) (a : Nat) : a ≤ valD l a := by
  rw [valD_shift]
  have : 10 ^ 0 ≤ 10 ^ l.length := Nat.pow_le_pow_right (by decide) (Nat.zero_le _)
  have := Nat.mul_le_mul_left a this
  omega
theorem dig_nat (x : Nat) : ((48 + x % 10).toUInt8).toNat = 48 + x % 10 := u8_nat (by omega)
theorem digF_spec : ∀ (f x : Nat) (acc : List UInt8), x < 10 ^ f → (acc = [] → 0 < f) → Digs acc → Digs (digF f x acc) ∧ valD (digF f x acc) 0 = x * 10 ^ acc.length + valD acc 0
  | 0, x, acc, hx, _, hd => by
    have : x = 0 := by simpa using hx
    subst this
    exact ⟨hd, by simp [digF]⟩
  | f + 1, x, acc, hx, he, hd => by
    unfold digF
    split
    · have hD : Digs ((48 + x % 10).toUInt8 :: acc) := by
        intro d hd'
        rcases List.mem_cons.1 hd' with rfl | h
        · rw [dig_nat]; omega
        · exact hd d h
      obtain ⟨h1, h2⟩ := digF_spec f (x / 10) _ (by rw [Nat.pow_succ] at hx; omega) (fun h => by cases h) hD
      refine ⟨h1, ?_⟩
      rw [h2, List.length_cons]
      show _ + valD acc (0 * 10 + (((48 + x % 10).toUInt8).toNat - 48)) = _
      have e3 : 0 * 10 + (48 + x % 10 - 48) = x % 10 := by omega
      rw [dig_nat, e3, valD_shift acc, Nat.pow_succ]
      generalize 10 ^ acc.length = m
      generalize valD acc 0 = z
      have e : x * m = x / 10 * (m * 10) + x % 10 * m := by
        conv => lhs; rw [show x = x / 10 * 10 + x % 10 by omega]
        rw [Nat.add_mul, Nat.mul_assoc, Nat.mul_comm 10 m]
      rw [e]
      omega
    · rename_i h
      have : x = 0 := by omega
      subst this
      exact ⟨hd, by simp⟩
/-- The first digit of a number that isn't 0 isn't 0. -/
theorem digF_head : ∀ (f x : Nat) (acc : List UInt8), 0 < x → x < 10 ^ f → ∃ d r, digF f x acc = d :: r ∧ 49 ≤ d.toNat
  | 0, x, acc, h0, hx => by simp at hx; omega
  | f + 1, x, acc, h0, hx => by
    unfold digF
    rw [if_pos (.inl h0)]
    by_cases h : 0 < x / 10
    · exact digF_head f _ _ h (by rw [Nat.pow_succ] at hx; omega)
    · have e : x / 10 = 0 := by omega
      rw [e]
      refine ⟨(48 + x % 10).toUInt8, acc, ?_, by rw [dig_nat]; omega⟩
      cases f with
      | zero => rfl
      | succ f =>
        unfold digF
        rw [if_neg (by simp)]
theorem isDg_iff (c : Nat) : isDg c = true ↔ 48 ≤ c ∧ c ≤ 57 := by simp [isDg]
theorem rd_dg {s : ByteArray} : ∀ (l : List UInt8) {f n p : Nat} {r : List UInt8}, Digs l → l.length ≤ f → isDg (hd r) = false → valD l n ≤ 9007199254740991 → At s p (l ++ r) → dgF s f n p = (valD l n, p + l.length)
  | [], f, n, p, r, _, hf, hr, hv, h => by
    cases f with
    | zero => rfl
    | succ f =>
      unfold dgF
      rw [show nx s p = hd r from At.hd h, hr]
      rfl
  | d :: l, f, n, p, r, hd', hf, hr, hv, h => by
    obtain ⟨f, rfl⟩ : ∃ g, f = g + 1 := ⟨f - 1, by simp at hf; omega⟩
    have h1 := hd' d (by simp)
    have hnx : nx s p = d.toNat := At.nx (show At s p (d :: (l ++ r)) from h)
    have hv' : valD l (n * 10 + (d.toNat - 48)) ≤ 9007199254740991 := hv
    have hge := valD_ge l (n * 10 + (d.toNat - 48))
    unfold dgF
    rw [hnx, if_pos ((isDg_iff _).2 h1), Nat.min_eq_left (by omega), rd_dg l (fun x hx => hd' x (by simp [hx])) (by simpa using hf) hr hv' (show At s (p + 1) (l ++ r) from At.step (a := [d]) h)]
    simp only [List.length_cons]
    rw [show p + 1 + l.length = p + (l.length + 1) by omega]
    rfl
theorem rd_digits {s : ByteArray} {p N : Nat} {r : List UInt8} (hN : N ≤ 9007199254740991) (hr : isDg (hd r) = false) (hp : p ≤ s.size) (h : At s p (digF 20 N [] ++ r)) : digitsS s p = .ok (N, p + (digF 20 N []).length) := by
  have hb : N < 10 ^ 20 := Nat.lt_of_le_of_lt hN (by decide)
  obtain ⟨h1, h2⟩ := digF_spec 20 N [] hb (fun _ => by decide) (by intro d hd; simp at hd)
  have h2' : valD (digF 20 N []) 0 = N := by rw [h2]; simp [valD]
  have hfit := At.fits h hp
  by_cases h0 : N = 0
  · subst h0
    have e : digF 20 0 [] = [48] := rfl
    rw [e] at h ⊢
    have hnx : nx s p = 48 := At.nx (show At s p (48 :: r) from h)
    unfold digitsS
    rw [hnx, if_pos (by decide), if_pos rfl]
    rfl
  · obtain ⟨d, l, e, hd'⟩ := digF_head 20 N [] (by omega) hb
    have hdd := h1 d (by rw [e]; simp)
    have hnx : nx s p = d.toNat := At.nx (show At s p (d :: (l ++ r)) by rw [e] at h; exact h)
    have hrd := rd_dg (digF 20 N []) (f := s.size - p) (n := 0) h1 (by omega) hr (by rw [h2']; exact hN) h
    unfold digitsS
    rw [hnx, if_pos ((isDg_iff _).2 hdd), if_neg (by omega), hrd, h2']
theorem rd_number {s : ByteArray} {p : Nat} {n : Int} {r : List UInt8} (hn : -9007199254740991 ≤ n ∧ n ≤ 9007199254740991) (hr : isDg (hd r) = false) (hp : p ≤ s.size) (h : At s p (figs n ++ r)) :
    numberS s p = .ok (n, p + (figs n).length) ∧ (hd (figs n ++ r) = 45 ∨ isDg (hd (figs n ++ r)) = true) := by
  unfold figs at h ⊢
  by_cases hneg : n < 0
  · rw [if_pos hneg] at h ⊢
    have hnx : nx s p = 45 := At.nx (show At s p (45 :: (digF 20 n.natAbs [] ++ r)) from h)
    have h1 : At s (p + 1) (digF 20 n.natAbs [] ++ r) := At.step (a := [45]) h
    have hfit := At.fits (a := [45]) h hp
    have := rd_digits (by omega) hr (by simpa using hfit) h1
    refine ⟨?_, .inl rfl⟩
    unfold numberS
    rw [hnx, if_pos rfl, this]
    simp only [List.length_cons]
    rw [if_neg (by omega), if_pos (by trivial), show p + 1 + (digF 20 n.natAbs []).length = p + ((digF 20 n.natAbs []).length + 1) by omega, show -((n.natAbs : Nat) : Int) = n by omega]
  · rw [if_neg hneg] at h ⊢
    have hb : n.natAbs < 10 ^ 20 := Nat.lt_of_le_of_lt (show n.natAbs ≤ 9007199254740991 by omega) (by decide)
    obtain ⟨h1, h2⟩ := digF_spec 20 n.natAbs [] hb (fun _ => by decide) (by intro d hd; simp at hd)
    obtain ⟨d, l, e⟩ : ∃ d l, digF 20 n.natAbs [] = d :: l := by
      by_cases h0 : n.natAbs = 0
      · rw [h0]; exact ⟨48, [], rfl⟩
      · obtain ⟨d, l, e, _⟩ := digF_head 20 n.natAbs [] (by omega) hb
        exact ⟨d, l, e⟩
    have hdd := h1 d (by rw [e]; simp)
    have hhd : hd (digF 20 n.natAbs [] ++ r) = d.toNat := by rw [e]; rfl
    have hnx : nx s p = d.toNat := by rw [← hhd]; exact At.hd h
    have := rd_digits (by omega) hr hp h
    refine ⟨?_, .inr (by rw [hhd]; exact (isDg_iff _).2 hdd)⟩
    unfold numberS
    rw [hnx, if_neg (by omega), this]
    simp only
    rw [if_neg (by omega), if_neg (by omega), show ((n.natAbs : Nat) : Int) = n by omega]

/-! What is told, whole. -/
mutual
/-- A value's text. -/
def txV (g : List UInt8) : GV → List UInt8
  | .mk k bo n t l f =>
    if k = 0 then [110, 117, 108, 108] else if k = 1 then (if bo = true then [116, 114, 117, 101] else [102, 97, 108, 115, 101]) else if k = 2 then figs n else if k = 3 then quotedB t
    else if k = 4 then [91] ++ txL g l true ++ [93] else [123] ++ txF g f true ++ [125]
def txL (g : List UInt8) : List GV → Bool → List UInt8
  | [], _ => []
  | x :: l, first => (if first = true then [] else [44]) ++ g ++ txV g x ++ g ++ txL g l false
def txF (g : List UInt8) : List (ByteArray × GV) → Bool → List UInt8
  | [], _ => []
  | x :: l, first => (if first = true then [] else [44]) ++ g ++ txP g x ++ g ++ txF g l false
def txP (g : List UInt8) : ByteArray × GV → List UInt8
  | (nm, x) => quotedB nm ++ g ++ [58] ++ g ++ txV g x
end
mutual
theorem plT_mono (g : List UInt8) : ∀ (x : GV) (b : List UInt8), b.length ≤ (plT g x b).length
  | .mk k bo n t l f, b => by
    unfold plT
    have h3 := plL_mono g l true (b ++ [91])
    have h4 := plF_mono g f true (b ++ [123])
    simp only [List.length_append, List.length_cons, List.length_nil] at h3 h4
    repeat' split
    all_goals
      (try simp only [List.length_append, List.length_cons, List.length_nil])
      omega
theorem plL_mono (g : List UInt8) : ∀ (l : List GV) (first : Bool) (b : List UInt8), b.length ≤ (plL g l first b).length
  | [], _, b => by simp [plL]
  | x :: l, first, b => by
    unfold plL
    have h1 := plT_mono g x ((if first = true then b else b ++ [44]) ++ g)
    have h2 := plL_mono g l false (plT g x ((if first = true then b else b ++ [44]) ++ g) ++ g)
    have h3 : b.length ≤ (if first = true then b else b ++ [44]).length := by split <;> simp
    simp only [List.length_append] at h1 h2
    omega
theorem plF_mono (g : List UInt8) : ∀ (l : List (ByteArray × GV)) (first : Bool) (b : List UInt8), b.length ≤ (plF g l first b).length
  | [], _, b => by simp [plF]
  | x :: l, first, b => by
    unfold plF
    have h1 := plP_mono g x ((if first = true then b else b ++ [44]) ++ g)
    have h2 := plF_mono g l false (plP g x ((if first = true then b else b ++ [44]) ++ g) ++ g)
    have h3 : b.length ≤ (if first = true then b else b ++ [44]).length := by split <;> simp
    simp only [List.length_append] at h1 h2
    omega
theorem plP_mono (g : List UInt8) : ∀ (x : ByteArray × GV) (b : List UInt8), b.length ≤ (plP g x b).length
  | (nm, x), b => by
    unfold plP
    have h1 := plT_mono g x (b ++ quotedB nm ++ g ++ [58] ++ g)
    simp only [List.length_append] at h1
    omega
end
/-- What an appending teller owes: all of it, or more than may be. -/
def Owes (b out tx : List UInt8) : Prop := (b.length + tx.length ≤ 65536 → out = b ++ tx) ∧ (65536 < b.length + tx.length → 65536 < out.length)
mutual
theorem owesV (g : List UInt8) : ∀ (x : GV) (b : List UInt8), Owes b (plT g x b) (txV g x)
  | .mk k bo n t l f, b => by
    by_cases hl : 65536 < b.length
    · have e : plT g (.mk k bo n t l f) b = b := by unfold plT; rw [if_pos hl]
      rw [e]
      exact ⟨fun h => by omega, fun _ => hl⟩
    · have hL := owesL g l true (b ++ [91])
      have hF := owesF g f true (b ++ [123])
      have lL : (b ++ [91]).length = b.length + 1 := by simp
      have lF : (b ++ [123]).length = b.length + 1 := by simp
      unfold plT txV
      rw [if_neg hl]
      split
      · exact ⟨fun _ => rfl, fun h => by rw [List.length_append]; exact h⟩
      split
      · exact ⟨fun _ => rfl, fun h => by rw [List.length_append]; exact h⟩
      split
      · exact ⟨fun _ => rfl, fun h => by rw [List.length_append]; exact h⟩
      split
      · exact ⟨fun _ => rfl, fun h => by rw [List.length_append]; exact h⟩
      split
      · constructor
        · intro h
          simp only [List.length_append, List.length_cons, List.length_nil] at h
          rw [hL.1 (by omega)]
          simp
        · intro h
          simp only [List.length_append, List.length_cons, List.length_nil] at h ⊢
          by_cases h2 : (b ++ [91]).length + (txL g l true).length ≤ 65536
          · rw [hL.1 h2]
            simp only [List.length_append, List.length_cons, List.length_nil]
            omega
          · have := hL.2 (by omega)
            omega
      · constructor
        · intro h
          simp only [List.length_append, List.length_cons, List.length_nil] at h
          rw [hF.1 (by omega)]
          simp
        · intro h
          simp only [List.length_append, List.length_cons, List.length_nil] at h ⊢
          by_cases h2 : (b ++ [123]).length + (txF g f true).length ≤ 65536
          · rw [hF.1 h2]
            simp only [List.length_append, List.length_cons, List.length_nil]
            omega
          · have := hF.2 (by omega)
            omega
theorem owesL (g : List UInt8) : ∀ (l : List GV) (first : Bool) (b : List UInt8), Owes b (plL g l first b) (txL g l first)
  | [], _, b => by
    unfold plL txL
    exact ⟨fun _ => by simp, fun h => by simpa using h⟩
  | x :: l, first, b => by
    unfold plL txL
    obtain ⟨b1, hb1⟩ : ∃ b1, (if first = true then b else b ++ [44]) ++ g = b1 := ⟨_, rfl⟩
    have e1 : b1 = b ++ ((if first = true then [] else [44]) ++ g) := by rw [← hb1]; split <;> simp
    have l1 := congrArg List.length e1
    rw [hb1]
    have hx := owesV g x b1
    have hm := plL_mono g l false (plT g x b1 ++ g)
    have hr := owesL g l false (plT g x b1 ++ g)
    have hh : ∀ z : List UInt8, (if first = true then ([] : List UInt8) else [44]) ++ g ++ txV g x ++ g ++ z = ((if first = true then [] else [44]) ++ g) ++ txV g x ++ g ++ z := fun z => rfl
    generalize (if first = true then ([] : List UInt8) else [44]) ++ g = hd1 at e1 l1 hh ⊢
    simp only [List.length_append] at l1 hm
    by_cases h1 : b1.length + (txV g x).length ≤ 65536
    · have e2 := hx.1 h1
      rw [e2] at hr hm ⊢
      have l2 : (b1 ++ txV g x ++ g).length = b1.length + (txV g x).length + g.length := by simp only [List.length_append]
      constructor
      · intro h
        simp only [List.length_append] at h
        rw [hr.1 (by omega), e1]
        simp
      · intro h
        simp only [List.length_append] at h
        exact hr.2 (by omega)
    · have h2 := hx.2 (by omega)
      constructor
      · intro h
        simp only [List.length_append] at h
        omega
      · intro _
        omega
theorem owesF (g : List UInt8) : ∀ (l : List (ByteArray × GV)) (first : Bool) (b : List UInt8), Owes b (plF g l first b) (txF g l first)
  | [], _, b => by
    unfold plF txF
    exact ⟨fun _ => by simp, fun h => by simpa using h⟩
  | x :: l, first, b => by
    unfold plF txF
    obtain ⟨b1, hb1⟩ : ∃ b1, (if first = true then b else b ++ [44]) ++ g = b1 := ⟨_, rfl⟩
    have e1 : b1 = b ++ ((if first = true then [] else [44]) ++ g) := by rw [← hb1]; split <;> simp
    have l1 := congrArg List.length e1
    rw [hb1]
    have hx := owesP g x b1
    have hm := plF_mono g l false (plP g x b1 ++ g)
    have hr := owesF g l false (plP g x b1 ++ g)
    generalize (if first = true then ([] : List UInt8) else [44]) ++ g = hd1 at e1 l1 ⊢
    simp only [List.length_append] at l1 hm
    by_cases h1 : b1.length + (txP g x).length ≤ 65536
    · have e2 := hx.1 h1
      rw [e2] at hr hm ⊢
      have l2 : (b1 ++ txP g x ++ g).length = b1.length + (txP g x).length + g.length := by simp only [List.length_append]
      constructor
      · intro h
        simp only [List.length_append] at h
        rw [hr.1 (by omega), e1]
        simp
      · intro h
        simp only [List.length_append] at h
        exact hr.2 (by omega)
    · have h2 := hx.2 (by omega)
      constructor
      · intro h
        simp only [List.length_append] at h
        omega
      · intro _
        omega
theorem owesP (g : List UInt8) : ∀ (x : ByteArray × GV) (b : List UInt8), Owes b (plP g x b) (txP g x)
  | (nm, x), b => by
    have hx := owesV g x (b ++ quotedB nm ++ g ++ [58] ++ g)
    unfold plP txP
    constructor
    · intro h
      simp only [List.length_append, List.length_cons, List.length_nil] at h
      rw [hx.1 (by simp only [List.length_append, List.length_cons, List.length_nil]; omega)]
      simp
    · intro h
      simp only [List.length_append, List.length_cons, List.length_nil] at h
      exact hx.2 (by simp only [List.length_append, List.length_cons, List.length_nil]; omega)
end
end RndW
end Go.Proofs.YtehpdklnebognaaDoor
