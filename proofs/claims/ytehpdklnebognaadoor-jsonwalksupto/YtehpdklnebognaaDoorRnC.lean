/- Plain mathematics: a value told as a text, with blanks or without, is read as that value. Nothing of the program. -/
import Derived.Test.YtehpdklnebognaaDoorRnB
import Derived.Test.YtehpdklnebognaaDoorOwnA
namespace Go.Proofs.YtehpdklnebognaaDoor
open Go.RowKit
namespace RndW
open RefW EncW SndW PlnW OwnW

/-! The text is sound. -/
def Okb (l : List UInt8) : Prop := ∃ cs, AllPt cs ∧ l = flatN cs
theorem Okb.nil : Okb [] := ⟨[], by intro x hx; simp at hx, rfl⟩
theorem Okb.append {a b : List UInt8} (ha : Okb a) (hb : Okb b) : Okb (a ++ b) := by
  obtain ⟨ca, h1, rfl⟩ := ha
  obtain ⟨cb, h2, rfl⟩ := hb
  refine ⟨ca ++ cb, fun x hx => ?_, (flatN_append _ _).symm⟩
  rcases List.mem_append.1 hx with h | h
  · exact h1 x h
  · exact h2 x h
theorem Okb.cons {c : UInt8} {l : List UInt8} (h : c.toNat < 128) (hl : Okb l) : Okb (c :: l) := by
  refine Okb.append (a := [c]) ⟨[c.toNat], fun x hx => ?_, ?_⟩ hl
  · rw [List.mem_singleton.1 hx]
    exact isPt_of _ (by omega)
  · rw [flatN_cons, enc_ascii c h]
    rfl
theorem Okb.ascii : ∀ {l : List UInt8}, (∀ c ∈ l, c.toNat < 128) → Okb l
  | [], _ => Okb.nil
  | c :: l, h => Okb.cons (h c (by simp)) (Okb.ascii (fun d hd => h d (by simp [hd])))
theorem escN_ok {c : Nat} (h : isPt (c : Int) = true) : Okb (escN c) := by
  unfold escN
  split
  · rename_i hc
    have hu := u8_nat (show c < 256 by omega)
    apply Okb.ascii
    intro d hd
    unfold escB at hd
    rw [hu] at hd
    have n1 := hexB_nat (c / 16) (by omega)
    have n2 := hexB_nat (c % 16) (by omega)
    repeat' split at hd
    all_goals
      simp only [List.mem_cons, List.not_mem_nil, or_false] at hd
      first
        | (rcases hd with rfl | rfl | rfl | rfl | rfl | rfl <;> first | decide | (split at n1 <;> omega) | (split at n2 <;> omega))
        | (rcases hd with rfl | rfl <;> first | decide | omega)
        | (subst hd; omega)
  · exact ⟨[c], fun x hx => by rw [List.mem_singleton.1 hx]; exact h, by rw [flatN_cons]; simp [flatN, flat]⟩
theorem esc_ok : ∀ {cs : List Nat}, AllPt cs → Okb (cs.flatMap escN)
  | [], _ => Okb.nil
  | c :: cs, h => by
    rw [List.flatMap_cons]
    exact Okb.append (escN_ok (h c (by simp))) (esc_ok (fun x hx => h x (by simp [hx])))
theorem quoted_ok {t : ByteArray} (ht : badAt t 0 < 0) : Okb (quotedB t) := by
  have hb : badAt t 0 = -1 := by have := badAt_bd t; omega
  obtain ⟨h1, h2⟩ := sound_flat t hb
  unfold quotedB
  rw [h2, escL_flat _ h1]
  exact Okb.append (Okb.cons (by decide) (esc_ok h1)) (Okb.cons (by decide) Okb.nil)
theorem figs_ok (n : Int) (hn : -9007199254740991 ≤ n ∧ n ≤ 9007199254740991) : Okb (figs n) := by
  have hb : n.natAbs < 10 ^ 20 := Nat.lt_of_le_of_lt (show n.natAbs ≤ 9007199254740991 by omega) (by decide)
  have h1 := (digF_spec 20 n.natAbs [] hb (fun _ => by decide) (by intro d hd; simp at hd)).1
  have h2 : Okb (digF 20 n.natAbs []) := Okb.ascii (fun c hc => by have := h1 c hc; omega)
  unfold figs
  split
  · exact Okb.cons (by decide) h2
  · exact h2
mutual
theorem okV {g : List UInt8} (hg : Okb g) : ∀ (x : GV) (d : Int), sndV x d = true → Okb (txV g x)
  | .mk k bo n t l f, d, h => by
    unfold txV
    unfold sndV at h
    split
    · exact Okb.ascii (by decide)
    · rename_i k0
      split
      · split <;> exact Okb.ascii (by decide)
      · rename_i k1
        rw [if_neg (by omega)] at h
        split
        · rename_i k2
          rw [if_pos k2] at h
          simp at h
          exact figs_ok n (by omega)
        · rename_i k2
          rw [if_neg k2] at h
          split
          · rename_i k3
            rw [if_pos k3] at h
            exact quoted_ok (of_decide_eq_true h)
          · rename_i k3
            rw [if_neg k3] at h
            split
            · rename_i k4
              rw [if_pos k4] at h
              simp only [Bool.and_eq_true] at h
              exact Okb.append (Okb.append (Okb.ascii (by decide)) (okL hg l true _ h.1)) (Okb.ascii (by decide))
            · rename_i k4
              rw [if_neg k4] at h
              split at h
              · simp only [Bool.and_eq_true] at h
                exact Okb.append (Okb.append (Okb.ascii (by decide)) (okF hg f true _ h.1.1)) (Okb.ascii (by decide))
              · cases h
theorem okL {g : List UInt8} (hg : Okb g) : ∀ (l : List GV) (first : Bool) (d : Int), sndL l d = true → Okb (txL g l first)
  | [], _, d, _ => by unfold txL; exact Okb.nil
  | x :: l, first, d, h => by
    unfold txL
    unfold sndL at h
    simp only [Bool.and_eq_true] at h
    refine Okb.append (Okb.append (Okb.append (Okb.append ?_ hg) (okV hg x d h.1)) hg) (okL hg l false d h.2)
    split <;> exact Okb.ascii (by decide)
theorem okF {g : List UInt8} (hg : Okb g) : ∀ (l : List (ByteArray × GV)) (first : Bool) (d : Int), sndF l d = true → Okb (txF g l first)
  | [], _, d, _ => by unfold txF; exact Okb.nil
  | x :: l, first, d, h => by
    unfold txF
    unfold sndF at h
    simp only [Bool.and_eq_true] at h
    refine Okb.append (Okb.append (Okb.append (Okb.append ?_ hg) (okP hg x d h.1)) hg) (okF hg l false d h.2)
    split <;> exact Okb.ascii (by decide)
theorem okP {g : List UInt8} (hg : Okb g) : ∀ (x : ByteArray × GV) (d : Int), sndP x d = true → Okb (txP g x)
  | (nm, x), d, h => by
    unfold txP
    unfold sndP at h
    simp only [Bool.and_eq_true, decide_eq_true_eq] at h
    exact Okb.append (Okb.append (Okb.append (Okb.append (quoted_ok h.1) hg) (Okb.ascii (by decide))) hg) (okV hg x d h.2)
end

/-! Blanks and heads. -/
def Blanks (g : List UInt8) : Prop := ∀ c ∈ g, isBl c.toNat = true
theorem bl_lt {c : Nat} (h : isBl c = true) : c = 32 ∨ c = 10 ∨ c = 13 ∨ c = 9 := by simpa [isBl, or_assoc] using h
theorem bl_gap {s : ByteArray} : ∀ {g : List UInt8} {p : Nat} {r : List UInt8}, Blanks g → isBl (hd r) = false → At s p (g ++ r) → bl s p = p + g.length
  | [], p, r, _, hr, h => by
    rw [bl_no s p (by rw [show nx s p = hd r from At.hd h]; exact hr)]
    rfl
  | c :: g, p, r, hg, hr, h => by
    have h1 := hg c (by simp)
    have hnx : nx s p = c.toNat := At.nx (show At s p (c :: (g ++ r)) from h)
    rw [bl_yes s p (by rw [hnx]; exact h1), bl_gap (fun d hd => hg d (by simp [hd])) hr (show At s (p + 1) (g ++ r) from At.step (a := [c]) h)]
    simp only [List.length_cons]
    omega
theorem hd_gap {g z : List UInt8} (hg : Blanks g) (hz : isDg (hd z) = false) : isDg (hd (g ++ z)) = false := by
  cases g with
  | nil => exact hz
  | cons c g =>
    have := bl_lt (hg c (by simp))
    show isDg c.toNat = false
    cases h : isDg c.toNat with
    | false => rfl
    | true => rw [isDg_iff] at h; omega
def HdOk (c : Nat) : Prop := c = 110 ∨ c = 116 ∨ c = 102 ∨ c = 45 ∨ (48 ≤ c ∧ c ≤ 57) ∨ c = 34 ∨ c = 91 ∨ c = 123
theorem HdOk.blank {c : Nat} (h : HdOk c) : isBl c = false := by
  cases hb : isBl c with
  | false => rfl
  | true => have := bl_lt hb; unfold HdOk at h; omega
theorem HdOk.ne {c : Nat} (h : HdOk c) : c ≠ 93 ∧ c ≠ 125 ∧ c ≠ 44 := by unfold HdOk at h; omega
def bodyL (g : List UInt8) : List GV → List UInt8
  | [] => []
  | x :: l => txV g x ++ g ++ txL g l false
def bodyF (g : List UInt8) : List (ByteArray × GV) → List UInt8
  | [] => []
  | x :: l => txP g x ++ g ++ txF g l false
theorem txL_true (g : List UInt8) (x : GV) (l : List GV) : txL g (x :: l) true = g ++ bodyL g (x :: l) := by simp [txL, bodyL]
theorem txL_false (g : List UInt8) (x : GV) (l : List GV) : txL g (x :: l) false = [44] ++ g ++ bodyL g (x :: l) := by simp [txL, bodyL]
theorem txF_true (g : List UInt8) (x : ByteArray × GV) (l : List (ByteArray × GV)) : txF g (x :: l) true = g ++ bodyF g (x :: l) := by simp [txF, bodyF]
theorem txF_false (g : List UInt8) (x : ByteArray × GV) (l : List (ByteArray × GV)) : txF g (x :: l) false = [44] ++ g ++ bodyF g (x :: l) := by simp [txF, bodyF]
theorem txV_len (g : List UInt8) (x : GV) : 1 ≤ (txV g x).length := by
  cases x with
  | mk k bo n t l f =>
  unfold txV
  have : 1 ≤ (figs n).length := by
    unfold figs
    split
    · simp
    · have h : 1 ≤ (digF 20 n.natAbs []).length := by
        have : ∀ f x (acc : List UInt8), acc.length ≤ (digF f x acc).length := by
          intro f
          induction f with
          | zero => intro x acc; exact Nat.le_refl _
          | succ f ih =>
            intro x acc
            unfold digF
            split
            · have := ih (x / 10) ((48 + x % 10).toUInt8 :: acc)
              simp only [List.length_cons] at this
              omega
            · exact Nat.le_refl _
        have h2 := this 19 (n.natAbs / 10) [(48 + n.natAbs % 10).toUInt8]
        have e : digF 20 n.natAbs [] = digF 19 (n.natAbs / 10) [(48 + n.natAbs % 10).toUInt8] := by rw [digF, if_pos (.inr rfl)]
        rw [e]
        simpa using h2
      exact h
  repeat' split
  all_goals
    (try simp only [quotedB, List.length_append, List.length_cons, List.length_nil])
    try omega
theorem bodyL_len (g : List UInt8) : ∀ l : List GV, l.length ≤ (bodyL g l).length
  | [] => by simp [bodyL]
  | [x] => by
    have := txV_len g x
    simp only [bodyL, txL, List.length_append, List.length_cons, List.length_nil]
    omega
  | x :: y :: l => by
    have h1 := bodyL_len g (y :: l)
    have h2 := txV_len g x
    rw [bodyL, txL_false]
    simp only [List.length_append, List.length_cons, List.length_nil] at h1 ⊢
    omega
theorem bodyF_len (g : List UInt8) : ∀ l : List (ByteArray × GV), l.length ≤ (bodyF g l).length
  | [] => by simp [bodyF]
  | [(nm, x)] => by
    simp only [bodyF, txP, txF, List.length_append, List.length_cons, List.length_nil]
    omega
  | (nm, x) :: y :: l => by
    have h1 := bodyF_len g (y :: l)
    rw [bodyF, txF_false, txP]
    simp only [List.length_append, List.length_cons, List.length_nil] at h1 ⊢
    omega
theorem rd_word {s : ByteArray} : ∀ (w : List UInt8) {p : Nat} {r : List UInt8}, At s p (w ++ r) → wordS s (w.map (·.toNat)) p = .ok (p + w.length)
  | [], p, r, _ => rfl
  | c :: w, p, r, h => by
    have hnx : nx s p = c.toNat := At.nx (show At s p (c :: (w ++ r)) from h)
    simp only [List.map_cons, wordS]
    rw [if_pos hnx, rd_word w (show At s (p + 1) (w ++ r) from At.step (a := [c]) h)]
    simp only [List.length_cons]
    congr 1
    omega
theorem valS_leaf {s : ByteArray} {p : Nat} {y : GV} {q : Nat} (h : ∀ lst obj, valC s (-1) lst obj p = .ok (y, q)) (k : Nat) : valS s (-1) k p = .ok (y, q) := by
  cases k with
  | zero => unfold valS; exact h _ _
  | succ k => unfold valS; exact h _ _

mutual
theorem rdV {s : ByteArray} {g : List UInt8} (hg : Blanks g) : ∀ (x : GV) (k : Nat) {p : Nat} {r : List UInt8}, sndV x (k : Int) = true → isDg (hd r) = false → p ≤ s.size → At s p (txV g x ++ r) →
    valS s (-1) k p = .ok (nrmV x, p + (txV g x).length) ∧ HdOk (hd (txV g x ++ r))
  | .mk kd bo n t l f, k, p, r, hs, hr, hp, h => by
    unfold sndV at hs
    by_cases k0 : kd = 0
    · have e : txV g (.mk kd bo n t l f) = [110, 117, 108, 108] := by unfold txV; rw [if_pos k0]
      have e2 : nrmV (.mk kd bo n t l f) = .mk 0 false 0 ⟨#[]⟩ [] [] := by subst k0; rfl
      rw [e] at h ⊢
      rw [e2]
      have hnx : nx s p = 110 := At.nx (show At s p (110 :: ([117, 108, 108] ++ r)) from h)
      refine ⟨valS_leaf (fun lst obj => ?_) k, .inl rfl⟩
      have hw := rd_word [110, 117, 108, 108] h
      unfold valC
      rw [if_pos hnx, show [110, 117, 108, 108] = ([110, 117, 108, 108] : List UInt8).map (·.toNat) from rfl, hw]
    by_cases k1 : kd = 1
    · cases bo with
      | true =>
        have e : txV g (.mk kd true n t l f) = [116, 114, 117, 101] := by unfold txV; rw [if_neg k0, if_pos k1, if_pos rfl]
        have e2 : nrmV (.mk kd true n t l f) = .mk 1 true 0 ⟨#[]⟩ [] [] := by subst k1; rfl
        rw [e] at h ⊢
        rw [e2]
        have hnx : nx s p = 116 := At.nx (show At s p (116 :: ([114, 117, 101] ++ r)) from h)
        refine ⟨valS_leaf (fun lst obj => ?_) k, .inr (.inl rfl)⟩
        have hw := rd_word [116, 114, 117, 101] h
        unfold valC
        rw [if_neg (by omega), if_pos hnx, show [116, 114, 117, 101] = ([116, 114, 117, 101] : List UInt8).map (·.toNat) from rfl, hw]
      | false =>
        have e : txV g (.mk kd false n t l f) = [102, 97, 108, 115, 101] := by unfold txV; rw [if_neg k0, if_pos k1, if_neg (by decide)]
        have e2 : nrmV (.mk kd false n t l f) = .mk 1 false 0 ⟨#[]⟩ [] [] := by subst k1; rfl
        rw [e] at h ⊢
        rw [e2]
        have hnx : nx s p = 102 := At.nx (show At s p (102 :: ([97, 108, 115, 101] ++ r)) from h)
        refine ⟨valS_leaf (fun lst obj => ?_) k, .inr (.inr (.inl rfl))⟩
        have hw := rd_word [102, 97, 108, 115, 101] h
        unfold valC
        rw [if_neg (by omega), if_neg (by omega), if_pos hnx, show [102, 97, 108, 115, 101] = ([102, 97, 108, 115, 101] : List UInt8).map (·.toNat) from rfl, hw]
    rw [if_neg (by omega)] at hs
    by_cases k2 : kd = 2
    · rw [if_pos k2] at hs
      have e : txV g (.mk kd bo n t l f) = figs n := by unfold txV; rw [if_neg k0, if_neg k1, if_pos k2]
      have e2 : nrmV (.mk kd bo n t l f) = .mk 2 false n ⟨#[]⟩ [] [] := by subst k2; rfl
      rw [e] at h ⊢
      rw [e2]
      simp at hs
      obtain ⟨h1, h2⟩ := rd_number (by omega) hr hp h
      have hnx : nx s p = hd (figs n ++ r) := At.hd h
      have hd2 : hd (figs n ++ r) = 45 ∨ (48 ≤ hd (figs n ++ r) ∧ hd (figs n ++ r) ≤ 57) := h2.imp id (fun h => (isDg_iff _).1 h)
      refine ⟨valS_leaf (fun lst obj => ?_) k, by unfold HdOk; omega⟩
      unfold valC
      rw [if_neg (by omega), if_neg (by omega), if_neg (by omega), if_neg (by omega), if_neg (by omega), if_neg (by omega), if_pos (by rw [hnx]; exact h2), h1]
    rw [if_neg k2] at hs
    by_cases k3 : kd = 3
    · rw [if_pos k3] at hs
      have e : txV g (.mk kd bo n t l f) = quotedB t := by unfold txV; rw [if_neg k0, if_neg k1, if_neg k2, if_pos k3]
      have e2 : nrmV (.mk kd bo n t l f) = .mk 3 false 0 t [] [] := by subst k3; rfl
      rw [e] at h ⊢
      rw [e2]
      obtain ⟨cs, h1, h2⟩ := rd_quoted (of_decide_eq_true hs) hp h
      have hnx : nx s p = 34 := At.hd h
      refine ⟨valS_leaf (fun lst obj => ?_) k, .inr (.inr (.inr (.inr (.inr (.inl rfl)))))⟩
      unfold valC
      rw [if_neg (by omega), if_neg (by omega), if_neg (by omega), if_pos hnx, h1]
      simp only [h2]
    rw [if_neg k3] at hs
    by_cases k4 : kd = 4
    · rw [if_pos k4] at hs
      simp only [Bool.and_eq_true, decide_eq_true_eq] at hs
      have e : txV g (.mk kd bo n t l f) = [91] ++ txL g l true ++ [93] := by unfold txV; rw [if_neg k0, if_neg k1, if_neg k2, if_neg k3, if_pos k4]
      have e2 : nrmV (.mk kd bo n t l f) = .mk 4 false 0 ⟨#[]⟩ (nrmL l) [] := by subst k4; rfl
      rw [e] at h ⊢
      rw [e2]
      obtain ⟨k, rfl⟩ : ∃ j, k = j + 1 := ⟨k - 1, by omega⟩
      have hs1 : sndL l (k : Int) = true := by have := hs.1; rw [show ((k + 1 : Nat) : Int) - 1 = (k : Int) by omega] at this; exact this
      have h1 : At s p (91 :: (txL g l true ++ 93 :: r)) := by simpa using h
      have hnx : nx s p = 91 := At.nx h1
      have h2 : At s (p + 1) (txL g l true ++ 93 :: r) := At.step (a := [91]) h1
      have hp1 := h1.lt
      refine ⟨?_, .inr (.inr (.inr (.inr (.inr (.inr (.inl rfl))))))⟩
      unfold valS valC
      rw [if_neg (by omega), if_neg (by omega), if_neg (by omega), if_neg (by omega), if_pos hnx]
      have key : bracketS s (oneL (valS s (-1) k)) 93 [] p = .ok (nrmL l, p + ([91] ++ txL g l true ++ [93]).length) := by
        unfold bracketS
        cases l with
        | nil =>
          have h3 : At s (p + 1) ([] ++ 93 :: r) := h2
          have hb := bl_gap (g := []) (by intro c hc; simp at hc) (by rfl) h3
          rw [hb]
          have hn2 : nx s (p + 1 + ([] : List UInt8).length) = 93 := At.nx (show At s (p + 1) (93 :: r) from h2)
          rw [if_pos hn2]
          rfl
        | cons x l =>
          rw [txL_true] at h2 ⊢
          have h3 : At s (p + 1) (g ++ (bodyL g (x :: l) ++ 93 :: r)) := by simpa using h2
          have h4 := At.step h3
          have hfit := At.fits h3 (by omega)
          have hlen : (x :: l).length ≤ s.size + 1 := by
            have hz := At.fits (a := bodyL g (x :: l)) h4 (by omega)
            have := bodyL_len g (x :: l)
            omega
          obtain ⟨i1, i2⟩ := rdL hg (x :: l) k (f := s.size + 1) (st := []) (by simp) hlen hs1 (by omega) h4
          have hb := bl_gap hg i2.blank h3
          rw [hb]
          have hn2 : nx s (p + 1 + g.length) = hd (bodyL g (x :: l) ++ 93 :: r) := At.hd h4
          rw [if_neg (by rw [hn2]; exact i2.ne.1), i1]
          simp only [List.nil_append, List.length_append, List.length_cons, List.length_nil]
          congr 2
          omega
      unfold listS
      rw [key]
    rw [if_neg k4] at hs
    by_cases k5 : kd = 5
    · rw [if_pos k5] at hs
      simp only [Bool.and_eq_true, decide_eq_true_eq] at hs
      have e : txV g (.mk kd bo n t l f) = [123] ++ txF g f true ++ [125] := by unfold txV; rw [if_neg k0, if_neg k1, if_neg k2, if_neg k3, if_neg k4]
      have e2 : nrmV (.mk kd bo n t l f) = .mk 5 false 0 ⟨#[]⟩ [] (nrmF f) := by subst k5; rfl
      rw [e] at h ⊢
      rw [e2]
      obtain ⟨k, rfl⟩ : ∃ j, k = j + 1 := ⟨k - 1, by omega⟩
      have hs1 : sndF f (k : Int) = true := by have := hs.1.1; rw [show ((k + 1 : Nat) : Int) - 1 = (k : Int) by omega] at this; exact this
      have h1 : At s p (123 :: (txF g f true ++ 125 :: r)) := by simpa using h
      have hnx : nx s p = 123 := At.nx h1
      have h2 : At s (p + 1) (txF g f true ++ 125 :: r) := At.step (a := [123]) h1
      have hp1 := h1.lt
      refine ⟨?_, .inr (.inr (.inr (.inr (.inr (.inr (.inr rfl))))))⟩
      unfold valS valC
      rw [if_neg (by omega), if_neg (by omega), if_neg (by omega), if_neg (by omega), if_neg (by omega), if_pos hnx]
      have key : bracketS s (oneF s (-1) (valS s (-1) k)) 125 [] p = .ok (nrmF f, p + ([123] ++ txF g f true ++ [125]).length) := by
        unfold bracketS
        cases f with
        | nil =>
          have h3 : At s (p + 1) ([] ++ 125 :: r) := h2
          have hb := bl_gap (g := []) (by intro c hc; simp at hc) (by rfl) h3
          rw [hb]
          have hn2 : nx s (p + 1 + ([] : List UInt8).length) = 125 := At.nx (show At s (p + 1) (125 :: r) from h2)
          rw [if_pos hn2]
          rfl
        | cons x f =>
          rw [txF_true] at h2 ⊢
          have h3 : At s (p + 1) (g ++ (bodyF g (x :: f) ++ 125 :: r)) := by simpa using h2
          have h4 := At.step h3
          have hfit := At.fits h3 (by omega)
          have hlen : (x :: f).length ≤ s.size + 1 := by
            have hz := At.fits (a := bodyF g (x :: f)) h4 (by omega)
            have := bodyF_len g (x :: f)
            omega
          obtain ⟨i1, i2⟩ := rdF hg (x :: f) k (f := s.size + 1) (st := []) (by simp) hlen hs1 hs.1.2 (by intro y hy; simp at hy) (by omega) h4
          have hb := bl_gap hg i2.blank h3
          rw [hb]
          have hn2 : nx s (p + 1 + g.length) = hd (bodyF g (x :: f) ++ 125 :: r) := At.hd h4
          rw [if_neg (by rw [hn2]; exact i2.ne.2.1), i1]
          simp only [List.nil_append, List.length_append, List.length_cons, List.length_nil]
          congr 2
          omega
      unfold objS
      rw [key]
    · rw [if_neg k5] at hs
      cases hs
theorem rdL {s : ByteArray} {g : List UInt8} (hg : Blanks g) : ∀ (l : List GV) (k : Nat) {f : Nat} {st : List GV} {p : Nat} {r : List UInt8}, l ≠ [] → l.length ≤ f → sndL l (k : Int) = true → p ≤ s.size → At s p (bodyL g l ++ 93 :: r) →
    elemsF s (oneL (valS s (-1) k)) 93 f st p = .ok (st ++ nrmL l, p + (bodyL g l).length + 1) ∧ HdOk (hd (bodyL g l ++ 93 :: r))
  | [], _, _, _, _, _, h, _, _, _, _ => absurd rfl h
  | x :: l, k, f, st, p, r, _, hf, hs, hp, h => by
    obtain ⟨f, rfl⟩ : ∃ j, f = j + 1 := ⟨f - 1, by simp at hf; omega⟩
    unfold sndL at hs
    simp only [Bool.and_eq_true] at hs
    have h1 : At s p (txV g x ++ (g ++ (txL g l false ++ 93 :: r))) := by simpa [bodyL] using h
    have hnd : isDg (hd (txL g l false ++ 93 :: r)) = false := by cases l <;> rfl
    obtain ⟨v1, v2⟩ := rdV hg x k hs.1 (hd_gap hg hnd) hp h1
    have h2 := At.step h1
    have h3 := At.step h2
    have hf1 := At.fits h1 hp
    have hf2 := At.fits h2 hf1
    have hnb : isBl (hd (txL g l false ++ 93 :: r)) = false := by cases l <;> rfl
    have hb := bl_gap hg hnb h2
    refine ⟨?_, by rw [show bodyL g (x :: l) ++ 93 :: r = txV g x ++ (g ++ (txL g l false ++ 93 :: r)) by simp [bodyL]]; exact v2⟩
    rw [elemsF, oneL, v1]
    simp only [hb]
    cases l with
    | nil =>
      have hn : nx s (p + (txV g x).length + g.length) = 93 := At.nx h3
      rw [if_pos hn]
      simp [bodyL, txL, nrmL]
      omega
    | cons y l =>
      rw [txL_false] at h3
      have h4 : At s (p + (txV g x).length + g.length) (44 :: (g ++ (bodyL g (y :: l) ++ 93 :: r))) := by simpa using h3
      have hn : nx s (p + (txV g x).length + g.length) = 44 := At.nx h4
      have h5 : At s (p + (txV g x).length + g.length + 1) (g ++ (bodyL g (y :: l) ++ 93 :: r)) := At.step (a := [44]) h4
      have h6 := At.step h5
      have hl4 := h4.lt
      have hf5 := At.fits h5 hl4
      obtain ⟨i1, i2⟩ := rdL hg (y :: l) k (f := f) (st := st ++ [nrmV x]) (by simp) (by simpa using hf) hs.2 hf5 h6
      rw [if_neg (by omega), if_pos hn, bl_gap hg i2.blank h5, i1]
      have e : bodyL g (x :: y :: l) = txV g x ++ g ++ ([44] ++ g ++ bodyL g (y :: l)) := by rw [bodyL, txL_false]
      rw [e]
      simp only [List.append_assoc, List.length_append, List.length_cons, nrmL, List.cons_append, List.nil_append]
      congr 2
      omega
theorem rdF {s : ByteArray} {g : List UInt8} (hg : Blanks g) : ∀ (l : List (ByteArray × GV)) (k : Nat) {f : Nat} {st : List (ByteArray × GV)} {p : Nat} {r : List UInt8}, l ≠ [] → l.length ≤ f → sndF l (k : Int) = true → (l.map (·.1)).Nodup → (∀ y ∈ st, ∀ z ∈ l, y.1 ≠ z.1) → p ≤ s.size → At s p (bodyF g l ++ 125 :: r) →
    elemsF s (oneF s (-1) (valS s (-1) k)) 125 f st p = .ok (st ++ nrmF l, p + (bodyF g l).length + 1) ∧ HdOk (hd (bodyF g l ++ 125 :: r))
  | [], _, _, _, _, _, h, _, _, _, _, _, _ => absurd rfl h
  | (nm, x) :: l, k, f, st, p, r, _, hf, hs, hnd0, hst, hp, h => by
    obtain ⟨f, rfl⟩ : ∃ j, f = j + 1 := ⟨f - 1, by simp at hf; omega⟩
    unfold sndF at hs
    simp only [Bool.and_eq_true] at hs
    have hsp := hs.1
    unfold sndP at hsp
    simp only [Bool.and_eq_true, decide_eq_true_eq] at hsp
    have h1 : At s p (quotedB nm ++ (g ++ ([58] ++ (g ++ (txV g x ++ (g ++ (txF g l false ++ 125 :: r))))))) := by simpa [bodyF, txP] using h
    obtain ⟨cs, q1, q2⟩ := rd_quoted hsp.1 hp h1
    have h2 := At.step h1
    have hf1 := At.fits h1 hp
    have hb1 := bl_gap hg (by rfl) h2
    have h3 := At.step h2
    have hf2 := At.fits h2 hf1
    have hn3 : nx s (p + (quotedB nm).length + g.length) = 58 := At.nx h3
    have h4 : At s (p + (quotedB nm).length + g.length + 1) (g ++ (txV g x ++ (g ++ (txF g l false ++ 125 :: r)))) := At.step h3
    have hf3 : p + (quotedB nm).length + g.length + 1 ≤ s.size := At.fits h3 hf2
    have h5 := At.step h4
    have hf4 := At.fits h4 hf3
    have hnd : isDg (hd (txF g l false ++ 125 :: r)) = false := by cases l <;> rfl
    have hnb : isBl (hd (txF g l false ++ 125 :: r)) = false := by cases l <;> rfl
    obtain ⟨v1, v2⟩ := rdV hg x k hsp.2 (hd_gap hg hnd) hf4 h5
    have hb2 := bl_gap hg v2.blank h4
    have h6 := At.step h5
    have h7 := At.step h6
    have hf5 := At.fits h5 hf4
    have hf6 := At.fits h6 hf5
    have hb3 := bl_gap hg hnb h6
    have hany : ¬ (st.any (fun y => decide (y.1 = txt cs)) = true) := by
      rw [List.any_eq_true]
      rintro ⟨y, hy, he⟩
      exact hst y hy (nm, x) (by simp) (by rw [q2] at he; simpa using he)
    have hone : oneF s (-1) (valS s (-1) k) st p = .ok (st ++ [(nm, nrmV x)], p + (quotedB nm).length + g.length + 1 + g.length + (txV g x).length) := by
      unfold oneF
      rw [q1]
      simp only
      rw [if_neg hany, hb1, if_pos hn3, hb2, v1]
      simp only [q2]
    have hhd : HdOk (hd (bodyF g ((nm, x) :: l) ++ 125 :: r)) := .inr (.inr (.inr (.inr (.inr (.inl (by simp [bodyF, txP, quotedB, hd]))))))
    refine ⟨?_, hhd⟩
    rw [elemsF, hone]
    simp only [hb3]
    cases l with
    | nil =>
      have hn : nx s (p + (quotedB nm).length + g.length + 1 + g.length + (txV g x).length + g.length) = 125 := At.nx h7
      rw [if_pos hn]
      simp [bodyF, txP, txF, nrmF, nrmP]
      omega
    | cons y l =>
      rw [txF_false] at h7
      have h8 : At s (p + (quotedB nm).length + g.length + 1 + g.length + (txV g x).length + g.length) (44 :: (g ++ (bodyF g (y :: l) ++ 125 :: r))) := by simpa using h7
      have hn : nx s (p + (quotedB nm).length + g.length + 1 + g.length + (txV g x).length + g.length) = 44 := At.nx h8
      have h9 : At s (p + (quotedB nm).length + g.length + 1 + g.length + (txV g x).length + g.length + 1) (g ++ (bodyF g (y :: l) ++ 125 :: r)) := At.step (a := [44]) h8
      have h10 := At.step h9
      have hl8 := h8.lt
      have hf9 := At.fits h9 hl8
      have hnd1 : ((y :: l).map (·.1)).Nodup := by
        rw [List.map_cons, List.nodup_cons] at hnd0
        exact hnd0.2
      have hst1 : ∀ z ∈ st ++ [(nm, nrmV x)], ∀ u ∈ y :: l, z.1 ≠ u.1 := by
        intro z hz u hu
        rcases List.mem_append.1 hz with h | h
        · exact hst z h u (by simp [List.mem_cons.1 hu])
        · rw [List.mem_singleton.1 h]
          intro e
          rw [List.map_cons, List.nodup_cons] at hnd0
          exact hnd0.1 (List.mem_map.2 ⟨u, hu, e.symm⟩)
      obtain ⟨i1, i2⟩ := rdF hg (y :: l) k (f := f) (st := st ++ [(nm, nrmV x)]) (by simp) (by simpa using hf) hs.2 hnd1 hst1 hf9 h10
      rw [if_neg (by omega), if_pos hn, bl_gap hg i2.blank h9, i1]
      have e : bodyF g ((nm, x) :: y :: l) = quotedB nm ++ g ++ [58] ++ g ++ txV g x ++ g ++ ([44] ++ g ++ bodyF g (y :: l)) := by rw [bodyF, txF_false, txP]
      rw [e]
      simp only [List.append_assoc, List.length_append, List.length_cons, nrmF, nrmP, List.cons_append, List.nil_append]
      congr 2
      omega
end
/-- P2.4: a value told as a text, with blanks or without, is read as that value. -/
theorem rd_parse {s : ByteArray} {g : List UInt8} {x : GV} (hg : Blanks g) (hx : sndV x 32 = true) (hs : s.data.toList = g ++ txV g x ++ g) : parseS s = .ok (nrmV x) := by
  have hgo : Okb g := Okb.ascii (fun c hc => by have := bl_lt (hg c hc); omega)
  obtain ⟨cs, c1, c2⟩ := Okb.append (Okb.append hgo (okV hgo x 32 hx)) hgo
  have hbad : badAt s 0 = -1 := (flat_read cs c1 s 0 (by rw [List.drop_zero, hs, c2])).1
  have h0 : At s 0 (g ++ (txV g x ++ g)) := by unfold At; rw [List.drop_zero, hs, List.append_assoc]
  have h1 := At.step h0
  have hf0 := At.fits h0 (Nat.zero_le _)
  have hdg : isDg (hd g) = false := by have := hd_gap (z := []) hg rfl; rwa [List.append_nil] at this
  obtain ⟨v1, v2⟩ := rdV hg x 32 hx hdg hf0 h1
  have hb0 := bl_gap hg v2.blank h0
  have h2 := At.step h1
  have hb2 := bl_gap (r := []) hg rfl (by rw [List.append_nil]; exact h2)
  have hsz : s.size = g.length + (txV g x).length + g.length := by rw [Lib.size_eq, hs]; simp only [List.length_append]
  unfold parseS
  rw [hbad, hb0, v1]
  simp only
  rw [if_neg (by rw [hb2]; omega)]
end RndW
end Go.Proofs.YtehpdklnebognaaDoor
