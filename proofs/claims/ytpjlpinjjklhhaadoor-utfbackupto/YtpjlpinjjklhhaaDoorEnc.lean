/- Plain mathematics: bytes and characters come back from one another, and have one order. -/
import Derived.Test.YtpjlpinjjklhhaaDoorCmp
import Derived.Test.YtpjlpinjjklhhaaDoorRefT
namespace Go.Proofs.YtpjlpinjjklhhaaDoor
namespace EncW
open RefW CmpW
open Go.Lib (decodeN encodeRune encodeRuneZ)

/-- The bytes of some characters. -/
def flat (zs : List Int) : List UInt8 := zs.flatMap encodeRune
/-- The character at the head of some bytes. -/
def decL (l : List UInt8) : Nat × Nat := decodeN l.length (l.getD 0 0).toNat (l.getD 1 0).toNat (l.getD 2 0).toNat (l.getD 3 0).toNat
theorem decode_drop (s : ByteArray) (pos : Nat) : Utf8.decode s pos = decL (s.data.toList.drop pos) := by
  rw [Lib.decode_at]
  unfold decL
  rw [← get_drop s pos 0, ← get_drop s pos 1, ← get_drop s pos 2, ← get_drop s pos 3, List.length_drop, ← Lib.size_eq]
  rfl

theorem u8n (x : Int) (h0 : 0 ≤ x) (h1 : x < 256) : ((x.toNat.toUInt8).toNat : Int) = x := by
  have e : (x.toNat.toUInt8).toNat = x.toNat % 256 := UInt8.toNat_ofNat'
  rw [e]
  omega
theorem enc1 {r : Int} (h0 : 0 ≤ r) (h1 : r < 128) : encodeRune r = [r.toNat.toUInt8] := by unfold encodeRune; rw [Lib.encodeRuneZ_one h0 (by omega)]; rfl
theorem enc2 {r : Int} (h0 : 128 ≤ r) (h1 : r < 2048) : encodeRune r = [(192 + r / 64).toNat.toUInt8, (128 + r % 64).toNat.toUInt8] := by unfold encodeRune; rw [Lib.encodeRuneZ_two h0 (by omega)]; rfl
theorem enc3 {r : Int} (h0 : 2048 ≤ r) (h1 : r < 65536) (h : isPt r = true) : encodeRune r = [(224 + r / 4096).toNat.toUInt8, (128 + r / 64 % 64).toNat.toUInt8, (128 + r % 64).toNat.toUInt8] := by
  unfold isPt at h
  rw [decide_eq_true_eq] at h
  unfold encodeRune; rw [Lib.encodeRuneZ_three (by omega)]; rfl
theorem enc4 {r : Int} (h0 : 65536 ≤ r) (h : isPt r = true) : encodeRune r = [(240 + r / 262144).toNat.toUInt8, (128 + r / 4096 % 64).toNat.toUInt8, (128 + r / 64 % 64).toNat.toUInt8, (128 + r % 64).toNat.toUInt8] := by
  unfold isPt at h
  rw [decide_eq_true_eq] at h
  unfold encodeRune; rw [Lib.encodeRuneZ_four h0 (by omega)]; rfl
theorem pt_cases {r : Int} (h : isPt r = true) : (0 ≤ r ∧ r < 128) ∨ (128 ≤ r ∧ r < 2048) ∨ (2048 ≤ r ∧ r < 65536) ∨ (65536 ≤ r ∧ r ≤ 1114111) := by
  have := isPt_bd h
  omega

/-- A character's bytes, whatever stands behind them, are read as that character. -/
theorem decL_enc (r : Int) (h : isPt r = true) (rest : List UInt8) : decL (encodeRune r ++ rest) = (r.toNat, (encodeRune r).length) := by
  have hq := h
  unfold isPt at hq
  rw [decide_eq_true_eq] at hq
  rcases pt_cases h with g | g | g | g
  · rw [enc1 g.1 g.2]
    have a0 := u8n r (by omega) (by omega)
    unfold decL decodeN
    simp only [List.cons_append, List.nil_append, List.getD_cons_zero, List.length_cons, List.length_nil]
    rw [if_pos (by omega), Prod.mk.injEq]
    omega
  · rw [enc2 g.1 g.2]
    have a0 := u8n (192 + r / 64) (by omega) (by omega)
    have a1 := u8n (128 + r % 64) (by omega) (by omega)
    unfold decL decodeN
    simp only [List.cons_append, List.nil_append, List.getD_cons_zero, List.getD_cons_succ, List.length_cons, List.length_nil]
    rw [if_neg (by omega), if_pos (by omega), if_pos (by omega), Prod.mk.injEq]
    omega
  · rw [enc3 g.1 g.2 h]
    have a0 := u8n (224 + r / 4096) (by omega) (by omega)
    have a1 := u8n (128 + r / 64 % 64) (by omega) (by omega)
    have a2 := u8n (128 + r % 64) (by omega) (by omega)
    unfold decL decodeN
    simp only [List.cons_append, List.nil_append, List.getD_cons_zero, List.getD_cons_succ, List.length_cons, List.length_nil]
    rw [if_neg (by omega), if_neg (by omega), if_pos (by omega), if_pos (by omega), Prod.mk.injEq]
    omega
  · rw [enc4 g.1 h]
    have a0 := u8n (240 + r / 262144) (by omega) (by omega)
    have a1 := u8n (128 + r / 4096 % 64) (by omega) (by omega)
    have a2 := u8n (128 + r / 64 % 64) (by omega) (by omega)
    have a3 := u8n (128 + r % 64) (by omega) (by omega)
    unfold decL decodeN
    simp only [List.cons_append, List.nil_append, List.getD_cons_zero, List.getD_cons_succ, List.length_cons, List.length_nil]
    rw [if_neg (by omega), if_neg (by omega), if_neg (by omega), if_pos (by omega), if_pos (by omega), Prod.mk.injEq]
    omega
theorem enc_len (r : Int) : 1 ≤ (encodeRune r).length := by
  have := (Lib.encodeRuneZ_length r).1
  unfold encodeRune
  rw [List.length_map]
  exact this
theorem enc_char (r : Int) (h : isPt r = true) : (r.toNat, (encodeRune r).length) ≠ (65533, 1) := by
  intro e
  rw [Prod.mk.injEq] at e
  have hq := isPt_bd h
  rcases pt_cases h with g | g | g | g
  · omega
  · rw [enc2 g.1 g.2] at e; simp at e
  · rw [enc3 g.1 g.2 h] at e; simp at e
  · rw [enc4 g.1 h] at e; simp at e

theorem nat_u8 (x : UInt8) (n : Nat) (h : n = x.toNat) : n.toUInt8 = x := by
  subst h
  exact UInt8.ofNat_toNat
/-- Bytes at whose head a character stands whole begin with that character's bytes. -/
theorem decL_back (l : List UInt8) (hl : l ≠ []) (h : decL l ≠ (65533, 1)) : isPt ((decL l).1 : Int) = true ∧ l = encodeRune ((decL l).1 : Int) ++ l.drop (decL l).2 ∧ (encodeRune ((decL l).1 : Int)).length = (decL l).2 := by
  obtain ⟨D, hD⟩ : ∃ D, decL l = D := ⟨_, rfl⟩
  rw [hD] at h ⊢
  have hD0 := hD
  unfold decL decodeN at hD
  have mk : ∀ (r : Nat) (k : Nat) (bs rest : List UInt8), D = (r, k) → isPt (r : Int) = true → encodeRune (r : Int) = bs → l = bs ++ rest → bs.length = k → isPt (D.1 : Int) = true ∧ l = encodeRune (D.1 : Int) ++ l.drop D.2 ∧ (encodeRune (D.1 : Int)).length = D.2 := by
    intro r k bs rest e hp he hl hk
    subst e
    refine ⟨hp, ?_, by rw [he]; exact hk⟩
    show l = encodeRune (r : Int) ++ l.drop k
    rw [he]
    conv => rhs; rw [hl, ← hk, List.drop_left]
    exact hl
  cases l with
  | nil => exact absurd rfl hl
  | cons x0 l1 =>
    have b0 := x0.toNat_lt
    simp only [List.getD_cons_zero, List.getD_cons_succ, List.length_cons] at hD
    split at hD
    · rename_i h1
      refine mk x0.toNat 1 [x0] l1 hD.symm ?_ ?_ rfl rfl
      · unfold isPt; rw [decide_eq_true_eq]; omega
      · rw [enc1 (by omega) (by omega), nat_u8 x0 _ (by omega)]
    · split at hD
      · rename_i h1 h2
        cases l1 with
        | nil => simp at h2
        | cons x1 l2 =>
          simp only [List.getD_cons_zero] at hD h2
          have b1 := x1.toNat_lt
          split at hD
          · rename_i h3
            refine mk _ 2 [x0, x1] l2 hD.symm ?_ ?_ rfl rfl
            · unfold isPt; rw [decide_eq_true_eq]; omega
            · rw [enc2 (by omega) (by omega), nat_u8 x0 _ (by omega), nat_u8 x1 _ (by omega)]
          · exact absurd hD.symm h
      · split at hD
        · rename_i h1 h2 h3
          cases l1 with
          | nil => simp at h3
          | cons x1 l2 =>
            cases l2 with
            | nil => simp at h3
            | cons x2 l3 =>
              simp only [List.getD_cons_zero, List.getD_cons_succ] at hD h3
              have b1 := x1.toNat_lt
              have b2 := x2.toNat_lt
              split at hD
              · rename_i h4
                have hp : isPt ((x0.toNat % 16 * 4096 + x1.toNat % 64 * 64 + x2.toNat % 64 : Nat) : Int) = true := by unfold isPt; rw [decide_eq_true_eq]; omega
                refine mk _ 3 [x0, x1, x2] l3 hD.symm hp ?_ rfl rfl
                rw [enc3 (by omega) (by omega) hp, nat_u8 x0 _ (by omega), nat_u8 x1 _ (by omega), nat_u8 x2 _ (by omega)]
              · exact absurd hD.symm h
        · split at hD
          · rename_i h1 h2 h3 h4
            cases l1 with
            | nil => simp at h4
            | cons x1 l2 =>
              cases l2 with
              | nil => simp at h4
              | cons x2 l3 =>
                cases l3 with
                | nil => simp at h4
                | cons x3 l4 =>
                  simp only [List.getD_cons_zero, List.getD_cons_succ] at hD h4
                  have b1 := x1.toNat_lt
                  have b2 := x2.toNat_lt
                  have b3 := x3.toNat_lt
                  split at hD
                  · rename_i h5
                    have hp : isPt ((x0.toNat % 8 * 262144 + x1.toNat % 64 * 4096 + x2.toNat % 64 * 64 + x3.toNat % 64 : Nat) : Int) = true := by unfold isPt; rw [decide_eq_true_eq]; omega
                    refine mk _ 4 [x0, x1, x2, x3] l4 hD.symm hp ?_ rfl rfl
                    rw [enc4 (by omega) hp, nat_u8 x0 _ (by omega), nat_u8 x1 _ (by omega), nat_u8 x2 _ (by omega), nat_u8 x3 _ (by omega)]
                  · exact absurd hD.symm h
          · exact absurd hD.symm h
end EncW
end Go.Proofs.YtpjlpinjjklhhaaDoor
