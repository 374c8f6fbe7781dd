/- What the reference's small functions do (size, isPoint, Bytes): contracts, by walking their text. Plain mathematics: bytes and characters come back from one another. What the reference's At answers at every place of a string: the character that stands there, or none. Plain mathematics: what a text is read as is sound: nested no deeper than the reading allows, its texts and names sound, its numbers within bounds, no name twice. Nothing of the program. -/
import Derived.Test.YtiakidomcjpdhaaGreatDoorGQu
import Derived.Lib.RuneBytes
namespace Go.Proofs.YtiakidomcjpdhaaGreatDoor
open Go.RowKit
namespace RefW

/-- How many bytes a character has whose first one is c; 0: there is none. -/
def sz (c : Int) : Int := if c < 128 then 1 else if 192 ≤ c ∧ c < 224 then 2 else if 224 ≤ c ∧ c < 240 then 3 else if 240 ≤ c ∧ c < 248 then 4 else 0
theorem size_any (c : Int) (w : World) (h1 : c ≤ 255) : Calls Tryz.prog 140 #[.int .u8 c] w fun e w' => e = .returned (.int .i64 (sz c)) ∧ w' = w := by
  have hc : c < 128 ∨ (128 ≤ c ∧ c < 192) ∨ (192 ≤ c ∧ c < 224) ∨ (224 ≤ c ∧ c < 240) ∨ (240 ≤ c ∧ c < 248) ∨ 248 ≤ c := by omega
  rcases hc with hc | hc | hc | hc | hc | hc
  all_goals
    first
      | have e : sz c = 1 := by unfold sz; rw [if_pos (by omega)]
      | have e : sz c = 2 := by unfold sz; rw [if_neg (by omega), if_pos (by omega)]
      | have e : sz c = 3 := by unfold sz; rw [if_neg (by omega), if_neg (by omega), if_pos (by omega)]
      | have e : sz c = 4 := by unfold sz; rw [if_neg (by omega), if_neg (by omega), if_neg (by omega), if_pos (by omega)]
      | have e : sz c = 0 := by unfold sz; rw [if_neg (by omega), if_neg (by omega), if_neg (by omega), if_neg (by omega)]
    rw [e]
    clear e
    go_enter Tryz.func140, Tryz.ntmps140
    go_wp2
    go_ret
    exact ⟨rfl, rfl⟩

theorem ret_bool {a b : Bool} (h : a = b) : Ending.returned (.bool a) = .returned (.bool b) := by rw [h]
/-- Is a number a character's? -/
def isPt (p : Int) : Bool := decide (0 ≤ p ∧ p ≤ 1114111 ∧ (p < 55296 ∨ 57343 < p))
theorem isPoint_any (p : Int) (w : World) : Calls Tryz.prog 141 #[.int .i64 p] w fun e w' => e = .returned (.bool (isPt p)) ∧ w' = w := by
  have hc : p < 0 ∨ 1114111 < p ∨ (0 ≤ p ∧ p < 55296) ∨ (55296 ≤ p ∧ p ≤ 57343) ∨ (57343 < p ∧ p ≤ 1114111) := by omega
  rcases hc with hc | hc | hc | hc | hc
  all_goals
    first
      | have e : isPt p = true := by unfold isPt; rw [decide_eq_true_eq]; omega
      | have e : isPt p = false := by unfold isPt; rw [decide_eq_false_iff_not]; omega
    rw [e]
    clear e
    go_enter Tryz.func141, Tryz.ntmps141
    go_wp2
    go_ret
    first
      | exact ⟨rfl, rfl⟩
      | exact ⟨ret_bool (by rw [decide_eq_false (by omega), decide_eq_false (by omega)]; rfl), rfl⟩
/-- A character's bytes lie in a new block. -/
theorem Bytes_any (p : Int) (w : World) (hp : isPt p = true) : Calls Tryz.prog 126 #[.int .i64 p] w fun e w' =>
    e = .returned (.slice (some ⟨w.heap.size, 0, none⟩) (Lib.runeCells p).length (Lib.runeCells p).length) ∧ w' = w.alloc (.cells (Lib.runeCells p).toArray 5) := by
  unfold isPt at hp
  rw [decide_eq_true_eq] at hp
  have hc : (0 ≤ p ∧ p < 128) ∨ (128 ≤ p ∧ p < 2048) ∨ (2048 ≤ p ∧ p < 65536) ∨ 65536 ≤ p := by omega
  rcases hc with hc | hc | hc | hc
  · have e : Lib.runeCells p = [.int .u8 p] := by unfold Lib.runeCells; rw [Lib.encodeRuneZ_one (by omega) (by omega)]; rfl
    rw [e]
    clear e
    go_enter Tryz.func126, Tryz.ntmps126
    go_wp2
    go_ret
    exact ⟨rfl, rfl⟩
  · have e : Lib.runeCells p = [.int .u8 (192 + p / 64), .int .u8 (128 + p % 64)] := by unfold Lib.runeCells; rw [Lib.encodeRuneZ_two (by omega) (by omega)]; rfl
    rw [e]
    clear e
    go_enter Tryz.func126, Tryz.ntmps126
    go_wp2
    go_ret
    exact ⟨rfl, rfl⟩
  · have e : Lib.runeCells p = [.int .u8 (224 + p / 4096), .int .u8 (128 + p / 64 % 64), .int .u8 (128 + p % 64)] := by unfold Lib.runeCells; rw [Lib.encodeRuneZ_three (by omega)]; rfl
    rw [e]
    clear e
    go_enter Tryz.func126, Tryz.ntmps126
    go_wp2
    go_ret
    exact ⟨rfl, rfl⟩
  · have e : Lib.runeCells p = [.int .u8 (240 + p / 262144), .int .u8 (128 + p / 4096 % 64), .int .u8 (128 + p / 64 % 64), .int .u8 (128 + p % 64)] := by unfold Lib.runeCells; rw [Lib.encodeRuneZ_four (by omega) (by omega)]; rfl
    rw [e]
    clear e
    go_enter Tryz.func126, Tryz.ntmps126
    go_wp2
    go_ret
    exact ⟨rfl, rfl⟩
end RefW
end Go.Proofs.YtiakidomcjpdhaaGreatDoor

namespace Go.Proofs.YtiakidomcjpdhaaGreatDoor
open Go.RowKit
namespace RefW

/-- The first place at which a number is none of a character's; -1: none. -/
def badPt : List Int → Nat → Int
  | [], _ => -1
  | z :: r, k => if isPt z then badPt r (k + 1) else k
theorem badAt_sound (s : ByteArray) (pos : Nat) (hp : pos < s.size) (h : badAt s pos = -1) : noChar s pos = false := by
  cases hn : noChar s pos with
  | false => rfl
  | true => rw [badAt_hit s pos hp hn] at h; omega
theorem isPt_bd {p : Int} (h : isPt p = true) : 0 ≤ p ∧ p ≤ 1114111 := by
  unfold isPt at h
  rw [decide_eq_true_eq] at h
  omega

/-! The model's encoding of a character is the list of its bytes. -/
theorem u8_of (x : Int) (m : Nat) (h : x.toNat = m) : x.toNat.toUInt8 = UInt8.ofNat m := by rw [h]
theorem encode_eq (r : Int) (h : isPt r = true) : Utf8.encode r = ⟨(Lib.encodeRune r).toArray⟩ := by
  have hv : Utf8.valid r = true := by
    unfold isPt at h
    rw [decide_eq_true_eq] at h
    unfold Utf8.valid
    simp only [Bool.or_eq_true, Bool.and_eq_true, decide_eq_true_eq]
    omega
  unfold isPt at h
  rw [decide_eq_true_eq] at h
  unfold Utf8.encode Lib.encodeRune
  simp only [hv, if_true]
  rcases (show (0 ≤ r ∧ r < 128) ∨ (128 ≤ r ∧ r < 2048) ∨ (2048 ≤ r ∧ r < 65536) ∨ 65536 ≤ r by omega) with g | g | g | g
  · rw [if_pos (by omega), Lib.encodeRuneZ_one (by omega) (by omega)]
    rfl
  · rw [if_neg (by omega), if_pos (by omega), Lib.encodeRuneZ_two (by omega) (by omega)]
    simp only [List.map_cons, List.map_nil]
    rw [u8_of (192 + r / 64) (192 + r.toNat / 64) (by omega), u8_of (128 + r % 64) (128 + r.toNat % 64) (by omega)]
  · rw [if_neg (by omega), if_neg (by omega), if_pos (by omega), Lib.encodeRuneZ_three (by omega)]
    simp only [List.map_cons, List.map_nil]
    rw [u8_of (224 + r / 4096) (224 + r.toNat / 4096) (by omega), u8_of (128 + r / 64 % 64) (128 + r.toNat / 64 % 64) (by omega), u8_of (128 + r % 64) (128 + r.toNat % 64) (by omega)]
  · rw [if_neg (by omega), if_neg (by omega), if_neg (by omega), Lib.encodeRuneZ_four (by omega) (by omega)]
    simp only [List.map_cons, List.map_nil]
    rw [u8_of (240 + r / 262144) (240 + r.toNat / 262144) (by omega), u8_of (128 + r / 4096 % 64) (128 + r.toNat / 4096 % 64) (by omega), u8_of (128 + r / 64 % 64) (128 + r.toNat / 64 % 64) (by omega), u8_of (128 + r % 64) (128 + r.toNat % 64) (by omega)]
theorem runes_fold : ∀ (zs : List Int) (k : Nat) (acc : List UInt8), badPt zs k = -1 → zs.foldl (fun r n => r ++ Utf8.encode n) (⟨acc.toArray⟩ : ByteArray) = ⟨(acc ++ zs.flatMap Lib.encodeRune).toArray⟩
  | [], _, acc, _ => by simp
  | z :: r, k, acc, h => by
    unfold badPt at h
    cases hz : isPt z with
    | false => rw [hz] at h; simp at h
    | true =>
      rw [hz] at h
      simp only [if_true] at h
      simp only [List.foldl_cons, List.flatMap_cons]
      rw [encode_eq z hz, show (⟨acc.toArray⟩ : ByteArray) ++ ⟨(Lib.encodeRune z).toArray⟩ = ⟨(acc ++ Lib.encodeRune z).toArray⟩ by apply ByteArray.ext; simp [ByteArray.data_append], runes_fold r (k + 1) _ h]
      simp
theorem runes_eq (zs : List Int) (h : badPt zs 0 = -1) : runesBytes zs = ⟨(zs.flatMap Lib.encodeRune).toArray⟩ := by
  have := runes_fold zs 0 [] h
  rw [List.nil_append] at this
  exact this

end RefW
namespace EncW
open RefW
open Go.Lib (decodeN encodeRune encodeRuneZ)

/-- The bytes of some characters. -/
def flat (zs : List Int) : List UInt8 := zs.flatMap encodeRune
/-- The character at the head of some bytes. -/
def decL (l : List UInt8) : Nat × Nat := decodeN l.length (l.getD 0 0).toNat (l.getD 1 0).toNat (l.getD 2 0).toNat (l.getD 3 0).toNat
theorem decode_drop (s : ByteArray) (pos : Nat) : Utf8.decode s pos = decL (s.data.toList.drop pos) := by
  rw [Lib.decode_at]
  unfold decL
  rw [← get_drop s pos 0, ← get_drop s pos 1, ← get_drop s pos 2, ← get_drop s pos 3, List.length_drop, ← Lib.size_eq]
  rfl

theorem u8n (x : Int) (h0 : 0 ≤ x) (h1 : x < 256) : ((x.toNat.toUInt8).toNat : Int) = x := by
  have e : (x.toNat.toUInt8).toNat = x.toNat % 256 := UInt8.toNat_ofNat'
  rw [e]
  omega
theorem enc1 {r : Int} (h0 : 0 ≤ r) (h1 : r < 128) : encodeRune r = [r.toNat.toUInt8] := by unfold encodeRune; rw [Lib.encodeRuneZ_one h0 (by omega)]; rfl
theorem enc2 {r : Int} (h0 : 128 ≤ r) (h1 : r < 2048) : encodeRune r = [(192 + r / 64).toNat.toUInt8, (128 + r % 64).toNat.toUInt8] := by unfold encodeRune; rw [Lib.encodeRuneZ_two h0 (by omega)]; rfl
theorem enc3 {r : Int} (h0 : 2048 ≤ r) (h1 : r < 65536) (h : isPt r = true) : encodeRune r = [(224 + r / 4096).toNat.toUInt8, (128 + r / 64 % 64).toNat.toUInt8, (128 + r % 64).toNat.toUInt8] := by
  unfold isPt at h
  rw [decide_eq_true_eq] at h
  unfold encodeRune; rw [Lib.encodeRuneZ_three (by omega)]; rfl
theorem enc4 {r : Int} (h0 : 65536 ≤ r) (h : isPt r = true) : encodeRune r = [(240 + r / 262144).toNat.toUInt8, (128 + r / 4096 % 64).toNat.toUInt8, (128 + r / 64 % 64).toNat.toUInt8, (128 + r % 64).toNat.toUInt8] := by
  unfold isPt at h
  rw [decide_eq_true_eq] at h
  unfold encodeRune; rw [Lib.encodeRuneZ_four h0 (by omega)]; rfl
theorem pt_cases {r : Int} (h : isPt r = true) : (0 ≤ r ∧ r < 128) ∨ (128 ≤ r ∧ r < 2048) ∨ (2048 ≤ r ∧ r < 65536) ∨ (65536 ≤ r ∧ r ≤ 1114111) := by
  have := isPt_bd h
  omega

/-- A character's bytes, whatever stands behind them, are read as that character. -/
theorem decL_enc (r : Int) (h : isPt r = true) (rest : List UInt8) : decL (encodeRune r ++ rest) = (r.toNat, (encodeRune r).length) := by
  have hq := h
  unfold isPt at hq
  rw [decide_eq_true_eq] at hq
  rcases pt_cases h with g | g | g | g
  · rw [enc1 g.1 g.2]
    have a0 := u8n r (by omega) (by omega)
    unfold decL decodeN
    simp only [List.cons_append, List.nil_append, List.getD_cons_zero, List.length_cons, List.length_nil]
    rw [if_pos (by omega), Prod.mk.injEq]
    omega
  · rw [enc2 g.1 g.2]
    have a0 := u8n (192 + r / 64) (by omega) (by omega)
    have a1 := u8n (128 + r % 64) (by omega) (by omega)
    unfold decL decodeN
    simp only [List.cons_append, List.nil_append, List.getD_cons_zero, List.getD_cons_succ, List.length_cons, List.length_nil]
    rw [if_neg (by omega), if_pos (by omega), if_pos (by omega), Prod.mk.injEq]
    omega
  · rw [enc3 g.1 g.2 h]
    have a0 := u8n (224 + r / 4096) (by omega) (by omega)
    have a1 := u8n (128 + r / 64 % 64) (by omega) (by omega)
    have a2 := u8n (128 + r % 64) (by omega) (by omega)
    unfold decL decodeN
    simp only [List.cons_append, List.nil_append, List.getD_cons_zero, List.getD_cons_succ, List.length_cons, List.length_nil]
    rw [if_neg (by omega), if_neg (by omega), if_pos (by omega), if_pos (by omega), Prod.mk.injEq]
    omega
  · rw [enc4 g.1 h]
    have a0 := u8n (240 + r / 262144) (by omega) (by omega)
    have a1 := u8n (128 + r / 4096 % 64) (by omega) (by omega)
    have a2 := u8n (128 + r / 64 % 64) (by omega) (by omega)
    have a3 := u8n (128 + r % 64) (by omega) (by omega)
    unfold decL decodeN
    simp only [List.cons_append, List.nil_append, List.getD_cons_zero, List.getD_cons_succ, List.length_cons, List.length_nil]
    rw [if_neg (by omega), if_neg (by omega), if_neg (by omega), if_pos (by omega), if_pos (by omega), Prod.mk.injEq]
    omega
theorem enc_len (r : Int) : 1 ≤ (encodeRune r).length := by
  have := (Lib.encodeRuneZ_length r).1
  unfold encodeRune
  rw [List.length_map]
  exact this
theorem enc_char (r : Int) (h : isPt r = true) : (r.toNat, (encodeRune r).length) ≠ (65533, 1) := by
  intro e
  rw [Prod.mk.injEq] at e
  have hq := isPt_bd h
  rcases pt_cases h with g | g | g | g
  · omega
  · rw [enc2 g.1 g.2] at e; simp at e
  · rw [enc3 g.1 g.2 h] at e; simp at e
  · rw [enc4 g.1 h] at e; simp at e

theorem nat_u8 (x : UInt8) (n : Nat) (h : n = x.toNat) : n.toUInt8 = x := by
  subst h
  exact UInt8.ofNat_toNat
/-- Bytes at whose head a character stands whole begin with that character's bytes. -/
theorem decL_back (l : List UInt8) (hl : l ≠ []) (h : decL l ≠ (65533, 1)) : isPt ((decL l).1 : Int) = true ∧ l = encodeRune ((decL l).1 : Int) ++ l.drop (decL l).2 ∧ (encodeRune ((decL l).1 : Int)).length = (decL l).2 := by
  obtain ⟨D, hD⟩ : ∃ D, decL l = D := ⟨_, rfl⟩
  rw [hD] at h ⊢
  have hD0 := hD
  unfold decL decodeN at hD
  have mk : ∀ (r : Nat) (k : Nat) (bs rest : List UInt8), D = (r, k) → isPt (r : Int) = true → encodeRune (r : Int) = bs → l = bs ++ rest → bs.length = k → isPt (D.1 : Int) = true ∧ l = encodeRune (D.1 : Int) ++ l.drop D.2 ∧ (encodeRune (D.1 : Int)).length = D.2 := by
    intro r k bs rest e hp he hl hk
    subst e
    refine ⟨hp, ?_, by rw [he]; exact hk⟩
    show l = encodeRune (r : Int) ++ l.drop k
    rw [he]
    conv => rhs; rw [hl, ← hk, List.drop_left]
    exact hl
  cases l with
  | nil => exact absurd rfl hl
  | cons x0 l1 =>
    have b0 := x0.toNat_lt
    simp only [List.getD_cons_zero, List.getD_cons_succ, List.length_cons] at hD
    split at hD
    · rename_i h1
      refine mk x0.toNat 1 [x0] l1 hD.symm ?_ ?_ rfl rfl
      · unfold isPt; rw [decide_eq_true_eq]; omega
      · rw [enc1 (by omega) (by omega), nat_u8 x0 _ (by omega)]
    · split at hD
      · rename_i h1 h2
        cases l1 with
        | nil => simp at h2
        | cons x1 l2 =>
          simp only [List.getD_cons_zero] at hD h2
          have b1 := x1.toNat_lt
          split at hD
          · rename_i h3
            refine mk _ 2 [x0, x1] l2 hD.symm ?_ ?_ rfl rfl
            · unfold isPt; rw [decide_eq_true_eq]; omega
            · rw [enc2 (by omega) (by omega), nat_u8 x0 _ (by omega), nat_u8 x1 _ (by omega)]
          · exact absurd hD.symm h
      · split at hD
        · rename_i h1 h2 h3
          cases l1 with
          | nil => simp at h3
          | cons x1 l2 =>
            cases l2 with
            | nil => simp at h3
            | cons x2 l3 =>
              simp only [List.getD_cons_zero, List.getD_cons_succ] at hD h3
              have b1 := x1.toNat_lt
              have b2 := x2.toNat_lt
              split at hD
              · rename_i h4
                have hp : isPt ((x0.toNat % 16 * 4096 + x1.toNat % 64 * 64 + x2.toNat % 64 : Nat) : Int) = true := by unfold isPt; rw [decide_eq_true_eq]; omega
                refine mk _ 3 [x0, x1, x2] l3 hD.symm hp ?_ rfl rfl
                rw [enc3 (by omega) (by omega) hp, nat_u8 x0 _ (by omega), nat_u8 x1 _ (by omega), nat_u8 x2 _ (by omega)]
              · exact absurd hD.symm h
        · split at hD
          · rename_i h1 h2 h3 h4
            cases l1 with
            | nil => simp at h4
            | cons x1 l2 =>
              cases l2 with
              | nil => simp at h4
              | cons x2 l3 =>
                cases l3 with
                | nil => simp at h4
                | cons x3 l4 =>
                  simp only [List.getD_cons_zero, List.getD_cons_succ] at hD h4
                  have b1 := x1.toNat_lt
                  have b2 := x2.toNat_lt
                  have b3 := x3.toNat_lt
                  split at hD
                  · rename_i h5
                    have hp : isPt ((x0.toNat % 8 * 262144 + x1.toNat % 64 * 4096 + x2.toNat % 64 * 64 + x3.toNat % 64 : Nat) : Int) = true := by unfold isPt; rw [decide_eq_true_eq]; omega
                    refine mk _ 4 [x0, x1, x2, x3] l4 hD.symm hp ?_ rfl rfl
                    rw [enc4 (by omega) hp, nat_u8 x0 _ (by omega), nat_u8 x1 _ (by omega), nat_u8 x2 _ (by omega), nat_u8 x3 _ (by omega)]
                  · exact absurd hD.symm h
          · exact absurd hD.symm h
/-- The bytes of some numbers. -/
def flatN (xs : List Nat) : List UInt8 := flat (xs.map fun (n : Nat) => (n : Int))
def AllPt (xs : List Nat) : Prop := ∀ x ∈ xs, isPt (x : Int) = true
theorem flatN_cons (x : Nat) (xs : List Nat) : flatN (x :: xs) = encodeRune (x : Int) ++ flatN xs := by simp [flatN, flat]
theorem flatN_append (xs ys : List Nat) : flatN (xs ++ ys) = flatN xs ++ flatN ys := by simp [flatN, flat]

theorem noChar_drop (s : ByteArray) (pos : Nat) : noChar s pos = decide (decL (s.data.toList.drop pos) = (65533, 1)) := by
  unfold noChar
  rw [decode_drop]
theorem drop_lt {s : ByteArray} {pos : Nat} {r : Int} {rest : List UInt8} (h : s.data.toList.drop pos = encodeRune r ++ rest) : pos < s.size := by
  have := congrArg List.length h
  rw [List.length_drop, ← Lib.size_eq, List.length_append] at this
  have := enc_len r
  omega
theorem at_enc {s : ByteArray} {pos : Nat} {r : Int} {rest : List UInt8} (hr : isPt r = true) (h : s.data.toList.drop pos = encodeRune r ++ rest) :
    Utf8.decode s pos = (r.toNat, (encodeRune r).length) ∧ noChar s pos = false ∧ s.data.toList.drop (pos + (encodeRune r).length) = rest := by
  refine ⟨?_, ?_, ?_⟩
  · rw [decode_drop, h, decL_enc r hr]
  · rw [noChar_drop, h, decL_enc r hr, decide_eq_false (enc_char r hr)]
  · rw [← List.drop_drop, h, List.drop_left]

/-- Told and read again. -/
theorem flat_read : ∀ (xs : List Nat) (_ : AllPt xs) (s : ByteArray) (pos : Nat), s.data.toList.drop pos = flatN xs → badAt s pos = -1 ∧ ptsAt s pos = xs
  | [], _, s, pos, h => by
    have hp : ¬ pos < s.size := by
      intro hp
      have := congrArg List.length h
      rw [List.length_drop, ← Lib.size_eq] at this
      simp [flatN, flat] at this
      omega
    exact ⟨badAt_end s pos hp, ptsAt_end s pos hp⟩
  | x :: xs, hx, s, pos, h => by
    rw [flatN_cons] at h
    have hr := hx x (by simp)
    have hp := drop_lt h
    obtain ⟨h1, h2, h3⟩ := at_enc hr h
    obtain ⟨i1, i2⟩ := flat_read xs (fun y hy => hx y (by simp [hy])) s _ h3
    have e1 : (Utf8.decode s pos).1 = x := by rw [h1]; simp
    have e2 : (Utf8.decode s pos).2 = (encodeRune (x : Int)).length := by rw [h1]
    refine ⟨?_, ?_⟩
    · rw [badAt_next s pos hp h2, e2]; exact i1
    · rw [ptsAt_next s pos hp, e1, e2, i2]

/-- Read and told again. -/
theorem read_flat : ∀ (n : Nat) (s : ByteArray) (pos : Nat), s.size ≤ pos + n → badAt s pos = -1 → AllPt (ptsAt s pos) ∧ s.data.toList.drop pos = flatN (ptsAt s pos)
  | 0, s, pos, hn, _ => by
    rw [ptsAt_end s pos (by omega), List.drop_of_length_le (by rw [← Lib.size_eq]; omega)]
    exact ⟨fun x hx => by simp at hx, rfl⟩
  | n + 1, s, pos, hn, hb => by
    by_cases hp : pos < s.size
    · have hc := badAt_sound s pos hp hb
      have hw := Lib.decode_width_pos s pos hp
      have hne : s.data.toList.drop pos ≠ [] := by
        intro e
        have := congrArg List.length e
        rw [List.length_drop, ← Lib.size_eq] at this
        simp at this
        omega
      have hc' : decL (s.data.toList.drop pos) ≠ (65533, 1) := by
        rw [noChar_drop, decide_eq_false_iff_not] at hc
        exact hc
      obtain ⟨g1, g2, g3⟩ := decL_back _ hne hc'
      rw [← decode_drop] at g1 g2 g3
      rw [badAt_next s pos hp hc] at hb
      obtain ⟨i1, i2⟩ := read_flat n s _ (by omega) hb
      rw [ptsAt_next s pos hp]
      refine ⟨fun x hx => ?_, ?_⟩
      · rcases List.mem_cons.1 hx with rfl | hx
        · exact g1
        · exact i1 x hx
      · rw [flatN_cons, ← i2, ← List.drop_drop]
        exact g2
    · rw [ptsAt_end s pos hp, List.drop_of_length_le (by rw [← Lib.size_eq]; omega)]
      exact ⟨fun x hx => by simp at hx, rfl⟩
theorem sound_flat (s : ByteArray) (hb : badAt s 0 = -1) : AllPt (ptsAt s 0) ∧ s.data.toList = flatN (ptsAt s 0) := by
  have := read_flat s.size s 0 (by omega) hb
  rw [List.drop_zero] at this
  exact this
theorem bytes_ext {s t : ByteArray} (h : s.data.toList = t.data.toList) : s = t := by
  apply ByteArray.ext
  exact Array.toList_inj.1 h

theorem badPt_all : ∀ (xs : List Nat) (k : Nat), AllPt xs → badPt (xs.map fun (n : Nat) => (n : Int)) k = -1
  | [], _, _ => rfl
  | x :: xs, k, h => by
    simp only [List.map_cons]
    unfold badPt
    rw [h x (by simp), if_pos rfl]
    exact badPt_all xs (k + 1) (fun y hy => h y (by simp [hy]))
theorem all_badPt : ∀ (zs : List Int) (k : Nat), badPt zs k = -1 → ∀ z ∈ zs, isPt z = true
  | [], _, _, z, hz => by simp at hz
  | y :: zs, k, h, z, hz => by
    unfold badPt at h
    cases hy : isPt y with
    | false => rw [hy] at h; simp at h
    | true =>
      rw [hy, if_pos rfl] at h
      rcases List.mem_cons.1 hz with rfl | hz
      · exact hy
      · exact all_badPt zs (k + 1) h z hz
/-- P1.7: a sound text's characters, told, are the text. -/
theorem text_back (s : ByteArray) (hb : badAt s 0 = -1) : badPt ((ptsAt s 0).map fun (n : Nat) => (n : Int)) 0 = -1 ∧ runesBytes ((ptsAt s 0).map fun (n : Nat) => (n : Int)) = s := by
  obtain ⟨h1, h2⟩ := sound_flat s hb
  have h3 := badPt_all (ptsAt s 0) 0 h1
  refine ⟨h3, ?_⟩
  rw [runes_eq _ h3]
  apply bytes_ext
  rw [h2]
  simp [flatN, flat]
/-- P1.7: characters told, read again. -/
theorem back_text (zs : List Int) (h : badPt zs 0 = -1) : badAt (runesBytes zs) 0 = -1 ∧ (ptsAt (runesBytes zs) 0).map (fun (n : Nat) => (n : Int)) = zs := by
  have ha := all_badPt zs 0 h
  have e : (zs.map Int.toNat).map (fun (n : Nat) => (n : Int)) = zs := by
    rw [List.map_map]
    conv => rhs; rw [← List.map_id zs]
    apply List.map_congr_left
    intro z hz
    have := isPt_bd (ha z hz)
    simp only [Function.comp, id]
    omega
  have hall : AllPt (zs.map Int.toNat) := by
    intro x hx
    obtain ⟨z, hz, rfl⟩ := List.mem_map.1 hx
    have hb := isPt_bd (ha z hz)
    rw [show ((z.toNat : Nat) : Int) = z by omega]
    exact ha z hz
  have hd : (runesBytes zs).data.toList.drop 0 = flatN (zs.map Int.toNat) := by
    rw [List.drop_zero, runes_eq zs h]
    unfold flatN flat
    rw [e]
  obtain ⟨i1, i2⟩ := flat_read _ hall _ 0 hd
  exact ⟨i1, by rw [i2]; exact e⟩

end EncW
end Go.Proofs.YtiakidomcjpdhaaGreatDoor

namespace Go.Proofs.YtiakidomcjpdhaaGreatDoor
open Go.RowKit
namespace RefW

theorem get_lt (s : ByteArray) (k : Nat) (h : k < s.size) : s.get! k = s[k]'h := by
  cases s with
  | mk d => exact getElem!_pos d k h
theorem sz1 {c : Int} (h : c < 128) : sz c = 1 := by unfold sz; rw [if_pos (by omega)]
theorem sz2 {c : Int} (h : 192 ≤ c) (h' : c < 224) : sz c = 2 := by unfold sz; rw [if_neg (by omega), if_pos (by omega)]
theorem sz3 {c : Int} (h : 224 ≤ c) (h' : c < 240) : sz c = 3 := by unfold sz; rw [if_neg (by omega), if_neg (by omega), if_pos (by omega)]
theorem sz4 {c : Int} (h : 240 ≤ c) (h' : c < 248) : sz c = 4 := by unfold sz; rw [if_neg (by omega), if_neg (by omega), if_neg (by omega), if_pos (by omega)]
theorem sz0 {c : Int} (h : (128 ≤ c ∧ c < 192) ∨ 248 ≤ c) : sz c = 0 := by unfold sz; rw [if_neg (by omega), if_neg (by omega), if_neg (by omega), if_neg (by omega)]

set_option maxHeartbeats 4000000 in
set_option maxRecDepth 100000 in
theorem at_1 (s : ByteArray) (pos : Nat) (w : World) (hs : s.size ≤ 140737488351232) (hp : pos < s.size) (x0 : Nat) (e0 : (s[pos]'(by omega)).toNat = x0) (h0 : x0 < 128) :
    Calls Tryz.prog 110 #[.string s, .int .i64 pos] w fun e w' => e = .returned (.tuple #[.int .i64 ((x0 : Int)), .int .i64 1]) ∧ Below w.heap.size w w' := by
  have hz := sz1 (c := (x0 : Int)) (by omega)
  have hpt : isPt (x0 : Int) = true := by unfold isPt; rw [decide_eq_true_eq]; omega
  have hlen : (Lib.runeCells (x0 : Int)).length = 1 := by unfold Lib.runeCells; rw [Lib.encodeRuneZ_one (by omega) (by omega)]; rfl
  have hl0 : (x0 : Int) ≤ 255 := by omega
  go_enter Tryz.func110, Tryz.ntmps110
  go_wp2_with (first
    | (go_at_call 140; refine (size_any _ _ hl0).mono ?_; rintro e w1 ⟨rfl, rfl⟩)
    | (go_at_call 141; refine (isPoint_any _ _).mono ?_; rintro e w1 ⟨rfl, rfl⟩)
    | (go_at_call 126; refine (Bytes_any _ _ hpt).mono ?_; rintro e w1 ⟨rfl, rfl⟩))
  refine wp_loop_rounds 1 ?_
  rw [rounds_succ]
  go_wp2_with (first
    | (go_at_call 140; refine (size_any _ _ hl0).mono ?_; rintro e w1 ⟨rfl, rfl⟩)
    | (go_at_call 141; refine (isPoint_any _ _).mono ?_; rintro e w1 ⟨rfl, rfl⟩)
    | (go_at_call 126; refine (Bytes_any _ _ hpt).mono ?_; rintro e w1 ⟨rfl, rfl⟩))
  go_ret2
  exact ⟨rfl, (Below.refl _ _).alloc (Nat.le_refl _) _⟩
set_option maxHeartbeats 4000000 in
set_option maxRecDepth 100000 in
theorem at_0 (s : ByteArray) (pos : Nat) (w : World) (_hs : s.size ≤ 140737488351232) (hp : pos < s.size) (x0 : Nat) (e0 : (s[pos]'(by omega)).toNat = x0) (h0 : (128 ≤ x0 ∧ x0 < 192) ∨ (248 ≤ x0 ∧ x0 < 256)) :
    Calls Tryz.prog 110 #[.string s, .int .i64 pos] w fun e w' => e = .returned (.tuple #[.int .i64 (0), .int .i64 0]) ∧ Below w.heap.size w w' := by
  have hz := sz0 (c := (x0 : Int)) (by omega)
  have hl0 : (x0 : Int) ≤ 255 := by omega
  have hpt : isPt 0 = true := rfl
  go_enter Tryz.func110, Tryz.ntmps110
  go_wp2_with (first
    | (go_at_call 140; refine (size_any _ _ hl0).mono ?_; rintro e w1 ⟨rfl, rfl⟩)
    | (go_at_call 141; refine (isPoint_any _ _).mono ?_; rintro e w1 ⟨rfl, rfl⟩)
    | (go_at_call 126; refine (Bytes_any _ _ hpt).mono ?_; rintro e w1 ⟨rfl, rfl⟩))
  go_ret2
  exact ⟨rfl, Below.refl _ _⟩
set_option maxHeartbeats 4000000 in
set_option maxRecDepth 100000 in
theorem at_2_short (s : ByteArray) (pos : Nat) (w : World) (hs : s.size ≤ 140737488351232) (hp : pos < s.size) (hq : s.size < pos + 2) (x0 : Nat) (e0 : (s[pos]'hp).toNat = x0) (h0 : 192 ≤ x0) (h0' : x0 < 224) :
    Calls Tryz.prog 110 #[.string s, .int .i64 pos] w fun e w' => e = .returned (.tuple #[.int .i64 (0), .int .i64 0]) ∧ Below w.heap.size w w' := by
  have hz := sz2 (c := (x0 : Int)) (by omega) (by omega)
  have hl0 : (x0 : Int) ≤ 255 := by omega
  have hpt : isPt 0 = true := rfl
  go_enter Tryz.func110, Tryz.ntmps110
  go_wp2_with (first
    | (go_at_call 140; refine (size_any _ _ hl0).mono ?_; rintro e w1 ⟨rfl, rfl⟩)
    | (go_at_call 141; refine (isPoint_any _ _).mono ?_; rintro e w1 ⟨rfl, rfl⟩)
    | (go_at_call 126; refine (Bytes_any _ _ hpt).mono ?_; rintro e w1 ⟨rfl, rfl⟩))
  go_ret2
  exact ⟨rfl, Below.refl _ _⟩
set_option maxHeartbeats 4000000 in
set_option maxRecDepth 100000 in
theorem at_2_c1 (s : ByteArray) (pos : Nat) (w : World) (hs : s.size ≤ 140737488351232) (hp : pos + 1 < s.size) (x0 x1 : Nat) (e0 : (s[pos]'(by omega)).toNat = x0) (e1 : (s[pos + 1]'(by omega)).toNat = x1) (h0 : 192 ≤ x0) (h0' : x0 < 224) (hk : x1 < 128 ∨ (191 < x1 ∧ x1 < 256)) :
    Calls Tryz.prog 110 #[.string s, .int .i64 pos] w fun e w' => e = .returned (.tuple #[.int .i64 (0), .int .i64 0]) ∧ Below w.heap.size w w' := by
  have hz := sz2 (c := (x0 : Int)) (by omega) (by omega)
  have hl0 : (x0 : Int) ≤ 255 := by omega
  have hpt : isPt 0 = true := rfl
  rcases hk with hk | ⟨hk, hk'⟩
  · go_enter Tryz.func110, Tryz.ntmps110
    go_wp2_with (first
      | (go_at_call 140; refine (size_any _ _ hl0).mono ?_; rintro e w1 ⟨rfl, rfl⟩)
      | (go_at_call 141; refine (isPoint_any _ _).mono ?_; rintro e w1 ⟨rfl, rfl⟩)
      | (go_at_call 126; refine (Bytes_any _ _ hpt).mono ?_; rintro e w1 ⟨rfl, rfl⟩))
    refine wp_loop_rounds 1 ?_
    rw [rounds_succ]
    go_wp2_with (first
      | (go_at_call 140; refine (size_any _ _ hl0).mono ?_; rintro e w1 ⟨rfl, rfl⟩)
      | (go_at_call 141; refine (isPoint_any _ _).mono ?_; rintro e w1 ⟨rfl, rfl⟩)
      | (go_at_call 126; refine (Bytes_any _ _ hpt).mono ?_; rintro e w1 ⟨rfl, rfl⟩))
    go_ret2
    exact ⟨rfl, Below.refl _ _⟩
  · go_enter Tryz.func110, Tryz.ntmps110
    go_wp2_with (first
      | (go_at_call 140; refine (size_any _ _ hl0).mono ?_; rintro e w1 ⟨rfl, rfl⟩)
      | (go_at_call 141; refine (isPoint_any _ _).mono ?_; rintro e w1 ⟨rfl, rfl⟩)
      | (go_at_call 126; refine (Bytes_any _ _ hpt).mono ?_; rintro e w1 ⟨rfl, rfl⟩))
    refine wp_loop_rounds 1 ?_
    rw [rounds_succ]
    go_wp2_with (first
      | (go_at_call 140; refine (size_any _ _ hl0).mono ?_; rintro e w1 ⟨rfl, rfl⟩)
      | (go_at_call 141; refine (isPoint_any _ _).mono ?_; rintro e w1 ⟨rfl, rfl⟩)
      | (go_at_call 126; refine (Bytes_any _ _ hpt).mono ?_; rintro e w1 ⟨rfl, rfl⟩))
    go_ret2
    exact ⟨rfl, Below.refl _ _⟩
set_option maxHeartbeats 4000000 in
set_option maxRecDepth 100000 in
theorem at_2_long (s : ByteArray) (pos : Nat) (w : World) (hs : s.size ≤ 140737488351232) (hp : pos + 1 < s.size) (x0 x1 : Nat) (e0 : (s[pos]'(by omega)).toNat = x0) (e1 : (s[pos + 1]'(by omega)).toNat = x1) (h0 : 192 ≤ x0) (h0' : x0 < 224) (h1 : 128 ≤ x1) (h1' : x1 < 192) (hl : 64 * ((x0 : Int) - 192) + x1 - 128 < 128) (m : Nat) (hm : m ≠ 2) (hpt : isPt (64 * ((x0 : Int) - 192) + x1 - 128) = true) (hlen : (Lib.runeCells (64 * ((x0 : Int) - 192) + x1 - 128)).length = m) :
    Calls Tryz.prog 110 #[.string s, .int .i64 pos] w fun e w' => e = .returned (.tuple #[.int .i64 (0), .int .i64 0]) ∧ Below w.heap.size w w' := by
  have hz := sz2 (c := (x0 : Int)) (by omega) (by omega)
  have hl0 : (x0 : Int) ≤ 255 := by omega
  have hm' : ((m : Int) != 2) = true := by simp; omega
  go_enter Tryz.func110, Tryz.ntmps110
  go_wp2_with (first
    | (go_at_call 140; refine (size_any _ _ hl0).mono ?_; rintro e w1 ⟨rfl, rfl⟩)
    | (go_at_call 141; refine (isPoint_any _ _).mono ?_; rintro e w1 ⟨rfl, rfl⟩)
    | (go_at_call 126; refine (Bytes_any _ _ hpt).mono ?_; rintro e w1 ⟨rfl, rfl⟩))
  refine wp_loop_rounds 2 ?_
  rw [rounds_succ]
  go_wp2
  rw [rounds_succ]
  go_wp2_with (first
    | (go_at_call 140; refine (size_any _ _ hl0).mono ?_; rintro e w1 ⟨rfl, rfl⟩)
    | (go_at_call 141; refine (isPoint_any _ _).mono ?_; rintro e w1 ⟨rfl, rfl⟩)
    | (go_at_call 126; refine (Bytes_any _ _ hpt).mono ?_; rintro e w1 ⟨rfl, rfl⟩))
  go_ret2
  exact ⟨rfl, (Below.refl _ _).alloc (Nat.le_refl _) _⟩
set_option maxHeartbeats 4000000 in
set_option maxRecDepth 100000 in
theorem at_2 (s : ByteArray) (pos : Nat) (w : World) (hs : s.size ≤ 140737488351232) (hp : pos + 1 < s.size) (x0 x1 : Nat) (e0 : (s[pos]'(by omega)).toNat = x0) (e1 : (s[pos + 1]'(by omega)).toNat = x1) (h0 : 192 ≤ x0) (h0' : x0 < 224) (h1 : 128 ≤ x1) (h1' : x1 < 192) (hpt : isPt (64 * ((x0 : Int) - 192) + x1 - 128) = true) (hlen : (Lib.runeCells (64 * ((x0 : Int) - 192) + x1 - 128)).length = 2) :
    Calls Tryz.prog 110 #[.string s, .int .i64 pos] w fun e w' => e = .returned (.tuple #[.int .i64 (64 * ((x0 : Int) - 192) + x1 - 128), .int .i64 2]) ∧ Below w.heap.size w w' := by
  have hz := sz2 (c := (x0 : Int)) (by omega) (by omega)
  have hl0 : (x0 : Int) ≤ 255 := by omega
  go_enter Tryz.func110, Tryz.ntmps110
  go_wp2_with (first
    | (go_at_call 140; refine (size_any _ _ hl0).mono ?_; rintro e w1 ⟨rfl, rfl⟩)
    | (go_at_call 141; refine (isPoint_any _ _).mono ?_; rintro e w1 ⟨rfl, rfl⟩)
    | (go_at_call 126; refine (Bytes_any _ _ hpt).mono ?_; rintro e w1 ⟨rfl, rfl⟩))
  refine wp_loop_rounds 2 ?_
  rw [rounds_succ]
  go_wp2
  rw [rounds_succ]
  go_wp2_with (first
    | (go_at_call 140; refine (size_any _ _ hl0).mono ?_; rintro e w1 ⟨rfl, rfl⟩)
    | (go_at_call 141; refine (isPoint_any _ _).mono ?_; rintro e w1 ⟨rfl, rfl⟩)
    | (go_at_call 126; refine (Bytes_any _ _ hpt).mono ?_; rintro e w1 ⟨rfl, rfl⟩))
  go_ret2
  exact ⟨rfl, (Below.refl _ _).alloc (Nat.le_refl _) _⟩
set_option maxHeartbeats 4000000 in
set_option maxRecDepth 100000 in
theorem at_3_short (s : ByteArray) (pos : Nat) (w : World) (hs : s.size ≤ 140737488351232) (hp : pos < s.size) (hq : s.size < pos + 3) (x0 : Nat) (e0 : (s[pos]'hp).toNat = x0) (h0 : 224 ≤ x0) (h0' : x0 < 240) :
    Calls Tryz.prog 110 #[.string s, .int .i64 pos] w fun e w' => e = .returned (.tuple #[.int .i64 (0), .int .i64 0]) ∧ Below w.heap.size w w' := by
  have hz := sz3 (c := (x0 : Int)) (by omega) (by omega)
  have hl0 : (x0 : Int) ≤ 255 := by omega
  have hpt : isPt 0 = true := rfl
  go_enter Tryz.func110, Tryz.ntmps110
  go_wp2_with (first
    | (go_at_call 140; refine (size_any _ _ hl0).mono ?_; rintro e w1 ⟨rfl, rfl⟩)
    | (go_at_call 141; refine (isPoint_any _ _).mono ?_; rintro e w1 ⟨rfl, rfl⟩)
    | (go_at_call 126; refine (Bytes_any _ _ hpt).mono ?_; rintro e w1 ⟨rfl, rfl⟩))
  go_ret2
  exact ⟨rfl, Below.refl _ _⟩
set_option maxHeartbeats 4000000 in
set_option maxRecDepth 100000 in
theorem at_3_c1 (s : ByteArray) (pos : Nat) (w : World) (hs : s.size ≤ 140737488351232) (hp : pos + 2 < s.size) (x0 x1 : Nat) (e0 : (s[pos]'(by omega)).toNat = x0) (e1 : (s[pos + 1]'(by omega)).toNat = x1) (h0 : 224 ≤ x0) (h0' : x0 < 240) (hk : x1 < 128 ∨ (191 < x1 ∧ x1 < 256)) :
    Calls Tryz.prog 110 #[.string s, .int .i64 pos] w fun e w' => e = .returned (.tuple #[.int .i64 (0), .int .i64 0]) ∧ Below w.heap.size w w' := by
  have hz := sz3 (c := (x0 : Int)) (by omega) (by omega)
  have hl0 : (x0 : Int) ≤ 255 := by omega
  have hpt : isPt 0 = true := rfl
  rcases hk with hk | ⟨hk, hk'⟩
  · go_enter Tryz.func110, Tryz.ntmps110
    go_wp2_with (first
      | (go_at_call 140; refine (size_any _ _ hl0).mono ?_; rintro e w1 ⟨rfl, rfl⟩)
      | (go_at_call 141; refine (isPoint_any _ _).mono ?_; rintro e w1 ⟨rfl, rfl⟩)
      | (go_at_call 126; refine (Bytes_any _ _ hpt).mono ?_; rintro e w1 ⟨rfl, rfl⟩))
    refine wp_loop_rounds 1 ?_
    rw [rounds_succ]
    go_wp2_with (first
      | (go_at_call 140; refine (size_any _ _ hl0).mono ?_; rintro e w1 ⟨rfl, rfl⟩)
      | (go_at_call 141; refine (isPoint_any _ _).mono ?_; rintro e w1 ⟨rfl, rfl⟩)
      | (go_at_call 126; refine (Bytes_any _ _ hpt).mono ?_; rintro e w1 ⟨rfl, rfl⟩))
    go_ret2
    exact ⟨rfl, Below.refl _ _⟩
  · go_enter Tryz.func110, Tryz.ntmps110
    go_wp2_with (first
      | (go_at_call 140; refine (size_any _ _ hl0).mono ?_; rintro e w1 ⟨rfl, rfl⟩)
      | (go_at_call 141; refine (isPoint_any _ _).mono ?_; rintro e w1 ⟨rfl, rfl⟩)
      | (go_at_call 126; refine (Bytes_any _ _ hpt).mono ?_; rintro e w1 ⟨rfl, rfl⟩))
    refine wp_loop_rounds 1 ?_
    rw [rounds_succ]
    go_wp2_with (first
      | (go_at_call 140; refine (size_any _ _ hl0).mono ?_; rintro e w1 ⟨rfl, rfl⟩)
      | (go_at_call 141; refine (isPoint_any _ _).mono ?_; rintro e w1 ⟨rfl, rfl⟩)
      | (go_at_call 126; refine (Bytes_any _ _ hpt).mono ?_; rintro e w1 ⟨rfl, rfl⟩))
    go_ret2
    exact ⟨rfl, Below.refl _ _⟩
set_option maxHeartbeats 4000000 in
set_option maxRecDepth 100000 in
theorem at_3_c2 (s : ByteArray) (pos : Nat) (w : World) (hs : s.size ≤ 140737488351232) (hp : pos + 2 < s.size) (x0 x1 x2 : Nat) (e0 : (s[pos]'(by omega)).toNat = x0) (e1 : (s[pos + 1]'(by omega)).toNat = x1) (e2 : (s[pos + 2]'(by omega)).toNat = x2) (h0 : 224 ≤ x0) (h0' : x0 < 240) (h1 : 128 ≤ x1) (h1' : x1 < 192) (hk : x2 < 128 ∨ (191 < x2 ∧ x2 < 256)) :
    Calls Tryz.prog 110 #[.string s, .int .i64 pos] w fun e w' => e = .returned (.tuple #[.int .i64 (0), .int .i64 0]) ∧ Below w.heap.size w w' := by
  have hz := sz3 (c := (x0 : Int)) (by omega) (by omega)
  have hl0 : (x0 : Int) ≤ 255 := by omega
  have hpt : isPt 0 = true := rfl
  rcases hk with hk | ⟨hk, hk'⟩
  · go_enter Tryz.func110, Tryz.ntmps110
    go_wp2_with (first
      | (go_at_call 140; refine (size_any _ _ hl0).mono ?_; rintro e w1 ⟨rfl, rfl⟩)
      | (go_at_call 141; refine (isPoint_any _ _).mono ?_; rintro e w1 ⟨rfl, rfl⟩)
      | (go_at_call 126; refine (Bytes_any _ _ hpt).mono ?_; rintro e w1 ⟨rfl, rfl⟩))
    refine wp_loop_rounds 2 ?_
    rw [rounds_succ]
    go_wp2
    rw [rounds_succ]
    go_wp2_with (first
      | (go_at_call 140; refine (size_any _ _ hl0).mono ?_; rintro e w1 ⟨rfl, rfl⟩)
      | (go_at_call 141; refine (isPoint_any _ _).mono ?_; rintro e w1 ⟨rfl, rfl⟩)
      | (go_at_call 126; refine (Bytes_any _ _ hpt).mono ?_; rintro e w1 ⟨rfl, rfl⟩))
    go_ret2
    exact ⟨rfl, Below.refl _ _⟩
  · go_enter Tryz.func110, Tryz.ntmps110
    go_wp2_with (first
      | (go_at_call 140; refine (size_any _ _ hl0).mono ?_; rintro e w1 ⟨rfl, rfl⟩)
      | (go_at_call 141; refine (isPoint_any _ _).mono ?_; rintro e w1 ⟨rfl, rfl⟩)
      | (go_at_call 126; refine (Bytes_any _ _ hpt).mono ?_; rintro e w1 ⟨rfl, rfl⟩))
    refine wp_loop_rounds 2 ?_
    rw [rounds_succ]
    go_wp2
    rw [rounds_succ]
    go_wp2_with (first
      | (go_at_call 140; refine (size_any _ _ hl0).mono ?_; rintro e w1 ⟨rfl, rfl⟩)
      | (go_at_call 141; refine (isPoint_any _ _).mono ?_; rintro e w1 ⟨rfl, rfl⟩)
      | (go_at_call 126; refine (Bytes_any _ _ hpt).mono ?_; rintro e w1 ⟨rfl, rfl⟩))
    go_ret2
    exact ⟨rfl, Below.refl _ _⟩
set_option maxHeartbeats 4000000 in
set_option maxRecDepth 100000 in
theorem at_3_long (s : ByteArray) (pos : Nat) (w : World) (hs : s.size ≤ 140737488351232) (hp : pos + 2 < s.size) (x0 x1 x2 : Nat) (e0 : (s[pos]'(by omega)).toNat = x0) (e1 : (s[pos + 1]'(by omega)).toNat = x1) (e2 : (s[pos + 2]'(by omega)).toNat = x2) (h0 : 224 ≤ x0) (h0' : x0 < 240) (h1 : 128 ≤ x1) (h1' : x1 < 192) (h2 : 128 ≤ x2) (h2' : x2 < 192) (hl : 64 * (64 * ((x0 : Int) - 224) + x1 - 128) + x2 - 128 < 2048) (m : Nat) (hm : m ≠ 3) (hpt : isPt (64 * (64 * ((x0 : Int) - 224) + x1 - 128) + x2 - 128) = true) (hlen : (Lib.runeCells (64 * (64 * ((x0 : Int) - 224) + x1 - 128) + x2 - 128)).length = m) :
    Calls Tryz.prog 110 #[.string s, .int .i64 pos] w fun e w' => e = .returned (.tuple #[.int .i64 (0), .int .i64 0]) ∧ Below w.heap.size w w' := by
  have hz := sz3 (c := (x0 : Int)) (by omega) (by omega)
  have hl0 : (x0 : Int) ≤ 255 := by omega
  have hm' : ((m : Int) != 3) = true := by simp; omega
  go_enter Tryz.func110, Tryz.ntmps110
  go_wp2_with (first
    | (go_at_call 140; refine (size_any _ _ hl0).mono ?_; rintro e w1 ⟨rfl, rfl⟩)
    | (go_at_call 141; refine (isPoint_any _ _).mono ?_; rintro e w1 ⟨rfl, rfl⟩)
    | (go_at_call 126; refine (Bytes_any _ _ hpt).mono ?_; rintro e w1 ⟨rfl, rfl⟩))
  refine wp_loop_rounds 3 ?_
  rw [rounds_succ]
  go_wp2
  rw [rounds_succ]
  go_wp2
  rw [rounds_succ]
  go_wp2_with (first
    | (go_at_call 140; refine (size_any _ _ hl0).mono ?_; rintro e w1 ⟨rfl, rfl⟩)
    | (go_at_call 141; refine (isPoint_any _ _).mono ?_; rintro e w1 ⟨rfl, rfl⟩)
    | (go_at_call 126; refine (Bytes_any _ _ hpt).mono ?_; rintro e w1 ⟨rfl, rfl⟩))
  go_ret2
  exact ⟨rfl, (Below.refl _ _).alloc (Nat.le_refl _) _⟩
set_option maxHeartbeats 4000000 in
set_option maxRecDepth 100000 in
theorem at_3_none (s : ByteArray) (pos : Nat) (w : World) (hs : s.size ≤ 140737488351232) (hp : pos + 2 < s.size) (x0 x1 x2 : Nat) (e0 : (s[pos]'(by omega)).toNat = x0) (e1 : (s[pos + 1]'(by omega)).toNat = x1) (e2 : (s[pos + 2]'(by omega)).toNat = x2) (h0 : 224 ≤ x0) (h0' : x0 < 240) (h1 : 128 ≤ x1) (h1' : x1 < 192) (h2 : 128 ≤ x2) (h2' : x2 < 192) (hno : isPt (64 * (64 * ((x0 : Int) - 224) + x1 - 128) + x2 - 128) = false) :
    Calls Tryz.prog 110 #[.string s, .int .i64 pos] w fun e w' => e = .returned (.tuple #[.int .i64 (0), .int .i64 0]) ∧ Below w.heap.size w w' := by
  have hz := sz3 (c := (x0 : Int)) (by omega) (by omega)
  have hl0 : (x0 : Int) ≤ 255 := by omega
  have hpt : isPt 0 = true := rfl
  go_enter Tryz.func110, Tryz.ntmps110
  go_wp2_with (first
    | (go_at_call 140; refine (size_any _ _ hl0).mono ?_; rintro e w1 ⟨rfl, rfl⟩)
    | (go_at_call 141; refine (isPoint_any _ _).mono ?_; rintro e w1 ⟨rfl, rfl⟩)
    | (go_at_call 126; refine (Bytes_any _ _ hpt).mono ?_; rintro e w1 ⟨rfl, rfl⟩))
  refine wp_loop_rounds 3 ?_
  rw [rounds_succ]
  go_wp2
  rw [rounds_succ]
  go_wp2
  rw [rounds_succ]
  go_wp2_with (first
    | (go_at_call 140; refine (size_any _ _ hl0).mono ?_; rintro e w1 ⟨rfl, rfl⟩)
    | (go_at_call 141; refine (isPoint_any _ _).mono ?_; rintro e w1 ⟨rfl, rfl⟩)
    | (go_at_call 126; refine (Bytes_any _ _ hpt).mono ?_; rintro e w1 ⟨rfl, rfl⟩))
  go_ret2
  exact ⟨rfl, Below.refl _ _⟩
set_option maxHeartbeats 4000000 in
set_option maxRecDepth 100000 in
theorem at_3 (s : ByteArray) (pos : Nat) (w : World) (hs : s.size ≤ 140737488351232) (hp : pos + 2 < s.size) (x0 x1 x2 : Nat) (e0 : (s[pos]'(by omega)).toNat = x0) (e1 : (s[pos + 1]'(by omega)).toNat = x1) (e2 : (s[pos + 2]'(by omega)).toNat = x2) (h0 : 224 ≤ x0) (h0' : x0 < 240) (h1 : 128 ≤ x1) (h1' : x1 < 192) (h2 : 128 ≤ x2) (h2' : x2 < 192) (hpt : isPt (64 * (64 * ((x0 : Int) - 224) + x1 - 128) + x2 - 128) = true) (hlen : (Lib.runeCells (64 * (64 * ((x0 : Int) - 224) + x1 - 128) + x2 - 128)).length = 3) :
    Calls Tryz.prog 110 #[.string s, .int .i64 pos] w fun e w' => e = .returned (.tuple #[.int .i64 (64 * (64 * ((x0 : Int) - 224) + x1 - 128) + x2 - 128), .int .i64 3]) ∧ Below w.heap.size w w' := by
  have hz := sz3 (c := (x0 : Int)) (by omega) (by omega)
  have hl0 : (x0 : Int) ≤ 255 := by omega
  go_enter Tryz.func110, Tryz.ntmps110
  go_wp2_with (first
    | (go_at_call 140; refine (size_any _ _ hl0).mono ?_; rintro e w1 ⟨rfl, rfl⟩)
    | (go_at_call 141; refine (isPoint_any _ _).mono ?_; rintro e w1 ⟨rfl, rfl⟩)
    | (go_at_call 126; refine (Bytes_any _ _ hpt).mono ?_; rintro e w1 ⟨rfl, rfl⟩))
  refine wp_loop_rounds 3 ?_
  rw [rounds_succ]
  go_wp2
  rw [rounds_succ]
  go_wp2
  rw [rounds_succ]
  go_wp2_with (first
    | (go_at_call 140; refine (size_any _ _ hl0).mono ?_; rintro e w1 ⟨rfl, rfl⟩)
    | (go_at_call 141; refine (isPoint_any _ _).mono ?_; rintro e w1 ⟨rfl, rfl⟩)
    | (go_at_call 126; refine (Bytes_any _ _ hpt).mono ?_; rintro e w1 ⟨rfl, rfl⟩))
  go_ret2
  exact ⟨rfl, (Below.refl _ _).alloc (Nat.le_refl _) _⟩
set_option maxHeartbeats 4000000 in
set_option maxRecDepth 100000 in
theorem at_4_short (s : ByteArray) (pos : Nat) (w : World) (hs : s.size ≤ 140737488351232) (hp : pos < s.size) (hq : s.size < pos + 4) (x0 : Nat) (e0 : (s[pos]'hp).toNat = x0) (h0 : 240 ≤ x0) (h0' : x0 < 248) :
    Calls Tryz.prog 110 #[.string s, .int .i64 pos] w fun e w' => e = .returned (.tuple #[.int .i64 (0), .int .i64 0]) ∧ Below w.heap.size w w' := by
  have hz := sz4 (c := (x0 : Int)) (by omega) (by omega)
  have hl0 : (x0 : Int) ≤ 255 := by omega
  have hpt : isPt 0 = true := rfl
  go_enter Tryz.func110, Tryz.ntmps110
  go_wp2_with (first
    | (go_at_call 140; refine (size_any _ _ hl0).mono ?_; rintro e w1 ⟨rfl, rfl⟩)
    | (go_at_call 141; refine (isPoint_any _ _).mono ?_; rintro e w1 ⟨rfl, rfl⟩)
    | (go_at_call 126; refine (Bytes_any _ _ hpt).mono ?_; rintro e w1 ⟨rfl, rfl⟩))
  go_ret2
  exact ⟨rfl, Below.refl _ _⟩
set_option maxHeartbeats 4000000 in
set_option maxRecDepth 100000 in
theorem at_4_c1 (s : ByteArray) (pos : Nat) (w : World) (hs : s.size ≤ 140737488351232) (hp : pos + 3 < s.size) (x0 x1 : Nat) (e0 : (s[pos]'(by omega)).toNat = x0) (e1 : (s[pos + 1]'(by omega)).toNat = x1) (h0 : 240 ≤ x0) (h0' : x0 < 248) (hk : x1 < 128 ∨ (191 < x1 ∧ x1 < 256)) :
    Calls Tryz.prog 110 #[.string s, .int .i64 pos] w fun e w' => e = .returned (.tuple #[.int .i64 (0), .int .i64 0]) ∧ Below w.heap.size w w' := by
  have hz := sz4 (c := (x0 : Int)) (by omega) (by omega)
  have hl0 : (x0 : Int) ≤ 255 := by omega
  have hpt : isPt 0 = true := rfl
  rcases hk with hk | ⟨hk, hk'⟩
  · go_enter Tryz.func110, Tryz.ntmps110
    go_wp2_with (first
      | (go_at_call 140; refine (size_any _ _ hl0).mono ?_; rintro e w1 ⟨rfl, rfl⟩)
      | (go_at_call 141; refine (isPoint_any _ _).mono ?_; rintro e w1 ⟨rfl, rfl⟩)
      | (go_at_call 126; refine (Bytes_any _ _ hpt).mono ?_; rintro e w1 ⟨rfl, rfl⟩))
    refine wp_loop_rounds 1 ?_
    rw [rounds_succ]
    go_wp2_with (first
      | (go_at_call 140; refine (size_any _ _ hl0).mono ?_; rintro e w1 ⟨rfl, rfl⟩)
      | (go_at_call 141; refine (isPoint_any _ _).mono ?_; rintro e w1 ⟨rfl, rfl⟩)
      | (go_at_call 126; refine (Bytes_any _ _ hpt).mono ?_; rintro e w1 ⟨rfl, rfl⟩))
    go_ret2
    exact ⟨rfl, Below.refl _ _⟩
  · go_enter Tryz.func110, Tryz.ntmps110
    go_wp2_with (first
      | (go_at_call 140; refine (size_any _ _ hl0).mono ?_; rintro e w1 ⟨rfl, rfl⟩)
      | (go_at_call 141; refine (isPoint_any _ _).mono ?_; rintro e w1 ⟨rfl, rfl⟩)
      | (go_at_call 126; refine (Bytes_any _ _ hpt).mono ?_; rintro e w1 ⟨rfl, rfl⟩))
    refine wp_loop_rounds 1 ?_
    rw [rounds_succ]
    go_wp2_with (first
      | (go_at_call 140; refine (size_any _ _ hl0).mono ?_; rintro e w1 ⟨rfl, rfl⟩)
      | (go_at_call 141; refine (isPoint_any _ _).mono ?_; rintro e w1 ⟨rfl, rfl⟩)
      | (go_at_call 126; refine (Bytes_any _ _ hpt).mono ?_; rintro e w1 ⟨rfl, rfl⟩))
    go_ret2
    exact ⟨rfl, Below.refl _ _⟩
set_option maxHeartbeats 4000000 in
set_option maxRecDepth 100000 in
theorem at_4_c2 (s : ByteArray) (pos : Nat) (w : World) (hs : s.size ≤ 140737488351232) (hp : pos + 3 < s.size) (x0 x1 x2 : Nat) (e0 : (s[pos]'(by omega)).toNat = x0) (e1 : (s[pos + 1]'(by omega)).toNat = x1) (e2 : (s[pos + 2]'(by omega)).toNat = x2) (h0 : 240 ≤ x0) (h0' : x0 < 248) (h1 : 128 ≤ x1) (h1' : x1 < 192) (hk : x2 < 128 ∨ (191 < x2 ∧ x2 < 256)) :
    Calls Tryz.prog 110 #[.string s, .int .i64 pos] w fun e w' => e = .returned (.tuple #[.int .i64 (0), .int .i64 0]) ∧ Below w.heap.size w w' := by
  have hz := sz4 (c := (x0 : Int)) (by omega) (by omega)
  have hl0 : (x0 : Int) ≤ 255 := by omega
  have hpt : isPt 0 = true := rfl
  rcases hk with hk | ⟨hk, hk'⟩
  · go_enter Tryz.func110, Tryz.ntmps110
    go_wp2_with (first
      | (go_at_call 140; refine (size_any _ _ hl0).mono ?_; rintro e w1 ⟨rfl, rfl⟩)
      | (go_at_call 141; refine (isPoint_any _ _).mono ?_; rintro e w1 ⟨rfl, rfl⟩)
      | (go_at_call 126; refine (Bytes_any _ _ hpt).mono ?_; rintro e w1 ⟨rfl, rfl⟩))
    refine wp_loop_rounds 2 ?_
    rw [rounds_succ]
    go_wp2
    rw [rounds_succ]
    go_wp2_with (first
      | (go_at_call 140; refine (size_any _ _ hl0).mono ?_; rintro e w1 ⟨rfl, rfl⟩)
      | (go_at_call 141; refine (isPoint_any _ _).mono ?_; rintro e w1 ⟨rfl, rfl⟩)
      | (go_at_call 126; refine (Bytes_any _ _ hpt).mono ?_; rintro e w1 ⟨rfl, rfl⟩))
    go_ret2
    exact ⟨rfl, Below.refl _ _⟩
  · go_enter Tryz.func110, Tryz.ntmps110
    go_wp2_with (first
      | (go_at_call 140; refine (size_any _ _ hl0).mono ?_; rintro e w1 ⟨rfl, rfl⟩)
      | (go_at_call 141; refine (isPoint_any _ _).mono ?_; rintro e w1 ⟨rfl, rfl⟩)
      | (go_at_call 126; refine (Bytes_any _ _ hpt).mono ?_; rintro e w1 ⟨rfl, rfl⟩))
    refine wp_loop_rounds 2 ?_
    rw [rounds_succ]
    go_wp2
    rw [rounds_succ]
    go_wp2_with (first
      | (go_at_call 140; refine (size_any _ _ hl0).mono ?_; rintro e w1 ⟨rfl, rfl⟩)
      | (go_at_call 141; refine (isPoint_any _ _).mono ?_; rintro e w1 ⟨rfl, rfl⟩)
      | (go_at_call 126; refine (Bytes_any _ _ hpt).mono ?_; rintro e w1 ⟨rfl, rfl⟩))
    go_ret2
    exact ⟨rfl, Below.refl _ _⟩
set_option maxHeartbeats 4000000 in
set_option maxRecDepth 100000 in
theorem at_4_c3 (s : ByteArray) (pos : Nat) (w : World) (hs : s.size ≤ 140737488351232) (hp : pos + 3 < s.size) (x0 x1 x2 x3 : Nat) (e0 : (s[pos]'(by omega)).toNat = x0) (e1 : (s[pos + 1]'(by omega)).toNat = x1) (e2 : (s[pos + 2]'(by omega)).toNat = x2) (e3 : (s[pos + 3]'(by omega)).toNat = x3) (h0 : 240 ≤ x0) (h0' : x0 < 248) (h1 : 128 ≤ x1) (h1' : x1 < 192) (h2 : 128 ≤ x2) (h2' : x2 < 192) (hk : x3 < 128 ∨ (191 < x3 ∧ x3 < 256)) :
    Calls Tryz.prog 110 #[.string s, .int .i64 pos] w fun e w' => e = .returned (.tuple #[.int .i64 (0), .int .i64 0]) ∧ Below w.heap.size w w' := by
  have hz := sz4 (c := (x0 : Int)) (by omega) (by omega)
  have hl0 : (x0 : Int) ≤ 255 := by omega
  have hpt : isPt 0 = true := rfl
  rcases hk with hk | ⟨hk, hk'⟩
  · go_enter Tryz.func110, Tryz.ntmps110
    go_wp2_with (first
      | (go_at_call 140; refine (size_any _ _ hl0).mono ?_; rintro e w1 ⟨rfl, rfl⟩)
      | (go_at_call 141; refine (isPoint_any _ _).mono ?_; rintro e w1 ⟨rfl, rfl⟩)
      | (go_at_call 126; refine (Bytes_any _ _ hpt).mono ?_; rintro e w1 ⟨rfl, rfl⟩))
    refine wp_loop_rounds 3 ?_
    rw [rounds_succ]
    go_wp2
    rw [rounds_succ]
    go_wp2
    rw [rounds_succ]
    go_wp2_with (first
      | (go_at_call 140; refine (size_any _ _ hl0).mono ?_; rintro e w1 ⟨rfl, rfl⟩)
      | (go_at_call 141; refine (isPoint_any _ _).mono ?_; rintro e w1 ⟨rfl, rfl⟩)
      | (go_at_call 126; refine (Bytes_any _ _ hpt).mono ?_; rintro e w1 ⟨rfl, rfl⟩))
    go_ret2
    exact ⟨rfl, Below.refl _ _⟩
  · go_enter Tryz.func110, Tryz.ntmps110
    go_wp2_with (first
      | (go_at_call 140; refine (size_any _ _ hl0).mono ?_; rintro e w1 ⟨rfl, rfl⟩)
      | (go_at_call 141; refine (isPoint_any _ _).mono ?_; rintro e w1 ⟨rfl, rfl⟩)
      | (go_at_call 126; refine (Bytes_any _ _ hpt).mono ?_; rintro e w1 ⟨rfl, rfl⟩))
    refine wp_loop_rounds 3 ?_
    rw [rounds_succ]
    go_wp2
    rw [rounds_succ]
    go_wp2
    rw [rounds_succ]
    go_wp2_with (first
      | (go_at_call 140; refine (size_any _ _ hl0).mono ?_; rintro e w1 ⟨rfl, rfl⟩)
      | (go_at_call 141; refine (isPoint_any _ _).mono ?_; rintro e w1 ⟨rfl, rfl⟩)
      | (go_at_call 126; refine (Bytes_any _ _ hpt).mono ?_; rintro e w1 ⟨rfl, rfl⟩))
    go_ret2
    exact ⟨rfl, Below.refl _ _⟩
set_option maxHeartbeats 4000000 in
set_option maxRecDepth 100000 in
theorem at_4_long (s : ByteArray) (pos : Nat) (w : World) (hs : s.size ≤ 140737488351232) (hp : pos + 3 < s.size) (x0 x1 x2 x3 : Nat) (e0 : (s[pos]'(by omega)).toNat = x0) (e1 : (s[pos + 1]'(by omega)).toNat = x1) (e2 : (s[pos + 2]'(by omega)).toNat = x2) (e3 : (s[pos + 3]'(by omega)).toNat = x3) (h0 : 240 ≤ x0) (h0' : x0 < 248) (h1 : 128 ≤ x1) (h1' : x1 < 192) (h2 : 128 ≤ x2) (h2' : x2 < 192) (h3 : 128 ≤ x3) (h3' : x3 < 192) (hl : 64 * (64 * (64 * ((x0 : Int) - 240) + x1 - 128) + x2 - 128) + x3 - 128 < 65536) (m : Nat) (hm : m ≠ 4) (hpt : isPt (64 * (64 * (64 * ((x0 : Int) - 240) + x1 - 128) + x2 - 128) + x3 - 128) = true) (hlen : (Lib.runeCells (64 * (64 * (64 * ((x0 : Int) - 240) + x1 - 128) + x2 - 128) + x3 - 128)).length = m) :
    Calls Tryz.prog 110 #[.string s, .int .i64 pos] w fun e w' => e = .returned (.tuple #[.int .i64 (0), .int .i64 0]) ∧ Below w.heap.size w w' := by
  have hz := sz4 (c := (x0 : Int)) (by omega) (by omega)
  have hl0 : (x0 : Int) ≤ 255 := by omega
  have hm' : ((m : Int) != 4) = true := by simp; omega
  go_enter Tryz.func110, Tryz.ntmps110
  go_wp2_with (first
    | (go_at_call 140; refine (size_any _ _ hl0).mono ?_; rintro e w1 ⟨rfl, rfl⟩)
    | (go_at_call 141; refine (isPoint_any _ _).mono ?_; rintro e w1 ⟨rfl, rfl⟩)
    | (go_at_call 126; refine (Bytes_any _ _ hpt).mono ?_; rintro e w1 ⟨rfl, rfl⟩))
  refine wp_loop_rounds 4 ?_
  rw [rounds_succ]
  go_wp2
  rw [rounds_succ]
  go_wp2
  rw [rounds_succ]
  go_wp2
  rw [rounds_succ]
  go_wp2_with (first
    | (go_at_call 140; refine (size_any _ _ hl0).mono ?_; rintro e w1 ⟨rfl, rfl⟩)
    | (go_at_call 141; refine (isPoint_any _ _).mono ?_; rintro e w1 ⟨rfl, rfl⟩)
    | (go_at_call 126; refine (Bytes_any _ _ hpt).mono ?_; rintro e w1 ⟨rfl, rfl⟩))
  go_ret2
  exact ⟨rfl, (Below.refl _ _).alloc (Nat.le_refl _) _⟩
set_option maxHeartbeats 4000000 in
set_option maxRecDepth 100000 in
theorem at_4_none (s : ByteArray) (pos : Nat) (w : World) (hs : s.size ≤ 140737488351232) (hp : pos + 3 < s.size) (x0 x1 x2 x3 : Nat) (e0 : (s[pos]'(by omega)).toNat = x0) (e1 : (s[pos + 1]'(by omega)).toNat = x1) (e2 : (s[pos + 2]'(by omega)).toNat = x2) (e3 : (s[pos + 3]'(by omega)).toNat = x3) (h0 : 240 ≤ x0) (h0' : x0 < 248) (h1 : 128 ≤ x1) (h1' : x1 < 192) (h2 : 128 ≤ x2) (h2' : x2 < 192) (h3 : 128 ≤ x3) (h3' : x3 < 192) (hno : isPt (64 * (64 * (64 * ((x0 : Int) - 240) + x1 - 128) + x2 - 128) + x3 - 128) = false) :
    Calls Tryz.prog 110 #[.string s, .int .i64 pos] w fun e w' => e = .returned (.tuple #[.int .i64 (0), .int .i64 0]) ∧ Below w.heap.size w w' := by
  have hz := sz4 (c := (x0 : Int)) (by omega) (by omega)
  have hl0 : (x0 : Int) ≤ 255 := by omega
  have hpt : isPt 0 = true := rfl
  go_enter Tryz.func110, Tryz.ntmps110
  go_wp2_with (first
    | (go_at_call 140; refine (size_any _ _ hl0).mono ?_; rintro e w1 ⟨rfl, rfl⟩)
    | (go_at_call 141; refine (isPoint_any _ _).mono ?_; rintro e w1 ⟨rfl, rfl⟩)
    | (go_at_call 126; refine (Bytes_any _ _ hpt).mono ?_; rintro e w1 ⟨rfl, rfl⟩))
  refine wp_loop_rounds 4 ?_
  rw [rounds_succ]
  go_wp2
  rw [rounds_succ]
  go_wp2
  rw [rounds_succ]
  go_wp2
  rw [rounds_succ]
  go_wp2_with (first
    | (go_at_call 140; refine (size_any _ _ hl0).mono ?_; rintro e w1 ⟨rfl, rfl⟩)
    | (go_at_call 141; refine (isPoint_any _ _).mono ?_; rintro e w1 ⟨rfl, rfl⟩)
    | (go_at_call 126; refine (Bytes_any _ _ hpt).mono ?_; rintro e w1 ⟨rfl, rfl⟩))
  go_ret2
  exact ⟨rfl, Below.refl _ _⟩
set_option maxHeartbeats 4000000 in
set_option maxRecDepth 100000 in
theorem at_4 (s : ByteArray) (pos : Nat) (w : World) (hs : s.size ≤ 140737488351232) (hp : pos + 3 < s.size) (x0 x1 x2 x3 : Nat) (e0 : (s[pos]'(by omega)).toNat = x0) (e1 : (s[pos + 1]'(by omega)).toNat = x1) (e2 : (s[pos + 2]'(by omega)).toNat = x2) (e3 : (s[pos + 3]'(by omega)).toNat = x3) (h0 : 240 ≤ x0) (h0' : x0 < 248) (h1 : 128 ≤ x1) (h1' : x1 < 192) (h2 : 128 ≤ x2) (h2' : x2 < 192) (h3 : 128 ≤ x3) (h3' : x3 < 192) (hpt : isPt (64 * (64 * (64 * ((x0 : Int) - 240) + x1 - 128) + x2 - 128) + x3 - 128) = true) (hlen : (Lib.runeCells (64 * (64 * (64 * ((x0 : Int) - 240) + x1 - 128) + x2 - 128) + x3 - 128)).length = 4) :
    Calls Tryz.prog 110 #[.string s, .int .i64 pos] w fun e w' => e = .returned (.tuple #[.int .i64 (64 * (64 * (64 * ((x0 : Int) - 240) + x1 - 128) + x2 - 128) + x3 - 128), .int .i64 4]) ∧ Below w.heap.size w w' := by
  have hz := sz4 (c := (x0 : Int)) (by omega) (by omega)
  have hl0 : (x0 : Int) ≤ 255 := by omega
  go_enter Tryz.func110, Tryz.ntmps110
  go_wp2_with (first
    | (go_at_call 140; refine (size_any _ _ hl0).mono ?_; rintro e w1 ⟨rfl, rfl⟩)
    | (go_at_call 141; refine (isPoint_any _ _).mono ?_; rintro e w1 ⟨rfl, rfl⟩)
    | (go_at_call 126; refine (Bytes_any _ _ hpt).mono ?_; rintro e w1 ⟨rfl, rfl⟩))
  refine wp_loop_rounds 4 ?_
  rw [rounds_succ]
  go_wp2
  rw [rounds_succ]
  go_wp2
  rw [rounds_succ]
  go_wp2
  rw [rounds_succ]
  go_wp2_with (first
    | (go_at_call 140; refine (size_any _ _ hl0).mono ?_; rintro e w1 ⟨rfl, rfl⟩)
    | (go_at_call 141; refine (isPoint_any _ _).mono ?_; rintro e w1 ⟨rfl, rfl⟩)
    | (go_at_call 126; refine (Bytes_any _ _ hpt).mono ?_; rintro e w1 ⟨rfl, rfl⟩))
  go_ret2
  exact ⟨rfl, (Below.refl _ _).alloc (Nat.le_refl _) _⟩
end RefW
end Go.Proofs.YtiakidomcjpdhaaGreatDoor

namespace Go.Proofs.YtiakidomcjpdhaaGreatDoor
open Go.RowKit
namespace SndW
open RefW EncW

mutual
/-- Is a value sound, with so many brackets left? -/
def sndV : GV → Int → Bool
  | .mk k _ n t l f, d =>
    if k = 0 ∨ k = 1 then true else if k = 2 then decide (n ≤ 9007199254740991) && decide (-9007199254740991 ≤ n) else if k = 3 then decide (badAt t 0 < 0)
    else if k = 4 then sndL l (d - 1) && decide (0 < d) else if k = 5 then sndF f (d - 1) && decide ((f.map (·.1)).Nodup) && decide (0 < d) else false
def sndL : List GV → Int → Bool
  | [], _ => true
  | x :: l, d => sndV x d && sndL l d
def sndF : List (ByteArray × GV) → Int → Bool
  | [], _ => true
  | x :: l, d => sndP x d && sndF l d
def sndP : ByteArray × GV → Int → Bool
  | (nm, x), d => decide (badAt nm 0 < 0) && sndV x d
end

/-! Places at which a character begins. -/
def Al (s : ByteArray) (p : Nat) : Prop := badAt s p = badAt s 0 ∧ p ≤ s.size

theorem get_nx {s : ByteArray} {p : Nat} (h : p < s.size) : (s.get! p).toNat = nx s p := by simp [nx, h]
theorem al_ascii {s : ByteArray} {p : Nat} (ha : Al s p) (h0 : 0 < nx s p) (h1 : nx s p < 128) : Al s (p + 1) := by
  have hp : p < s.size := lt_of_nx (by omega)
  have hd : Utf8.decode s p = (nx s p, 1) := by
    rw [Lib.decode_at]
    unfold Lib.decodeN
    rw [if_pos (by rw [get_nx hp]; exact h1), get_nx hp]
  have hn : noChar s p = false := by
    unfold noChar
    rw [hd, decide_eq_false_iff_not]
    intro h
    injection h with h _
    omega
  have := badAt_next s p hp hn
  rw [hd] at this
  exact ⟨this.symm.trans ha.1, hp⟩
theorem al_bl {s : ByteArray} {p : Nat} (ha : Al s p) : Al s (bl s p) := by
  generalize hn : s.size - p = n
  induction n generalizing p with
  | zero =>
    have : bl s p = p := by unfold bl; rw [hn]; rfl
    rw [this]
    exact ha
  | succ n ih =>
    cases h : isBl (nx s p) with
    | true =>
      rw [bl_yes s p h]
      have hc : nx s p = 32 ∨ nx s p = 10 ∨ nx s p = 13 ∨ nx s p = 9 := by simpa [isBl, or_assoc] using h
      exact ih (al_ascii ha (by omega) (by omega)) (by omega)
    | false => rw [bl_no s p h]; exact ha
theorem al_ch {s : ByteArray} {p c q : Nat} (ha : Al s p) (h : chS s (badAt s 0) p = .ok (c, q)) : isPt (c : Int) = true ∧ Al s q := by
  have hok := chS_ok h ha.2
  unfold chS at h
  split at h
  · cases h
  · rename_i h1
    split at h
    · cases h
    · rename_i h2
      have hp : p < s.size := by have := ha.2; omega
      have hn : noChar s p = false := by
        cases hn : noChar s p with
        | false => rfl
        | true =>
          have := badAt_hit s p hp hn
          rw [ha.1] at this
          exact absurd this.symm h2
      injection h with h
      injection h with e1 e2
      have hx := badAt_next s p hp hn
      rw [e2] at hx
      refine ⟨?_, hx.symm.trans ha.1, hok.2.2⟩
      rw [← e1]
      have hb := decL_back (s.data.toList.drop p) (by
        intro hnil
        have := congrArg List.length hnil
        rw [List.length_drop, ← Lib.size_eq] at this
        simp at this
        omega) (by
        rw [noChar_drop, decide_eq_false_iff_not] at hn
        exact hn)
      rw [decode_drop]
      exact hb.1
theorem al_word {s : ByteArray} : ∀ (t : List Nat) {p q : Nat}, (∀ c ∈ t, 0 < c ∧ c < 128) → Al s p → wordS s t p = .ok q → Al s q
  | [], p, q, _, ha, h => by
    unfold wordS at h
    injection h with h
    exact h ▸ ha
  | c :: t, p, q, hc, ha, h => by
    unfold wordS at h
    split at h
    · rename_i hx
      have := hc c (by simp)
      exact al_word t (fun d hd => hc d (by simp [hd])) (al_ascii ha (by omega) (by omega)) h
    · cases h
theorem al_dg {s : ByteArray} : ∀ (f n : Nat) {p : Nat}, Al s p → Al s (dgF s f n p).2
  | 0, n, p, ha => ha
  | f + 1, n, p, ha => by
    unfold dgF
    split
    · rename_i h
      simp [isDg] at h
      exact al_dg f _ (al_ascii ha (by omega) (by omega))
    · exact ha
theorem al_digits {s : ByteArray} {p n q : Nat} (ha : Al s p) (h : digitsS s p = .ok (n, q)) : Al s q := by
  unfold digitsS at h
  split at h
  · rename_i hd
    simp [isDg] at hd
    split at h
    · injection h with h
      injection h with h1 h2
      rw [← h2]
      exact al_ascii ha (by omega) (by omega)
    · injection h with h
      have := al_dg (s := s) (s.size - p) 0 ha
      rw [h] at this
      exact this
  · cases h
theorem al_number {s : ByteArray} {p q : Nat} {n : Int} (ha : Al s p) (h : numberS s p = .ok (n, q)) : (n ≤ 9007199254740991 ∧ -9007199254740991 ≤ n) ∧ Al s q := by
  unfold numberS at h
  have h1 : Al s (if nx s p = 45 then p + 1 else p) := by
    split
    · exact al_ascii ha (by omega) (by omega)
    · exact ha
  generalize hr : digitsS s (if nx s p = 45 then p + 1 else p) = r at h
  cases r with
  | error x => cases h
  | ok x =>
    obtain ⟨m, q'⟩ := x
    simp only at h
    split at h
    · cases h
    · injection h with h
      injection h with e1 e2
      rw [← e2]
      refine ⟨?_, al_digits h1 hr⟩
      rw [← e1]
      split <;> omega

/-! Escapes. -/
theorem dec_small (n b0 b1 b2 b3 : Nat) (h : (Lib.decodeN n b0 b1 b2 b3).1 < 128) : b0 < 128 ∧ Lib.decodeN n b0 b1 b2 b3 = (b0, 1) := by
  by_cases hb : b0 < 128
  · refine ⟨hb, ?_⟩
    unfold Lib.decodeN
    rw [if_pos hb]
  · exfalso
    revert h
    unfold Lib.decodeN
    repeat' split
    all_goals (simp only []; omega)
theorem hexD_small {c : Nat} (h : hexD c ≠ -1) : 48 ≤ c ∧ c < 128 := by
  unfold hexD at h
  split at h
  · omega
  · split at h
    · omega
    · split at h
      · omega
      · exact absurd rfl h
theorem ahead_step {U : ByteArray} {f pos : Nat} {n : Int} (h : aheadF U (f + 1) pos n ≠ -1) (hp : pos < U.size) : (48 ≤ (U.get! pos).toNat ∧ (U.get! pos).toNat < 128) ∧ ∃ m, aheadF U f (pos + 1) m ≠ -1 := by
  unfold aheadF at h
  rw [if_pos hp] at h
  split at h
  · exact absurd rfl h
  · rename_i hx
    have h2 := hexD_small hx
    rw [Lib.decode_at] at h2 h
    have h3 := dec_small _ _ _ _ _ h2.2
    rw [h3.2] at h2 h
    exact ⟨h2, _, h⟩
theorem nx_get {s : ByteArray} {p k : Nat} (h : p + k < s.size) : nx s (p + k) = ((s.data.toList.drop p).getD k 0).toNat := by
  rw [← get_drop, get_nx h]
theorem ahead_bytes {s : ByteArray} {q : Nat} (h : aheadS s q ≠ -1) : q + 6 ≤ s.size ∧ nx s q = 92 ∧ nx s (q + 1) = 117 ∧ ∀ i, i < 4 → 48 ≤ nx s (q + (2 + i)) ∧ nx s (q + (2 + i)) < 128 := by
  have hroom := aheadS_room s q h
  unfold aheadS at h
  split at h
  · rename_i hx
    split at h
    · exact absurd rfl h
    · rename_i h4
      rw [cut_data] at hx
      have hT : (aheadT s q).data.toList = (s.data.toList.drop q).drop 2 := by
        unfold aheadT Lib.trimPrefix
        rw [cut_data, if_pos hx]
        rfl
      have hp : (92 : UInt8) :: 117 :: ((s.data.toList.drop q).drop 2) = s.data.toList.drop q := by
        generalize s.data.toList.drop q = l at hx
        match l, hx with
        | [], hx => simp [Lib.hasPrefix] at hx
        | [a], hx => simp [Lib.hasPrefix, List.isPrefixOf] at hx
        | a :: b :: r, hx =>
          simp [Lib.hasPrefix, List.isPrefixOf] at hx
          obtain ⟨rfl, rfl⟩ := hx
          rfl
      have n0 := nx_get (s := s) (p := q) (k := 0) (by omega)
      have n1 := nx_get (s := s) (p := q) (k := 1) (by omega)
      rw [← hp] at n0 n1
      refine ⟨hroom, n0, n1, fun i hi => ?_⟩
      rw [nx_get (by omega)]
      have hU : ∀ i, i < 4 → ((aheadT s q).extract 0 4).get! i = (s.data.toList.drop q).getD (2 + i) 0 := fun i hi => by
        have := get_drop ((aheadT s q).extract 0 4) 0 i
        rw [Nat.zero_add] at this
        rw [this, List.drop_zero, Lib.extract_data, hT, List.drop_zero]
        simp only [List.getD_eq_getElem?_getD]
        rw [List.getElem?_take_of_lt (by omega), List.getElem?_drop]
      have hsz : ((aheadT s q).extract 0 4).size = 4 := by simp; omega
      rw [← hU i hi]
      obtain ⟨a0, _, h1⟩ := ahead_step h (by omega)
      obtain ⟨a1, _, h2⟩ := ahead_step h1 (by omega)
      obtain ⟨a2, _, h3⟩ := ahead_step h2 (by omega)
      obtain ⟨a3, _, _⟩ := ahead_step h3 (by omega)
      match i, hi with
      | 0, _ => exact a0
      | 1, _ => exact a1
      | 2, _ => exact a2
      | 3, _ => exact a3
  · exact absurd rfl h
theorem al_ahead {s : ByteArray} {q : Nat} (ha : Al s q) (h : aheadS s q ≠ -1) : Al s (q + 6) := by
  obtain ⟨_, b0, b1, b⟩ := ahead_bytes h
  have c1 := al_ascii ha (by omega) (by omega)
  have c2 := al_ascii c1 (by omega) (by omega)
  have d0 : 48 ≤ nx s (q + 1 + 1) ∧ nx s (q + 1 + 1) < 128 := b 0 (by omega)
  have d1 : 48 ≤ nx s (q + 1 + 1 + 1) ∧ nx s (q + 1 + 1 + 1) < 128 := b 1 (by omega)
  have d2 : 48 ≤ nx s (q + 1 + 1 + 1 + 1) ∧ nx s (q + 1 + 1 + 1 + 1) < 128 := b 2 (by omega)
  have d3 : 48 ≤ nx s (q + 1 + 1 + 1 + 1 + 1) ∧ nx s (q + 1 + 1 + 1 + 1 + 1) < 128 := b 3 (by omega)
  have z : 0 < 48 := by decide
  exact al_ascii (al_ascii (al_ascii (al_ascii c2 (Nat.lt_of_lt_of_le z d0.1) d0.2) (Nat.lt_of_lt_of_le z d1.1) d1.2) (Nat.lt_of_lt_of_le z d2.1) d2.2) (Nat.lt_of_lt_of_le z d3.1) d3.2
theorem al_hex {s : ByteArray} : ∀ (k : Nat) {i n p m q : Nat}, n < 16 ^ i → Al s p → hexF s (badAt s 0) k n p = .ok (m, q) → m < 16 ^ (i + k) ∧ Al s q
  | 0, i, n, p, m, q, hn, ha, h => by
    unfold hexF at h
    injection h with h
    injection h with h1 h2
    subst h1
    subst h2
    exact ⟨hn, ha⟩
  | k + 1, i, n, p, m, q, hn, ha, h => by
    unfold hexF at h
    generalize hr : chS s (badAt s 0) p = r at h
    cases r with
    | error x => cases h
    | ok x =>
      obtain ⟨c, q1⟩ := x
      simp only at h
      split at h
      · cases h
      · have hbd := hexD_bd c
        have := al_hex k (i := i + 1) (pow_step n (hexD c).toNat i 1 hn (by omega) (by omega)) (al_ch ha hr).2 h
        rw [show i + (k + 1) = i + 1 + k by omega]
        exact this
theorem isPt_of (n : Nat) (h : n < 55296 ∨ (57343 < n ∧ n ≤ 1114111)) : isPt (n : Int) = true := by
  unfold isPt
  rw [decide_eq_true_eq]
  omega
theorem al_numbered {s : ByteArray} {slash p c q : Nat} (ha : Al s p) (h : numberedS s (badAt s 0) slash p = .ok (c, q)) : isPt (c : Int) = true ∧ Al s q := by
  unfold numberedS at h
  generalize hr : hexF s (badAt s 0) 4 0 p = r at h
  cases r with
  | error x => cases h
  | ok x =>
    obtain ⟨n, q1⟩ := x
    have hh := al_hex 4 (i := 0) (by decide) ha hr
    have hn : n < 65536 := hh.1
    simp only at h
    split at h
    · rename_i h1
      injection h with h
      injection h with e1 e2
      subst e1
      subst e2
      exact ⟨isPt_of n (by omega), hh.2⟩
    · split at h
      · rename_i h2
        injection h with h
        injection h with e1 e2
        subst e1
        subst e2
        exact ⟨isPt_of _ (by omega), al_ahead hh.2 (by omega)⟩
      · cases h
theorem al_esc {s : ByteArray} {slash p c q : Nat} (ha : Al s p) (h : escS s (badAt s 0) slash p = .ok (c, q)) : isPt (c : Int) = true ∧ Al s q := by
  unfold escS at h
  generalize hr : chS s (badAt s 0) p = r at h
  cases r with
  | error x => cases h
  | ok x =>
    obtain ⟨d, q1⟩ := x
    have h1 := (al_ch ha hr).2
    simp only [escC] at h
    repeat' split at h
    all_goals
      first
        | exact al_numbered h1 h
        | cases h; done
        | (injection h with h; injection h with e1 e2; subst e1; subst e2; exact ⟨by decide, h1⟩)
theorem al_qu {s : ByteArray} : ∀ (f : Nat) {acc : List Nat} {p : Nat} {cs : List Nat} {q : Nat}, AllPt acc → Al s p → quF s (badAt s 0) f acc p = .ok (cs, q) → AllPt cs ∧ Al s q
  | 0, acc, p, cs, q, _, _, h => by unfold quF at h; cases h
  | f + 1, acc, p, cs, q, hacc, ha, h => by
    unfold quF at h
    generalize hr : chS s (badAt s 0) p = r at h
    cases r with
    | error x => cases h
    | ok x =>
      obtain ⟨c, q1⟩ := x
      have h1 := al_ch ha hr
      simp only at h
      split at h
      · injection h with h
        injection h with e1 e2
        subst e1
        subst e2
        exact ⟨hacc, h1.2⟩
      · split at h
        · generalize hr2 : escS s (badAt s 0) p q1 = r2 at h
          cases r2 with
          | error x => cases h
          | ok x =>
            obtain ⟨d, q2⟩ := x
            have h2 := al_esc h1.2 hr2
            exact al_qu f (fun y hy => by rcases List.mem_append.1 hy with hy | hy; · exact hacc y hy
                                          · rw [List.mem_singleton.1 hy]; exact h2.1) h2.2 h
        · split at h
          · cases h
          · exact al_qu f (fun y hy => by rcases List.mem_append.1 hy with hy | hy; · exact hacc y hy
                                          · rw [List.mem_singleton.1 hy]; exact h1.1) h1.2 h
theorem txt_sound {cs : List Nat} (h : AllPt cs) : badAt (txt cs) 0 = -1 := (back_text _ (badPt_all cs 0 h)).1
theorem al_quoted {s : ByteArray} {p : Nat} {cs : List Nat} {q : Nat} (ha : Al s p) (h : quotedS s (badAt s 0) p = .ok (cs, q)) : badAt (txt cs) 0 = -1 ∧ Al s q := by
  unfold quotedS at h
  split at h
  · have := al_qu _ (by intro y hy; simp at hy) (al_ascii ha (by omega) (by omega)) h
    exact ⟨txt_sound this.1, this.2⟩
  · cases h

/-! Lists and objects. -/
theorem al_elems {σ : Type} {s : ByteArray} {one : σ → Nat → Except (Nat × Nat) (σ × Nat)} {close : Nat} {I : σ → Prop} (hc : 0 < close ∧ close < 128)
    (hone : ∀ st p st2 q, I st → Al s p → one st p = .ok (st2, q) → I st2 ∧ Al s q) : ∀ (f : Nat) {st : σ} {p : Nat} {st2 : σ} {q : Nat}, I st → Al s p → elemsF s one close f st p = .ok (st2, q) → I st2 ∧ Al s q
  | 0, st, p, st2, q, _, _, h => by unfold elemsF at h; cases h
  | f + 1, st, p, st2, q, hi, ha, h => by
    unfold elemsF at h
    generalize hr : one st p = r at h
    cases r with
    | error x => cases h
    | ok x =>
      obtain ⟨st1, q1⟩ := x
      have h1 := hone _ _ _ _ hi ha hr
      have h2 := al_bl h1.2
      simp only at h
      split at h
      · injection h with h
        injection h with e1 e2
        subst e1
        subst e2
        exact ⟨h1.1, al_ascii h2 (by omega) (by omega)⟩
      · split at h
        · exact al_elems hc hone f h1.1 (al_bl (al_ascii h2 (by omega) (by omega))) h
        · cases h
theorem al_bracket {σ : Type} {s : ByteArray} {one : σ → Nat → Except (Nat × Nat) (σ × Nat)} {close : Nat} {I : σ → Prop} (hc : 0 < close ∧ close < 128)
    (hone : ∀ st p st2 q, I st → Al s p → one st p = .ok (st2, q) → I st2 ∧ Al s q) {st : σ} {p : Nat} {st2 : σ} {q : Nat} (hi : I st) (ha : Al s (p + 1)) (h : bracketS s one close st p = .ok (st2, q)) : I st2 ∧ Al s q := by
  unfold bracketS at h
  split at h
  · injection h with h
    injection h with e1 e2
    subst e1
    subst e2
    exact ⟨hi, al_ascii (al_bl ha) (by omega) (by omega)⟩
  · exact al_elems hc hone _ hi (al_bl ha) h

theorem sndL_snoc (l : List GV) (x : GV) (d : Int) : sndL (l ++ [x]) d = (sndL l d && sndV x d) := by
  induction l with
  | nil => simp [sndL]
  | cons y l ih => simp [sndL, ih, Bool.and_assoc]
theorem sndF_snoc (l : List (ByteArray × GV)) (x : ByteArray × GV) (d : Int) : sndF (l ++ [x]) d = (sndF l d && sndP x d) := by
  induction l with
  | nil => simp [sndF]
  | cons y l ih => simp [sndF, ih, Bool.and_assoc]
theorem names_snoc (l : List (ByteArray × GV)) (nm : ByteArray) (x : GV) (h : (l.map (·.1)).Nodup) (hn : ¬ l.any (fun y => decide (y.1 = nm)) = true) : ((l ++ [(nm, x)]).map (·.1)).Nodup := by
  rw [List.map_append, List.nodup_append]
  refine ⟨h, by simp, ?_⟩
  intro a ha b hb e
  rw [List.map_cons, List.map_nil, List.mem_singleton] at hb
  subst hb
  subst e
  apply hn
  rw [List.any_eq_true]
  obtain ⟨y, hy, he⟩ := List.mem_map.1 ha
  exact ⟨y, hy, by simpa using he⟩

theorem snd_list {s : ByteArray} {val : Nat → Except (Nat × Nat) (GV × Nat)} {d : Int} (hd : 0 < d) (hval : ∀ p x q, Al s p → val p = .ok (x, q) → sndV x (d - 1) = true ∧ Al s q) {p : Nat} {x : GV} {q : Nat} (ha : Al s (p + 1)) (h : listS s val p = .ok (x, q)) : sndV x d = true ∧ Al s q := by
  unfold listS at h
  generalize hr : bracketS s (oneL val) 93 [] p = r at h
  cases r with
  | error x => cases h
  | ok y =>
    obtain ⟨l, q1⟩ := y
    injection h with h
    injection h with e1 e2
    subst e1
    subst e2
    have := al_bracket (I := fun l => sndL l (d - 1) = true) (by decide) (fun st p st2 q hi ha h => by
      unfold oneL at h
      generalize hr : val p = r at h
      cases r with
      | error x => cases h
      | ok y =>
        obtain ⟨x, q1⟩ := y
        injection h with h
        injection h with e1 e2
        subst e1
        subst e2
        have := hval _ _ _ ha hr
        refine ⟨?_, this.2⟩
        rw [sndL_snoc, hi, this.1]
        rfl) (by rfl) ha hr
    refine ⟨?_, this.2⟩
    simp [sndV, this.1, hd]
theorem snd_obj {s : ByteArray} {val : Nat → Except (Nat × Nat) (GV × Nat)} {d : Int} (hd : 0 < d) (hval : ∀ p x q, Al s p → val p = .ok (x, q) → sndV x (d - 1) = true ∧ Al s q) {p : Nat} {x : GV} {q : Nat} (ha : Al s (p + 1)) (h : objS s (badAt s 0) val p = .ok (x, q)) : sndV x d = true ∧ Al s q := by
  unfold objS at h
  generalize hr : bracketS s (oneF s (badAt s 0) val) 125 [] p = r at h
  cases r with
  | error x => cases h
  | ok y =>
    obtain ⟨l, q1⟩ := y
    injection h with h
    injection h with e1 e2
    subst e1
    subst e2
    have := al_bracket (I := fun l => sndF l (d - 1) = true ∧ (l.map (·.1)).Nodup) (by decide) (fun st p st2 q hi ha h => by
      unfold oneF at h
      generalize hr : quotedS s (badAt s 0) p = r at h
      cases r with
      | error x => cases h
      | ok y =>
        obtain ⟨cs, q1⟩ := y
        have hq := al_quoted ha hr
        simp only at h
        split at h
        · cases h
        · rename_i hnew
          split at h
          · rename_i h58
            have hb := al_bl (al_ascii (al_bl hq.2) (by omega) (by omega))
            generalize hr2 : val (bl s (bl s q1 + 1)) = r2 at h
            cases r2 with
            | error x => cases h
            | ok y =>
              obtain ⟨x, q2⟩ := y
              injection h with h
              injection h with e1 e2
              subst e1
              subst e2
              have hv := hval _ _ _ hb hr2
              refine ⟨⟨?_, names_snoc _ _ _ hi.2 hnew⟩, hv.2⟩
              rw [sndF_snoc, hi.1]
              simp [sndP, hv.1, hq.1]
          · cases h) ⟨by rfl, by simp⟩ ha hr
    refine ⟨?_, this.2⟩
    simp [sndV, this.1.1, this.1.2, hd]

theorem snd_valC {s : ByteArray} {lst obj : Nat → Except (Nat × Nat) (GV × Nat)} {d : Int}
    (hl : ∀ p x q, Al s (p + 1) → lst p = .ok (x, q) → sndV x d = true ∧ Al s q) (ho : ∀ p x q, Al s (p + 1) → obj p = .ok (x, q) → sndV x d = true ∧ Al s q)
    {p : Nat} {x : GV} {q : Nat} (ha : Al s p) (h : valC s (badAt s 0) lst obj p = .ok (x, q)) : sndV x d = true ∧ Al s q := by
  unfold valC at h
  split at h
  · generalize hr : wordS s [110, 117, 108, 108] p = r at h
    cases r with
    | error x => cases h
    | ok y =>
      injection h with h
      injection h with e1 e2
      subst e1
      subst e2
      exact ⟨by simp [sndV], al_word _ (by decide) ha hr⟩
  split at h
  · generalize hr : wordS s [116, 114, 117, 101] p = r at h
    cases r with
    | error x => cases h
    | ok y =>
      injection h with h
      injection h with e1 e2
      subst e1
      subst e2
      exact ⟨by simp [sndV], al_word _ (by decide) ha hr⟩
  split at h
  · generalize hr : wordS s [102, 97, 108, 115, 101] p = r at h
    cases r with
    | error x => cases h
    | ok y =>
      injection h with h
      injection h with e1 e2
      subst e1
      subst e2
      exact ⟨by simp [sndV], al_word _ (by decide) ha hr⟩
  split at h
  · generalize hr : quotedS s (badAt s 0) p = r at h
    cases r with
    | error x => cases h
    | ok y =>
      obtain ⟨cs, q1⟩ := y
      injection h with h
      injection h with e1 e2
      subst e1
      subst e2
      have := al_quoted ha hr
      exact ⟨by simp [sndV, this.1], this.2⟩
  split at h
  · exact hl _ _ _ (al_ascii ha (by omega) (by omega)) h
  split at h
  · exact ho _ _ _ (al_ascii ha (by omega) (by omega)) h
  split at h
  · generalize hr : numberS s p = r at h
    cases r with
    | error x => cases h
    | ok y =>
      obtain ⟨n, q1⟩ := y
      injection h with h
      injection h with e1 e2
      subst e1
      subst e2
      have := al_number ha hr
      exact ⟨by simp [sndV, this.1.1, this.1.2], this.2⟩
  · cases h
theorem snd_val {s : ByteArray} : ∀ (k : Nat) {p : Nat} {x : GV} {q : Nat}, Al s p → valS s (badAt s 0) k p = .ok (x, q) → sndV x (k : Int) = true ∧ Al s q
  | 0, p, x, q, ha, h => by
    unfold valS at h
    exact snd_valC (fun _ _ _ _ h => by cases h) (fun _ _ _ _ h => by cases h) ha h
  | k + 1, p, x, q, ha, h => by
    unfold valS at h
    have ih : ∀ p x q, Al s p → valS s (badAt s 0) k p = .ok (x, q) → sndV x (((k + 1 : Nat) : Int) - 1) = true ∧ Al s q := fun p x q ha h => by
      rw [show ((k + 1 : Nat) : Int) - 1 = (k : Int) by omega]
      exact snd_val k ha h
    exact snd_valC (fun _ _ _ ha h => snd_list (by omega) ih ha h) (fun _ _ _ ha h => snd_obj (by omega) ih ha h) ha h
/-- P2.4: what is read is sound. -/
theorem snd_parse {s : ByteArray} {x : GV} (h : parseS s = .ok x) : sndV x 32 = true := by
  unfold parseS at h
  generalize hr : valS s (badAt s 0) 32 (bl s 0) = r at h
  cases r with
  | error x => cases h
  | ok y =>
    obtain ⟨z, q⟩ := y
    simp only at h
    split at h
    · cases h
    · injection h with h
      subst h
      exact (snd_val 32 (al_bl ⟨rfl, Nat.zero_le _⟩) hr).1
end SndW
end Go.Proofs.YtiakidomcjpdhaaGreatDoor
