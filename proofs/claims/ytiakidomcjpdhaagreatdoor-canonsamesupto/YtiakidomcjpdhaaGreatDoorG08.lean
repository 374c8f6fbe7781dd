/- What the reference's small functions do (size, isPoint, Bytes): contracts, by walking their text. Plain mathematics: bytes and characters come back from one another. -/
import Derived.Test.YtiakidomcjpdhaaGreatDoorG04
import Derived.Lib.RuneBytes
namespace Go.Proofs.YtiakidomcjpdhaaGreatDoor
open Go.RowKit
namespace RefW

/-- How many bytes a character has whose first one is c; 0: there is none. -/
def sz (c : Int) : Int := if c < 128 then 1 else if 192 ≤ c ∧ c < 224 then 2 else if 224 ≤ c ∧ c < 240 then 3 else if 240 ≤ c ∧ c < 248 then 4 else 0
theorem size_any (c : Int) (w : World) (h1 : c ≤ 255) : Calls Tryz.prog 140 #[.int .u8 c] w fun e w' => e = .returned (.int .i64 (sz c)) ∧ w' = w := by
  have hc : c < 128 ∨ (128 ≤ c ∧ c < 192) ∨ (192 ≤ c ∧ c < 224) ∨ (224 ≤ c ∧ c < 240) ∨ (240 ≤ c ∧ c < 248) ∨ 248 ≤ c := by omega
  rcases hc with hc | hc | hc | hc | hc | hc
  all_goals
    first
      | have e : sz c = 1 := by unfold sz; rw [if_pos (by omega)]
      | have e : sz c = 2 := by unfold sz; rw [if_neg (by omega), if_pos (by omega)]
      | have e : sz c = 3 := by unfold sz; rw [if_neg (by omega), if_neg (by omega), if_pos (by omega)]
      | have e : sz c = 4 := by unfold sz; rw [if_neg (by omega), if_neg (by omega), if_neg (by omega), if_pos (by omega)]
      | have e : sz c = 0 := by unfold sz; rw [if_neg (by omega), if_neg (by omega), if_neg (by omega), if_neg (by omega)]
    rw [e]
    clear e
    go_enter Tryz.func140, Tryz.ntmps140
    go_wp2
    go_ret
    exact ⟨rfl, rfl⟩

theorem ret_bool {a b : Bool} (h : a = b) : Ending.returned (.bool a) = .returned (.bool b) := by rw [h]
/-- Is a number a character's? -/
def isPt (p : Int) : Bool := decide (0 ≤ p ∧ p ≤ 1114111 ∧ (p < 55296 ∨ 57343 < p))
theorem isPoint_any (p : Int) (w : World) : Calls Tryz.prog 141 #[.int .i64 p] w fun e w' => e = .returned (.bool (isPt p)) ∧ w' = w := by
  have hc : p < 0 ∨ 1114111 < p ∨ (0 ≤ p ∧ p < 55296) ∨ (55296 ≤ p ∧ p ≤ 57343) ∨ (57343 < p ∧ p ≤ 1114111) := by omega
  rcases hc with hc | hc | hc | hc | hc
  all_goals
    first
      | have e : isPt p = true := by unfold isPt; rw [decide_eq_true_eq]; omega
      | have e : isPt p = false := by unfold isPt; rw [decide_eq_false_iff_not]; omega
    rw [e]
    clear e
    go_enter Tryz.func141, Tryz.ntmps141
    go_wp2
    go_ret
    first
      | exact ⟨rfl, rfl⟩
      | exact ⟨ret_bool (by rw [decide_eq_false (by omega), decide_eq_false (by omega)]; rfl), rfl⟩
/-- A character's bytes lie in a new block. -/
theorem Bytes_any (p : Int) (w : World) (hp : isPt p = true) : Calls Tryz.prog 126 #[.int .i64 p] w fun e w' =>
    e = .returned (.slice (some ⟨w.heap.size, 0, none⟩) (Lib.runeCells p).length (Lib.runeCells p).length) ∧ w' = w.alloc (.cells (Lib.runeCells p).toArray 5) := by
  unfold isPt at hp
  rw [decide_eq_true_eq] at hp
  have hc : (0 ≤ p ∧ p < 128) ∨ (128 ≤ p ∧ p < 2048) ∨ (2048 ≤ p ∧ p < 65536) ∨ 65536 ≤ p := by omega
  rcases hc with hc | hc | hc | hc
  · have e : Lib.runeCells p = [.int .u8 p] := by unfold Lib.runeCells; rw [Lib.encodeRuneZ_one (by omega) (by omega)]; rfl
    rw [e]
    clear e
    go_enter Tryz.func126, Tryz.ntmps126
    go_wp2
    go_ret
    exact ⟨rfl, rfl⟩
  · have e : Lib.runeCells p = [.int .u8 (192 + p / 64), .int .u8 (128 + p % 64)] := by unfold Lib.runeCells; rw [Lib.encodeRuneZ_two (by omega) (by omega)]; rfl
    rw [e]
    clear e
    go_enter Tryz.func126, Tryz.ntmps126
    go_wp2
    go_ret
    exact ⟨rfl, rfl⟩
  · have e : Lib.runeCells p = [.int .u8 (224 + p / 4096), .int .u8 (128 + p / 64 % 64), .int .u8 (128 + p % 64)] := by unfold Lib.runeCells; rw [Lib.encodeRuneZ_three (by omega)]; rfl
    rw [e]
    clear e
    go_enter Tryz.func126, Tryz.ntmps126
    go_wp2
    go_ret
    exact ⟨rfl, rfl⟩
  · have e : Lib.runeCells p = [.int .u8 (240 + p / 262144), .int .u8 (128 + p / 4096 % 64), .int .u8 (128 + p / 64 % 64), .int .u8 (128 + p % 64)] := by unfold Lib.runeCells; rw [Lib.encodeRuneZ_four (by omega) (by omega)]; rfl
    rw [e]
    clear e
    go_enter Tryz.func126, Tryz.ntmps126
    go_wp2
    go_ret
    exact ⟨rfl, rfl⟩
end RefW
end Go.Proofs.YtiakidomcjpdhaaGreatDoor

namespace Go.Proofs.YtiakidomcjpdhaaGreatDoor
open Go.RowKit
namespace RefW

/-- The first place at which a number is none of a character's; -1: none. -/
def badPt : List Int → Nat → Int
  | [], _ => -1
  | z :: r, k => if isPt z then badPt r (k + 1) else k
theorem badAt_sound (s : ByteArray) (pos : Nat) (hp : pos < s.size) (h : badAt s pos = -1) : noChar s pos = false := by
  cases hn : noChar s pos with
  | false => rfl
  | true => rw [badAt_hit s pos hp hn] at h; omega
theorem isPt_bd {p : Int} (h : isPt p = true) : 0 ≤ p ∧ p ≤ 1114111 := by
  unfold isPt at h
  rw [decide_eq_true_eq] at h
  omega

/-! The model's encoding of a character is the list of its bytes. -/
theorem u8_of (x : Int) (m : Nat) (h : x.toNat = m) : x.toNat.toUInt8 = UInt8.ofNat m := by rw [h]
theorem encode_eq (r : Int) (h : isPt r = true) : Utf8.encode r = ⟨(Lib.encodeRune r).toArray⟩ := by
  have hv : Utf8.valid r = true := by
    unfold isPt at h
    rw [decide_eq_true_eq] at h
    unfold Utf8.valid
    simp only [Bool.or_eq_true, Bool.and_eq_true, decide_eq_true_eq]
    omega
  unfold isPt at h
  rw [decide_eq_true_eq] at h
  unfold Utf8.encode Lib.encodeRune
  simp only [hv, if_true]
  rcases (show (0 ≤ r ∧ r < 128) ∨ (128 ≤ r ∧ r < 2048) ∨ (2048 ≤ r ∧ r < 65536) ∨ 65536 ≤ r by omega) with g | g | g | g
  · rw [if_pos (by omega), Lib.encodeRuneZ_one (by omega) (by omega)]
    rfl
  · rw [if_neg (by omega), if_pos (by omega), Lib.encodeRuneZ_two (by omega) (by omega)]
    simp only [List.map_cons, List.map_nil]
    rw [u8_of (192 + r / 64) (192 + r.toNat / 64) (by omega), u8_of (128 + r % 64) (128 + r.toNat % 64) (by omega)]
  · rw [if_neg (by omega), if_neg (by omega), if_pos (by omega), Lib.encodeRuneZ_three (by omega)]
    simp only [List.map_cons, List.map_nil]
    rw [u8_of (224 + r / 4096) (224 + r.toNat / 4096) (by omega), u8_of (128 + r / 64 % 64) (128 + r.toNat / 64 % 64) (by omega), u8_of (128 + r % 64) (128 + r.toNat % 64) (by omega)]
  · rw [if_neg (by omega), if_neg (by omega), if_neg (by omega), Lib.encodeRuneZ_four (by omega) (by omega)]
    simp only [List.map_cons, List.map_nil]
    rw [u8_of (240 + r / 262144) (240 + r.toNat / 262144) (by omega), u8_of (128 + r / 4096 % 64) (128 + r.toNat / 4096 % 64) (by omega), u8_of (128 + r / 64 % 64) (128 + r.toNat / 64 % 64) (by omega), u8_of (128 + r % 64) (128 + r.toNat % 64) (by omega)]
theorem runes_fold : ∀ (zs : List Int) (k : Nat) (acc : List UInt8), badPt zs k = -1 → zs.foldl (fun r n => r ++ Utf8.encode n) (⟨acc.toArray⟩ : ByteArray) = ⟨(acc ++ zs.flatMap Lib.encodeRune).toArray⟩
  | [], _, acc, _ => by simp
  | z :: r, k, acc, h => by
    unfold badPt at h
    cases hz : isPt z with
    | false => rw [hz] at h; simp at h
    | true =>
      rw [hz] at h
      simp only [if_true] at h
      simp only [List.foldl_cons, List.flatMap_cons]
      rw [encode_eq z hz, show (⟨acc.toArray⟩ : ByteArray) ++ ⟨(Lib.encodeRune z).toArray⟩ = ⟨(acc ++ Lib.encodeRune z).toArray⟩ by apply ByteArray.ext; simp [ByteArray.data_append], runes_fold r (k + 1) _ h]
      simp
theorem runes_eq (zs : List Int) (h : badPt zs 0 = -1) : runesBytes zs = ⟨(zs.flatMap Lib.encodeRune).toArray⟩ := by
  have := runes_fold zs 0 [] h
  rw [List.nil_append] at this
  exact this

end RefW
namespace EncW
open RefW
open Go.Lib (decodeN encodeRune encodeRuneZ)

/-- The bytes of some characters. -/
def flat (zs : List Int) : List UInt8 := zs.flatMap encodeRune
/-- The character at the head of some bytes. -/
def decL (l : List UInt8) : Nat × Nat := decodeN l.length (l.getD 0 0).toNat (l.getD 1 0).toNat (l.getD 2 0).toNat (l.getD 3 0).toNat
theorem decode_drop (s : ByteArray) (pos : Nat) : Utf8.decode s pos = decL (s.data.toList.drop pos) := by
  rw [Lib.decode_at]
  unfold decL
  rw [← get_drop s pos 0, ← get_drop s pos 1, ← get_drop s pos 2, ← get_drop s pos 3, List.length_drop, ← Lib.size_eq]
  rfl

theorem u8n (x : Int) (h0 : 0 ≤ x) (h1 : x < 256) : ((x.toNat.toUInt8).toNat : Int) = x := by
  have e : (x.toNat.toUInt8).toNat = x.toNat % 256 := UInt8.toNat_ofNat'
  rw [e]
  omega
theorem enc1 {r : Int} (h0 : 0 ≤ r) (h1 : r < 128) : encodeRune r = [r.toNat.toUInt8] := by unfold encodeRune; rw [Lib.encodeRuneZ_one h0 (by omega)]; rfl
theorem enc2 {r : Int} (h0 : 128 ≤ r) (h1 : r < 2048) : encodeRune r = [(192 + r / 64).toNat.toUInt8, (128 + r % 64).toNat.toUInt8] := by unfold encodeRune; rw [Lib.encodeRuneZ_two h0 (by omega)]; rfl
theorem enc3 {r : Int} (h0 : 2048 ≤ r) (h1 : r < 65536) (h : isPt r = true) : encodeRune r = [(224 + r / 4096).toNat.toUInt8, (128 + r / 64 % 64).toNat.toUInt8, (128 + r % 64).toNat.toUInt8] := by
  unfold isPt at h
  rw [decide_eq_true_eq] at h
  unfold encodeRune; rw [Lib.encodeRuneZ_three (by omega)]; rfl
theorem enc4 {r : Int} (h0 : 65536 ≤ r) (h : isPt r = true) : encodeRune r = [(240 + r / 262144).toNat.toUInt8, (128 + r / 4096 % 64).toNat.toUInt8, (128 + r / 64 % 64).toNat.toUInt8, (128 + r % 64).toNat.toUInt8] := by
  unfold isPt at h
  rw [decide_eq_true_eq] at h
  unfold encodeRune; rw [Lib.encodeRuneZ_four h0 (by omega)]; rfl
theorem pt_cases {r : Int} (h : isPt r = true) : (0 ≤ r ∧ r < 128) ∨ (128 ≤ r ∧ r < 2048) ∨ (2048 ≤ r ∧ r < 65536) ∨ (65536 ≤ r ∧ r ≤ 1114111) := by
  have := isPt_bd h
  omega

/-- A character's bytes, whatever stands behind them, are read as that character. -/
theorem decL_enc (r : Int) (h : isPt r = true) (rest : List UInt8) : decL (encodeRune r ++ rest) = (r.toNat, (encodeRune r).length) := by
  have hq := h
  unfold isPt at hq
  rw [decide_eq_true_eq] at hq
  rcases pt_cases h with g | g | g | g
  · rw [enc1 g.1 g.2]
    have a0 := u8n r (by omega) (by omega)
    unfold decL decodeN
    simp only [List.cons_append, List.nil_append, List.getD_cons_zero, List.length_cons, List.length_nil]
    rw [if_pos (by omega), Prod.mk.injEq]
    omega
  · rw [enc2 g.1 g.2]
    have a0 := u8n (192 + r / 64) (by omega) (by omega)
    have a1 := u8n (128 + r % 64) (by omega) (by omega)
    unfold decL decodeN
    simp only [List.cons_append, List.nil_append, List.getD_cons_zero, List.getD_cons_succ, List.length_cons, List.length_nil]
    rw [if_neg (by omega), if_pos (by omega), if_pos (by omega), Prod.mk.injEq]
    omega
  · rw [enc3 g.1 g.2 h]
    have a0 := u8n (224 + r / 4096) (by omega) (by omega)
    have a1 := u8n (128 + r / 64 % 64) (by omega) (by omega)
    have a2 := u8n (128 + r % 64) (by omega) (by omega)
    unfold decL decodeN
    simp only [List.cons_append, List.nil_append, List.getD_cons_zero, List.getD_cons_succ, List.length_cons, List.length_nil]
    rw [if_neg (by omega), if_neg (by omega), if_pos (by omega), if_pos (by omega), Prod.mk.injEq]
    omega
  · rw [enc4 g.1 h]
    have a0 := u8n (240 + r / 262144) (by omega) (by omega)
    have a1 := u8n (128 + r / 4096 % 64) (by omega) (by omega)
    have a2 := u8n (128 + r / 64 % 64) (by omega) (by omega)
    have a3 := u8n (128 + r % 64) (by omega) (by omega)
    unfold decL decodeN
    simp only [List.cons_append, List.nil_append, List.getD_cons_zero, List.getD_cons_succ, List.length_cons, List.length_nil]
    rw [if_neg (by omega), if_neg (by omega), if_neg (by omega), if_pos (by omega), if_pos (by omega), Prod.mk.injEq]
    omega
theorem enc_len (r : Int) : 1 ≤ (encodeRune r).length := by
  have := (Lib.encodeRuneZ_length r).1
  unfold encodeRune
  rw [List.length_map]
  exact this
theorem enc_char (r : Int) (h : isPt r = true) : (r.toNat, (encodeRune r).length) ≠ (65533, 1) := by
  intro e
  rw [Prod.mk.injEq] at e
  have hq := isPt_bd h
  rcases pt_cases h with g | g | g | g
  · omega
  · rw [enc2 g.1 g.2] at e; simp at e
  · rw [enc3 g.1 g.2 h] at e; simp at e
  · rw [enc4 g.1 h] at e; simp at e

theorem nat_u8 (x : UInt8) (n : Nat) (h : n = x.toNat) : n.toUInt8 = x := by
  subst h
  exact UInt8.ofNat_toNat
/-- Bytes at whose head a character stands whole begin with that character's bytes. -/
theorem decL_back (l : List UInt8) (hl : l ≠ []) (h : decL l ≠ (65533, 1)) : isPt ((decL l).1 : Int) = true ∧ l = encodeRune ((decL l).1 : Int) ++ l.drop (decL l).2 ∧ (encodeRune ((decL l).1 : Int)).length = (decL l).2 := by
  obtain ⟨D, hD⟩ : ∃ D, decL l = D := ⟨_, rfl⟩
  rw [hD] at h ⊢
  have hD0 := hD
  unfold decL decodeN at hD
  have mk : ∀ (r : Nat) (k : Nat) (bs rest : List UInt8), D = (r, k) → isPt (r : Int) = true → encodeRune (r : Int) = bs → l = bs ++ rest → bs.length = k → isPt (D.1 : Int) = true ∧ l = encodeRune (D.1 : Int) ++ l.drop D.2 ∧ (encodeRune (D.1 : Int)).length = D.2 := by
    intro r k bs rest e hp he hl hk
    subst e
    refine ⟨hp, ?_, by rw [he]; exact hk⟩
    show l = encodeRune (r : Int) ++ l.drop k
    rw [he]
    conv => rhs; rw [hl, ← hk, List.drop_left]
    exact hl
  cases l with
  | nil => exact absurd rfl hl
  | cons x0 l1 =>
    have b0 := x0.toNat_lt
    simp only [List.getD_cons_zero, List.getD_cons_succ, List.length_cons] at hD
    split at hD
    · rename_i h1
      refine mk x0.toNat 1 [x0] l1 hD.symm ?_ ?_ rfl rfl
      · unfold isPt; rw [decide_eq_true_eq]; omega
      · rw [enc1 (by omega) (by omega), nat_u8 x0 _ (by omega)]
    · split at hD
      · rename_i h1 h2
        cases l1 with
        | nil => simp at h2
        | cons x1 l2 =>
          simp only [List.getD_cons_zero] at hD h2
          have b1 := x1.toNat_lt
          split at hD
          · rename_i h3
            refine mk _ 2 [x0, x1] l2 hD.symm ?_ ?_ rfl rfl
            · unfold isPt; rw [decide_eq_true_eq]; omega
            · rw [enc2 (by omega) (by omega), nat_u8 x0 _ (by omega), nat_u8 x1 _ (by omega)]
          · exact absurd hD.symm h
      · split at hD
        · rename_i h1 h2 h3
          cases l1 with
          | nil => simp at h3
          | cons x1 l2 =>
            cases l2 with
            | nil => simp at h3
            | cons x2 l3 =>
              simp only [List.getD_cons_zero, List.getD_cons_succ] at hD h3
              have b1 := x1.toNat_lt
              have b2 := x2.toNat_lt
              split at hD
              · rename_i h4
                have hp : isPt ((x0.toNat % 16 * 4096 + x1.toNat % 64 * 64 + x2.toNat % 64 : Nat) : Int) = true := by unfold isPt; rw [decide_eq_true_eq]; omega
                refine mk _ 3 [x0, x1, x2] l3 hD.symm hp ?_ rfl rfl
                rw [enc3 (by omega) (by omega) hp, nat_u8 x0 _ (by omega), nat_u8 x1 _ (by omega), nat_u8 x2 _ (by omega)]
              · exact absurd hD.symm h
        · split at hD
          · rename_i h1 h2 h3 h4
            cases l1 with
            | nil => simp at h4
            | cons x1 l2 =>
              cases l2 with
              | nil => simp at h4
              | cons x2 l3 =>
                cases l3 with
                | nil => simp at h4
                | cons x3 l4 =>
                  simp only [List.getD_cons_zero, List.getD_cons_succ] at hD h4
                  have b1 := x1.toNat_lt
                  have b2 := x2.toNat_lt
                  have b3 := x3.toNat_lt
                  split at hD
                  · rename_i h5
                    have hp : isPt ((x0.toNat % 8 * 262144 + x1.toNat % 64 * 4096 + x2.toNat % 64 * 64 + x3.toNat % 64 : Nat) : Int) = true := by unfold isPt; rw [decide_eq_true_eq]; omega
                    refine mk _ 4 [x0, x1, x2, x3] l4 hD.symm hp ?_ rfl rfl
                    rw [enc4 (by omega) hp, nat_u8 x0 _ (by omega), nat_u8 x1 _ (by omega), nat_u8 x2 _ (by omega), nat_u8 x3 _ (by omega)]
                  · exact absurd hD.symm h
          · exact absurd hD.symm h
/-- The bytes of some numbers. -/
def flatN (xs : List Nat) : List UInt8 := flat (xs.map fun (n : Nat) => (n : Int))
def AllPt (xs : List Nat) : Prop := ∀ x ∈ xs, isPt (x : Int) = true
theorem flatN_cons (x : Nat) (xs : List Nat) : flatN (x :: xs) = encodeRune (x : Int) ++ flatN xs := by simp [flatN, flat]
theorem flatN_append (xs ys : List Nat) : flatN (xs ++ ys) = flatN xs ++ flatN ys := by simp [flatN, flat]

theorem noChar_drop (s : ByteArray) (pos : Nat) : noChar s pos = decide (decL (s.data.toList.drop pos) = (65533, 1)) := by
  unfold noChar
  rw [decode_drop]
theorem drop_lt {s : ByteArray} {pos : Nat} {r : Int} {rest : List UInt8} (h : s.data.toList.drop pos = encodeRune r ++ rest) : pos < s.size := by
  have := congrArg List.length h
  rw [List.length_drop, ← Lib.size_eq, List.length_append] at this
  have := enc_len r
  omega
theorem at_enc {s : ByteArray} {pos : Nat} {r : Int} {rest : List UInt8} (hr : isPt r = true) (h : s.data.toList.drop pos = encodeRune r ++ rest) :
    Utf8.decode s pos = (r.toNat, (encodeRune r).length) ∧ noChar s pos = false ∧ s.data.toList.drop (pos + (encodeRune r).length) = rest := by
  refine ⟨?_, ?_, ?_⟩
  · rw [decode_drop, h, decL_enc r hr]
  · rw [noChar_drop, h, decL_enc r hr, decide_eq_false (enc_char r hr)]
  · rw [← List.drop_drop, h, List.drop_left]

/-- Told and read again. -/
theorem flat_read : ∀ (xs : List Nat) (_ : AllPt xs) (s : ByteArray) (pos : Nat), s.data.toList.drop pos = flatN xs → badAt s pos = -1 ∧ ptsAt s pos = xs
  | [], _, s, pos, h => by
    have hp : ¬ pos < s.size := by
      intro hp
      have := congrArg List.length h
      rw [List.length_drop, ← Lib.size_eq] at this
      simp [flatN, flat] at this
      omega
    exact ⟨badAt_end s pos hp, ptsAt_end s pos hp⟩
  | x :: xs, hx, s, pos, h => by
    rw [flatN_cons] at h
    have hr := hx x (by simp)
    have hp := drop_lt h
    obtain ⟨h1, h2, h3⟩ := at_enc hr h
    obtain ⟨i1, i2⟩ := flat_read xs (fun y hy => hx y (by simp [hy])) s _ h3
    have e1 : (Utf8.decode s pos).1 = x := by rw [h1]; simp
    have e2 : (Utf8.decode s pos).2 = (encodeRune (x : Int)).length := by rw [h1]
    refine ⟨?_, ?_⟩
    · rw [badAt_next s pos hp h2, e2]; exact i1
    · rw [ptsAt_next s pos hp, e1, e2, i2]

/-- Read and told again. -/
theorem read_flat : ∀ (n : Nat) (s : ByteArray) (pos : Nat), s.size ≤ pos + n → badAt s pos = -1 → AllPt (ptsAt s pos) ∧ s.data.toList.drop pos = flatN (ptsAt s pos)
  | 0, s, pos, hn, _ => by
    rw [ptsAt_end s pos (by omega), List.drop_of_length_le (by rw [← Lib.size_eq]; omega)]
    exact ⟨fun x hx => by simp at hx, rfl⟩
  | n + 1, s, pos, hn, hb => by
    by_cases hp : pos < s.size
    · have hc := badAt_sound s pos hp hb
      have hw := Lib.decode_width_pos s pos hp
      have hne : s.data.toList.drop pos ≠ [] := by
        intro e
        have := congrArg List.length e
        rw [List.length_drop, ← Lib.size_eq] at this
        simp at this
        omega
      have hc' : decL (s.data.toList.drop pos) ≠ (65533, 1) := by
        rw [noChar_drop, decide_eq_false_iff_not] at hc
        exact hc
      obtain ⟨g1, g2, g3⟩ := decL_back _ hne hc'
      rw [← decode_drop] at g1 g2 g3
      rw [badAt_next s pos hp hc] at hb
      obtain ⟨i1, i2⟩ := read_flat n s _ (by omega) hb
      rw [ptsAt_next s pos hp]
      refine ⟨fun x hx => ?_, ?_⟩
      · rcases List.mem_cons.1 hx with rfl | hx
        · exact g1
        · exact i1 x hx
      · rw [flatN_cons, ← i2, ← List.drop_drop]
        exact g2
    · rw [ptsAt_end s pos hp, List.drop_of_length_le (by rw [← Lib.size_eq]; omega)]
      exact ⟨fun x hx => by simp at hx, rfl⟩
theorem sound_flat (s : ByteArray) (hb : badAt s 0 = -1) : AllPt (ptsAt s 0) ∧ s.data.toList = flatN (ptsAt s 0) := by
  have := read_flat s.size s 0 (by omega) hb
  rw [List.drop_zero] at this
  exact this
theorem bytes_ext {s t : ByteArray} (h : s.data.toList = t.data.toList) : s = t := by
  apply ByteArray.ext
  exact Array.toList_inj.1 h

theorem badPt_all : ∀ (xs : List Nat) (k : Nat), AllPt xs → badPt (xs.map fun (n : Nat) => (n : Int)) k = -1
  | [], _, _ => rfl
  | x :: xs, k, h => by
    simp only [List.map_cons]
    unfold badPt
    rw [h x (by simp), if_pos rfl]
    exact badPt_all xs (k + 1) (fun y hy => h y (by simp [hy]))
theorem all_badPt : ∀ (zs : List Int) (k : Nat), badPt zs k = -1 → ∀ z ∈ zs, isPt z = true
  | [], _, _, z, hz => by simp at hz
  | y :: zs, k, h, z, hz => by
    unfold badPt at h
    cases hy : isPt y with
    | false => rw [hy] at h; simp at h
    | true =>
      rw [hy, if_pos rfl] at h
      rcases List.mem_cons.1 hz with rfl | hz
      · exact hy
      · exact all_badPt zs (k + 1) h z hz
/-- P1.7: a sound text's characters, told, are the text. -/
theorem text_back (s : ByteArray) (hb : badAt s 0 = -1) : badPt ((ptsAt s 0).map fun (n : Nat) => (n : Int)) 0 = -1 ∧ runesBytes ((ptsAt s 0).map fun (n : Nat) => (n : Int)) = s := by
  obtain ⟨h1, h2⟩ := sound_flat s hb
  have h3 := badPt_all (ptsAt s 0) 0 h1
  refine ⟨h3, ?_⟩
  rw [runes_eq _ h3]
  apply bytes_ext
  rw [h2]
  simp [flatN, flat]
/-- P1.7: characters told, read again. -/
theorem back_text (zs : List Int) (h : badPt zs 0 = -1) : badAt (runesBytes zs) 0 = -1 ∧ (ptsAt (runesBytes zs) 0).map (fun (n : Nat) => (n : Int)) = zs := by
  have ha := all_badPt zs 0 h
  have e : (zs.map Int.toNat).map (fun (n : Nat) => (n : Int)) = zs := by
    rw [List.map_map]
    conv => rhs; rw [← List.map_id zs]
    apply List.map_congr_left
    intro z hz
    have := isPt_bd (ha z hz)
    simp only [Function.comp, id]
    omega
  have hall : AllPt (zs.map Int.toNat) := by
    intro x hx
    obtain ⟨z, hz, rfl⟩ := List.mem_map.1 hx
    have hb := isPt_bd (ha z hz)
    rw [show ((z.toNat : Nat) : Int) = z by omega]
    exact ha z hz
  have hd : (runesBytes zs).data.toList.drop 0 = flatN (zs.map Int.toNat) := by
    rw [List.drop_zero, runes_eq zs h]
    unfold flatN flat
    rw [e]
  obtain ⟨i1, i2⟩ := flat_read _ hall _ 0 hd
  exact ⟨i1, by rw [i2]; exact e⟩

end EncW
end Go.Proofs.YtiakidomcjpdhaaGreatDoor
