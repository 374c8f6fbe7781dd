/- A value with nothing in it that its kind does not use. Nothing of the program. Plain mathematics: characters, texts and numbers that were told are read again as they were. Nothing of the program. Plain mathematics: numbers that were told are read again; what stands where a value is told; a text too long is told too long. Nothing of the program. Plain mathematics: a value told as a text, with blanks or without, is read as that value. Nothing of the program. -/
import Derived.Test.YtiakidomcjpdhaaGreatDoorGPlnA
import Derived.Test.YtiakidomcjpdhaaGreatDoorGRefA
namespace Go.Proofs.YtiakidomcjpdhaaGreatDoor
open Go.RowKit
namespace OwnW

mutual
/-- A value, with nothing in what its kind doesn't use. -/
def nrmV : GV → GV
  | .mk k b n t l f => .mk k (if k = 1 then b else false) (if k = 2 then n else 0) (if k = 3 then t else ⟨#[]⟩) (if k = 4 then nrmL l else []) (if k = 5 then nrmF f else [])
def nrmL : List GV → List GV
  | [] => []
  | x :: l => nrmV x :: nrmL l
def nrmF : List (ByteArray × GV) → List (ByteArray × GV)
  | [] => []
  | x :: l => nrmP x :: nrmF l
def nrmP : ByteArray × GV → ByteArray × GV
  | (nm, x) => (nm, nrmV x)
end
theorem nrmL_map : ∀ l : List GV, nrmL l = l.map nrmV
  | [] => by simp [nrmL]
  | x :: l => by simp [nrmL, nrmL_map l]
theorem nrmF_map : ∀ l : List (ByteArray × GV), nrmF l = l.map nrmP
  | [] => by simp [nrmF]
  | x :: l => by simp [nrmF, nrmF_map l]
theorem nrmL_take (l : List GV) (i : Nat) (h : i < l.length) : nrmL (l.take (i + 1)) = nrmL (l.take i) ++ [nrmV l[i]] := by
  rw [nrmL_map, nrmL_map, List.take_succ_eq_append_getElem h, List.map_append]
  rfl
theorem nrmF_take (l : List (ByteArray × GV)) (i : Nat) (h : i < l.length) : nrmF (l.take (i + 1)) = nrmF (l.take i) ++ [nrmP l[i]] := by
  rw [nrmF_map, nrmF_map, List.take_succ_eq_append_getElem h, List.map_append]
  rfl
theorem nrmL_len (l : List GV) : (nrmL l).length = l.length := by rw [nrmL_map]; simp
theorem nrmF_len (l : List (ByteArray × GV)) : (nrmF l).length = l.length := by rw [nrmF_map]; simp
end OwnW
end Go.Proofs.YtiakidomcjpdhaaGreatDoor

namespace Go.Proofs.YtiakidomcjpdhaaGreatDoor
open Go.RowKit
namespace RndW
open RefW EncW SndW PlnW
open Go.Lib (encodeRune)

/-- What stands in a text from a place on. -/
def At (s : ByteArray) (p : Nat) (l : List UInt8) : Prop := s.data.toList.drop p = l
theorem At.step {s : ByteArray} {p : Nat} {a b : List UInt8} (h : At s p (a ++ b)) : At s (p + a.length) b := by
  unfold At at h ⊢
  rw [← List.drop_drop, h, List.drop_left]
theorem At.lt {s : ByteArray} {p : Nat} {c : UInt8} {r : List UInt8} (h : At s p (c :: r)) : p < s.size := by
  have := congrArg List.length h
  rw [List.length_drop, ← Lib.size_eq, List.length_cons] at this
  omega
theorem At.fits {s : ByteArray} {p : Nat} {a r : List UInt8} (h : At s p (a ++ r)) (hp : p ≤ s.size) : p + a.length ≤ s.size := by
  have := congrArg List.length h
  rw [List.length_drop, ← Lib.size_eq, List.length_append] at this
  omega
theorem At.nx {s : ByteArray} {p : Nat} {c : UInt8} {r : List UInt8} (h : At s p (c :: r)) : nx s p = c.toNat := by
  have hl := h.lt
  have := nx_get (s := s) (p := p) (k := 0) (by omega)
  rw [Nat.add_zero] at this
  rw [this, show s.data.toList.drop p = c :: r from h]
  rfl
theorem At.nx_nil {s : ByteArray} {p : Nat} (h : At s p []) : Proofs.YtiakidomcjpdhaaGreatDoor.nx s p = 0 := by
  apply nx_end
  intro hp
  have := congrArg List.length h
  rw [List.length_drop, ← Lib.size_eq] at this
  simp at this
  omega
/-- The head of some bytes; 0: there is none. -/
def hd : List UInt8 → Nat
  | [] => 0
  | c :: _ => c.toNat
theorem At.hd {s : ByteArray} {p : Nat} {r : List UInt8} (h : At s p r) : Proofs.YtiakidomcjpdhaaGreatDoor.nx s p = RndW.hd r := by
  cases r with
  | nil => exact h.nx_nil
  | cons c r => exact h.nx

theorem rd_ch {s : ByteArray} {p : Nat} {c : Nat} {r : List UInt8} (hc : isPt (c : Int) = true) (h : At s p (encodeRune (c : Int) ++ r)) : chS s (-1) p = .ok (c, p + (encodeRune (c : Int)).length) := by
  obtain ⟨h1, _, _⟩ := at_enc hc h
  have hl := drop_lt h
  unfold chS
  rw [if_neg (by omega), if_neg (by omega), h1]
  simp
theorem enc_ascii (c : UInt8) (h : c.toNat < 128) : encodeRune ((c.toNat : Nat) : Int) = [c] := by
  rw [enc1 (by omega) (by omega)]
  simp
theorem rd_ascii {s : ByteArray} {p : Nat} {c : UInt8} {r : List UInt8} (hc : c.toNat < 128) (h : At s p (c :: r)) : chS s (-1) p = .ok (c.toNat, p + 1) := by
  have h2 : At s p (encodeRune ((c.toNat : Nat) : Int) ++ r) := by rw [enc_ascii c hc]; exact h
  have := rd_ch (isPt_of _ (by omega)) h2
  rw [enc_ascii c hc] at this
  exact this

/-! Texts. -/
/-- What is put for a character. -/
def escN (c : Nat) : List UInt8 := if c < 128 then escB c.toUInt8 else encodeRune (c : Int)
theorem enc_high {c : Nat} (h : isPt (c : Int) = true) (h1 : 128 ≤ c) : ∀ b ∈ encodeRune (c : Int), 128 ≤ b.toNat := by
  have tn : ∀ x : Int, 128 ≤ x → x < 256 → 128 ≤ (x.toNat.toUInt8).toNat := fun x h0 h1 => by have := u8n x (by omega) h1; omega
  rcases pt_cases h with g | g | g | g
  · omega
  · rw [enc2 (by omega) (by omega)]
    intro b hb
    simp only [List.mem_cons, List.not_mem_nil, or_false] at hb
    rcases hb with rfl | rfl
    · exact tn _ (by omega) (by omega)
    · exact tn _ (by omega) (by omega)
  · rw [enc3 (by omega) (by omega) h]
    intro b hb
    simp only [List.mem_cons, List.not_mem_nil, or_false] at hb
    rcases hb with rfl | rfl | rfl
    · exact tn _ (by omega) (by omega)
    · exact tn _ (by omega) (by omega)
    · exact tn _ (by omega) (by omega)
  · rw [enc4 (by omega) h]
    intro b hb
    simp only [List.mem_cons, List.not_mem_nil, or_false] at hb
    rcases hb with rfl | rfl | rfl | rfl
    · exact tn _ (by omega) (by omega)
    · exact tn _ (by omega) (by omega)
    · exact tn _ (by omega) (by omega)
    · exact tn _ (by omega) (by omega)
theorem escL_high : ∀ l : List UInt8, (∀ b ∈ l, 128 ≤ b.toNat) → escL l = l
  | [], _ => rfl
  | c :: l, h => by
    have h1 := h c (by simp)
    have e : escB c = [c] := by
      unfold escB
      rw [if_neg (by omega), if_neg (by omega), if_neg (by omega), if_neg (by omega), if_neg (by omega), if_neg (by omega), if_neg (by omega)]
    have := escL_high l (fun b hb => h b (by simp [hb]))
    show escB c ++ escL l = _
    rw [e, this]
    rfl
theorem escL_append (a b : List UInt8) : escL (a ++ b) = escL a ++ escL b := by simp [escL]
theorem escL_flat : ∀ cs : List Nat, AllPt cs → escL (flatN cs) = cs.flatMap escN
  | [], _ => rfl
  | c :: cs, h => by
    rw [flatN_cons, escL_append, escL_flat cs (fun x hx => h x (by simp [hx]))]
    simp only [List.flatMap_cons]
    congr 1
    unfold escN
    by_cases hc : c < 128
    · rw [if_pos hc, enc1 (by omega) (by omega)]
      simp [escL]
    · rw [if_neg hc]
      exact escL_high _ (enc_high (h c (by simp)) (by omega))

theorem hexB_nat (k : Nat) (h : k < 16) : (hexB k).toNat = if k < 10 then 48 + k else 87 + k := by
  unfold hexB
  split
  · have : ((48 + k).toUInt8).toNat = (48 + k) % 256 := UInt8.toNat_ofNat'
    omega
  · have : ((87 + k).toUInt8).toNat = (87 + k) % 256 := UInt8.toNat_ofNat'
    omega
theorem hexB_D (k : Nat) (h : k < 16) : hexD (hexB k).toNat = k := by
  rw [hexB_nat k h]
  unfold hexD
  split
  · rw [if_pos (by omega)]; omega
  · rw [if_neg (by omega), if_pos (by omega)]; omega
theorem u8_nat {c : Nat} (h : c < 256) : (c.toUInt8).toNat = c := by
  have : (c.toUInt8).toNat = c % 256 := UInt8.toNat_ofNat'
  omega
theorem rd_hex {s : ByteArray} {p : Nat} {d : UInt8} {r : List UInt8} {k n v : Nat} (hd : d.toNat < 128) (hv : hexD d.toNat = (v : Int)) (h : At s p (d :: r)) : hexF s (-1) (k + 1) n p = hexF s (-1) k (n * 16 + v) (p + 1) := by
  rw [hexF, rd_ascii hd h]
  simp only
  rw [if_neg (by omega), hv]
  rfl
/-- One character, read behind others. -/
theorem rd_one {s : ByteArray} {p f : Nat} {acc : List Nat} {c : Nat} {r : List UInt8} (hc : isPt (c : Int) = true) (h : At s p (escN c ++ r)) : quF s (-1) (f + 1) acc p = quF s (-1) f (acc ++ [c]) (p + (escN c).length) := by
  by_cases h1 : c < 128
  · have hu := u8_nat (show c < 256 by omega)
    have e : escN c = escB c.toUInt8 := by unfold escN; rw [if_pos h1]
    rw [e] at h ⊢
    unfold escB at h ⊢
    rw [hu] at h ⊢
    by_cases k0 : c = 34 ∨ c = 92
    · rw [if_pos k0] at h ⊢
      have a1 := rd_ascii (by decide) h
      have h2 : At s (p + 1) (c.toUInt8 :: r) := At.step (a := [92]) h
      have a2 := rd_ascii (by omega) h2
      rw [quF, a1]
      simp only [show (92 : UInt8).toNat = 92 from rfl]
      rw [if_neg (by omega), if_pos (by trivial), escS, a2, hu]
      simp only [escC]
      rcases k0 with rfl | rfl
      · rfl
      · rfl
    rw [if_neg k0] at h ⊢
    have esc : ∀ (b : UInt8), b.toNat < 128 → At s p ([92, b] ++ r) → escC s (-1) p (p + 1) b.toNat (p + 1 + 1) = .ok (c, p + 1 + 1) → quF s (-1) (f + 1) acc p = quF s (-1) f (acc ++ [c]) (p + [92, b].length) := fun b hb h hE => by
      have a1 := rd_ascii (by decide) h
      have h2 : At s (p + 1) (b :: r) := At.step (a := [92]) h
      have a2 := rd_ascii hb h2
      rw [quF, a1]
      simp only [show (92 : UInt8).toNat = 92 from rfl]
      rw [if_neg (by omega), if_pos (by trivial), escS, a2]
      simp only
      rw [hE]
      rfl
    by_cases k8 : c = 8
    · rw [if_pos k8] at h ⊢; subst k8; exact esc 98 (by decide) h rfl
    rw [if_neg k8] at h ⊢
    by_cases k9 : c = 9
    · rw [if_pos k9] at h ⊢; subst k9; exact esc 116 (by decide) h rfl
    rw [if_neg k9] at h ⊢
    by_cases k10 : c = 10
    · rw [if_pos k10] at h ⊢; subst k10; exact esc 110 (by decide) h rfl
    rw [if_neg k10] at h ⊢
    by_cases k12 : c = 12
    · rw [if_pos k12] at h ⊢; subst k12; exact esc 102 (by decide) h rfl
    rw [if_neg k12] at h ⊢
    by_cases k13 : c = 13
    · rw [if_pos k13] at h ⊢; subst k13; exact esc 114 (by decide) h rfl
    rw [if_neg k13] at h ⊢
    by_cases k32 : c < 32
    · rw [if_pos k32] at h ⊢
      have a1 := rd_ascii (by decide) h
      have h2 : At s (p + 1) (117 :: 48 :: 48 :: hexB (c / 16) :: hexB (c % 16) :: r) := At.step (a := [92]) h
      have a2 := rd_ascii (by decide) h2
      have h3 : At s (p + 1 + 1) (48 :: 48 :: hexB (c / 16) :: hexB (c % 16) :: r) := At.step (a := [117]) h2
      have h4 : At s (p + 1 + 1 + 1) (48 :: hexB (c / 16) :: hexB (c % 16) :: r) := At.step (a := [48]) h3
      have h5 : At s (p + 1 + 1 + 1 + 1) (hexB (c / 16) :: hexB (c % 16) :: r) := At.step (a := [48]) h4
      have h6 : At s (p + 1 + 1 + 1 + 1 + 1) (hexB (c % 16) :: r) := At.step (a := [hexB (c / 16)]) h5
      have n1 := hexB_nat (c / 16) (by omega)
      have n2 := hexB_nat (c % 16) (by omega)
      have hx : hexF s (-1) 4 0 (p + 1 + 1) = .ok (c, p + 1 + 1 + 1 + 1 + 1 + 1) := by
        rw [rd_hex (v := 0) (by decide) (by decide) h3, rd_hex (v := 0) (by decide) (by decide) h4, rd_hex (v := c / 16) (by split at n1 <;> omega) (hexB_D _ (by omega)) h5, rd_hex (v := c % 16) (by split at n2 <;> omega) (hexB_D _ (by omega)) h6, hexF]
        have : ((0 * 16 + 0) * 16 + 0) * 16 + c / 16 = c / 16 := by omega
        rw [this]
        have : c / 16 * 16 + c % 16 = c := by omega
        rw [this]
      rw [quF, a1]
      simp only [show (92 : UInt8).toNat = 92 from rfl]
      rw [if_neg (by omega), if_pos (by trivial), escS, a2]
      simp only [show (117 : UInt8).toNat = 117 from rfl, escC]
      rw [if_neg (by omega), if_neg (by omega), if_neg (by omega), if_neg (by omega), if_neg (by omega), if_neg (by omega), if_neg (by omega), if_neg (by omega), if_pos (by trivial), numberedS, hx]
      simp only
      rw [if_pos (by omega)]
      rfl
    · rw [if_neg k32] at h ⊢
      have a1 := rd_ascii (by omega) h
      rw [hu] at a1
      rw [quF, a1]
      simp only
      rw [if_neg (by omega), if_neg (by omega), if_neg k32]
      rfl
  · have e : escN c = encodeRune (c : Int) := by unfold escN; rw [if_neg h1]
    rw [e] at h ⊢
    rw [quF, rd_ch hc h]
    simp only
    rw [if_neg (by omega), if_neg (by omega), if_neg (by omega)]
theorem rd_qu {s : ByteArray} : ∀ (cs : List Nat) {p f : Nat} {acc : List Nat} {r : List UInt8}, AllPt cs → cs.length < f → At s p (cs.flatMap escN ++ 34 :: r) → quF s (-1) f acc p = .ok (acc ++ cs, p + (cs.flatMap escN).length + 1)
  | [], p, f, acc, r, _, hf, h => by
    obtain ⟨f, rfl⟩ : ∃ g, f = g + 1 := ⟨f - 1, by omega⟩
    have a1 := rd_ascii (by decide) (show At s p (34 :: r) from h)
    rw [quF, a1]
    simp
  | c :: cs, p, f, acc, r, hc, hf, h => by
    obtain ⟨f, rfl⟩ : ∃ g, f = g + 1 := ⟨f - 1, by simp at hf; omega⟩
    have h1 : At s p (escN c ++ (cs.flatMap escN ++ 34 :: r)) := by rw [← List.append_assoc]; simpa [List.flatMap_cons] using h
    rw [rd_one (hc c (by simp)) h1, rd_qu cs (fun x hx => hc x (by simp [hx])) (by simpa using hf) (At.step h1)]
    simp only [List.flatMap_cons, List.length_append, List.append_assoc, List.cons_append, List.nil_append]
    congr 2
    omega
theorem escN_len (c : Nat) : 1 ≤ (escN c).length := by
  unfold escN
  split
  · exact (escB_len _).1
  · exact enc_len _
theorem esc_len : ∀ cs : List Nat, cs.length ≤ (cs.flatMap escN).length
  | [] => by simp
  | c :: cs => by
    have := esc_len cs
    have := escN_len c
    simp only [List.flatMap_cons, List.length_append, List.length_cons]
    omega
/-- A sound text, read. -/
theorem rd_quoted {s t : ByteArray} {p : Nat} {r : List UInt8} (ht : badAt t 0 < 0) (hp : p ≤ s.size) (h : At s p (quotedB t ++ r)) : ∃ cs, quotedS s (-1) p = .ok (cs, p + (quotedB t).length) ∧ txt cs = t := by
  have hb : badAt t 0 = -1 := by have := badAt_bd t; omega
  obtain ⟨h1, h2⟩ := sound_flat t hb
  have e : quotedB t = 34 :: ((ptsAt t 0).flatMap escN ++ [34]) := by
    unfold quotedB
    rw [h2, escL_flat _ h1]
    rfl
  have hfit := At.fits h hp
  refine ⟨ptsAt t 0, ?_, (text_back t hb).2⟩
  rw [e] at h hfit ⊢
  have h3 : At s p (34 :: ((ptsAt t 0).flatMap escN ++ 34 :: r)) := by simpa using h
  have h4 : At s (p + 1) ((ptsAt t 0).flatMap escN ++ 34 :: r) := At.step (a := [34]) h3
  unfold quotedS
  rw [if_pos (show nx s p = 34 from h3.nx), rd_qu (ptsAt t 0) h1 (by have := esc_len (ptsAt t 0); simp only [List.length_cons, List.length_append, List.length_nil] at hfit; omega) h4]
  simp
  omega
end RndW
end Go.Proofs.YtiakidomcjpdhaaGreatDoor

namespace Go.Proofs.YtiakidomcjpdhaaGreatDoor
open Go.RowKit
namespace RndW
open RefW EncW SndW PlnW

/-! Numbers. -/
def valD (l : List UInt8) (a : Nat) : Nat := l.foldl (fun a d => a * 10 + (d.toNat - 48)) a
def Digs (l : List UInt8) : Prop := ∀ d ∈ l, 48 ≤ d.toNat ∧ d.toNat ≤ 57
theorem valD_shift : ∀ (l : List UInt8) (a : Nat), valD l a = a * 10 ^ l.length + valD l 0
  | [], a => by simp [valD]
  | d :: l, a => by
    have h1 := valD_shift l (a * 10 + (d.toNat - 48))
    have h2 := valD_shift l (0 * 10 + (d.toNat - 48))
    show valD l (a * 10 + (d.toNat - 48)) = _ + valD l (0 * 10 + (d.toNat - 48))
    rw [h1, h2, List.length_cons, Nat.pow_succ]
    generalize 10 ^ l.length = m
    generalize d.toNat - 48 = e
    rw [Nat.add_mul, Nat.add_mul, Nat.zero_mul, Nat.mul_assoc a 10 m, Nat.mul_comm 10 m]
    omega
theorem valD_ge (l : List UInt8) (a : Nat) : a ≤ valD l a := by
  rw [valD_shift]
  have : 10 ^ 0 ≤ 10 ^ l.length := Nat.pow_le_pow_right (by decide) (Nat.zero_le _)
  have := Nat.mul_le_mul_left a this
  omega
theorem dig_nat (x : Nat) : ((48 + x % 10).toUInt8).toNat = 48 + x % 10 := u8_nat (by omega)
theorem digF_spec : ∀ (f x : Nat) (acc : List UInt8), x < 10 ^ f → (acc = [] → 0 < f) → Digs acc → Digs (digF f x acc) ∧ valD (digF f x acc) 0 = x * 10 ^ acc.length + valD acc 0
  | 0, x, acc, hx, _, hd => by
    have : x = 0 := by simpa using hx
    subst this
    exact ⟨hd, by simp [digF]⟩
  | f + 1, x, acc, hx, he, hd => by
    unfold digF
    split
    · have hD : Digs ((48 + x % 10).toUInt8 :: acc) := by
        intro d hd'
        rcases List.mem_cons.1 hd' with rfl | h
        · rw [dig_nat]; omega
        · exact hd d h
      obtain ⟨h1, h2⟩ := digF_spec f (x / 10) _ (by rw [Nat.pow_succ] at hx; omega) (fun h => by cases h) hD
      refine ⟨h1, ?_⟩
      rw [h2, List.length_cons]
      show _ + valD acc (0 * 10 + (((48 + x % 10).toUInt8).toNat - 48)) = _
      have e3 : 0 * 10 + (48 + x % 10 - 48) = x % 10 := by omega
      rw [dig_nat, e3, valD_shift acc, Nat.pow_succ]
      generalize 10 ^ acc.length = m
      generalize valD acc 0 = z
      have e : x * m = x / 10 * (m * 10) + x % 10 * m := by
        conv => lhs; rw [show x = x / 10 * 10 + x % 10 by omega]
        rw [Nat.add_mul, Nat.mul_assoc, Nat.mul_comm 10 m]
      rw [e]
      omega
    · rename_i h
      have : x = 0 := by omega
      subst this
      exact ⟨hd, by simp⟩
/-- The first digit of a number that isn't 0 isn't 0. -/
theorem digF_head : ∀ (f x : Nat) (acc : List UInt8), 0 < x → x < 10 ^ f → ∃ d r, digF f x acc = d :: r ∧ 49 ≤ d.toNat
  | 0, x, acc, h0, hx => by simp at hx; omega
  | f + 1, x, acc, h0, hx => by
    unfold digF
    rw [if_pos (.inl h0)]
    by_cases h : 0 < x / 10
    · exact digF_head f _ _ h (by rw [Nat.pow_succ] at hx; omega)
    · have e : x / 10 = 0 := by omega
      rw [e]
      refine ⟨(48 + x % 10).toUInt8, acc, ?_, by rw [dig_nat]; omega⟩
      cases f with
      | zero => rfl
      | succ f =>
        unfold digF
        rw [if_neg (by simp)]
theorem isDg_iff (c : Nat) : isDg c = true ↔ 48 ≤ c ∧ c ≤ 57 := by simp [isDg]
theorem rd_dg {s : ByteArray} : ∀ (l : List UInt8) {f n p : Nat} {r : List UInt8}, Digs l → l.length ≤ f → isDg (hd r) = false → valD l n ≤ 9007199254740991 → At s p (l ++ r) → dgF s f n p = (valD l n, p + l.length)
  | [], f, n, p, r, _, hf, hr, hv, h => by
    cases f with
    | zero => rfl
    | succ f =>
      unfold dgF
      rw [show nx s p = hd r from At.hd h, hr]
      rfl
  | d :: l, f, n, p, r, hd', hf, hr, hv, h => by
    obtain ⟨f, rfl⟩ : ∃ g, f = g + 1 := ⟨f - 1, by simp at hf; omega⟩
    have h1 := hd' d (by simp)
    have hnx : nx s p = d.toNat := At.nx (show At s p (d :: (l ++ r)) from h)
    have hv' : valD l (n * 10 + (d.toNat - 48)) ≤ 9007199254740991 := hv
    have hge := valD_ge l (n * 10 + (d.toNat - 48))
    unfold dgF
    rw [hnx, if_pos ((isDg_iff _).2 h1), Nat.min_eq_left (by omega), rd_dg l (fun x hx => hd' x (by simp [hx])) (by simpa using hf) hr hv' (show At s (p + 1) (l ++ r) from At.step (a := [d]) h)]
    simp only [List.length_cons]
    rw [show p + 1 + l.length = p + (l.length + 1) by omega]
    rfl
theorem rd_digits {s : ByteArray} {p N : Nat} {r : List UInt8} (hN : N ≤ 9007199254740991) (hr : isDg (hd r) = false) (hp : p ≤ s.size) (h : At s p (digF 20 N [] ++ r)) : digitsS s p = .ok (N, p + (digF 20 N []).length) := by
  have hb : N < 10 ^ 20 := Nat.lt_of_le_of_lt hN (by decide)
  obtain ⟨h1, h2⟩ := digF_spec 20 N [] hb (fun _ => by decide) (by intro d hd; simp at hd)
  have h2' : valD (digF 20 N []) 0 = N := by rw [h2]; simp [valD]
  have hfit := At.fits h hp
  by_cases h0 : N = 0
  · subst h0
    have e : digF 20 0 [] = [48] := rfl
    rw [e] at h ⊢
    have hnx : nx s p = 48 := At.nx (show At s p (48 :: r) from h)
    unfold digitsS
    rw [hnx, if_pos (by decide), if_pos rfl]
    rfl
  · obtain ⟨d, l, e, hd'⟩ := digF_head 20 N [] (by omega) hb
    have hdd := h1 d (by rw [e]; simp)
    have hnx : nx s p = d.toNat := At.nx (show At s p (d :: (l ++ r)) by rw [e] at h; exact h)
    have hrd := rd_dg (digF 20 N []) (f := s.size - p) (n := 0) h1 (by omega) hr (by rw [h2']; exact hN) h
    unfold digitsS
    rw [hnx, if_pos ((isDg_iff _).2 hdd), if_neg (by omega), hrd, h2']
theorem rd_number {s : ByteArray} {p : Nat} {n : Int} {r : List UInt8} (hn : -9007199254740991 ≤ n ∧ n ≤ 9007199254740991) (hr : isDg (hd r) = false) (hp : p ≤ s.size) (h : At s p (figs n ++ r)) :
    numberS s p = .ok (n, p + (figs n).length) ∧ (hd (figs n ++ r) = 45 ∨ isDg (hd (figs n ++ r)) = true) := by
  unfold figs at h ⊢
  by_cases hneg : n < 0
  · rw [if_pos hneg] at h ⊢
    have hnx : nx s p = 45 := At.nx (show At s p (45 :: (digF 20 n.natAbs [] ++ r)) from h)
    have h1 : At s (p + 1) (digF 20 n.natAbs [] ++ r) := At.step (a := [45]) h
    have hfit := At.fits (a := [45]) h hp
    have := rd_digits (by omega) hr (by simpa using hfit) h1
    refine ⟨?_, .inl rfl⟩
    unfold numberS
    rw [hnx, if_pos rfl, this]
    simp only [List.length_cons]
    rw [if_neg (by omega), if_pos (by trivial), show p + 1 + (digF 20 n.natAbs []).length = p + ((digF 20 n.natAbs []).length + 1) by omega, show -((n.natAbs : Nat) : Int) = n by omega]
  · rw [if_neg hneg] at h ⊢
    have hb : n.natAbs < 10 ^ 20 := Nat.lt_of_le_of_lt (show n.natAbs ≤ 9007199254740991 by omega) (by decide)
    obtain ⟨h1, h2⟩ := digF_spec 20 n.natAbs [] hb (fun _ => by decide) (by intro d hd; simp at hd)
    obtain ⟨d, l, e⟩ : ∃ d l, digF 20 n.natAbs [] = d :: l := by
      by_cases h0 : n.natAbs = 0
      · rw [h0]; exact ⟨48, [], rfl⟩
      · obtain ⟨d, l, e, _⟩ := digF_head 20 n.natAbs [] (by omega) hb
        exact ⟨d, l, e⟩
    have hdd := h1 d (by rw [e]; simp)
    have hhd : hd (digF 20 n.natAbs [] ++ r) = d.toNat := by rw [e]; rfl
    have hnx : nx s p = d.toNat := by rw [← hhd]; exact At.hd h
    have := rd_digits (by omega) hr hp h
    refine ⟨?_, .inr (by rw [hhd]; exact (isDg_iff _).2 hdd)⟩
    unfold numberS
    rw [hnx, if_neg (by omega), this]
    simp only
    rw [if_neg (by omega), if_neg (by omega), show ((n.natAbs : Nat) : Int) = n by omega]

/-! What is told, whole. -/
mutual
/-- A value's text. -/
def txV (g : List UInt8) : GV → List UInt8
  | .mk k bo n t l f =>
    if k = 0 then [110, 117, 108, 108] else if k = 1 then (if bo = true then [116, 114, 117, 101] else [102, 97, 108, 115, 101]) else if k = 2 then figs n else if k = 3 then quotedB t
    else if k = 4 then [91] ++ txL g l true ++ [93] else [123] ++ txF g f true ++ [125]
def txL (g : List UInt8) : List GV → Bool → List UInt8
  | [], _ => []
  | x :: l, first => (if first = true then [] else [44]) ++ g ++ txV g x ++ g ++ txL g l false
def txF (g : List UInt8) : List (ByteArray × GV) → Bool → List UInt8
  | [], _ => []
  | x :: l, first => (if first = true then [] else [44]) ++ g ++ txP g x ++ g ++ txF g l false
def txP (g : List UInt8) : ByteArray × GV → List UInt8
  | (nm, x) => quotedB nm ++ g ++ [58] ++ g ++ txV g x
end
mutual
theorem plT_mono (g : List UInt8) : ∀ (x : GV) (b : List UInt8), b.length ≤ (plT g x b).length
  | .mk k bo n t l f, b => by
    unfold plT
    have h3 := plL_mono g l true (b ++ [91])
    have h4 := plF_mono g f true (b ++ [123])
    simp only [List.length_append, List.length_cons, List.length_nil] at h3 h4
    repeat' split
    all_goals
      (try simp only [List.length_append, List.length_cons, List.length_nil])
      omega
theorem plL_mono (g : List UInt8) : ∀ (l : List GV) (first : Bool) (b : List UInt8), b.length ≤ (plL g l first b).length
  | [], _, b => by simp [plL]
  | x :: l, first, b => by
    unfold plL
    have h1 := plT_mono g x ((if first = true then b else b ++ [44]) ++ g)
    have h2 := plL_mono g l false (plT g x ((if first = true then b else b ++ [44]) ++ g) ++ g)
    have h3 : b.length ≤ (if first = true then b else b ++ [44]).length := by split <;> simp
    simp only [List.length_append] at h1 h2
    omega
theorem plF_mono (g : List UInt8) : ∀ (l : List (ByteArray × GV)) (first : Bool) (b : List UInt8), b.length ≤ (plF g l first b).length
  | [], _, b => by simp [plF]
  | x :: l, first, b => by
    unfold plF
    have h1 := plP_mono g x ((if first = true then b else b ++ [44]) ++ g)
    have h2 := plF_mono g l false (plP g x ((if first = true then b else b ++ [44]) ++ g) ++ g)
    have h3 : b.length ≤ (if first = true then b else b ++ [44]).length := by split <;> simp
    simp only [List.length_append] at h1 h2
    omega
theorem plP_mono (g : List UInt8) : ∀ (x : ByteArray × GV) (b : List UInt8), b.length ≤ (plP g x b).length
  | (nm, x), b => by
    unfold plP
    have h1 := plT_mono g x (b ++ quotedB nm ++ g ++ [58] ++ g)
    simp only [List.length_append] at h1
    omega
end
/-- What an appending teller owes: all of it, or more than may be. -/
def Owes (b out tx : List UInt8) : Prop := (b.length + tx.length ≤ 65536 → out = b ++ tx) ∧ (65536 < b.length + tx.length → 65536 < out.length)
mutual
theorem owesV (g : List UInt8) : ∀ (x : GV) (b : List UInt8), Owes b (plT g x b) (txV g x)
  | .mk k bo n t l f, b => by
    by_cases hl : 65536 < b.length
    · have e : plT g (.mk k bo n t l f) b = b := by unfold plT; rw [if_pos hl]
      rw [e]
      exact ⟨fun h => by omega, fun _ => hl⟩
    · have hL := owesL g l true (b ++ [91])
      have hF := owesF g f true (b ++ [123])
      have lL : (b ++ [91]).length = b.length + 1 := by simp
      have lF : (b ++ [123]).length = b.length + 1 := by simp
      unfold plT txV
      rw [if_neg hl]
      split
      · exact ⟨fun _ => rfl, fun h => by rw [List.length_append]; exact h⟩
      split
      · exact ⟨fun _ => rfl, fun h => by rw [List.length_append]; exact h⟩
      split
      · exact ⟨fun _ => rfl, fun h => by rw [List.length_append]; exact h⟩
      split
      · exact ⟨fun _ => rfl, fun h => by rw [List.length_append]; exact h⟩
      split
      · constructor
        · intro h
          simp only [List.length_append, List.length_cons, List.length_nil] at h
          rw [hL.1 (by omega)]
          simp
        · intro h
          simp only [List.length_append, List.length_cons, List.length_nil] at h ⊢
          by_cases h2 : (b ++ [91]).length + (txL g l true).length ≤ 65536
          · rw [hL.1 h2]
            simp only [List.length_append, List.length_cons, List.length_nil]
            omega
          · have := hL.2 (by omega)
            omega
      · constructor
        · intro h
          simp only [List.length_append, List.length_cons, List.length_nil] at h
          rw [hF.1 (by omega)]
          simp
        · intro h
          simp only [List.length_append, List.length_cons, List.length_nil] at h ⊢
          by_cases h2 : (b ++ [123]).length + (txF g f true).length ≤ 65536
          · rw [hF.1 h2]
            simp only [List.length_append, List.length_cons, List.length_nil]
            omega
          · have := hF.2 (by omega)
            omega
theorem owesL (g : List UInt8) : ∀ (l : List GV) (first : Bool) (b : List UInt8), Owes b (plL g l first b) (txL g l first)
  | [], _, b => by
    unfold plL txL
    exact ⟨fun _ => by simp, fun h => by simpa using h⟩
  | x :: l, first, b => by
    unfold plL txL
    obtain ⟨b1, hb1⟩ : ∃ b1, (if first = true then b else b ++ [44]) ++ g = b1 := ⟨_, rfl⟩
    have e1 : b1 = b ++ ((if first = true then [] else [44]) ++ g) := by rw [← hb1]; split <;> simp
    have l1 := congrArg List.length e1
    rw [hb1]
    have hx := owesV g x b1
    have hm := plL_mono g l false (plT g x b1 ++ g)
    have hr := owesL g l false (plT g x b1 ++ g)
    have hh : ∀ z : List UInt8, (if first = true then ([] : List UInt8) else [44]) ++ g ++ txV g x ++ g ++ z = ((if first = true then [] else [44]) ++ g) ++ txV g x ++ g ++ z := fun z => rfl
    generalize (if first = true then ([] : List UInt8) else [44]) ++ g = hd1 at e1 l1 hh ⊢
    simp only [List.length_append] at l1 hm
    by_cases h1 : b1.length + (txV g x).length ≤ 65536
    · have e2 := hx.1 h1
      rw [e2] at hr hm ⊢
      have l2 : (b1 ++ txV g x ++ g).length = b1.length + (txV g x).length + g.length := by simp only [List.length_append]
      constructor
      · intro h
        simp only [List.length_append] at h
        rw [hr.1 (by omega), e1]
        simp
      · intro h
        simp only [List.length_append] at h
        exact hr.2 (by omega)
    · have h2 := hx.2 (by omega)
      constructor
      · intro h
        simp only [List.length_append] at h
        omega
      · intro _
        omega
theorem owesF (g : List UInt8) : ∀ (l : List (ByteArray × GV)) (first : Bool) (b : List UInt8), Owes b (plF g l first b) (txF g l first)
  | [], _, b => by
    unfold plF txF
    exact ⟨fun _ => by simp, fun h => by simpa using h⟩
  | x :: l, first, b => by
    unfold plF txF
    obtain ⟨b1, hb1⟩ : ∃ b1, (if first = true then b else b ++ [44]) ++ g = b1 := ⟨_, rfl⟩
    have e1 : b1 = b ++ ((if first = true then [] else [44]) ++ g) := by rw [← hb1]; split <;> simp
    have l1 := congrArg List.length e1
    rw [hb1]
    have hx := owesP g x b1
    have hm := plF_mono g l false (plP g x b1 ++ g)
    have hr := owesF g l false (plP g x b1 ++ g)
    generalize (if first = true then ([] : List UInt8) else [44]) ++ g = hd1 at e1 l1 ⊢
    simp only [List.length_append] at l1 hm
    by_cases h1 : b1.length + (txP g x).length ≤ 65536
    · have e2 := hx.1 h1
      rw [e2] at hr hm ⊢
      have l2 : (b1 ++ txP g x ++ g).length = b1.length + (txP g x).length + g.length := by simp only [List.length_append]
      constructor
      · intro h
        simp only [List.length_append] at h
        rw [hr.1 (by omega), e1]
        simp
      · intro h
        simp only [List.length_append] at h
        exact hr.2 (by omega)
    · have h2 := hx.2 (by omega)
      constructor
      · intro h
        simp only [List.length_append] at h
        omega
      · intro _
        omega
theorem owesP (g : List UInt8) : ∀ (x : ByteArray × GV) (b : List UInt8), Owes b (plP g x b) (txP g x)
  | (nm, x), b => by
    have hx := owesV g x (b ++ quotedB nm ++ g ++ [58] ++ g)
    unfold plP txP
    constructor
    · intro h
      simp only [List.length_append, List.length_cons, List.length_nil] at h
      rw [hx.1 (by simp only [List.length_append, List.length_cons, List.length_nil]; omega)]
      simp
    · intro h
      simp only [List.length_append, List.length_cons, List.length_nil] at h
      exact hx.2 (by simp only [List.length_append, List.length_cons, List.length_nil]; omega)
end
end RndW
end Go.Proofs.YtiakidomcjpdhaaGreatDoor

namespace Go.Proofs.YtiakidomcjpdhaaGreatDoor
open Go.RowKit
namespace RndW
open RefW EncW SndW PlnW OwnW

/-! The text is sound. -/
def Okb (l : List UInt8) : Prop := ∃ cs, AllPt cs ∧ l = flatN cs
theorem Okb.nil : Okb [] := ⟨[], by intro x hx; simp at hx, rfl⟩
theorem Okb.append {a b : List UInt8} (ha : Okb a) (hb : Okb b) : Okb (a ++ b) := by
  obtain ⟨ca, h1, rfl⟩ := ha
  obtain ⟨cb, h2, rfl⟩ := hb
  refine ⟨ca ++ cb, fun x hx => ?_, (flatN_append _ _).symm⟩
  rcases List.mem_append.1 hx with h | h
  · exact h1 x h
  · exact h2 x h
theorem Okb.cons {c : UInt8} {l : List UInt8} (h : c.toNat < 128) (hl : Okb l) : Okb (c :: l) := by
  refine Okb.append (a := [c]) ⟨[c.toNat], fun x hx => ?_, ?_⟩ hl
  · rw [List.mem_singleton.1 hx]
    exact isPt_of _ (by omega)
  · rw [flatN_cons, enc_ascii c h]
    rfl
theorem Okb.ascii : ∀ {l : List UInt8}, (∀ c ∈ l, c.toNat < 128) → Okb l
  | [], _ => Okb.nil
  | c :: l, h => Okb.cons (h c (by simp)) (Okb.ascii (fun d hd => h d (by simp [hd])))
theorem escN_ok {c : Nat} (h : isPt (c : Int) = true) : Okb (escN c) := by
  unfold escN
  split
  · rename_i hc
    have hu := u8_nat (show c < 256 by omega)
    apply Okb.ascii
    intro d hd
    unfold escB at hd
    rw [hu] at hd
    have n1 := hexB_nat (c / 16) (by omega)
    have n2 := hexB_nat (c % 16) (by omega)
    repeat' split at hd
    all_goals
      simp only [List.mem_cons, List.not_mem_nil, or_false] at hd
      first
        | (rcases hd with rfl | rfl | rfl | rfl | rfl | rfl <;> first | decide | (split at n1 <;> omega) | (split at n2 <;> omega))
        | (rcases hd with rfl | rfl <;> first | decide | omega)
        | (subst hd; omega)
  · exact ⟨[c], fun x hx => by rw [List.mem_singleton.1 hx]; exact h, by rw [flatN_cons]; simp [flatN, flat]⟩
theorem esc_ok : ∀ {cs : List Nat}, AllPt cs → Okb (cs.flatMap escN)
  | [], _ => Okb.nil
  | c :: cs, h => by
    rw [List.flatMap_cons]
    exact Okb.append (escN_ok (h c (by simp))) (esc_ok (fun x hx => h x (by simp [hx])))
theorem quoted_ok {t : ByteArray} (ht : badAt t 0 < 0) : Okb (quotedB t) := by
  have hb : badAt t 0 = -1 := by have := badAt_bd t; omega
  obtain ⟨h1, h2⟩ := sound_flat t hb
  unfold quotedB
  rw [h2, escL_flat _ h1]
  exact Okb.append (Okb.cons (by decide) (esc_ok h1)) (Okb.cons (by decide) Okb.nil)
theorem figs_ok (n : Int) (hn : -9007199254740991 ≤ n ∧ n ≤ 9007199254740991) : Okb (figs n) := by
  have hb : n.natAbs < 10 ^ 20 := Nat.lt_of_le_of_lt (show n.natAbs ≤ 9007199254740991 by omega) (by decide)
  have h1 := (digF_spec 20 n.natAbs [] hb (fun _ => by decide) (by intro d hd; simp at hd)).1
  have h2 : Okb (digF 20 n.natAbs []) := Okb.ascii (fun c hc => by have := h1 c hc; omega)
  unfold figs
  split
  · exact Okb.cons (by decide) h2
  · exact h2
mutual
theorem okV {g : List UInt8} (hg : Okb g) : ∀ (x : GV) (d : Int), sndV x d = true → Okb (txV g x)
  | .mk k bo n t l f, d, h => by
    unfold txV
    unfold sndV at h
    split
    · exact Okb.ascii (by decide)
    · rename_i k0
      split
      · split <;> exact Okb.ascii (by decide)
      · rename_i k1
        rw [if_neg (by omega)] at h
        split
        · rename_i k2
          rw [if_pos k2] at h
          simp at h
          exact figs_ok n (by omega)
        · rename_i k2
          rw [if_neg k2] at h
          split
          · rename_i k3
            rw [if_pos k3] at h
            exact quoted_ok (of_decide_eq_true h)
          · rename_i k3
            rw [if_neg k3] at h
            split
            · rename_i k4
              rw [if_pos k4] at h
              simp only [Bool.and_eq_true] at h
              exact Okb.append (Okb.append (Okb.ascii (by decide)) (okL hg l true _ h.1)) (Okb.ascii (by decide))
            · rename_i k4
              rw [if_neg k4] at h
              split at h
              · simp only [Bool.and_eq_true] at h
                exact Okb.append (Okb.append (Okb.ascii (by decide)) (okF hg f true _ h.1.1)) (Okb.ascii (by decide))
              · cases h
theorem okL {g : List UInt8} (hg : Okb g) : ∀ (l : List GV) (first : Bool) (d : Int), sndL l d = true → Okb (txL g l first)
  | [], _, d, _ => by unfold txL; exact Okb.nil
  | x :: l, first, d, h => by
    unfold txL
    unfold sndL at h
    simp only [Bool.and_eq_true] at h
    refine Okb.append (Okb.append (Okb.append (Okb.append ?_ hg) (okV hg x d h.1)) hg) (okL hg l false d h.2)
    split <;> exact Okb.ascii (by decide)
theorem okF {g : List UInt8} (hg : Okb g) : ∀ (l : List (ByteArray × GV)) (first : Bool) (d : Int), sndF l d = true → Okb (txF g l first)
  | [], _, d, _ => by unfold txF; exact Okb.nil
  | x :: l, first, d, h => by
    unfold txF
    unfold sndF at h
    simp only [Bool.and_eq_true] at h
    refine Okb.append (Okb.append (Okb.append (Okb.append ?_ hg) (okP hg x d h.1)) hg) (okF hg l false d h.2)
    split <;> exact Okb.ascii (by decide)
theorem okP {g : List UInt8} (hg : Okb g) : ∀ (x : ByteArray × GV) (d : Int), sndP x d = true → Okb (txP g x)
  | (nm, x), d, h => by
    unfold txP
    unfold sndP at h
    simp only [Bool.and_eq_true, decide_eq_true_eq] at h
    exact Okb.append (Okb.append (Okb.append (Okb.append (quoted_ok h.1) hg) (Okb.ascii (by decide))) hg) (okV hg x d h.2)
end

/-! Blanks and heads. -/
def Blanks (g : List UInt8) : Prop := ∀ c ∈ g, isBl c.toNat = true
theorem bl_lt {c : Nat} (h : isBl c = true) : c = 32 ∨ c = 10 ∨ c = 13 ∨ c = 9 := by simpa [isBl, or_assoc] using h
theorem bl_gap {s : ByteArray} : ∀ {g : List UInt8} {p : Nat} {r : List UInt8}, Blanks g → isBl (hd r) = false → At s p (g ++ r) → bl s p = p + g.length
  | [], p, r, _, hr, h => by
    rw [bl_no s p (by rw [show nx s p = hd r from At.hd h]; exact hr)]
    rfl
  | c :: g, p, r, hg, hr, h => by
    have h1 := hg c (by simp)
    have hnx : nx s p = c.toNat := At.nx (show At s p (c :: (g ++ r)) from h)
    rw [bl_yes s p (by rw [hnx]; exact h1), bl_gap (fun d hd => hg d (by simp [hd])) hr (show At s (p + 1) (g ++ r) from At.step (a := [c]) h)]
    simp only [List.length_cons]
    omega
theorem hd_gap {g z : List UInt8} (hg : Blanks g) (hz : isDg (hd z) = false) : isDg (hd (g ++ z)) = false := by
  cases g with
  | nil => exact hz
  | cons c g =>
    have := bl_lt (hg c (by simp))
    show isDg c.toNat = false
    cases h : isDg c.toNat with
    | false => rfl
    | true => rw [isDg_iff] at h; omega
def HdOk (c : Nat) : Prop := c = 110 ∨ c = 116 ∨ c = 102 ∨ c = 45 ∨ (48 ≤ c ∧ c ≤ 57) ∨ c = 34 ∨ c = 91 ∨ c = 123
theorem HdOk.blank {c : Nat} (h : HdOk c) : isBl c = false := by
  cases hb : isBl c with
  | false => rfl
  | true => have := bl_lt hb; unfold HdOk at h; omega
theorem HdOk.ne {c : Nat} (h : HdOk c) : c ≠ 93 ∧ c ≠ 125 ∧ c ≠ 44 := by unfold HdOk at h; omega
def bodyL (g : List UInt8) : List GV → List UInt8
  | [] => []
  | x :: l => txV g x ++ g ++ txL g l false
def bodyF (g : List UInt8) : List (ByteArray × GV) → List UInt8
  | [] => []
  | x :: l => txP g x ++ g ++ txF g l false
theorem txL_true (g : List UInt8) (x : GV) (l : List GV) : txL g (x :: l) true = g ++ bodyL g (x :: l) := by simp [txL, bodyL]
theorem txL_false (g : List UInt8) (x : GV) (l : List GV) : txL g (x :: l) false = [44] ++ g ++ bodyL g (x :: l) := by simp [txL, bodyL]
theorem txF_true (g : List UInt8) (x : ByteArray × GV) (l : List (ByteArray × GV)) : txF g (x :: l) true = g ++ bodyF g (x :: l) := by simp [txF, bodyF]
theorem txF_false (g : List UInt8) (x : ByteArray × GV) (l : List (ByteArray × GV)) : txF g (x :: l) false = [44] ++ g ++ bodyF g (x :: l) := by simp [txF, bodyF]
theorem txV_len (g : List UInt8) (x : GV) : 1 ≤ (txV g x).length := by
  cases x with
  | mk k bo n t l f =>
  unfold txV
  have : 1 ≤ (figs n).length := by
    unfold figs
    split
    · simp
    · have h : 1 ≤ (digF 20 n.natAbs []).length := by
        have : ∀ f x (acc : List UInt8), acc.length ≤ (digF f x acc).length := by
          intro f
          induction f with
          | zero => intro x acc; exact Nat.le_refl _
          | succ f ih =>
            intro x acc
            unfold digF
            split
            · have := ih (x / 10) ((48 + x % 10).toUInt8 :: acc)
              simp only [List.length_cons] at this
              omega
            · exact Nat.le_refl _
        have h2 := this 19 (n.natAbs / 10) [(48 + n.natAbs % 10).toUInt8]
        have e : digF 20 n.natAbs [] = digF 19 (n.natAbs / 10) [(48 + n.natAbs % 10).toUInt8] := by rw [digF, if_pos (.inr rfl)]
        rw [e]
        simpa using h2
      exact h
  repeat' split
  all_goals
    (try simp only [quotedB, List.length_append, List.length_cons, List.length_nil])
    try omega
theorem bodyL_len (g : List UInt8) : ∀ l : List GV, l.length ≤ (bodyL g l).length
  | [] => by simp [bodyL]
  | [x] => by
    have := txV_len g x
    simp only [bodyL, txL, List.length_append, List.length_cons, List.length_nil]
    omega
  | x :: y :: l => by
    have h1 := bodyL_len g (y :: l)
    have h2 := txV_len g x
    rw [bodyL, txL_false]
    simp only [List.length_append, List.length_cons, List.length_nil] at h1 ⊢
    omega
theorem bodyF_len (g : List UInt8) : ∀ l : List (ByteArray × GV), l.length ≤ (bodyF g l).length
  | [] => by simp [bodyF]
  | [(nm, x)] => by
    simp only [bodyF, txP, txF, List.length_append, List.length_cons, List.length_nil]
    omega
  | (nm, x) :: y :: l => by
    have h1 := bodyF_len g (y :: l)
    rw [bodyF, txF_false, txP]
    simp only [List.length_append, List.length_cons, List.length_nil] at h1 ⊢
    omega
theorem rd_word {s : ByteArray} : ∀ (w : List UInt8) {p : Nat} {r : List UInt8}, At s p (w ++ r) → wordS s (w.map (·.toNat)) p = .ok (p + w.length)
  | [], p, r, _ => rfl
  | c :: w, p, r, h => by
    have hnx : nx s p = c.toNat := At.nx (show At s p (c :: (w ++ r)) from h)
    simp only [List.map_cons, wordS]
    rw [if_pos hnx, rd_word w (show At s (p + 1) (w ++ r) from At.step (a := [c]) h)]
    simp only [List.length_cons]
    congr 1
    omega
theorem valS_leaf {s : ByteArray} {p : Nat} {y : GV} {q : Nat} (h : ∀ lst obj, valC s (-1) lst obj p = .ok (y, q)) (k : Nat) : valS s (-1) k p = .ok (y, q) := by
  cases k with
  | zero => unfold valS; exact h _ _
  | succ k => unfold valS; exact h _ _

mutual
theorem rdV {s : ByteArray} {g : List UInt8} (hg : Blanks g) : ∀ (x : GV) (k : Nat) {p : Nat} {r : List UInt8}, sndV x (k : Int) = true → isDg (hd r) = false → p ≤ s.size → At s p (txV g x ++ r) →
    valS s (-1) k p = .ok (nrmV x, p + (txV g x).length) ∧ HdOk (hd (txV g x ++ r))
  | .mk kd bo n t l f, k, p, r, hs, hr, hp, h => by
    unfold sndV at hs
    by_cases k0 : kd = 0
    · have e : txV g (.mk kd bo n t l f) = [110, 117, 108, 108] := by unfold txV; rw [if_pos k0]
      have e2 : nrmV (.mk kd bo n t l f) = .mk 0 false 0 ⟨#[]⟩ [] [] := by subst k0; rfl
      rw [e] at h ⊢
      rw [e2]
      have hnx : nx s p = 110 := At.nx (show At s p (110 :: ([117, 108, 108] ++ r)) from h)
      refine ⟨valS_leaf (fun lst obj => ?_) k, .inl rfl⟩
      have hw := rd_word [110, 117, 108, 108] h
      unfold valC
      rw [if_pos hnx, show [110, 117, 108, 108] = ([110, 117, 108, 108] : List UInt8).map (·.toNat) from rfl, hw]
    by_cases k1 : kd = 1
    · cases bo with
      | true =>
        have e : txV g (.mk kd true n t l f) = [116, 114, 117, 101] := by unfold txV; rw [if_neg k0, if_pos k1, if_pos rfl]
        have e2 : nrmV (.mk kd true n t l f) = .mk 1 true 0 ⟨#[]⟩ [] [] := by subst k1; rfl
        rw [e] at h ⊢
        rw [e2]
        have hnx : nx s p = 116 := At.nx (show At s p (116 :: ([114, 117, 101] ++ r)) from h)
        refine ⟨valS_leaf (fun lst obj => ?_) k, .inr (.inl rfl)⟩
        have hw := rd_word [116, 114, 117, 101] h
        unfold valC
        rw [if_neg (by omega), if_pos hnx, show [116, 114, 117, 101] = ([116, 114, 117, 101] : List UInt8).map (·.toNat) from rfl, hw]
      | false =>
        have e : txV g (.mk kd false n t l f) = [102, 97, 108, 115, 101] := by unfold txV; rw [if_neg k0, if_pos k1, if_neg (by decide)]
        have e2 : nrmV (.mk kd false n t l f) = .mk 1 false 0 ⟨#[]⟩ [] [] := by subst k1; rfl
        rw [e] at h ⊢
        rw [e2]
        have hnx : nx s p = 102 := At.nx (show At s p (102 :: ([97, 108, 115, 101] ++ r)) from h)
        refine ⟨valS_leaf (fun lst obj => ?_) k, .inr (.inr (.inl rfl))⟩
        have hw := rd_word [102, 97, 108, 115, 101] h
        unfold valC
        rw [if_neg (by omega), if_neg (by omega), if_pos hnx, show [102, 97, 108, 115, 101] = ([102, 97, 108, 115, 101] : List UInt8).map (·.toNat) from rfl, hw]
    rw [if_neg (by omega)] at hs
    by_cases k2 : kd = 2
    · rw [if_pos k2] at hs
      have e : txV g (.mk kd bo n t l f) = figs n := by unfold txV; rw [if_neg k0, if_neg k1, if_pos k2]
      have e2 : nrmV (.mk kd bo n t l f) = .mk 2 false n ⟨#[]⟩ [] [] := by subst k2; rfl
      rw [e] at h ⊢
      rw [e2]
      simp at hs
      obtain ⟨h1, h2⟩ := rd_number (by omega) hr hp h
      have hnx : nx s p = hd (figs n ++ r) := At.hd h
      have hd2 : hd (figs n ++ r) = 45 ∨ (48 ≤ hd (figs n ++ r) ∧ hd (figs n ++ r) ≤ 57) := h2.imp id (fun h => (isDg_iff _).1 h)
      refine ⟨valS_leaf (fun lst obj => ?_) k, by unfold HdOk; omega⟩
      unfold valC
      rw [if_neg (by omega), if_neg (by omega), if_neg (by omega), if_neg (by omega), if_neg (by omega), if_neg (by omega), if_pos (by rw [hnx]; exact h2), h1]
    rw [if_neg k2] at hs
    by_cases k3 : kd = 3
    · rw [if_pos k3] at hs
      have e : txV g (.mk kd bo n t l f) = quotedB t := by unfold txV; rw [if_neg k0, if_neg k1, if_neg k2, if_pos k3]
      have e2 : nrmV (.mk kd bo n t l f) = .mk 3 false 0 t [] [] := by subst k3; rfl
      rw [e] at h ⊢
      rw [e2]
      obtain ⟨cs, h1, h2⟩ := rd_quoted (of_decide_eq_true hs) hp h
      have hnx : nx s p = 34 := At.hd h
      refine ⟨valS_leaf (fun lst obj => ?_) k, .inr (.inr (.inr (.inr (.inr (.inl rfl)))))⟩
      unfold valC
      rw [if_neg (by omega), if_neg (by omega), if_neg (by omega), if_pos hnx, h1]
      simp only [h2]
    rw [if_neg k3] at hs
    by_cases k4 : kd = 4
    · rw [if_pos k4] at hs
      simp only [Bool.and_eq_true, decide_eq_true_eq] at hs
      have e : txV g (.mk kd bo n t l f) = [91] ++ txL g l true ++ [93] := by unfold txV; rw [if_neg k0, if_neg k1, if_neg k2, if_neg k3, if_pos k4]
      have e2 : nrmV (.mk kd bo n t l f) = .mk 4 false 0 ⟨#[]⟩ (nrmL l) [] := by subst k4; rfl
      rw [e] at h ⊢
      rw [e2]
      obtain ⟨k, rfl⟩ : ∃ j, k = j + 1 := ⟨k - 1, by omega⟩
      have hs1 : sndL l (k : Int) = true := by have := hs.1; rw [show ((k + 1 : Nat) : Int) - 1 = (k : Int) by omega] at this; exact this
      have h1 : At s p (91 :: (txL g l true ++ 93 :: r)) := by simpa using h
      have hnx : nx s p = 91 := At.nx h1
      have h2 : At s (p + 1) (txL g l true ++ 93 :: r) := At.step (a := [91]) h1
      have hp1 := h1.lt
      refine ⟨?_, .inr (.inr (.inr (.inr (.inr (.inr (.inl rfl))))))⟩
      unfold valS valC
      rw [if_neg (by omega), if_neg (by omega), if_neg (by omega), if_neg (by omega), if_pos hnx]
      have key : bracketS s (oneL (valS s (-1) k)) 93 [] p = .ok (nrmL l, p + ([91] ++ txL g l true ++ [93]).length) := by
        unfold bracketS
        cases l with
        | nil =>
          have h3 : At s (p + 1) ([] ++ 93 :: r) := h2
          have hb := bl_gap (g := []) (by intro c hc; simp at hc) (by rfl) h3
          rw [hb]
          have hn2 : nx s (p + 1 + ([] : List UInt8).length) = 93 := At.nx (show At s (p + 1) (93 :: r) from h2)
          rw [if_pos hn2]
          rfl
        | cons x l =>
          rw [txL_true] at h2 ⊢
          have h3 : At s (p + 1) (g ++ (bodyL g (x :: l) ++ 93 :: r)) := by simpa using h2
          have h4 := At.step h3
          have hfit := At.fits h3 (by omega)
          have hlen : (x :: l).length ≤ s.size + 1 := by
            have hz := At.fits (a := bodyL g (x :: l)) h4 (by omega)
            have := bodyL_len g (x :: l)
            omega
          obtain ⟨i1, i2⟩ := rdL hg (x :: l) k (f := s.size + 1) (st := []) (by simp) hlen hs1 (by omega) h4
          have hb := bl_gap hg i2.blank h3
          rw [hb]
          have hn2 : nx s (p + 1 + g.length) = hd (bodyL g (x :: l) ++ 93 :: r) := At.hd h4
          rw [if_neg (by rw [hn2]; exact i2.ne.1), i1]
          simp only [List.nil_append, List.length_append, List.length_cons, List.length_nil]
          congr 2
          omega
      unfold listS
      rw [key]
    rw [if_neg k4] at hs
    by_cases k5 : kd = 5
    · rw [if_pos k5] at hs
      simp only [Bool.and_eq_true, decide_eq_true_eq] at hs
      have e : txV g (.mk kd bo n t l f) = [123] ++ txF g f true ++ [125] := by unfold txV; rw [if_neg k0, if_neg k1, if_neg k2, if_neg k3, if_neg k4]
      have e2 : nrmV (.mk kd bo n t l f) = .mk 5 false 0 ⟨#[]⟩ [] (nrmF f) := by subst k5; rfl
      rw [e] at h ⊢
      rw [e2]
      obtain ⟨k, rfl⟩ : ∃ j, k = j + 1 := ⟨k - 1, by omega⟩
      have hs1 : sndF f (k : Int) = true := by have := hs.1.1; rw [show ((k + 1 : Nat) : Int) - 1 = (k : Int) by omega] at this; exact this
      have h1 : At s p (123 :: (txF g f true ++ 125 :: r)) := by simpa using h
      have hnx : nx s p = 123 := At.nx h1
      have h2 : At s (p + 1) (txF g f true ++ 125 :: r) := At.step (a := [123]) h1
      have hp1 := h1.lt
      refine ⟨?_, .inr (.inr (.inr (.inr (.inr (.inr (.inr rfl))))))⟩
      unfold valS valC
      rw [if_neg (by omega), if_neg (by omega), if_neg (by omega), if_neg (by omega), if_neg (by omega), if_pos hnx]
      have key : bracketS s (oneF s (-1) (valS s (-1) k)) 125 [] p = .ok (nrmF f, p + ([123] ++ txF g f true ++ [125]).length) := by
        unfold bracketS
        cases f with
        | nil =>
          have h3 : At s (p + 1) ([] ++ 125 :: r) := h2
          have hb := bl_gap (g := []) (by intro c hc; simp at hc) (by rfl) h3
          rw [hb]
          have hn2 : nx s (p + 1 + ([] : List UInt8).length) = 125 := At.nx (show At s (p + 1) (125 :: r) from h2)
          rw [if_pos hn2]
          rfl
        | cons x f =>
          rw [txF_true] at h2 ⊢
          have h3 : At s (p + 1) (g ++ (bodyF g (x :: f) ++ 125 :: r)) := by simpa using h2
          have h4 := At.step h3
          have hfit := At.fits h3 (by omega)
          have hlen : (x :: f).length ≤ s.size + 1 := by
            have hz := At.fits (a := bodyF g (x :: f)) h4 (by omega)
            have := bodyF_len g (x :: f)
            omega
          obtain ⟨i1, i2⟩ := rdF hg (x :: f) k (f := s.size + 1) (st := []) (by simp) hlen hs1 hs.1.2 (by intro y hy; simp at hy) (by omega) h4
          have hb := bl_gap hg i2.blank h3
          rw [hb]
          have hn2 : nx s (p + 1 + g.length) = hd (bodyF g (x :: f) ++ 125 :: r) := At.hd h4
          rw [if_neg (by rw [hn2]; exact i2.ne.2.1), i1]
          simp only [List.nil_append, List.length_append, List.length_cons, List.length_nil]
          congr 2
          omega
      unfold objS
      rw [key]
    · rw [if_neg k5] at hs
      cases hs
theorem rdL {s : ByteArray} {g : List UInt8} (hg : Blanks g) : ∀ (l : List GV) (k : Nat) {f : Nat} {st : List GV} {p : Nat} {r : List UInt8}, l ≠ [] → l.length ≤ f → sndL l (k : Int) = true → p ≤ s.size → At s p (bodyL g l ++ 93 :: r) →
    elemsF s (oneL (valS s (-1) k)) 93 f st p = .ok (st ++ nrmL l, p + (bodyL g l).length + 1) ∧ HdOk (hd (bodyL g l ++ 93 :: r))
  | [], _, _, _, _, _, h, _, _, _, _ => absurd rfl h
  | x :: l, k, f, st, p, r, _, hf, hs, hp, h => by
    obtain ⟨f, rfl⟩ : ∃ j, f = j + 1 := ⟨f - 1, by simp at hf; omega⟩
    unfold sndL at hs
    simp only [Bool.and_eq_true] at hs
    have h1 : At s p (txV g x ++ (g ++ (txL g l false ++ 93 :: r))) := by simpa [bodyL] using h
    have hnd : isDg (hd (txL g l false ++ 93 :: r)) = false := by cases l <;> rfl
    obtain ⟨v1, v2⟩ := rdV hg x k hs.1 (hd_gap hg hnd) hp h1
    have h2 := At.step h1
    have h3 := At.step h2
    have hf1 := At.fits h1 hp
    have hf2 := At.fits h2 hf1
    have hnb : isBl (hd (txL g l false ++ 93 :: r)) = false := by cases l <;> rfl
    have hb := bl_gap hg hnb h2
    refine ⟨?_, by rw [show bodyL g (x :: l) ++ 93 :: r = txV g x ++ (g ++ (txL g l false ++ 93 :: r)) by simp [bodyL]]; exact v2⟩
    rw [elemsF, oneL, v1]
    simp only [hb]
    cases l with
    | nil =>
      have hn : nx s (p + (txV g x).length + g.length) = 93 := At.nx h3
      rw [if_pos hn]
      simp [bodyL, txL, nrmL]
      omega
    | cons y l =>
      rw [txL_false] at h3
      have h4 : At s (p + (txV g x).length + g.length) (44 :: (g ++ (bodyL g (y :: l) ++ 93 :: r))) := by simpa using h3
      have hn : nx s (p + (txV g x).length + g.length) = 44 := At.nx h4
      have h5 : At s (p + (txV g x).length + g.length + 1) (g ++ (bodyL g (y :: l) ++ 93 :: r)) := At.step (a := [44]) h4
      have h6 := At.step h5
      have hl4 := h4.lt
      have hf5 := At.fits h5 hl4
      obtain ⟨i1, i2⟩ := rdL hg (y :: l) k (f := f) (st := st ++ [nrmV x]) (by simp) (by simpa using hf) hs.2 hf5 h6
      rw [if_neg (by omega), if_pos hn, bl_gap hg i2.blank h5, i1]
      have e : bodyL g (x :: y :: l) = txV g x ++ g ++ ([44] ++ g ++ bodyL g (y :: l)) := by rw [bodyL, txL_false]
      rw [e]
      simp only [List.append_assoc, List.length_append, List.length_cons, nrmL, List.cons_append, List.nil_append]
      congr 2
      omega
theorem rdF {s : ByteArray} {g : List UInt8} (hg : Blanks g) : ∀ (l : List (ByteArray × GV)) (k : Nat) {f : Nat} {st : List (ByteArray × GV)} {p : Nat} {r : List UInt8}, l ≠ [] → l.length ≤ f → sndF l (k : Int) = true → (l.map (·.1)).Nodup → (∀ y ∈ st, ∀ z ∈ l, y.1 ≠ z.1) → p ≤ s.size → At s p (bodyF g l ++ 125 :: r) →
    elemsF s (oneF s (-1) (valS s (-1) k)) 125 f st p = .ok (st ++ nrmF l, p + (bodyF g l).length + 1) ∧ HdOk (hd (bodyF g l ++ 125 :: r))
  | [], _, _, _, _, _, h, _, _, _, _, _, _ => absurd rfl h
  | (nm, x) :: l, k, f, st, p, r, _, hf, hs, hnd0, hst, hp, h => by
    obtain ⟨f, rfl⟩ : ∃ j, f = j + 1 := ⟨f - 1, by simp at hf; omega⟩
    unfold sndF at hs
    simp only [Bool.and_eq_true] at hs
    have hsp := hs.1
    unfold sndP at hsp
    simp only [Bool.and_eq_true, decide_eq_true_eq] at hsp
    have h1 : At s p (quotedB nm ++ (g ++ ([58] ++ (g ++ (txV g x ++ (g ++ (txF g l false ++ 125 :: r))))))) := by simpa [bodyF, txP] using h
    obtain ⟨cs, q1, q2⟩ := rd_quoted hsp.1 hp h1
    have h2 := At.step h1
    have hf1 := At.fits h1 hp
    have hb1 := bl_gap hg (by rfl) h2
    have h3 := At.step h2
    have hf2 := At.fits h2 hf1
    have hn3 : nx s (p + (quotedB nm).length + g.length) = 58 := At.nx h3
    have h4 : At s (p + (quotedB nm).length + g.length + 1) (g ++ (txV g x ++ (g ++ (txF g l false ++ 125 :: r)))) := At.step h3
    have hf3 : p + (quotedB nm).length + g.length + 1 ≤ s.size := At.fits h3 hf2
    have h5 := At.step h4
    have hf4 := At.fits h4 hf3
    have hnd : isDg (hd (txF g l false ++ 125 :: r)) = false := by cases l <;> rfl
    have hnb : isBl (hd (txF g l false ++ 125 :: r)) = false := by cases l <;> rfl
    obtain ⟨v1, v2⟩ := rdV hg x k hsp.2 (hd_gap hg hnd) hf4 h5
    have hb2 := bl_gap hg v2.blank h4
    have h6 := At.step h5
    have h7 := At.step h6
    have hf5 := At.fits h5 hf4
    have hf6 := At.fits h6 hf5
    have hb3 := bl_gap hg hnb h6
    have hany : ¬ (st.any (fun y => decide (y.1 = txt cs)) = true) := by
      rw [List.any_eq_true]
      rintro ⟨y, hy, he⟩
      exact hst y hy (nm, x) (by simp) (by rw [q2] at he; simpa using he)
    have hone : oneF s (-1) (valS s (-1) k) st p = .ok (st ++ [(nm, nrmV x)], p + (quotedB nm).length + g.length + 1 + g.length + (txV g x).length) := by
      unfold oneF
      rw [q1]
      simp only
      rw [if_neg hany, hb1, if_pos hn3, hb2, v1]
      simp only [q2]
    have hhd : HdOk (hd (bodyF g ((nm, x) :: l) ++ 125 :: r)) := .inr (.inr (.inr (.inr (.inr (.inl (by simp [bodyF, txP, quotedB, hd]))))))
    refine ⟨?_, hhd⟩
    rw [elemsF, hone]
    simp only [hb3]
    cases l with
    | nil =>
      have hn : nx s (p + (quotedB nm).length + g.length + 1 + g.length + (txV g x).length + g.length) = 125 := At.nx h7
      rw [if_pos hn]
      simp [bodyF, txP, txF, nrmF, nrmP]
      omega
    | cons y l =>
      rw [txF_false] at h7
      have h8 : At s (p + (quotedB nm).length + g.length + 1 + g.length + (txV g x).length + g.length) (44 :: (g ++ (bodyF g (y :: l) ++ 125 :: r))) := by simpa using h7
      have hn : nx s (p + (quotedB nm).length + g.length + 1 + g.length + (txV g x).length + g.length) = 44 := At.nx h8
      have h9 : At s (p + (quotedB nm).length + g.length + 1 + g.length + (txV g x).length + g.length + 1) (g ++ (bodyF g (y :: l) ++ 125 :: r)) := At.step (a := [44]) h8
      have h10 := At.step h9
      have hl8 := h8.lt
      have hf9 := At.fits h9 hl8
      have hnd1 : ((y :: l).map (·.1)).Nodup := by
        rw [List.map_cons, List.nodup_cons] at hnd0
        exact hnd0.2
      have hst1 : ∀ z ∈ st ++ [(nm, nrmV x)], ∀ u ∈ y :: l, z.1 ≠ u.1 := by
        intro z hz u hu
        rcases List.mem_append.1 hz with h | h
        · exact hst z h u (by simp [List.mem_cons.1 hu])
        · rw [List.mem_singleton.1 h]
          intro e
          rw [List.map_cons, List.nodup_cons] at hnd0
          exact hnd0.1 (List.mem_map.2 ⟨u, hu, e.symm⟩)
      obtain ⟨i1, i2⟩ := rdF hg (y :: l) k (f := f) (st := st ++ [(nm, nrmV x)]) (by simp) (by simpa using hf) hs.2 hnd1 hst1 hf9 h10
      rw [if_neg (by omega), if_pos hn, bl_gap hg i2.blank h9, i1]
      have e : bodyF g ((nm, x) :: y :: l) = quotedB nm ++ g ++ [58] ++ g ++ txV g x ++ g ++ ([44] ++ g ++ bodyF g (y :: l)) := by rw [bodyF, txF_false, txP]
      rw [e]
      simp only [List.append_assoc, List.length_append, List.length_cons, nrmF, nrmP, List.cons_append, List.nil_append]
      congr 2
      omega
end
/-- P2.4: a value told as a text, with blanks or without, is read as that value. -/
theorem rd_parse {s : ByteArray} {g : List UInt8} {x : GV} (hg : Blanks g) (hx : sndV x 32 = true) (hs : s.data.toList = g ++ txV g x ++ g) : parseS s = .ok (nrmV x) := by
  have hgo : Okb g := Okb.ascii (fun c hc => by have := bl_lt (hg c hc); omega)
  obtain ⟨cs, c1, c2⟩ := Okb.append (Okb.append hgo (okV hgo x 32 hx)) hgo
  have hbad : badAt s 0 = -1 := (flat_read cs c1 s 0 (by rw [List.drop_zero, hs, c2])).1
  have h0 : At s 0 (g ++ (txV g x ++ g)) := by unfold At; rw [List.drop_zero, hs, List.append_assoc]
  have h1 := At.step h0
  have hf0 := At.fits h0 (Nat.zero_le _)
  have hdg : isDg (hd g) = false := by have := hd_gap (z := []) hg rfl; rwa [List.append_nil] at this
  obtain ⟨v1, v2⟩ := rdV hg x 32 hx hdg hf0 h1
  have hb0 := bl_gap hg v2.blank h0
  have h2 := At.step h1
  have hb2 := bl_gap (r := []) hg rfl (by rw [List.append_nil]; exact h2)
  have hsz : s.size = g.length + (txV g x).length + g.length := by rw [Lib.size_eq, hs]; simp only [List.length_append]
  unfold parseS
  rw [hbad, hb0, v1]
  simp only
  rw [if_neg (by rw [hb2]; omega)]
end RndW
end Go.Proofs.YtiakidomcjpdhaaGreatDoor
