/- Plain mathematics: characters, texts and numbers that were told are read again as they were. Nothing of the program. -/
import Derived.Test.YtehpdklnebognaaDoorPlnA
import Derived.Test.YtehpdklnebognaaDoorSdp
namespace Go.Proofs.YtehpdklnebognaaDoor
open Go.RowKit
namespace RndW
open RefW EncW SndW PlnW
open Go.Lib (encodeRune)

/-- What stands in a text from a place on. -/
def At (s : ByteArray) (p : Nat) (l : List UInt8) : Prop := s.data.toList.drop p = l
theorem At.step {s : ByteArray} {p : Nat} {a b : List UInt8} (h : At s p (a ++ b)) : At s (p + a.length) b := by
  unfold At at h ⊢
  rw [← List.drop_drop, h, List.drop_left]
theorem At.lt {s : ByteArray} {p : Nat} {c : UInt8} {r : List UInt8} (h : At s p (c :: r)) : p < s.size := by
  have := congrArg List.length h
  rw [List.length_drop, ← Lib.size_eq, List.length_cons] at this
  omega
theorem At.fits {s : ByteArray} {p : Nat} {a r : List UInt8} (h : At s p (a ++ r)) (hp : p ≤ s.size) : p + a.length ≤ s.size := by
  have := congrArg List.length h
  rw [List.length_drop, ← Lib.size_eq, List.length_append] at this
  omega
theorem At.nx {s : ByteArray} {p : Nat} {c : UInt8} {r : List UInt8} (h : At s p (c :: r)) : nx s p = c.toNat := by
  have hl := h.lt
  have := nx_get (s := s) (p := p) (k := 0) (by omega)
  rw [Nat.add_zero] at this
  rw [this, show s.data.toList.drop p = c :: r from h]
  rfl
theorem At.nx_nil {s : ByteArray} {p : Nat} (h : At s p []) : Proofs.YtehpdklnebognaaDoor.nx s p = 0 := by
  apply nx_end
  intro hp
  have := congrArg List.length h
  rw [List.length_drop, ← Lib.size_eq] at this
  simp at this
  omega
/-- The head of some bytes; 0: there is none. -/
def hd : List UInt8 → Nat
  | [] => 0
  | c :: _ => c.toNat
theorem At.hd {s : ByteArray} {p : Nat} {r : List UInt8} (h : At s p r) : Proofs.YtehpdklnebognaaDoor.nx s p = RndW.hd r := by
  cases r with
  | nil => exact h.nx_nil
  | cons c r => exact h.nx

theorem rd_ch {s : ByteArray} {p : Nat} {c : Nat} {r : List UInt8} (hc : isPt (c : Int) = true) (h : At s p (encodeRune (c : Int) ++ r)) : chS s (-1) p = .ok (c, p + (encodeRune (c : Int)).length) := by
  obtain ⟨h1, _, _⟩ := at_enc hc h
  have hl := drop_lt h
  unfold chS
  rw [if_neg (by omega), if_neg (by omega), h1]
  simp
theorem enc_ascii (c : UInt8) (h : c.toNat < 128) : encodeRune ((c.toNat : Nat) : Int) = [c] := by
  rw [enc1 (by omega) (by omega)]
  simp
theorem rd_ascii {s : ByteArray} {p : Nat} {c : UInt8} {r : List UInt8} (hc : c.toNat < 128) (h : At s p (c :: r)) : chS s (-1) p = .ok (c.toNat, p + 1) := by
  have h2 : At s p (encodeRune ((c.toNat : Nat) : Int) ++ r) := by rw [enc_ascii c hc]; exact h
  have := rd_ch (isPt_of _ (by omega)) h2
  rw [enc_ascii c hc] at this
  exact this

/-! Texts. -/
/-- What is put for a character. -/
def escN (c : Nat) : List UInt8 := if c < 128 then escB c.toUInt8 else encodeRune (c : Int)
theorem enc_high {c : Nat} (h : isPt (c : Int) = true) (h1 : 128 ≤ c) : ∀ b ∈ encodeRune (c : Int), 128 ≤ b.toNat := by
  have tn : ∀ x : Int, 128 ≤ x → x < 256 → 128 ≤ (x.toNat.toUInt8).toNat := fun x h0 h1 => by have := u8n x (by omega) h1; omega
  rcases pt_cases h with g | g | g | g
  · omega
  · rw [enc2 (by omega) (by omega)]
    intro b hb
    simp only [List.mem_cons, List.not_mem_nil, or_false] at hb
    rcases hb with rfl | rfl
    · exact tn _ (by omega) (by omega)
    · exact tn _ (by omega) (by omega)
  · rw [enc3 (by omega) (by omega) h]
    intro b hb
    simp only [List.mem_cons, List.not_mem_nil, or_false] at hb
    rcases hb with rfl | rfl | rfl
    · exact tn _ (by omega) (by omega)
    · exact tn _ (by omega) (by omega)
    · exact tn _ (by omega) (by omega)
  · rw [enc4 (by omega) h]
    intro b hb
    simp only [List.mem_cons, List.not_mem_nil, or_false] at hb
    rcases hb with rfl | rfl | rfl | rfl
    · exact tn _ (by omega) (by omega)
    · exact tn _ (by omega) (by omega)
    · exact tn _ (by omega) (by omega)
    · exact tn _ (by omega) (by omega)
theorem escL_high : ∀ l : List UInt8, (∀ b ∈ l, 128 ≤ b.toNat) → escL l = l
  | [], _ => rfl
  | c :: l, h => by
    have h1 := h c (by simp)
    have e : escB c = [c] := by
      unfold escB
      rw [if_neg (by omega), if_neg (by omega), if_neg (by omega), if_neg (by omega), if_neg (by omega), if_neg (by omega), if_neg (by omega)]
    have := escL_high l (fun b hb => h b (by simp [hb]))
    show escB c ++ escL l = _
    rw [e, this]
    rfl
theorem escL_append (a b : List UInt8) : escL (a ++ b) = escL a ++ escL b := by simp [escL]
theorem escL_flat : ∀ cs : List Nat, AllPt cs → escL (flatN cs) = cs.flatMap escN
  | [], _ => rfl
  | c :: cs, h => by
    rw [flatN_cons, escL_append, escL_flat cs (fun x hx => h x (by simp [hx]))]
    simp only [List.flatMap_cons]
    congr 1
    unfold escN
    by_cases hc : c < 128
    · rw [if_pos hc, enc1 (by omega) (by omega)]
      simp [escL]
    · rw [if_neg hc]
      exact escL_high _ (enc_high (h c (by simp)) (by omega))

theorem hexB_nat (k : Nat) (h : k < 16) : (hexB k).toNat = if k < 10 then 48 + k else 87 + k := by
  unfold hexB
  split
  · have : ((48 + k).toUInt8).toNat = (48 + k) % 256 := UInt8.toNat_ofNat'
    omega
  · have : ((87 + k).toUInt8).toNat = (87 + k) % 256 := UInt8.toNat_ofNat'
    omega
theorem hexB_D (k : Nat) (h : k < 16) : hexD (hexB k).toNat = k := by
  rw [hexB_nat k h]
  unfold hexD
  split
  · rw [if_pos (by omega)]; omega
  · rw [if_neg (by omega), if_pos (by omega)]; omega
theorem u8_nat {c : Nat} (h : c < 256) : (c.toUInt8).toNat = c := by
  have : (c.toUInt8).toNat = c % 256 := UInt8.toNat_ofNat'
  omega
theorem rd_hex {s : ByteArray} {p : Nat} {d : UInt8} {r : List UInt8} {k n v : Nat} (hd : d.toNat < 128) (hv : hexD d.toNat = (v : Int)) (h : At s p (d :: r)) : hexF s (-1) (k + 1) n p = hexF s (-1) k (n * 16 + v) (p + 1) := by
  rw [hexF, rd_ascii hd h]
  simp only
  rw [if_neg (by omega), hv]
  rfl
/-- One character, read behind others. -/
theorem rd_one {s : ByteArray} {p f : Nat} {acc : List Nat} {c : Nat} {r : List UInt8} (hc : isPt (c : Int) = true) (h : At s p (escN c ++ r)) : quF s (-1) (f + 1) acc p = quF s (-1) f (acc ++ [c]) (p + (escN c).length) := by
  by_cases h1 : c < 128
  · have hu := u8_nat (show c < 256 by omega)
    have e : escN c = escB c.toUInt8 := by unfold escN; rw [if_pos h1]
    rw [e] at h ⊢
    unfold escB at h ⊢
    rw [hu] at h ⊢
    by_cases k0 : c = 34 ∨ c = 92
    · rw [if_pos k0] at h ⊢
      have a1 := rd_ascii (by decide) h
      have h2 : At s (p + 1) (c.toUInt8 :: r) := At.step (a := [92]) h
      have a2 := rd_ascii (by omega) h2
      rw [quF, a1]
      simp only [show (92 : UInt8).toNat = 92 from rfl]
      rw [if_neg (by omega), if_pos (by trivial), escS, a2, hu]
      simp only [escC]
      rcases k0 with rfl | rfl
      · rfl
      · rfl
    rw [if_neg k0] at h ⊢
    have esc : ∀ (b : UInt8), b.toNat < 128 → At s p ([92, b] ++ r) → escC s (-1) p (p + 1) b.toNat (p + 1 + 1) = .ok (c, p + 1 + 1) → quF s (-1) (f + 1) acc p = quF s (-1) f (acc ++ [c]) (p + [92, b].length) := fun b hb h hE => by
      have a1 := rd_ascii (by decide) h
      have h2 : At s (p + 1) (b :: r) := At.step (a := [92]) h
      have a2 := rd_ascii hb h2
      rw [quF, a1]
      simp only [show (92 : UInt8).toNat = 92 from rfl]
      rw [if_neg (by omega), if_pos (by trivial), escS, a2]
      simp only
      rw [hE]
      rfl
    by_cases k8 : c = 8
    · rw [if_pos k8] at h ⊢; subst k8; exact esc 98 (by decide) h rfl
    rw [if_neg k8] at h ⊢
    by_cases k9 : c = 9
    · rw [if_pos k9] at h ⊢; subst k9; exact esc 116 (by decide) h rfl
    rw [if_neg k9] at h ⊢
    by_cases k10 : c = 10
    · rw [if_pos k10] at h ⊢; subst k10; exact esc 110 (by decide) h rfl
    rw [if_neg k10] at h ⊢
    by_cases k12 : c = 12
    · rw [if_pos k12] at h ⊢; subst k12; exact esc 102 (by decide) h rfl
    rw [if_neg k12] at h ⊢
    by_cases k13 : c = 13
    · rw [if_pos k13] at h ⊢; subst k13; exact esc 114 (by decide) h rfl
    rw [if_neg k13] at h ⊢
    by_cases k32 : c < 32
    · rw [if_pos k32] at h ⊢
      have a1 := rd_ascii (by decide) h
      have h2 : At s (p + 1) (117 :: 48 :: 48 :: hexB (c / 16) :: hexB (c % 16) :: r) := At.step (a := [92]) h
      have a2 := rd_ascii (by decide) h2
      have h3 : At s (p + 1 + 1) (48 :: 48 :: hexB (c / 16) :: hexB (c % 16) :: r) := At.step (a := [117]) h2
      have h4 : At s (p + 1 + 1 + 1) (48 :: hexB (c / 16) :: hexB (c % 16) :: r) := At.step (a := [48]) h3
      have h5 : At s (p + 1 + 1 + 1 + 1) (hexB (c / 16) :: hexB (c % 16) :: r) := At.step (a := [48]) h4
      have h6 : At s (p + 1 + 1 + 1 + 1 + 1) (hexB (c % 16) :: r) := At.step (a := [hexB (c / 16)]) h5
      have n1 := hexB_nat (c / 16) (by omega)
      have n2 := hexB_nat (c % 16) (by omega)
      have hx : hexF s (-1) 4 0 (p + 1 + 1) = .ok (c, p + 1 + 1 + 1 + 1 + 1 + 1) := by
        rw [rd_hex (v := 0) (by decide) (by decide) h3, rd_hex (v := 0) (by decide) (by decide) h4, rd_hex (v := c / 16) (by split at n1 <;> omega) (hexB_D _ (by omega)) h5, rd_hex (v := c % 16) (by split at n2 <;> omega) (hexB_D _ (by omega)) h6, hexF]
        have : ((0 * 16 + 0) * 16 + 0) * 16 + c / 16 = c / 16 := by omega
        rw [this]
        have : c / 16 * 16 + c % 16 = c := by omega
        rw [this]
      rw [quF, a1]
      simp only [show (92 : UInt8).toNat = 92 from rfl]
      rw [if_neg (by omega), if_pos (by trivial), escS, a2]
      simp only [show (117 : UInt8).toNat = 117 from rfl, escC]
      rw [if_neg (by omega), if_neg (by omega), if_neg (by omega), if_neg (by omega), if_neg (by omega), if_neg (by omega), if_neg (by omega), if_neg (by omega), if_pos (by trivial), numberedS, hx]
      simp only
      rw [if_pos (by omega)]
      rfl
    · rw [if_neg k32] at h ⊢
      have a1 := rd_ascii (by omega) h
      rw [hu] at a1
      rw [quF, a1]
      simp only
      rw [if_neg (by omega), if_neg (by omega), if_neg k32]
      rfl
  · have e : escN c = encodeRune (c : Int) := by unfold escN; rw [if_neg h1]
    rw [e] at h ⊢
    rw [quF, rd_ch hc h]
    simp only
    rw [if_neg (by omega), if_neg (by omega), if_neg (by omega)]
theorem rd_qu {s : ByteArray} : ∀ (cs : List Nat) {p f : Nat} {acc : List Nat} {r : List UInt8}, AllPt cs → cs.length < f → At s p (cs.flatMap escN ++ 34 :: r) → quF s (-1) f acc p = .ok (acc ++ cs, p + (cs.flatMap escN).length + 1)
  | [], p, f, acc, r, _, hf, h => by
    obtain ⟨f, rfl⟩ : ∃ g, f = g + 1 := ⟨f - 1, by omega⟩
    have a1 := rd_ascii (by decide) (show At s p (34 :: r) from h)
    rw [quF, a1]
    simp
  | c :: cs, p, f, acc, r, hc, hf, h => by
    obtain ⟨f, rfl⟩ : ∃ g, f = g + 1 := ⟨f - 1, by simp at hf; omega⟩
    have h1 : At s p (escN c ++ (cs.flatMap escN ++ 34 :: r)) := by rw [← List.append_assoc]; simpa [List.flatMap_cons] using h
    rw [rd_one (hc c (by simp)) h1, rd_qu cs (fun x hx => hc x (by simp [hx])) (by simpa using hf) (At.step h1)]
    simp only [List.flatMap_cons, List.length_append, List.append_assoc, List.cons_append, List.nil_append]
    congr 2
    omega
theorem escN_len (c : Nat) : 1 ≤ (escN c).length := by
  unfold escN
  split
  · exact (escB_len _).1
  · exact enc_len _
theorem esc_len : ∀ cs : List Nat, cs.length ≤ (cs.flatMap escN).length
  | [] => by simp
  | c :: cs => by
    have := esc_len cs
    have := escN_len c
    simp only [List.flatMap_cons, List.length_append, List.length_cons]
    omega
/-- A sound text, read. -/
theorem rd_quoted {s t : ByteArray} {p : Nat} {r : List UInt8} (ht : badAt t 0 < 0) (hp : p ≤ s.size) (h : At s p (quotedB t ++ r)) : ∃ cs, quotedS s (-1) p = .ok (cs, p + (quotedB t).length) ∧ txt cs = t := by
  have hb : badAt t 0 = -1 := by have := badAt_bd t; omega
  obtain ⟨h1, h2⟩ := sound_flat t hb
  have e : quotedB t = 34 :: ((ptsAt t 0).flatMap escN ++ [34]) := by
    unfold quotedB
    rw [h2, escL_flat _ h1]
    rfl
  have hfit := At.fits h hp
  refine ⟨ptsAt t 0, ?_, (text_back t hb).2⟩
  rw [e] at h hfit ⊢
  have h3 : At s p (34 :: ((ptsAt t 0).flatMap escN ++ 34 :: r)) := by simpa using h
  have h4 : At s (p + 1) ((ptsAt t 0).flatMap escN ++ 34 :: r) := At.step (a := [34]) h3
  unfold quotedS
  rw [if_pos (show nx s p = 34 from h3.nx), rd_qu (ptsAt t 0) h1 (by have := esc_len (ptsAt t 0); simp only [List.length_cons, List.length_append, List.length_nil] at hfit; omega) h4]
  simp
  omega
end RndW
end Go.Proofs.YtehpdklnebognaaDoor
