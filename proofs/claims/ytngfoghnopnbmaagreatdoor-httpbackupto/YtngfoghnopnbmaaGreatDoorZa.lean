/- What is written is read as it was: plain mathematics, nothing of the program's memory. -/
import Derived.Test.YtngfoghnopnbmaaGreatDoorVf
namespace Go.Proofs.YtngfoghnopnbmaaGreatDoor
open Go.RowKit
namespace Ht
open Bw

/-! Numerals. -/
theorem dcs {x : Nat} (h : x < 10) : Lib.decDigits x = [UInt8.ofNat (48 + x)] := by rw [Lib.decDigits, dif_pos h]
theorem dcb {x : Nat} (h : ¬ x < 10) : Lib.decDigits x = Lib.decDigits (x / 10) ++ [UInt8.ofNat (48 + x % 10)] := by rw [Lib.decDigits, dif_neg h]
theorem dig_nat (d : Nat) (h : d < 10) : (UInt8.ofNat (48 + d)).toNat = 48 + d := by
  rw [UInt8.toNat_ofNat']
  omega
theorem dig_dg (d : Nat) (h : d < 10) : dgB (UInt8.ofNat (48 + d)) = true := by
  unfold dgB inB
  rw [dig_nat d h]
  simp
  omega
theorem dig_dv (d : Nat) (h : d < 10) : dvN (UInt8.ofNat (48 + d)) = d := by
  unfold dvN
  rw [if_pos (dig_dg d h), dig_nat d h]
  omega
theorem num_snoc (b : Int) (l : List UInt8) (c : UInt8) : numB b (l ++ [c]) = numB b l * b + dvN c := by
  unfold numB
  rw [List.foldl_append]
  rfl
theorem dec_all : ∀ (f n : Nat), n < f → (Lib.decDigits n).all dgB = true ∧ numB 10 (Lib.decDigits n) = n ∧ Lib.decDigits n ≠ [] ∧ ∀ k, 0 < k → n < 10 ^ k → (Lib.decDigits n).length ≤ k
  | 0, n, h => by omega
  | f + 1, n, h => by
    by_cases hn : n < 10
    · rw [dcs hn]
      refine ⟨by rw [List.all_cons, dig_dg n hn]; rfl, ?_, by simp, fun k hk _ => by show 1 ≤ k; omega⟩
      show (0 : Int) * 10 + dvN _ = n
      rw [dig_dv n hn]
      omega
    · obtain ⟨h1, h2, h3, h4⟩ := dec_all f (n / 10) (by omega)
      have hm : n % 10 < 10 := by omega
      rw [dcb hn]
      refine ⟨by rw [List.all_append, h1, List.all_cons, dig_dg _ hm]; rfl, ?_, by simp, fun k hk hlt => ?_⟩
      · rw [num_snoc, h2, dig_dv _ hm]
        omega
      · obtain ⟨k, rfl⟩ : ∃ j, k = j + 1 := ⟨k - 1, by omega⟩
        have hk0 : 0 < k := by
          rcases Nat.eq_zero_or_pos k with h0 | h0
          · subst h0; simp at hlt; omega
          · exact h0
        have := h4 k hk0 (by rw [Nat.pow_succ] at hlt; omega)
        rw [List.length_append, List.length_singleton]
        omega
theorem ito (n : Nat) : Lib.itoa (n : Int) = Lib.decDigits n := by
  unfold Lib.itoa
  rw [if_neg (by omega), Int.toNat_natCast]
theorem ito3 (n : Nat) (h : 100 ≤ n ∧ n ≤ 599) : Lib.itoa (n : Int) = [UInt8.ofNat (48 + n / 100), UInt8.ofNat (48 + n / 10 % 10), UInt8.ofNat (48 + n % 10)] := by
  rw [ito, dcb (by omega), dcb (by omega), dcs (by omega), Nat.div_div_eq_div_mul]
  rfl

/-! Steps. -/
/-- The feed behind so many bytes of a head. -/
def St (m : FM) (n : Nat) (wt : Int) (tx : List UInt8) (g : Msg) : FM := { m with wt := wt, tk := m.tk + n, hd := m.hd + n, tx := tx, g := g }
theorem st_step {m : FM} {n : Nat} {w w' : Int} {tx tx' : List UInt8} {g g' : Msg} {c : UInt8} (hw : w < 12) (hh : m.hd + n < 8192) (ht : ∀ X : FM, X.wt = w → X.ans = m.ans → X.tx = tx → X.g = g → takeM X c = (none, { X with wt := w', tx := tx', g := g' })) (l : List UInt8) : runM (St m n w tx g) (c :: l) = runM (St m (n + 1) w' tx' g') l := by
  have e : nextM (St m n w tx g) c = (none, { St m n w tx g with hd := m.hd + n + 1, wt := w', tx := tx', g := g' }) := by
    unfold nextM
    rw [if_pos (show (St m n w tx g).wt < 12 from hw), if_neg (show ¬ (St m n w tx g).hd = 8192 from fun h => by simp only [St] at h; omega)]
    exact ht _ rfl rfl rfl rfl
  simp only [runM, e]
  congr 1
  simp only [FM.tick, St, Int.natCast_add, Int.natCast_one, Int.add_assoc]
theorem st_keep {m : FM} {w : Int} {g : Msg} (hw : w < 12) : ∀ (l : List UInt8) (n : Nat) (tx : List UInt8), m.hd + n + l.length ≤ 8192 → (∀ (j : Nat) (hj : j < l.length) (X : FM), X.wt = w → X.ans = m.ans → X.tx = tx ++ l.take j → X.g = g → takeM X l[j] = keepM X l[j]) → ∀ r, runM (St m n w tx g) (l ++ r) = runM (St m (n + l.length) w (tx ++ l) g) r
  | [], n, tx, _, _, r => by simp
  | c :: l, n, tx, hh, hk, r => by
    rw [List.length_cons] at hh
    rw [List.cons_append, st_step (w' := w) (tx' := tx ++ [c]) (g' := g) hw (by omega) (fun X h1 h2 h3 h4 => ?_), st_keep hw l (n + 1) (tx ++ [c]) (by omega) (fun j hj X h1 h2 h3 h4 => ?_) r]
    · rw [List.append_assoc, List.singleton_append, List.length_cons, Nat.add_assoc, Nat.add_comm 1]
    · have := hk (j + 1) (by simpa using hj) X h1 h2 (by rw [h3]; simp) h4
      simpa using this
    · have := hk 0 (by simp) X h1 h2 (by rw [h3]; simp) h4
      simp only [List.getElem_cons_zero] at this
      rw [this]
      unfold keepM
      cases X
      simp only at h1 h3 h4
      subst h1 h3 h4
      rfl
theorem at_w {X : FM} {w : Int} (h : X.wt = w) (c : UInt8) : takeM X c = (if w = 1 then tFirst X c else if w = 2 then tMethod X c else if w = 3 then tTarget X c else if w = 4 then tVersion X c
  else if w = 5 then tStatus X c else if w = 6 then tReason X c else if w = 7 then mustM X c 10 8 else if w = 8 then tHeader X c
  else if w = 9 then tName X c else if w = 10 then tValue X c else if w = 11 then tHeadEnd X c else if w = 12 then tBody X c
  else if w = 13 then tDigits X c else if w = 14 then tDigitEnd X c else if w = 15 then tPiece X c else if w = 16 then mustM X c 13 17
  else if w = 17 then mustM X c 10 13 else if w = 18 then mustM X c 13 19 else tClose X c) := by
  subst h
  rfl
/-- A feed that waits for a message's first byte. -/
structure Fresh (m : FM) : Prop where
  w : m.wt = 1
  h : m.hd = 0
  t : m.tx = []
  g : m.g = Msg.zero
theorem Fresh.st {m : FM} (h : Fresh m) : St m 0 1 [] Msg.zero = m := by
  obtain ⟨h1, h2, h3, h4⟩ := h
  cases m
  simp only at h1 h2 h3 h4
  subst h1 h2 h3 h4
  simp [St]
/-- The line's end. -/
theorem st_lf {m : FM} {n : Nat} {g : Msg} (hh : m.hd + n < 8192) (l : List UInt8) : runM (St m n 7 [] g) (10 :: l) = runM (St m (n + 1) 8 [] g) l :=
  st_step (by decide) hh (fun X h1 _ h3 h4 => by
    rw [at_w h1]
    show mustM X 10 10 8 = _
    unfold mustM
    rw [if_pos rfl]
    cases X
    simp only at h1 h3 h4
    subst h1 h3 h4
    rfl) l
/-! A header's line. -/
theorem nm_not : nmB 13 = false ∧ nmB 58 = false ∧ vlB 13 = false ∧ vlB 32 = true := by decide
theorem set_snoc (l : List (ByteArray × ByteArray)) (x : ByteArray × ByteArray) (v : ByteArray) : setLast (l ++ [x]) v = l ++ [(x.1, v)] := by
  unfold setLast
  simp
theorem bar_sp {v : List UInt8} (h : barB v = true) : dropL (dropR (32 :: v)) = v := by
  have hb : dropL (dropR v) = v := by
    unfold barB at h
    simpa using h
  cases v with
  | nil => rfl
  | cons a r =>
    have e : dropR (32 :: a :: r) = 32 :: dropR (a :: r) := by
      unfold dropR
      rw [show (32 :: a :: r).reverse = (a :: r).reverse ++ [32] by simp, List.dropWhile_append]
      split
      · rename_i hd
        exfalso
        have h1 : dropR (a :: r) = [] := by
          unfold dropR
          rw [List.isEmpty_iff] at hd
          rw [hd]
          rfl
        rw [h1] at hb
        simp [dropL] at hb
      · simp
    rw [e]
    unfold dropL at hb ⊢
    rw [List.dropWhile_cons, if_pos (by decide)]
    exact hb
theorem st_line {m : FM} {k : Nat} {g : Msg} (n v : List UInt8) (hn : namB n = true) (hv : v.all vlB = true) (hb : barB v = true) (h64 : g.hs.length < 64) (hh : m.hd + k + (lineM (n, v)).length ≤ 8192) (r : List UInt8) :
    runM (St m k 8 [] g) (lineM (n, v) ++ r) = runM (St m (k + (lineM (n, v)).length) 8 [] { g with hs := g.hs ++ [(⟨n.toArray⟩, ⟨v.toArray⟩)] }) r := by
  unfold namB at hn
  rw [Bool.and_eq_true, decide_eq_true_eq] at hn
  obtain ⟨hn0, hna⟩ := hn
  obtain ⟨c, n, rfl⟩ : ∃ c t, n = c :: t := by
    cases n with
    | nil => exact absurd rfl hn0
    | cons c t => exact ⟨c, t, rfl⟩
  have hl : (lineM (c :: n, v)).length = n.length + v.length + 5 := by
    unfold lineM
    simp only [List.length_append, List.length_cons, List.length_nil]
    omega
  rw [hl] at hh ⊢
  rw [List.all_cons, Bool.and_eq_true] at hna
  have e : lineM (c :: n, v) ++ r = c :: (n ++ (58 :: ((32 :: v) ++ (13 :: 10 :: r)))) := by
    unfold lineM
    simp
  rw [e]
  rw [st_step (w' := 9) (tx' := [c]) (g' := g) (by decide) (by omega) (fun X h1 _ h3 h4 => by
    rw [at_w h1]
    show tHeader X c = _
    unfold tHeader
    rw [if_neg (fun e => by rw [e, nm_not.1] at hna; exact absurd hna.1 (by decide)), if_neg (by rw [h4]; omega)]
    unfold tName
    rw [if_pos hna.1]
    unfold keepM
    cases X
    simp only at h1 h3 h4
    subst h1 h3 h4
    rfl)]
  rw [st_keep (by decide) n (k + 1) [c] (by omega) (fun j hj X h1 _ h3 h4 => by
    rw [at_w h1]
    show tName X _ = _
    unfold tName
    rw [if_pos (List.all_eq_true.1 hna.2 _ (List.getElem_mem _))])]
  rw [st_step (w' := 10) (tx' := []) (g' := { g with hs := g.hs ++ [(⟨(c :: n).toArray⟩, ⟨#[]⟩)] }) (by decide) (by omega) (fun X h1 _ h3 h4 => by
    rw [at_w h1]
    show tName X 58 = _
    unfold tName
    rw [if_neg (by rw [nm_not.2.1]; decide), if_pos ⟨rfl, by rw [h3]; simp⟩]
    cases X
    simp only at h1 h3 h4
    subst h1 h3 h4
    rfl)]
  rw [st_keep (by decide) (32 :: v) (k + 1 + n.length + 1) [] (by rw [List.length_cons]; omega) (fun j hj X h1 _ h3 h4 => by
    rw [at_w h1]
    show tValue X _ = _
    unfold tValue
    rw [if_pos (by
      cases j with
      | zero => exact nm_not.2.2.2
      | succ j => exact List.all_eq_true.1 hv _ (List.getElem_mem _))])]
  rw [List.length_cons]
  rw [st_step (w' := 7) (tx' := []) (g' := { g with hs := g.hs ++ [(⟨(c :: n).toArray⟩, ⟨v.toArray⟩)] }) (by decide) (by omega) (fun X h1 _ h3 h4 => by
    rw [at_w h1]
    show tValue X 13 = _
    unfold tValue
    rw [if_neg (by rw [nm_not.2.2.1]; decide), if_pos rfl]
    cases X
    simp only at h1 h3 h4
    subst h1 h3 h4
    simp only [List.nil_append, bar_sp hb, set_snoc])]
  rw [st_lf (by omega)]
  congr 2
  omega
theorem st_lines {m : FM} : ∀ (hs : List (ByteArray × ByteArray)) (k : Nat) (g : Msg), hs.all hdrB = true → g.hs.length + hs.length ≤ 64 → m.hd + k + (linesM hs).length ≤ 8192 → ∀ r, runM (St m k 8 [] g) (linesM hs ++ r) = runM (St m (k + (linesM hs).length) 8 [] { g with hs := g.hs ++ hs }) r
  | [], k, g, _, _, _, r => by simp [linesM]
  | p :: hs, k, g, ha, hl, hh, r => by
    rw [List.all_cons, Bool.and_eq_true] at ha
    have hp := ha.1
    unfold hdrB at hp
    simp only [Bool.and_eq_true] at hp
    have e : linesM (p :: hs) = lineM (bsL p) ++ linesM hs := by simp [linesM]
    rw [e, List.length_append] at hh
    rw [List.length_cons] at hl
    have key := st_line (m := m) (k := k) (g := g) (bsL p).1 (bsL p).2 hp.1 hp.2.2.1 hp.2.2.2 (by omega) (by show m.hd + k + (lineM (bsL p)).length ≤ 8192; omega) (linesM hs ++ r)
    rw [e, List.append_assoc]
    refine key.trans ?_
    have key2 := st_lines (m := m) hs (k + (lineM (bsL p)).length) { g with hs := g.hs ++ [(⟨(bsL p).1.toArray⟩, ⟨(bsL p).2.toArray⟩)] } ha.2 (by simp; omega) (by omega) r
    refine key2.trans ?_
    have ep : ((⟨(bsL p).1.toArray⟩, ⟨(bsL p).2.toArray⟩) : ByteArray × ByteArray) = p := by simp [bsL]
    rw [ep, List.length_append]
    simp only [List.append_assoc, List.singleton_append]
    congr 2
    omega
/-! The start line. -/
theorem ver_at : ∀ (j : Nat) (h : j < 8), ([72, 84, 84, 80, 47, 49, 46, 49] : List UInt8)[j] = ver.getD j 0 := by decide
theorem ver_at1 : ∀ (j : Nat) (h : j < 7), ([84, 84, 80, 47, 49, 46, 49] : List UInt8)[j] = ver.getD (1 + j) 0 := by decide
theorem gr_not : grB 32 = false ∧ tgB 32 = false ∧ rsB 13 = false ∧ inB 49 53 32 = false ∧ dgB 32 = false := by decide
theorem st_req {m : FM} (hm : Fresh m) (ha : m.ans = false) (me ta : List UInt8) (hme : mthB me = true) (h0 : ta ≠ []) (hl : ta.length ≤ 2048) (hta : ta.all tgB = true) (r : List UInt8) (hh : (me ++ [32] ++ ta ++ [32] ++ verL ++ [13, 10]).length ≤ 8192) :
    runM m ((me ++ [32] ++ ta ++ [32] ++ verL ++ [13, 10]) ++ r) = runM (St m (me ++ [32] ++ ta ++ [32] ++ verL ++ [13, 10]).length 8 [] { Msg.zero with me := ⟨me.toArray⟩, ta := ⟨ta.toArray⟩ }) r := by
  have hd := hm.h
  unfold mthB at hme
  simp only [Bool.and_eq_true, decide_eq_true_eq] at hme
  obtain ⟨hm0, hm16, hma⟩ := hme
  obtain ⟨c, me, rfl⟩ : ∃ c t, me = c :: t := by
    cases me with
    | nil => exact absurd rfl hm0
    | cons c t => exact ⟨c, t, rfl⟩
  have hll : ((c :: me) ++ [32] ++ ta ++ [32] ++ verL ++ [13, 10]).length = me.length + ta.length + 13 := by
    simp only [verL, List.length_append, List.length_cons, List.length_nil]
    omega
  rw [hll] at hh ⊢
  rw [List.all_cons, Bool.and_eq_true] at hma
  rw [List.length_cons] at hm16
  have e : ((c :: me) ++ [32] ++ ta ++ [32] ++ verL ++ [13, 10]) ++ r = c :: (me ++ (32 :: (ta ++ (32 :: (verL ++ (13 :: 10 :: r)))))) := by simp
  rw [e]
  conv => lhs; rw [← hm.st]
  rw [st_step (w' := 2) (tx' := [c]) (g' := Msg.zero) (by decide) (by omega) (fun X h1 h2 h3 h4 => by
    rw [at_w h1]
    show tFirst X c = _
    unfold tFirst
    rw [if_neg (by rw [h2, ha]; decide)]
    unfold tMethod
    rw [if_pos ⟨hma.1, by simp only [h3, List.length_nil]; omega⟩]
    unfold keepM
    cases X
    simp only at h1 h3 h4
    subst h1 h3 h4
    rfl)]
  rw [st_keep (by decide) me (0 + 1) [c] (by omega) (fun j hj X h1 _ h3 h4 => by
    rw [at_w h1]
    show tMethod X _ = _
    unfold tMethod
    rw [if_pos ⟨List.all_eq_true.1 hma.2 _ (List.getElem_mem _), by rw [h3, List.length_append, List.length_take]; simp; omega⟩])]
  rw [st_step (w' := 3) (tx' := []) (g' := { Msg.zero with me := ⟨(c :: me).toArray⟩ }) (by decide) (by omega) (fun X h1 h2 h3 h4 => by
    rw [at_w h1]
    show tMethod X 32 = _
    unfold tMethod
    rw [if_neg (fun h => by rw [gr_not.1] at h; exact absurd h.1 (by decide)), if_pos ⟨rfl, by rw [h3]; simp⟩]
    cases X
    simp only at h1 h3 h4
    subst h1 h3 h4
    rfl)]
  rw [st_keep (by decide) ta (0 + 1 + me.length + 1) [] (by omega) (fun j hj X h1 _ h3 h4 => by
    rw [at_w h1]
    show tTarget X _ = _
    have ht := List.all_eq_true.1 hta _ (List.getElem_mem hj)
    unfold tTarget
    rw [if_neg (fun h => by have := h.2; rw [h3, List.nil_append, List.length_take] at this; omega), if_pos ht])]
  rw [st_step (w' := 4) (tx' := []) (g' := { Msg.zero with me := ⟨(c :: me).toArray⟩, ta := ⟨ta.toArray⟩ }) (by decide) (by omega) (fun X h1 h2 h3 h4 => by
    have hp : 0 < ta.length := List.length_pos_iff.2 h0
    rw [at_w h1]
    show tTarget X 32 = _
    unfold tTarget
    rw [if_neg (fun h => by rw [gr_not.2.1] at h; exact absurd h.1 (by decide)), if_neg (by rw [gr_not.2.1]; decide), if_pos ⟨rfl, by rw [h3]; simpa using hp⟩]
    cases X
    simp only at h1 h3 h4
    subst h1 h3 h4
    rfl)]
  rw [st_keep (by decide) verL (0 + 1 + me.length + 1 + ta.length + 1) [] (by simp only [verL, List.length_cons, List.length_nil]; omega) (fun j hj X h1 _ h3 h4 => by
    have hj8 : j < 8 := hj
    rw [at_w h1]
    show tVersion X _ = _
    have htl : X.tx.length = j := by rw [h3, List.nil_append, List.length_take]; show min j 8 = j; omega
    unfold tVersion
    rw [if_neg (by rw [htl]; omega), if_pos (by rw [htl]; exact ver_at j hj8)])]
  rw [show verL.length = 8 from rfl]
  rw [st_step (w' := 7) (tx' := []) (g' := { Msg.zero with me := ⟨(c :: me).toArray⟩, ta := ⟨ta.toArray⟩ }) (by decide) (by omega) (fun X h1 h2 h3 h4 => by
    rw [at_w h1]
    show tVersion X 13 = _
    have h2' := h2.trans ha
    cases X
    simp only at h1 h2' h3 h4
    subst h1 h2' h3 h4
    rfl)]
  rw [st_lf (by omega)]
  congr 2
  omega
theorem st_ans {m : FM} (hm : Fresh m) (ha : m.ans = true) (n : Nat) (hn : 100 ≤ n ∧ n ≤ 599) (re : List UInt8) (hre : re.all rsB = true) (r : List UInt8) (hh : (verL ++ [32] ++ Lib.itoa (n : Int) ++ [32] ++ re ++ [13, 10]).length ≤ 8192) :
    runM m ((verL ++ [32] ++ Lib.itoa (n : Int) ++ [32] ++ re ++ [13, 10]) ++ r) = runM (St m (verL ++ [32] ++ Lib.itoa (n : Int) ++ [32] ++ re ++ [13, 10]).length 8 [] { Msg.zero with st := n, re := ⟨re.toArray⟩ }) r := by
  have hd := hm.h
  have hnum : numB 10 (Lib.itoa (n : Int)) = n := by rw [ito]; exact (dec_all (n + 1) n (by omega)).2.1
  have hdg := (dec_all (n + 1) n (by omega)).1
  rw [← ito] at hdg
  have h3d := ito3 n hn
  have hl3 : (Lib.itoa (n : Int)).length = 3 := by rw [h3d]; rfl
  obtain ⟨D, hD⟩ : ∃ D, Lib.itoa (n : Int) = D := ⟨_, rfl⟩
  have hD0 : ∀ h : 0 < D.length, inB 49 53 D[0] = true := fun h => by
    subst hD
    simp only [h3d, List.getElem_cons_zero]
    unfold inB
    rw [dig_nat _ (by omega)]
    simp
    omega
  rw [hD] at hnum hdg hl3 hh ⊢
  clear h3d hD
  have hll : (verL ++ [32] ++ D ++ [32] ++ re ++ [13, 10]).length = re.length + 15 := by
    simp only [verL, List.length_append, List.length_cons, List.length_nil, hl3]
    omega
  rw [hll] at hh ⊢
  have e : (verL ++ [32] ++ D ++ [32] ++ re ++ [13, 10]) ++ r = 72 :: ([84, 84, 80, 47, 49, 46, 49] ++ (32 :: (D ++ (32 :: (re ++ (13 :: 10 :: r)))))) := by simp [verL]
  rw [e]
  conv => lhs; rw [← hm.st]
  rw [st_step (w' := 4) (tx' := [72]) (g' := Msg.zero) (by decide) (by omega) (fun X h1 h2 h3 h4 => by
    rw [at_w h1]
    show tFirst X 72 = _
    unfold tFirst
    rw [if_pos (by rw [h2, ha])]
    unfold tVersion
    rw [if_neg (by simp only [h3, List.length_nil]; decide), if_pos (by simp only [h3, List.length_nil]; rfl)]
    unfold keepM
    cases X
    simp only at h1 h3 h4
    subst h1 h3 h4
    rfl)]
  rw [st_keep (by decide) [84, 84, 80, 47, 49, 46, 49] (0 + 1) [72] (by simp only [List.length_cons, List.length_nil]; omega) (fun j hj X h1 _ h3 h4 => by
    have hj7 : j < 7 := hj
    rw [at_w h1]
    show tVersion X _ = _
    have htl : X.tx.length = 1 + j := by rw [h3, List.length_append, List.length_take]; show 1 + min j 7 = 1 + j; omega
    unfold tVersion
    rw [if_neg (by rw [htl]; omega), if_pos (by rw [htl]; exact ver_at1 j hj7)])]
  rw [st_step (w' := 5) (tx' := []) (g' := Msg.zero) (by decide) (by simp only [List.length_cons, List.length_nil]; omega) (fun X h1 h2 h3 h4 => by
    rw [at_w h1]
    show tVersion X 32 = _
    have h2' := h2.trans ha
    cases X
    simp only at h1 h2' h3 h4
    subst h1 h2' h3 h4
    rfl)]
  rw [st_keep (by decide) D _ [] (by simp only [List.length_cons, List.length_nil]; omega) (fun j hj X h1 _ h3 h4 => by
    rw [at_w h1]
    show tStatus X _ = _
    have htl : X.tx.length = j := by rw [h3, List.nil_append, List.length_take]; omega
    unfold tStatus
    rw [if_pos]
    rw [htl]
    cases j with
    | zero => exact .inl ⟨rfl, hD0 hj⟩
    | succ j => exact .inr ⟨by omega, List.all_eq_true.1 hdg _ (List.getElem_mem _)⟩)]
  rw [st_step (w' := 6) (tx' := []) (g' := { Msg.zero with st := n }) (by decide) (by simp only [List.length_cons, List.length_nil]; omega) (fun X h1 h2 h3 h4 => by
    rw [at_w h1]
    show tStatus X 32 = _
    unfold tStatus
    rw [if_neg (fun h => by
      rcases h with h | h
      · rw [gr_not.2.2.2.1] at h; exact absurd h.2 (by decide)
      · rw [gr_not.2.2.2.2] at h; exact absurd h.2 (by decide)), if_pos ⟨by rw [h3]; simpa using hl3, rfl⟩]
    cases X
    simp only at h1 h3 h4
    subst h1 h3 h4
    simp only [hnum])]
  rw [st_keep (by decide) re _ [] (by simp only [List.length_cons, List.length_nil]; omega) (fun j hj X h1 _ h3 h4 => by
    rw [at_w h1]
    show tReason X _ = _
    unfold tReason
    rw [if_pos (List.all_eq_true.1 hre _ (List.getElem_mem hj))])]
  rw [st_step (w' := 7) (tx' := []) (g' := { Msg.zero with st := n, re := ⟨re.toArray⟩ }) (by decide) (by simp only [List.length_cons, List.length_nil]; omega) (fun X h1 h2 h3 h4 => by
    rw [at_w h1]
    show tReason X 13 = _
    unfold tReason
    rw [if_neg (by rw [gr_not.2.2.1]; decide), if_pos rfl]
    cases X
    simp only at h1 h3 h4
    subst h1 h3 h4
    rfl)]
  rw [st_lf (by simp only [List.length_cons, List.length_nil]; omega)]
  congr 2
  simp only [List.length_cons, List.length_nil]
  omega
/-! The head's end, and the body. -/
theorem tell_none {hs : List (ByteArray × ByteArray)} (h : hs.all hdrB = true) : tellers hs = [] := by
  unfold tellers
  rw [List.filter_eq_nil_iff]
  intro p hp
  have := List.all_eq_true.1 h p hp
  unfold hdrB at this
  simp only [Bool.and_eq_true, Bool.not_eq_true'] at this
  simp [this.2.1]
theorem body_len {hs : List (ByteArray × ByteArray)} (h : hs.all hdrB = true) (n : Nat) (hn : n ≤ 65536) : bodyM (hs ++ [(⟨lenL.toArray⟩, ⟨(Lib.itoa (n : Int)).toArray⟩)]) = ((n : Int), false, none) := by
  obtain ⟨d1, d2, d3, d4⟩ := dec_all (n + 1) n (by omega)
  have h5 := d4 5 (by decide) (by omega)
  rw [← ito] at d1 d2 d3 h5
  have e : tellers (hs ++ [(⟨lenL.toArray⟩, ⟨(Lib.itoa (n : Int)).toArray⟩)]) = [(⟨lenL.toArray⟩, ⟨(Lib.itoa (n : Int)).toArray⟩)] := by
    have h0 := tell_none h
    unfold tellers at h0 ⊢
    rw [List.filter_append, h0]
    rfl
  unfold bodyM
  rw [e]
  show bodyOne _ _ = _
  unfold bodyOne
  have hs1 : sameL (⟨lenL.toArray⟩ : ByteArray).data.toList encL = false := by decide
  have hlb : lenB (Lib.itoa (n : Int)) = true := by
    unfold lenB
    simp only [Bool.and_eq_true, decide_eq_true_eq]
    exact ⟨⟨d3, by omega⟩, d1⟩
  rw [if_neg (by rw [hs1]; simp), if_neg (by rw [hs1]; show ¬ (false = true ∨ lenB (Lib.itoa (n : Int)) = false); rw [hlb]; simp), if_neg (by show ¬ 65536 < numB 10 (Lib.itoa (n : Int)); rw [d2]; omega)]
  show (numB 10 (Lib.itoa (n : Int)), false, none) = _
  rw [d2]
theorem run_body : ∀ (l : List UInt8) (m : FM), l ≠ [] → m.wt = 12 → m.lf = l.length → runM m l = (none, { m with g := Msg.zero, hd := 0, wh := m.wh ++ [{ m.g with bo := m.g.bo ++ l }], wt := 1, lf := 0, tk := m.tk + l.length })
  | [], m, h, _, _ => absurd rfl h
  | c :: l, m, _, hw, hl => by
    have e : nextM m c = tBody m c := by
      unfold nextM
      rw [if_neg (by rw [hw]; decide), at_w hw]
      rfl
    by_cases h0 : l = []
    · subst h0
      simp only [List.length_cons, List.length_nil] at hl
      have e2 : tBody m c = (none, finM (addM m c)) := by
        unfold tBody
        rw [if_pos (by rw [hl]; rfl)]
      simp only [runM, e, e2]
      simp only [FM.tick, finM, addM, hl, List.length_cons, List.length_nil]
      rfl
    · have hp : 0 < l.length := List.length_pos_iff.2 h0
      have e2 : tBody m c = (none, addM m c) := by
        unfold tBody
        rw [if_neg (by rw [hl, List.length_cons]; omega)]
      simp only [runM, e, e2]
      rw [run_body l (addM m c).tick h0 (by simp [FM.tick, addM, hw]) (by simp only [FM.tick, addM, hl, List.length_cons]; omega)]
      simp only [FM.tick, addM, List.length_cons, List.append_assoc, List.singleton_append, Int.natCast_add, Int.natCast_one]
      congr 2
      omega
/-- The message as it is read: its length is told. -/
def Msg.told (g : Msg) : Msg := { g with hs := g.hs ++ [(⟨lenL.toArray⟩, ⟨(Lib.itoa (g.bo.length : Int)).toArray⟩)] }
theorem run_end {m : FM} {k : Nat} {g : Msg} (hh : m.hd + k + 2 ≤ 8192) (hs : List (ByteArray × ByteArray)) (ha : hs.all hdrB = true) (bo : List UInt8) (hb : bo.length ≤ 65536) (hg : g.hs = hs ++ [(⟨lenL.toArray⟩, ⟨(Lib.itoa (bo.length : Int)).toArray⟩)]) (h0 : g.bo = []) :
    ∃ m', runM (St m k 8 [] g) (13 :: 10 :: bo) = (none, m') ∧ Fresh m' ∧ m'.ans = m.ans ∧ m'.wh = m.wh ++ [{ g with bo := bo }] := by
  rw [st_step (w' := 11) (tx' := []) (g' := g) (by decide) (by omega) (fun X h1 _ h3 h4 => by
    rw [at_w h1]
    show tHeader X 13 = _
    unfold tHeader
    rw [if_pos rfl]
    cases X
    simp only at h1 h3 h4
    subst h1 h3 h4
    rfl)]
  have hbo : bodyM g.hs = ((bo.length : Int), false, none) := by rw [hg]; exact body_len ha bo.length hb
  have e : nextM (St m (k + 1) 11 [] g) 10 = headM { St m (k + 1) 11 [] g with hd := m.hd + (k + 1 : Nat) + 1 } ((bo.length : Int), false, none) := by
    unfold nextM
    rw [if_pos (show (St m (k + 1) 11 [] g).wt < 12 from (by decide : (11 : Int) < 12)), if_neg (show ¬ (St m (k + 1) 11 [] g).hd = 8192 from fun h => by simp only [St] at h; omega), ← hbo]
    rfl
  by_cases hn : bo = []
  · subst hn
    refine ⟨(finM { St m (k + 1) 11 [] g with hd := m.hd + (k + 1 : Nat) + 1 }).tick, ?_, ⟨rfl, rfl, rfl, rfl⟩, rfl, ?_⟩
    · simp only [runM, e, headM]
      rw [if_neg (by simp)]
    simp only [FM.tick, finM, St]
    rw [← h0]
  · have hp : 0 < bo.length := List.length_pos_iff.2 hn
    have e2 : runM (St m (k + 1) 11 [] g) (10 :: bo) = runM ({ St m (k + 1) 11 [] g with hd := m.hd + (k + 1 : Nat) + 1, lf := (bo.length : Int), wt := 12 } : FM).tick bo := by
      simp only [runM, e, headM]
      rw [if_pos (by omega)]
    rw [e2, run_body bo _ hn rfl rfl]
    refine ⟨_, rfl, ⟨rfl, rfl, rfl, rfl⟩, rfl, ?_⟩
    simp only [FM.tick, St, h0, List.nil_append]
theorem ba_nil {b : ByteArray} (h : b.data.toList = []) : b = ⟨#[]⟩ := by
  cases b with
  | mk d =>
    have : d = #[] := by
      apply Array.toList_inj.1
      simpa using h
    rw [this]
theorem ba_back (b : ByteArray) : (⟨b.data.toList.toArray⟩ : ByteArray) = b := by simp
/-- What is written is read as it was, with the header that tells its length. -/
theorem wr_run {g : Msg} {b : List UInt8} (h : wrM g = .ok b) {m : FM} (hm : Fresh m) (ha : m.ans = decide (g.me.data.toList = [])) : ∃ m', runM m b = (none, m') ∧ Fresh m' ∧ m'.ans = m.ans ∧ m'.wh = m.wh ++ [g.told] := by
  have hd := hm.h
  unfold wrM at h
  split at h
  · rename_i hc
    split at h
    · cases h
    · rename_i hsz
      split at h
      · cases h
      · rename_i h8
        injection h with h
        subst h
        rw [Bool.and_eq_true] at hc
        obtain ⟨hra, hall⟩ := hc
        have h64 : g.hs.length < 64 ∧ g.bo.length ≤ 65536 := by omega
        have hlen : (hedM g).length = (startM g.me.data.toList g.ta.data.toList g.st g.re.data.toList ++ [13, 10]).length + (linesM g.hs).length + (lineM (lenL, Lib.itoa (g.bo.length : Int))).length + 2 := by
          unfold hedM
          simp only [List.length_append, List.length_cons, List.length_nil]
        have eb : hedM g ++ g.bo = (startM g.me.data.toList g.ta.data.toList g.st g.re.data.toList ++ [13, 10]) ++ (linesM g.hs ++ (lineM (lenL, Lib.itoa (g.bo.length : Int)) ++ (13 :: 10 :: g.bo))) := by
          unfold hedM
          simp
        obtain ⟨d1, d2, d3, d4⟩ := dec_all (g.bo.length + 1) g.bo.length (by omega)
        rw [← ito] at d1 d2 d3
        have hvl : (Lib.itoa (g.bo.length : Int)).all vlB = true := by
          rw [List.all_eq_true] at d1 ⊢
          intro c hc
          have := d1 c hc
          unfold vlB rsB
          unfold dgB inB at this
          unfold inB
          simp only [Bool.and_eq_true, decide_eq_true_eq] at this
          simp only [Bool.or_eq_true, Bool.and_eq_true, decide_eq_true_eq]
          left; right; omega
        have hbar : barB (Lib.itoa (g.bo.length : Int)) = true := by
          have nb : ∀ c ∈ Lib.itoa (g.bo.length : Int), blB c = false := fun c hc => by
            have := List.all_eq_true.1 d1 c hc
            unfold dgB inB at this
            simp only [Bool.and_eq_true, decide_eq_true_eq] at this
            unfold blB
            rw [Bool.or_eq_false_iff, decide_eq_false_iff_not, decide_eq_false_iff_not]
            constructor
            · rintro rfl; simp at this
            · rintro rfl; simp at this
          have dw : ∀ l : List UInt8, (∀ c ∈ l, blB c = false) → l.dropWhile blB = l := fun l hl => by
            cases l with
            | nil => rfl
            | cons a r => rw [List.dropWhile_cons, if_neg (by rw [hl a (by simp)]; decide)]
          unfold barB dropR dropL
          rw [dw (Lib.itoa (g.bo.length : Int)).reverse (fun c hc => nb c (by simpa using hc)), List.reverse_reverse, dw _ nb]
          simp
        have key : ∀ g0 : Msg, g0.hs = [] → g0.bo = [] → ∃ m', runM (St m (startM g.me.data.toList g.ta.data.toList g.st g.re.data.toList ++ [13, 10]).length 8 [] g0) (linesM g.hs ++ (lineM (lenL, Lib.itoa (g.bo.length : Int)) ++ (13 :: 10 :: g.bo))) = (none, m') ∧ Fresh m' ∧ m'.ans = m.ans ∧ m'.wh = m.wh ++ [{ g0 with hs := g.hs ++ [(⟨lenL.toArray⟩, ⟨(Lib.itoa (g.bo.length : Int)).toArray⟩)], bo := g.bo }] := fun g0 hg0 hb0 => by
          rw [st_lines g.hs _ g0 hall (by rw [hg0]; simp; omega) (by omega)]
          rw [st_line lenL (Lib.itoa (g.bo.length : Int)) (by decide) hvl hbar (by rw [hg0]; simp; omega) (by omega)]
          obtain ⟨m', k1, k2, k3, k4⟩ := run_end (m := m) (k := (startM g.me.data.toList g.ta.data.toList g.st g.re.data.toList ++ [13, 10]).length + (linesM g.hs).length + (lineM (lenL, Lib.itoa (g.bo.length : Int))).length) (g := { g0 with hs := g0.hs ++ g.hs ++ [(⟨lenL.toArray⟩, ⟨(Lib.itoa (g.bo.length : Int)).toArray⟩)] }) (by omega) g.hs hall g.bo h64.2 (by rw [hg0]; rfl) hb0
          refine ⟨m', k1, k2, k3, ?_⟩
          rw [k4, hg0]
          rfl
        rw [eb]
        have ef : ∀ g0 : Msg, g0.me = g.me → g0.ta = g.ta → g0.st = g.st → g0.re = g.re → ({ g0 with hs := g.hs ++ [(⟨lenL.toArray⟩, ⟨(Lib.itoa (g.bo.length : Int)).toArray⟩)], bo := g.bo } : Msg) = g.told := fun g0 h1 h2 h3 h4 => by
          unfold Msg.told
          cases g0
          cases g
          simp only at h1 h2 h3 h4
          subst h1 h2 h3 h4
          rfl
        by_cases hme : g.me.data.toList = []
        · have hans : ansB g = true := by
            rw [Bool.or_eq_true] at hra
            rcases hra with hr | hr
            · unfold reqB mthB at hr
              rw [hme] at hr
              simp at hr
            · exact hr
          unfold ansB at hans
          simp only [Bool.and_eq_true, decide_eq_true_eq] at hans
          obtain ⟨_, hta, ⟨hs1, hs2⟩, hre⟩ := hans
          obtain ⟨N, hN⟩ : ∃ N : Nat, g.st = (N : Int) := ⟨g.st.toNat, by omega⟩
          have es : startM g.me.data.toList g.ta.data.toList g.st g.re.data.toList = verL ++ [32] ++ Lib.itoa (N : Int) ++ [32] ++ g.re.data.toList := by
            unfold startM
            rw [if_neg (by simpa using hme), hN]
          have k0 := key { Msg.zero with st := (N : Int), re := ⟨g.re.data.toList.toArray⟩ } rfl rfl
          rw [es] at k0 hlen ⊢
          rw [st_ans hm (by rw [ha]; simpa using hme) N (by omega) g.re.data.toList hre _ (by omega)]
          obtain ⟨m', k1, k2, k3, k4⟩ := k0
          refine ⟨m', k1, k2, k3, ?_⟩
          rw [k4]
          exact congrArg (fun x => m.wh ++ [x]) (ef { Msg.zero with st := (N : Int), re := ⟨g.re.data.toList.toArray⟩ } (ba_nil hme).symm (ba_nil hta).symm hN.symm (ba_back _))
        · have hreq : reqB g = true := by
            rw [Bool.or_eq_true] at hra
            rcases hra with hr | hr
            · exact hr
            · unfold ansB at hr
              simp only [Bool.and_eq_true, decide_eq_true_eq] at hr
              exact absurd hr.1 hme
          unfold reqB at hreq
          simp only [Bool.and_eq_true, decide_eq_true_eq] at hreq
          obtain ⟨hmt, ⟨ht0, ht1, ht2⟩, hst, hre⟩ := hreq
          have es : startM g.me.data.toList g.ta.data.toList g.st g.re.data.toList = g.me.data.toList ++ [32] ++ g.ta.data.toList ++ [32] ++ verL := by
            unfold startM
            rw [if_pos hme]
          have k0 := key { Msg.zero with me := ⟨g.me.data.toList.toArray⟩, ta := ⟨g.ta.data.toList.toArray⟩ } rfl rfl
          rw [es] at k0 hlen ⊢
          rw [st_req hm (by rw [ha]; simpa using hme) g.me.data.toList g.ta.data.toList hmt ht0 ht1 ht2 _ (by omega)]
          obtain ⟨m', k1, k2, k3, k4⟩ := k0
          refine ⟨m', k1, k2, k3, ?_⟩
          rw [k4]
          exact congrArg (fun x => m.wh ++ [x]) (ef { Msg.zero with me := ⟨g.me.data.toList.toArray⟩, ta := ⟨g.ta.data.toList.toArray⟩ } (ba_back _) (ba_back _) hst.symm (ba_nil hre).symm)
  · cases h
end Ht
end Go.Proofs.YtngfoghnopnbmaaGreatDoor
