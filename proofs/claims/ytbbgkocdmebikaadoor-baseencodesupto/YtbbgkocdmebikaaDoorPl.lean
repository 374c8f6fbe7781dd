/- Bytes as letters in plain mathematics: what is told (enc), what is read (dec) and where it is refused (faultAt), and that the reference's telling, bit by bit, is the same. Nothing of the program. -/
import Derived.Lib.Bytealg
import Derived.KernelRfl
namespace Go.Proofs.YtbbgkocdmebikaaDoor
open Go
namespace Bs

def abc (u : Bool) : ByteArray := if u then ⟨#[65, 66, 67, 68, 69, 70, 71, 72, 73, 74, 75, 76, 77, 78, 79, 80, 81, 82, 83, 84, 85, 86, 87, 88, 89, 90, 97, 98, 99, 100, 101, 102, 103, 104, 105, 106, 107, 108, 109, 110, 111, 112, 113, 114, 115, 116, 117, 118, 119, 120, 121, 122, 48, 49, 50, 51, 52, 53, 54, 55, 56, 57, 45, 95]⟩ else ⟨#[65, 66, 67, 68, 69, 70, 71, 72, 73, 74, 75, 76, 77, 78, 79, 80, 81, 82, 83, 84, 85, 86, 87, 88, 89, 90, 97, 98, 99, 100, 101, 102, 103, 104, 105, 106, 107, 108, 109, 110, 111, 112, 113, 114, 115, 116, 117, 118, 119, 120, 121, 122, 48, 49, 50, 51, 52, 53, 54, 55, 56, 57, 43, 47]⟩
/-- The letter of a value. -/
def lt (u : Bool) (k : Nat) : UInt8 := (abc u).data.toList.getD k 0
/-- The value of a letter; -1: it is none. -/
def wo (u : Bool) (c : UInt8) : Int := Lib.indexByte (abc u).data.toList c

theorem abc_size (u : Bool) : (abc u).size = 64 := by cases u <;> rfl
theorem abc_len (u : Bool) : (abc u).data.toList.length = 64 := by cases u <;> rfl
theorem wo_all : ∀ u : Bool, ∀ k : Fin 256, (wo u (UInt8.ofNat k.val) = -1 ∨ (0 ≤ wo u (UInt8.ofNat k.val) ∧ wo u (UInt8.ofNat k.val) < 64 ∧ lt u (wo u (UInt8.ofNat k.val)).toNat = UInt8.ofNat k.val)) := by decide +kernel
theorem lt_all : ∀ u : Bool, ∀ k : Fin 64, wo u (lt u k.val) = (k.val : Int) := by decide +kernel
theorem wo_cases (u : Bool) (c : UInt8) : wo u c = -1 ∨ (0 ≤ wo u c ∧ wo u c < 64 ∧ lt u (wo u c).toNat = c) := by
  have h := wo_all u ⟨c.toNat, c.toNat_lt⟩
  simpa using h
theorem wo_lt (u : Bool) (k : Nat) (h : k < 64) : wo u (lt u k) = (k : Int) := lt_all u ⟨k, h⟩
/-- The value of a letter as a number. -/
def vl (u : Bool) (c : UInt8) : Nat := (wo u c).toNat
theorem vl_lt (u : Bool) (c : UInt8) : vl u c < 64 := by
  unfold vl
  rcases wo_cases u c with h | h <;> omega
theorem vl_of (u : Bool) (k : Nat) (h : k < 64) : vl u (lt u k) = k := by
  unfold vl
  rw [wo_lt u k h]
  rfl
theorem lt_vl (u : Bool) (c : UInt8) (h : 0 ≤ wo u c) : lt u (vl u c) = c := by
  rcases wo_cases u c with h1 | h1
  · omega
  · exact h1.2.2
theorem lt_get (u : Bool) (k : Nat) (h : k < 64) (h2 : k < (abc u).size) : (abc u)[k] = lt u k := by
  unfold lt
  rw [List.getD_eq_getElem?_getD, List.getElem?_eq_getElem (by rw [abc_len]; exact h)]
  simp [ByteArray.getElem_eq_getElem_data]

/-! What is told. -/
def enc (u : Bool) : List UInt8 → List UInt8
  | a :: b :: c :: t => lt u (a.toNat / 4) :: lt u (a.toNat % 4 * 16 + b.toNat / 16) :: lt u (b.toNat % 16 * 4 + c.toNat / 64) :: lt u (c.toNat % 64) :: enc u t
  | [a, b] => [lt u (a.toNat / 4), lt u (a.toNat % 4 * 16 + b.toNat / 16), lt u (b.toNat % 16 * 4)]
  | [a] => [lt u (a.toNat / 4), lt u (a.toNat % 4 * 16)]
  | [] => []
theorem enc_append (u : Bool) : ∀ (l m : List UInt8), l.length % 3 = 0 → enc u (l ++ m) = enc u l ++ enc u m
  | [], m, _ => by simp [enc]
  | [a], m, h => by simp at h
  | [a, b], m, h => by simp at h
  | a :: b :: c :: t, m, h => by
    simp only [List.length_cons] at h
    have := enc_append u t m (by omega)
    simp only [List.cons_append, enc, this]
theorem enc_len (u : Bool) : ∀ l : List UInt8, (enc u l).length = l.length / 3 * 4 + (l.length % 3 * 4 + 2) / 3
  | [] => rfl
  | [a] => by simp [enc]
  | [a, b] => by simp [enc]
  | a :: b :: c :: t => by
    have := enc_len u t
    simp only [enc, List.length_cons, this]
    omega

/-! What is read. -/
def vals (u : Bool) (l : List UInt8) : List Nat := l.map (vl u)
def dec : List Nat → List UInt8
  | w :: x :: y :: z :: t => (w * 4 + x / 16).toUInt8 :: (x % 16 * 16 + y / 4).toUInt8 :: (y % 4 * 64 + z).toUInt8 :: dec t
  | [w, x, y] => [(w * 4 + x / 16).toUInt8, (x % 16 * 16 + y / 4).toUInt8]
  | [w, x] => [(w * 4 + x / 16).toUInt8]
  | [_] => []
  | [] => []
def fill : List Nat → Nat
  | _ :: _ :: _ :: _ :: t => fill t
  | [_, _, y] => y % 4
  | [_, x] => x % 16
  | [_] => 0
  | [] => 0
theorem dec_append : ∀ (l m : List Nat), l.length % 4 = 0 → dec (l ++ m) = dec l ++ dec m
  | [], m, _ => by simp [dec]
  | [a], m, h => by simp at h
  | [a, b], m, h => by simp at h
  | [a, b, c], m, h => by simp at h
  | a :: b :: c :: d :: t, m, h => by
    simp only [List.length_cons] at h
    have := dec_append t m (by omega)
    simp only [List.cons_append, dec, this]
theorem fill_append : ∀ (l m : List Nat), l.length % 4 = 0 → fill (l ++ m) = fill m
  | [], m, _ => rfl
  | [a], m, h => by simp at h
  | [a, b], m, h => by simp at h
  | [a, b, c], m, h => by simp at h
  | a :: b :: c :: d :: t, m, h => by
    simp only [List.length_cons] at h
    have := fill_append t m (by omega)
    simp only [List.cons_append, fill, this]
theorem dec_len : ∀ l : List Nat, (dec l).length = l.length / 4 * 3 + l.length % 4 * 6 / 8
  | [] => rfl
  | [a] => by simp [dec]
  | [a, b] => by simp [dec]
  | [a, b, c] => by simp [dec]
  | a :: b :: c :: d :: t => by
    have := dec_len t
    simp only [dec, List.length_cons, this]
    omega
/-- The place of the first byte that is no letter, counted from k; -1: none. -/
def bad (u : Bool) : List UInt8 → Nat → Int
  | [], _ => -1
  | c :: l, k => if wo u c < 0 then (k : Int) else bad u l (k + 1)
theorem bad_hit (u : Bool) (l : List UInt8) (k : Nat) (h : k < l.length) (hz : wo u l[k] < 0) : bad u (l.drop k) k = k := by
  rw [List.drop_eq_getElem_cons h]
  simp [bad, hz]
theorem bad_next (u : Bool) (l : List UInt8) (k : Nat) (h : k < l.length) (hz : ¬ wo u l[k] < 0) : bad u (l.drop k) k = bad u (l.drop (k + 1)) (k + 1) := by
  rw [List.drop_eq_getElem_cons h]
  simp [bad, hz]
theorem bad_end (u : Bool) (l : List UInt8) (k : Nat) (h : ¬ k < l.length) : bad u (l.drop k) k = -1 := by
  rw [List.drop_of_length_le (by omega)]; rfl
theorem bad_ge (u : Bool) : ∀ (l : List UInt8) (k : Nat), bad u l k = -1 ∨ ((k : Int) ≤ bad u l k ∧ bad u l k < k + l.length)
  | [], _ => .inl rfl
  | c :: l, k => by
    unfold bad
    split
    · right; simp only [List.length_cons]; omega
    · rcases bad_ge u l (k + 1) with h | h
      · exact .inl h
      · right; simp only [List.length_cons]; omega
theorem bad_none (u : Bool) : ∀ (l : List UInt8) (k : Nat), (∀ c ∈ l, 0 ≤ wo u c) → bad u l k = -1
  | [], _, _ => rfl
  | c :: l, k, h => by
    have h1 := h c (by simp)
    unfold bad
    rw [if_neg (by omega)]
    exact bad_none u l (k + 1) (fun d hd => h d (by simp [hd]))
theorem none_bad (u : Bool) : ∀ (l : List UInt8) (k : Nat), bad u l k = -1 → ∀ c ∈ l, 0 ≤ wo u c
  | [], _, _, _, hc => by cases hc
  | d :: l, k, h, c, hc => by
    unfold bad at h
    split at h
    · omega
    · rcases List.mem_cons.1 hc with rfl | hc
      · omega
      · exact none_bad u l (k + 1) h c hc
/-- Where a text is refused; -1: it isn't. -/
def faultAt (u : Bool) (l : List UInt8) : Int :=
  if bad u l 0 ≠ -1 then bad u l 0 else if l.length % 4 = 1 then (l.length : Int) - 1 else if fill (vals u l) ≠ 0 then (l.length : Int) - 1 else -1
theorem fill_len : ∀ l : List Nat, fill l ≠ 0 → 0 < l.length
  | [], h => absurd rfl h
  | _ :: _, _ => by simp
theorem faultAt_ge (u : Bool) (l : List UInt8) : faultAt u l = -1 ∨ (0 ≤ faultAt u l ∧ faultAt u l < l.length) := by
  unfold faultAt
  split
  · have := bad_ge u l 0
    omega
  · split
    · right; omega
    · split
      · rename_i h
        have := fill_len _ h
        simp only [vals, List.length_map] at this
        right; omega
      · exact .inl rfl

/-! Told and read again; read and told again. -/
theorem back_bytes (u : Bool) : ∀ l : List UInt8, (∀ c ∈ enc u l, 0 ≤ wo u c) ∧ dec (vals u (enc u l)) = l ∧ fill (vals u (enc u l)) = 0
  | [] => ⟨(fun c hc => by cases hc), rfl, rfl⟩
  | [a] => by
    have ha := a.toNat_lt
    have e1 := vl_of u (a.toNat / 4) (by omega)
    have e2 := vl_of u (a.toNat % 4 * 16) (by omega)
    have f1 := wo_lt u (a.toNat / 4) (by omega)
    have f2 := wo_lt u (a.toNat % 4 * 16) (by omega)
    refine ⟨fun c hc => ?_, ?_, ?_⟩
    · simp only [enc, List.mem_cons, List.not_mem_nil, or_false] at hc
      rcases hc with rfl | rfl <;> omega
    · simp only [enc, vals, List.map_cons, List.map_nil, dec, e1, e2]
      rw [show a.toNat / 4 * 4 + a.toNat % 4 * 16 / 16 = a.toNat by omega]
      simp
    · simp only [enc, vals, List.map_cons, List.map_nil, fill, e2]
      omega
  | [a, b] => by
    have ha := a.toNat_lt
    have hb := b.toNat_lt
    have e1 := vl_of u (a.toNat / 4) (by omega)
    have e2 := vl_of u (a.toNat % 4 * 16 + b.toNat / 16) (by omega)
    have e3 := vl_of u (b.toNat % 16 * 4) (by omega)
    have f1 := wo_lt u (a.toNat / 4) (by omega)
    have f2 := wo_lt u (a.toNat % 4 * 16 + b.toNat / 16) (by omega)
    have f3 := wo_lt u (b.toNat % 16 * 4) (by omega)
    refine ⟨fun c hc => ?_, ?_, ?_⟩
    · simp only [enc, List.mem_cons, List.not_mem_nil, or_false] at hc
      rcases hc with rfl | rfl | rfl <;> omega
    · simp only [enc, vals, List.map_cons, List.map_nil, dec, e1, e2, e3]
      rw [show a.toNat / 4 * 4 + (a.toNat % 4 * 16 + b.toNat / 16) / 16 = a.toNat by omega, show (a.toNat % 4 * 16 + b.toNat / 16) % 16 * 16 + b.toNat % 16 * 4 / 4 = b.toNat by omega]
      simp
    · simp only [enc, vals, List.map_cons, List.map_nil, fill, e3]
      omega
  | a :: b :: c :: t => by
    have ha := a.toNat_lt
    have hb := b.toNat_lt
    have hcc := c.toNat_lt
    have e1 := vl_of u (a.toNat / 4) (by omega)
    have e2 := vl_of u (a.toNat % 4 * 16 + b.toNat / 16) (by omega)
    have e3 := vl_of u (b.toNat % 16 * 4 + c.toNat / 64) (by omega)
    have e4 := vl_of u (c.toNat % 64) (by omega)
    have f1 := wo_lt u (a.toNat / 4) (by omega)
    have f2 := wo_lt u (a.toNat % 4 * 16 + b.toNat / 16) (by omega)
    have f3 := wo_lt u (b.toNat % 16 * 4 + c.toNat / 64) (by omega)
    have f4 := wo_lt u (c.toNat % 64) (by omega)
    obtain ⟨i1, i2, i3⟩ := back_bytes u t
    refine ⟨fun d hd => ?_, ?_, ?_⟩
    · simp only [enc, List.mem_cons] at hd
      rcases hd with rfl | rfl | rfl | rfl | hd
      · omega
      · omega
      · omega
      · omega
      · exact i1 d hd
    · have i2' : dec (List.map (vl u) (enc u t)) = t := i2
      simp only [enc, vals, List.map_cons, dec, e1, e2, e3, e4, i2']
      rw [show a.toNat / 4 * 4 + (a.toNat % 4 * 16 + b.toNat / 16) / 16 = a.toNat by omega, show (a.toNat % 4 * 16 + b.toNat / 16) % 16 * 16 + (b.toNat % 16 * 4 + c.toNat / 64) / 4 = b.toNat by omega, show (b.toNat % 16 * 4 + c.toNat / 64) % 4 * 64 + c.toNat % 64 = c.toNat by omega]
      simp
    · simp only [enc, vals, List.map_cons, fill]
      exact i3
theorem enc_good (u : Bool) (l : List UInt8) : faultAt u (enc u l) = -1 := by
  obtain ⟨h1, h2, h3⟩ := back_bytes u l
  have hl := enc_len u l
  unfold faultAt
  rw [bad_none u _ 0 h1, if_neg (by simp), if_neg (by omega), if_neg (by simpa using h3)]
theorem dec_enc (u : Bool) (l : List UInt8) : dec (vals u (enc u l)) = l := (back_bytes u l).2.1

theorem u8 (k : Nat) (h : k < 256) : (k.toUInt8).toNat = k := by
  rw [Nat.toUInt8_eq, UInt8.toNat_ofNat']
  omega
theorem back_text (u : Bool) : ∀ s : List UInt8, (∀ c ∈ s, 0 ≤ wo u c) → s.length % 4 ≠ 1 → fill (vals u s) = 0 → enc u (dec (vals u s)) = s
  | [], _, _, _ => rfl
  | [a], _, h, _ => by simp at h
  | [a, b], hw, _, hf => by
    have e1 := lt_vl u a (hw a (by simp))
    have e2 := lt_vl u b (hw b (by simp))
    have b1 := vl_lt u a
    have b2 := vl_lt u b
    simp only [vals, List.map_cons, List.map_nil, fill] at hf
    simp only [vals, List.map_cons, List.map_nil, dec, enc]
    rw [u8 _ (by omega), show (vl u a * 4 + vl u b / 16) / 4 = vl u a by omega, show (vl u a * 4 + vl u b / 16) % 4 * 16 = vl u b by omega, e1, e2]
  | [a, b, c], hw, _, hf => by
    have e1 := lt_vl u a (hw a (by simp))
    have e2 := lt_vl u b (hw b (by simp))
    have e3 := lt_vl u c (hw c (by simp))
    have b1 := vl_lt u a
    have b2 := vl_lt u b
    have b3 := vl_lt u c
    simp only [vals, List.map_cons, List.map_nil, fill] at hf
    simp only [vals, List.map_cons, List.map_nil, dec, enc]
    rw [u8 _ (by omega), u8 _ (by omega), show (vl u a * 4 + vl u b / 16) / 4 = vl u a by omega, show (vl u a * 4 + vl u b / 16) % 4 * 16 + (vl u b % 16 * 16 + vl u c / 4) / 16 = vl u b by omega, show (vl u b % 16 * 16 + vl u c / 4) % 16 * 4 = vl u c by omega, e1, e2, e3]
  | a :: b :: c :: d :: t, hw, hl, hf => by
    have e1 := lt_vl u a (hw a (by simp))
    have e2 := lt_vl u b (hw b (by simp))
    have e3 := lt_vl u c (hw c (by simp))
    have e4 := lt_vl u d (hw d (by simp))
    have b1 := vl_lt u a
    have b2 := vl_lt u b
    have b3 := vl_lt u c
    have b4 := vl_lt u d
    simp only [vals, List.map_cons, fill] at hf
    simp only [List.length_cons] at hl
    have ih : enc u (dec (List.map (vl u) t)) = t := back_text u t (fun e he => hw e (by simp [he])) (by omega) hf
    simp only [vals, List.map_cons, dec, enc]
    rw [u8 _ (by omega), u8 _ (by omega), u8 _ (by omega), show (vl u a * 4 + vl u b / 16) / 4 = vl u a by omega, show (vl u a * 4 + vl u b / 16) % 4 * 16 + (vl u b % 16 * 16 + vl u c / 4) / 16 = vl u b by omega, show (vl u b % 16 * 16 + vl u c / 4) % 16 * 4 + (vl u c % 4 * 64 + vl u d) / 64 = vl u c by omega, show (vl u c % 4 * 64 + vl u d) % 64 = vl u d by omega, e1, e2, e3, e4, ih]
theorem good_parts (u : Bool) (s : List UInt8) (h : faultAt u s = -1) : bad u s 0 = -1 ∧ s.length % 4 ≠ 1 ∧ fill (vals u s) = 0 := by
  unfold faultAt at h
  split at h
  · omega
  · rename_i h1
    split at h
    · omega
    · rename_i h2
      split at h
      · rename_i h3
        have := fill_len _ h3
        simp only [vals, List.length_map] at this
        omega
      · rename_i h3
        exact ⟨by simpa using h1, h2, by simpa using h3⟩
theorem enc_dec (u : Bool) (s : List UInt8) (h : faultAt u s = -1) : enc u (dec (vals u s)) = s := by
  obtain ⟨h1, h2, h3⟩ := good_parts u s h
  exact back_text u s (none_bad u s 0 h1) h2 h3

/-! Bit by bit. -/
structure St where
  out : List UInt8
  v : Nat
  n : Nat
def stE (u : Bool) (s : St) (b : Nat) : St := if s.n + 1 = 6 then ⟨s.out ++ [lt u (2 * s.v + b)], 0, 0⟩ else ⟨s.out, 2 * s.v + b, s.n + 1⟩
def byE (u : Bool) (a : Nat) : Nat → St → St
  | 0, s => s
  | k + 1, s => byE u a k (stE u s (a / 2 ^ k % 2))
def bsE (u : Bool) : List UInt8 → St → St
  | [], s => s
  | a :: l, s => bsE u l (byE u a.toNat 8 s)
def fiE (u : Bool) (s : St) : List UInt8 := if 0 < s.n then s.out ++ [lt u (s.v * 2 ^ (6 - s.n))] else s.out
theorem byE0 (u : Bool) (a : Nat) (o : List UInt8) (h : a < 256) : byE u a 8 ⟨o, 0, 0⟩ = ⟨o ++ [lt u (a / 4)], a % 4, 2⟩ := by
  simp only [byE, stE]
  simp only [Nat.reduceAdd, Nat.reduceEqDiff, if_false, if_true, Nat.reducePow]
  congr 3
  · congr 1; omega
  · omega
theorem byE2 (u : Bool) (a v : Nat) (o : List UInt8) (h : a < 256) : byE u a 8 ⟨o, v, 2⟩ = ⟨o ++ [lt u (v * 16 + a / 16)], a % 16, 4⟩ := by
  simp only [byE, stE]
  simp only [Nat.reduceAdd, Nat.reduceEqDiff, if_false, if_true, Nat.reducePow]
  congr 3
  · congr 1; omega
  · omega
theorem two (u : Bool) (x y x' y' : Nat) (o : List UInt8) (h : x = x') (h2 : y = y') : (⟨o ++ [lt u x] ++ [lt u y], 0, 0⟩ : St) = ⟨o ++ [lt u x', lt u y'], 0, 0⟩ := by
  subst h h2
  simp
theorem byE4 (u : Bool) (a v : Nat) (o : List UInt8) (h : a < 256) : byE u a 8 ⟨o, v, 4⟩ = ⟨o ++ [lt u (v * 4 + a / 64), lt u (a % 64)], 0, 0⟩ := by
  simp only [byE, stE]
  simp only [Nat.reduceAdd, Nat.reduceEqDiff, if_false, if_true, Nat.reducePow]
  exact two u _ _ _ _ o (by omega) (by omega)
theorem bsE_enc (u : Bool) : ∀ (l o : List UInt8), fiE u (bsE u l ⟨o, 0, 0⟩) = o ++ enc u l
  | [], o => by simp [bsE, fiE, enc]
  | [a], o => by
    have ha := a.toNat_lt
    simp only [bsE, byE0 u _ o ha, fiE, enc]
    simp
  | [a, b], o => by
    have ha := a.toNat_lt
    have hb := b.toNat_lt
    simp only [bsE, byE0 u _ o ha, byE2 u _ _ _ hb, fiE, enc]
    simp
  | a :: b :: c :: t, o => by
    have ha := a.toNat_lt
    have hb := b.toNat_lt
    have hc := c.toNat_lt
    simp only [bsE, byE0 u _ o ha, byE2 u _ _ _ hb, byE4 u _ _ _ hc, enc]
    rw [bsE_enc u t]
    simp

def stD (s : St) (b : Nat) : St := if s.n + 1 = 8 then ⟨s.out ++ [(2 * s.v + b).toUInt8], 0, 0⟩ else ⟨s.out, 2 * s.v + b, s.n + 1⟩
def byD (a : Nat) : Nat → St → St
  | 0, s => s
  | k + 1, s => byD a k (stD s (a / 2 ^ k % 2))
def bsD : List Nat → St → St
  | [], s => s
  | a :: l, s => bsD l (byD a 6 s)
theorem byD0 (a : Nat) (o : List UInt8) (h : a < 64) : byD a 6 ⟨o, 0, 0⟩ = ⟨o, a, 6⟩ := by
  simp only [byD, stD]
  simp only [Nat.reduceAdd, Nat.reduceEqDiff, if_false, Nat.reducePow]
  congr 1
  omega
theorem byD6 (a v : Nat) (o : List UInt8) (h : a < 64) : byD a 6 ⟨o, v, 6⟩ = ⟨o ++ [(v * 4 + a / 16).toUInt8], a % 16, 4⟩ := by
  simp only [byD, stD]
  simp only [Nat.reduceAdd, Nat.reduceEqDiff, if_false, if_true, Nat.reducePow]
  congr 3
  · congr 1; omega
  · omega
theorem byD4 (a v : Nat) (o : List UInt8) (h : a < 64) : byD a 6 ⟨o, v, 4⟩ = ⟨o ++ [(v * 16 + a / 4).toUInt8], a % 4, 2⟩ := by
  simp only [byD, stD]
  simp only [Nat.reduceAdd, Nat.reduceEqDiff, if_false, if_true, Nat.reducePow]
  congr 3
  · congr 1; omega
  · omega
theorem byD2 (a v : Nat) (o : List UInt8) (h : a < 64) : byD a 6 ⟨o, v, 2⟩ = ⟨o ++ [(v * 64 + a).toUInt8], 0, 0⟩ := by
  simp only [byD, stD]
  simp only [Nat.reduceAdd, Nat.reduceEqDiff, if_false, if_true, Nat.reducePow]
  congr 3
  congr 1; omega
theorem bsD_dec : ∀ (l : List Nat) (o : List UInt8), (∀ a ∈ l, a < 64) → l.length % 4 ≠ 1 → (bsD l ⟨o, 0, 0⟩).out = o ++ dec l ∧ (bsD l ⟨o, 0, 0⟩).v = fill l
  | [], o, _, _ => by simp [bsD, dec, fill]
  | [a], o, _, h => by simp at h
  | [a, b], o, hw, _ => by
    simp only [bsD, byD0 a o (hw a (by simp)), byD6 b _ _ (hw b (by simp)), dec, fill]
    simp
  | [a, b, c], o, hw, _ => by
    simp only [bsD, byD0 a o (hw a (by simp)), byD6 b _ _ (hw b (by simp)), byD4 c _ _ (hw c (by simp)), dec, fill]
    simp
  | a :: b :: c :: d :: t, o, hw, h => by
    simp only [List.length_cons] at h
    simp only [bsD, byD0 a o (hw a (by simp)), byD6 b _ _ (hw b (by simp)), byD4 c _ _ (hw c (by simp)), byD2 d _ _ (hw d (by simp)), dec, fill]
    have := bsD_dec t (o ++ [(a * 4 + b / 16).toUInt8] ++ [(b % 16 * 16 + c / 4).toUInt8] ++ [(c % 4 * 64 + d).toUInt8]) (fun x hx => hw x (by simp [hx])) (by omega)
    rw [this.1, this.2]
    simp
end Bs
end Go.Proofs.YtbbgkocdmebikaaDoor
