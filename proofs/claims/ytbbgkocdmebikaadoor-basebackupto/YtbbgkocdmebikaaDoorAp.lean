/- What restOfLetters, appendLetters, appendBytes of base and worth, Same of the reference do: contracts, by walking their text. -/
import Derived.Test.YtbbgkocdmebikaaDoorSm
import Derived.Laws.Cover4
namespace Go.Proofs.YtbbgkocdmebikaaDoor
open Go.RowKit
namespace Bw
open Bs

/-- The number in a slot. -/
def numOf : Value → Nat
  | .int _ n => n.toNat
  | _ => 0
/-- What is left over of four letters. -/
def rest4 : List Nat → Nat
  | [w, x] => 262144 * w + 4096 * x
  | [w, x, y] => 262144 * w + 4096 * x + 64 * y
  | _ => 0

theorem letters_nil (u : Bool) (w : World) : Calls Tryd.prog 20 #[.string ⟨#[]⟩, .string (abc u)] w fun e w' => e = .returned (.int .u32 0) ∧ w' = w := by
  go_enter Tryd.func20, Tryd.ntmps20
  go_wp2
  go_ret
  exact ⟨rfl, rfl⟩
set_option maxHeartbeats 4000000 in
theorem letters_two (u : Bool) (a b : UInt8) (w : World) (ha : 0 ≤ wo u a) (hb : 0 ≤ wo u b) : Calls Tryd.prog 20 #[.string ⟨#[a, b]⟩, .string (abc u)] w fun e w' => e = .returned (.int .u32 (rest4 (vals u [a, b]) : Int)) ∧ ∃ n, w' = w.drewN n := by
  have e0 : rest4 (vals u [a, b]) = 262144 * vl u a + 4096 * vl u b := rfl
  rw [e0]
  have ca := fun W => value_any u a W ha
  have cb := fun W => value_any u b W hb
  have la := vl_lt u a
  have lb := vl_lt u b
  obtain ⟨x, hx⟩ : ∃ x, vl u a = x := ⟨_, rfl⟩
  obtain ⟨y, hy⟩ : ∃ y, vl u b = y := ⟨_, rfl⟩
  rw [hx] at ca la
  rw [hy] at cb lb
  rw [hx, hy]
  clear hx hy ha hb e0
  obtain ⟨A, hA⟩ : ∃ A, abc u = A := ⟨_, rfl⟩
  rw [hA] at ca cb ⊢
  clear hA
  obtain ⟨p, hp⟩ : ∃ p, a.toNat = p := ⟨_, rfl⟩
  obtain ⟨q, hq⟩ : ∃ q, b.toNat = q := ⟨_, rfl⟩
  have g0 : ((⟨#[a, b]⟩ : ByteArray)[0]'(by show 0 < 2; decide)).toNat = p := hp
  have g1 : ((⟨#[a, b]⟩ : ByteArray)[1]'(by show 1 < 2; decide)).toNat = q := hq
  rw [hp] at ca
  rw [hq] at cb
  obtain ⟨X, hX⟩ : ∃ X, 262144 * x = X := ⟨_, rfl⟩
  obtain ⟨Y, hY⟩ : ∃ Y, 4096 * y = Y := ⟨_, rfl⟩
  obtain ⟨Z, hZ⟩ : ∃ Z, X + Y = Z := ⟨_, rfl⟩
  have m1 : (x : Int) * 262144 = (X : Int) := by omega
  have m2 : IntKind.u32.wrap (X : Int) = (X : Int) := by rw [IntKind.wrap_u32']; omega
  have m5 : (y : Int) * 4096 = (Y : Int) := by omega
  have m6 : IntKind.u32.wrap (Y : Int) = (Y : Int) := by rw [IntKind.wrap_u32']; omega
  have m3 : bits .or .u32 (Y : Int) (X : Int) = (Z : Int) := or32' 18 x Y X Z (by omega) (by omega) (by omega) (by omega)
  have m4 : bits .or .u32 0 (Z : Int) = (Z : Int) := or32' 12 (64 * x + y) 0 Z Z (by decide) (by omega) (by omega) (by omega)
  rw [hX, hY, hZ]
  have hXb : X < 16777216 := by omega
  have hYb : Y < 16777216 := by omega
  clear hX hY hZ hp hq
  go_enter Tryd.func20, Tryd.ntmps20
  go_wp2
  go_quiet (first | (go_at_call 23; refine Calls.quiet_of_same (ca _)) | (go_at_call 23; refine Calls.quiet_of_same (cb _)))
  go_wp2
  go_ret
  exact ⟨by first | rfl | simp [m3, m4], _, rfl⟩
set_option maxHeartbeats 4000000 in
theorem letters_three (u : Bool) (a b c : UInt8) (w : World) (ha : 0 ≤ wo u a) (hb : 0 ≤ wo u b) (hc : 0 ≤ wo u c) : Calls Tryd.prog 20 #[.string ⟨#[a, b, c]⟩, .string (abc u)] w fun e w' => e = .returned (.int .u32 (rest4 (vals u [a, b, c]) : Int)) ∧ ∃ n, w' = w.drewN n := by
  have e0 : rest4 (vals u [a, b, c]) = 262144 * vl u a + 4096 * vl u b + 64 * vl u c := rfl
  rw [e0]
  have ca := fun W => value_any u a W ha
  have cb := fun W => value_any u b W hb
  have cc := fun W => value_any u c W hc
  have la := vl_lt u a
  have lb := vl_lt u b
  have lc := vl_lt u c
  obtain ⟨x, hx⟩ : ∃ x, vl u a = x := ⟨_, rfl⟩
  obtain ⟨y, hy⟩ : ∃ y, vl u b = y := ⟨_, rfl⟩
  obtain ⟨z, hz⟩ : ∃ z, vl u c = z := ⟨_, rfl⟩
  rw [hx] at ca la
  rw [hy] at cb lb
  rw [hz] at cc lc
  rw [hx, hy, hz]
  clear hx hy hz ha hb hc e0
  obtain ⟨A, hA⟩ : ∃ A, abc u = A := ⟨_, rfl⟩
  rw [hA] at ca cb cc ⊢
  clear hA
  obtain ⟨p, hp⟩ : ∃ p, a.toNat = p := ⟨_, rfl⟩
  obtain ⟨q, hq⟩ : ∃ q, b.toNat = q := ⟨_, rfl⟩
  obtain ⟨r, hr⟩ : ∃ r, c.toNat = r := ⟨_, rfl⟩
  have g0 : ((⟨#[a, b, c]⟩ : ByteArray)[0]'(by show 0 < 3; decide)).toNat = p := hp
  have g1 : ((⟨#[a, b, c]⟩ : ByteArray)[1]'(by show 1 < 3; decide)).toNat = q := hq
  have g2 : ((⟨#[a, b, c]⟩ : ByteArray)[2]'(by show 2 < 3; decide)).toNat = r := hr
  rw [hp] at ca
  rw [hq] at cb
  rw [hr] at cc
  obtain ⟨X, hX⟩ : ∃ X, 262144 * x = X := ⟨_, rfl⟩
  obtain ⟨Y, hY⟩ : ∃ Y, 4096 * y = Y := ⟨_, rfl⟩
  obtain ⟨V, hV⟩ : ∃ V, 64 * z = V := ⟨_, rfl⟩
  obtain ⟨Z, hZ⟩ : ∃ Z, X + Y = Z := ⟨_, rfl⟩
  obtain ⟨T, hT⟩ : ∃ T, Z + V = T := ⟨_, rfl⟩
  have m1 : (x : Int) * 262144 = (X : Int) := by omega
  have m2 : IntKind.u32.wrap (X : Int) = (X : Int) := by rw [IntKind.wrap_u32']; omega
  have m5 : (y : Int) * 4096 = (Y : Int) := by omega
  have m6 : IntKind.u32.wrap (Y : Int) = (Y : Int) := by rw [IntKind.wrap_u32']; omega
  have m7 : (z : Int) * 64 = (V : Int) := by omega
  have m8 : IntKind.u32.wrap (V : Int) = (V : Int) := by rw [IntKind.wrap_u32']; omega
  have m3 : bits .or .u32 (Y : Int) (X : Int) = (Z : Int) := or32' 18 x Y X Z (by omega) (by omega) (by omega) (by omega)
  have m4 : bits .or .u32 (V : Int) (Z : Int) = (T : Int) := or32' 12 (64 * x + y) V Z T (by omega) (by omega) (by omega) (by omega)
  rw [hX, hY, hV, hZ, hT]
  have hXb : X < 16777216 := by omega
  have hYb : Y < 16777216 := by omega
  have hVb : V < 16777216 := by omega
  clear hX hY hZ hV hT hp hq hr
  go_enter Tryd.func20, Tryd.ntmps20
  go_wp2_with (go_at_call 23; refine (cc _).mono ?_; rintro e w1 ⟨rfl, rfl⟩)
  go_quiet (first | (go_at_call 23; refine Calls.quiet_of_same (ca _)) | (go_at_call 23; refine Calls.quiet_of_same (cb _)))
  go_wp2
  go_ret
  exact ⟨by first | rfl | simp [m3, m4], _, rfl⟩

/-! worth: the value of a letter, looked up one by one. -/
theorem wo_at (u : Bool) (c : UInt8) : ∀ (l : List UInt8) (_k : Nat), Lib.indexByte l c = -1 ∨ 0 ≤ Lib.indexByte l c
  | [], _ => .inl rfl
  | b :: l, k => by
    unfold Lib.indexByte
    split
    · right; omega
    · split
      · left; rfl
      · rename_i h
        rcases wo_at u c l k with h1 | h1
        · simp [h1] at h
        · right; omega
/-- The value of a letter, looked up from a place on. -/
def look (c : UInt8) : List UInt8 → Nat → Int
  | [], _ => -1
  | b :: l, k => if b = c then (k : Int) else look c l (k + 1)
theorem look_eq (c : UInt8) : ∀ (l : List UInt8) (k : Nat), look c l k = if Lib.indexByte l c = -1 then -1 else Lib.indexByte l c + k
  | [], k => by simp [look, Lib.indexByte]
  | b :: l, k => by
    have ih := look_eq c l (k + 1)
    have hp := wo_at true c l k
    by_cases h : b = c
    · simp [look, Lib.indexByte, h]
    · have hb : (b == c) = false := by simpa using h
      have e : Lib.indexByte (b :: l) c = if Lib.indexByte l c == -1 then -1 else Lib.indexByte l c + 1 := by
        rw [Lib.indexByte, hb]
        rfl
      have e2 : look c (b :: l) k = look c l (k + 1) := by rw [look, if_neg h]
      rw [e, e2, ih]
      rcases hp with h1 | h1
      · simp [h1]
      · have h2 : (Lib.indexByte l c == -1) = false := by simp; omega
        rw [h2]
        simp only [Bool.false_eq_true, if_false]
        rw [if_neg (by omega), if_neg (by omega)]
        omega
theorem look_wo (u : Bool) (c : UInt8) : look c (abc u).data.toList 0 = wo u c := by
  rw [look_eq]
  unfold wo
  split
  · rename_i h; rw [h]
  · omega
set_option maxHeartbeats 4000000 in
theorem worth_any (u : Bool) (c : UInt8) (w : World) : Calls Tryd.prog 25 #[.int .u8 (c.toNat : Int), .bool u] w fun e w' => e = .returned (.int .i64 (wo u c)) ∧ w' = w := by
  have hsz := abc_size u
  have HL : Hid (look c (abc u).data.toList 0 = wo u c) := look_wo u c
  have ca := fun W => rabc_any u W
  obtain ⟨A, hA⟩ : ∃ A, abc u = A := ⟨_, rfl⟩
  rw [hA] at ca hsz HL
  obtain ⟨V, hV⟩ : ∃ V, wo u c = V := ⟨_, rfl⟩
  rw [hV] at HL ⊢
  clear hA hV
  have hs2 : A.size ≤ 64 := by omega
  have hs3 : A.data.toList.length = A.size := by simp
  have HS : Hid (A.data.toList.length = A.size) := hs3
  clear hs3 hsz
  go_enter Tryd.func25, Tryd.ntmps25
  go_wp2_with (go_at_call 17; refine (ca _).mono ?_; rintro e w1 ⟨rfl, rfl⟩)
  go_loopw [6] (fun x wr => ∃ k : Nat, x = .int .i64 (k : Int) ∧ k ≤ A.size ∧ wr = w1 ∧ Hid (look c (A.data.toList.drop k) k = V)) (fun x _ => A.size - numOf x)
  case atStart => exact ⟨0, rfl, Nat.zero_le _, rfl, HL⟩
  case round =>
    obtain ⟨k, rfl, hk, rfl, HK⟩ := hrel
    clear HL
    by_cases hlt : k < A.size
    · have hlt' : (k : Int) < (A.size : Int) := by omega
      have hl2 : k < A.data.toList.length := by rw [HS.out]; exact hlt
      have hst : look c (A.data.toList.drop k) k = if A.data.toList[k] = c then (k : Int) else look c (A.data.toList.drop (k + 1)) (k + 1) := by
        rw [List.drop_eq_getElem_cons hl2]; rfl
      have hgl := get_list A k hlt hl2
      obtain ⟨d, hd⟩ : ∃ d : UInt8, A[k] = d := ⟨_, rfl⟩
      rw [← hgl, hd] at hst
      obtain ⟨p, hp⟩ : ∃ p, d.toNat = p := ⟨_, rfl⟩
      have g : (A[k]'hlt).toNat = p := by rw [hd]; exact hp
      clear hgl
      by_cases hdc : d = c
      · have HE : Hid (V = (k : Int)) := by show _ = _; rw [← HK.out, hst, if_pos hdc]
        have hpq : ((p : Int) == (c.toNat : Int)) = true := by rw [← hp, hdc]; simp
        clear hst hd hp hdc
        go_wp2
        go_ret
        rw [HE.out]
        exact ⟨rfl, rfl⟩
      · have HE : Hid (look c (A.data.toList.drop (k + 1)) (k + 1) = V) := by show _ = _; rw [← HK.out, hst, if_neg hdc]
        have hpq : ((p : Int) == (c.toNat : Int)) = false := by
          simp
          intro h
          apply hdc
          apply UInt8.toNat_inj.1
          omega
        clear hst hd hp hdc
        go_wp2
        go_roundw
        case rel => exact ⟨k + 1, by go_num, hlt, by first | trivial | rfl, HE⟩
        case measure => simp [numOf]; omega
    · have hlt' : ¬ (k : Int) < (A.size : Int) := by omega
      have HE : Hid (V = -1) := by
        show _ = _
        rw [← HK.out, List.drop_of_length_le (by rw [HS.out]; omega)]
        rfl
      go_wp2
      go_ret
      rw [HE.out]
      exact ⟨rfl, rfl⟩

/-! Letters and bytes, put behind a row. -/
/-- The letter of the i-th six of 24 bits. -/
def six (u : Bool) (B i : Nat) : UInt8 := lt u (B / 2 ^ (18 - 6 * i) % 64)
def sixes (u : Bool) (B n : Nat) : List UInt8 := (List.range n).map (six u B)
theorem sixes_succ (u : Bool) (B n : Nat) : sixes u B (n + 1) = sixes u B n ++ [six u B n] := by simp [sixes, List.range_succ]
def byt (B i : Nat) : UInt8 := (B / 2 ^ (16 - 8 * i) % 256).toUInt8
def byts (B n : Nat) : List UInt8 := (List.range n).map (byt B)
theorem byts_succ (B n : Nat) : byts B (n + 1) = byts B n ++ [byt B n] := by simp [byts, List.range_succ]

set_option maxHeartbeats 4000000 in
theorem appL_any (base : Nat) (w : World) (v : Value) (bs : List UInt8) (u : Bool) (B n : Nat) (hrow : RowB base w v bs) (hbase : base ≤ w.heap.size) (hB : B < 16777216) (hn : n ≤ 4) (hlen : bs.length ≤ 140000000000000) :
    Calls Tryd.prog 15 #[v, .int .u32 (B : Int), .int .i64 (n : Int), .string (abc u)] w fun e w' => ∃ v', e = .returned v' ∧ RowB base w' v' (bs ++ sixes u B n) ∧ Below base w w' := by
  obtain ⟨i0, hi, hz0, hz1, hz2⟩ := info_parts info5
  have hsz := abc_size u
  go_enter Tryd.func15, Tryd.ntmps15
  go_wp2
  go_loopw [0, 11] (fun x y wr => ∃ k : Nat, y = .int .i64 (k : Int) ∧ k ≤ n ∧ RowB base wr x (bs ++ sixes u B k) ∧ Below base w wr) (fun _ y _ => n - numOf y)
  case atStart => exact ⟨0, rfl, Nat.zero_le _, by simpa [sixes] using hrow, Below.refl _ _⟩
  case round =>
    obtain ⟨k, rfl, hk, hr, hb⟩ := hrel
    clear hrow
    have hsw := hb.size
    by_cases hlt : k < n
    · have hlt' : (k : Int) < (n : Int) := by omega
      obtain ⟨D, hD⟩ : ∃ D, B / 2 ^ (18 - 6 * k) % 64 = D := ⟨_, rfl⟩
      have hDl : D < 64 := by omega
      have hsx : six u B k = lt u D := by unfold six; rw [hD]
      have hln : (bs ++ sixes u B k).length ≤ 140000000000004 := by simp [sixes]; omega
      obtain ⟨M, hM⟩ : ∃ M, bs ++ sixes u B k = M := ⟨_, rfl⟩
      have HM : Hid (bs ++ sixes u B k = M) := hM
      rw [hM] at hr hln
      clear hM
      have hgl : (abc u)[D]'(by omega) = lt u D := lt_get u D hDl (by omega)
      obtain ⟨c, hc⟩ : ∃ c, lt u D = c := ⟨_, rfl⟩
      rw [hc] at hgl hsx
      have HX : Hid (six u B k = c) := hsx
      clear hsx hc
      obtain ⟨e1, he1⟩ : ∃ e1 : Nat, 18 - 6 * k = e1 := ⟨_, rfl⟩
      have h1 : (18 : Int) - 6 * (k : Int) = (e1 : Int) := by omega
      have he2 : e1 ≤ 18 := by omega
      rw [he1] at hD
      obtain ⟨S, hS⟩ : ∃ S, B / 2 ^ e1 = S := ⟨_, rfl⟩
      have hSB : S ≤ B := by rw [← hS]; exact Nat.div_le_self _ _
      have m2 : (B : Int) / 2 ^ e1 = (S : Int) := by rw [← hS]; simp
      rw [hS] at hD
      have m3 : bits .and .u32 (S : Int) 63 = (D : Int) := by rw [← hD]; exact mask32 S 6 (by omega) (by decide)
      have hcn : c.toNat < 256 := c.toNat_lt
      clear hS hD he1
      go_wp2_with (at_builtin; refine wpList_append_own _ rfl _ _ 22 rfl base 5 i0 (.int .u8 0) 1 1 Tryd.underlying22 hi hz0 hz1 hz2 rfl (by decide) _ _ _ rfl (RowB.kept hr ((Below.refl _ _).alloc (Nat.le_refl _) _)) ⟨_, 0, none⟩ 1 1 [.int .u8 (c.toNat : Int)] rfl rfl (cells_new _ _ _) (by simp [Value.oneCell']) (by unfold maxLen; omega) (by omega) (by simp; omega) ?_; intro v' w3 hown' hgrow3 hnil3)
      have hr3 : RowB base w3 v' (bs ++ sixes u B (k + 1)) := by
        rw [sixes_succ, ← List.append_assoc, HM.out, HX.out]
        exact RowB.more hown' rfl rfl
      have hb3 : Below base w w3 := (hb.alloc (by omega) _).trans (RowB.grown (RowB.kept hr ((Below.refl _ _).alloc (Nat.le_refl _) _)) hgrow3 (by simp; omega))
      go_roundw
      case rel => exact ⟨k + 1, by go_num, hlt, hr3, hb3⟩
      case measure => simp [numOf]; omega
    · have hlt' : ¬ (k : Int) < (n : Int) := by omega
      have hkn : k = n := by omega
      have HK : Hid (k = n) := hkn
      clear hkn
      go_wp2
      go_ret
      rw [← HK.out]
      exact ⟨_, rfl, hr, hb⟩
set_option maxHeartbeats 4000000 in
theorem appB_any (base : Nat) (w : World) (v : Value) (bs : List UInt8) (B n : Nat) (hrow : RowB base w v bs) (hbase : base ≤ w.heap.size) (_hB : B < 16777216) (hn : n ≤ 3) (hlen : bs.length ≤ 140737488350000) :
    Calls Tryd.prog 24 #[v, .int .u32 (B : Int), .int .i64 (n : Int)] w fun e w' => ∃ v', e = .returned v' ∧ RowB base w' v' (bs ++ byts B n) ∧ Below base w w' := by
  obtain ⟨i0, hi, hz0, hz1, hz2⟩ := info_parts info5
  go_enter Tryd.func24, Tryd.ntmps24
  go_wp2
  go_loopw [0, 9] (fun x y wr => ∃ k : Nat, y = .int .i64 (k : Int) ∧ k ≤ n ∧ RowB base wr x (bs ++ byts B k) ∧ Below base w wr) (fun _ y _ => n - numOf y)
  case atStart => exact ⟨0, rfl, Nat.zero_le _, by simpa [byts] using hrow, Below.refl _ _⟩
  case round =>
    obtain ⟨k, rfl, hk, hr, hb⟩ := hrel
    clear hrow
    have hsw := hb.size
    by_cases hlt : k < n
    · have hlt' : (k : Int) < (n : Int) := by omega
      obtain ⟨D, hD⟩ : ∃ D, B / 2 ^ (16 - 8 * k) % 256 = D := ⟨_, rfl⟩
      have hDl : D < 256 := by omega
      have HX : Hid (byt B k = D.toUInt8) := by show _ = _; unfold byt; rw [hD]
      have hln : (bs ++ byts B k).length ≤ 140737488350004 := by simp [byts]; omega
      obtain ⟨M, hM⟩ : ∃ M, bs ++ byts B k = M := ⟨_, rfl⟩
      have HM : Hid (bs ++ byts B k = M) := hM
      rw [hM] at hr hln
      clear hM
      obtain ⟨e1, he1⟩ : ∃ e1 : Nat, 16 - 8 * k = e1 := ⟨_, rfl⟩
      have h1 : (16 : Int) - 8 * (k : Int) = (e1 : Int) := by omega
      have he2 : e1 ≤ 16 := by omega
      rw [he1] at hD
      obtain ⟨S, hS⟩ : ∃ S, B / 2 ^ e1 = S := ⟨_, rfl⟩
      have hSB : S ≤ B := by rw [← hS]; exact Nat.div_le_self _ _
      have m2 : (B : Int) / 2 ^ e1 = (S : Int) := by rw [← hS]; simp
      rw [hS] at hD
      have m3 : IntKind.u8.wrap (S : Int) = (D : Int) := by rw [IntKind.wrap_u8]; omega
      have hDn : ((D.toUInt8).toNat : Int) = (D : Int) := by rw [u8 D hDl]
      clear hS hD he1
      go_wp2_with (at_builtin; refine wpList_append_own _ rfl _ _ 22 rfl base 5 i0 (.int .u8 0) 1 1 Tryd.underlying22 hi hz0 hz1 hz2 rfl (by decide) _ _ _ rfl (RowB.kept hr ((Below.refl _ _).alloc (Nat.le_refl _) _)) ⟨_, 0, none⟩ 1 1 [.int .u8 (D : Int)] rfl rfl (cells_new _ _ _) (by simp [Value.oneCell']) (by unfold maxLen; omega) (by omega) (by simp; omega) ?_; intro v' w3 hown' hgrow3 hnil3)
      have hr3 : RowB base w3 v' (bs ++ byts B (k + 1)) := by
        rw [byts_succ, ← List.append_assoc, HM.out, HX.out]
        exact RowB.more hown' rfl (by simp only [Lib.byteCells, List.map_cons, List.map_nil, hDn])
      have hb3 : Below base w w3 := (hb.alloc (by omega) _).trans (RowB.grown (RowB.kept hr ((Below.refl _ _).alloc (Nat.le_refl _) _)) hgrow3 (by simp; omega))
      go_roundw
      case rel => exact ⟨k + 1, by go_num, hlt, hr3, hb3⟩
      case measure => simp [numOf]; omega
    · have hlt' : ¬ (k : Int) < (n : Int) := by omega
      have hkn : k = n := by omega
      have HK : Hid (k = n) := hkn
      clear hkn
      go_wp2
      go_ret
      rw [← HK.out]
      exact ⟨_, rfl, hr, hb⟩
end Bw
end Go.Proofs.YtbbgkocdmebikaaDoor
