/- What the small functions of hash do at words of 32 bits: contracts, by walking their text. -/
import Derived.Test.YtfmkkjnmadaplaaDoorProg
import Derived.Test.YtfmkkjnmadaplaaDoorHp
import Derived.Test.YtfmkkjnmadaplaaDoorRgl
import Derived.WalkKit
import Derived.WalkSpells
import Derived.WalkSmall
import Derived.Test.YtfmkkjnmadaplaaDoorWr
namespace Go.Proofs.YtfmkkjnmadaplaaDoor
open Go.RowKit
namespace HN
open Hs Rg

/-- What differs, as the program has it. -/
def sh : Value := .agg #[.int .u64 32, .int .i64 64, .int .u64 7, .int .u64 18, .int .u64 3, .int .u64 17, .int .u64 19, .int .u64 10, .int .u64 2, .int .u64 13, .int .u64 22, .int .u64 6, .int .u64 11, .int .u64 25]
def shc : List Value := [.int .u64 32, .int .i64 64, .int .u64 7, .int .u64 18, .int .u64 3, .int .u64 17, .int .u64 19, .int .u64 10, .int .u64 2, .int .u64 13, .int .u64 22, .int .u64 6, .int .u64 11, .int .u64 25]
theorem load_sh {w : World} {b : Nat} (h : w.rangeAt b 0 shc) : (Instr.loadAt 41 (.pointer (some ⟨b, 0, none⟩))).run Tryd.prog w = .ok sh w :=
  run_loadAt_mid w b 0 41 shc _ h Tryd.underlying41 rfl (by kernel_rfl)
theorem shapeOf_any (w : World) : Calls Tryd.prog 15 #[.bool false] w fun e w' => e = .returned sh ∧ Below w.heap.size w w' := by
  go_enter Tryd.func15, Tryd.ntmps15
  go_wp2
  exact bodyPost_ret (v := sh) (by simp [results, Tryd.results15, go_sem, sh]) rfl ⟨rfl, (Below.refl _ _).alloc (Nat.le_refl _) _⟩
theorem wordBytes_any (w : World) : Calls Tryd.prog 29 #[sh] w fun e w' => e = .returned (.int .i64 4) ∧ Below w.heap.size w w' := by
  unfold sh
  go_enter Tryd.func29, Tryd.ntmps29
  go_wp2
  go_ret
  exact ⟨rfl, (Below.refl _ _).alloc (Nat.le_refl _) _⟩
theorem blockBytes_any (w : World) : Calls Tryd.prog 23 #[sh] w fun e w' => e = .returned (.int .i64 64) ∧ Below w.heap.size w w' := by
  have c := fun W => wordBytes_any W
  unfold sh at c ⊢
  go_enter Tryd.func23, Tryd.ntmps23
  go_wp2_with (go_at_call 29; refine (c _).mono ?_; rintro e w1 ⟨rfl, hb⟩)
  go_ret
  exact ⟨rfl, ((Below.refl _ _).alloc (Nat.le_refl _) _).trans (hb.mono (by simp))⟩
theorem firstBits_any (x : Nat) (w : World) (hx : x < 18446744073709551616) : Calls Tryd.prog 31 #[.int .u64 (x : Int), sh] w fun e w' => e = .returned (.int .u32 ((x / 2 ^ (64 - 32) : Nat) : Int)) ∧ Below w.heap.size w w' := by
  have hx1 : (x : Int) < 18446744073709551616 := by omega
  have hx0 : (0 : Int) ≤ (x : Int) := by omega
  unfold sh
  go_enter Tryd.func31, Tryd.ntmps31
  go_wp2
  go_ret
  refine ⟨?_, (Below.refl _ _).alloc (Nat.le_refl _) _⟩
  show Ending.returned (.int .u32 _) = Ending.returned (.int .u32 _)
  congr 2
theorem or_cast (x n : Nat) (hx : x < 4294967296) : bits .or .u32 ((x : Int) / 2 ^ n) ((x : Int) * 2 ^ (32 - n) % 4294967296) = ((rot 32 x n : Nat) : Int) := by
  have h1 : (x : Int) / 2 ^ n = ((x / 2 ^ n : Nat) : Int) := by simp
  have h2 : (x : Int) * 2 ^ (32 - n) % 4294967296 = ((x * 2 ^ (32 - n) % 2 ^ 32 : Nat) : Int) := by
    simp
  have h3 : x / 2 ^ n < 4294967296 := Nat.lt_of_le_of_lt (Nat.div_le_self _ _) hx
  have h4 : x * 2 ^ (32 - n) % 2 ^ 32 < 4294967296 := Nat.mod_lt _ (Nat.two_pow_pos 32)
  rw [h1, h2, u32_or_nat _ _ h3 h4]
  rfl
theorem turn_any (x n : Nat) (w : World) (hn : n ≤ 32) (hx : x < 4294967296) : Calls Tryd.prog 55 #[.int .u32 (x : Int), .int .u64 (n : Int), sh] w fun e w' => e = .returned (.int .u32 ((rot 32 x n : Nat) : Int)) ∧ Below w.heap.size w w' := by
  have hR := or_cast x n hx
  obtain ⟨R, hRR⟩ : ∃ R, rot 32 x n = R := ⟨_, rfl⟩
  rw [hRR] at hR ⊢
  clear hRR
  unfold sh
  go_enter Tryd.func55, Tryd.ntmps55
  go_wp2
  go_ret
  exact ⟨by first | rfl | simp [hR], (Below.refl _ _).alloc (Nat.le_refl _) _⟩
set_option maxHeartbeats 2000000 in
theorem great_any (x a b c : Nat) (w : World) (ha : a ≤ 32) (hb : b ≤ 32) (hc : c ≤ 32) (hx : x < 4294967296) :
    Calls Tryd.prog 48 #[.int .u32 (x : Int), .agg #[.int .u64 (a : Int), .int .u64 (b : Int), .int .u64 (c : Int)], sh] w fun e w' => e = .returned (.int .u32 ((gr 32 x (a, b, c) : Nat) : Int)) ∧ Below w.heap.size w w' := by
  have ca := fun W => turn_any x a W ha hx
  have cb := fun W => turn_any x b W hb hx
  have cc := fun W => turn_any x c W hc hx
  have la : rot 32 x a < 4294967296 := rot_lt hx
  have lb : rot 32 x b < 4294967296 := rot_lt hx
  have lc : rot 32 x c < 4294967296 := rot_lt hx
  have e0 : gr 32 x (a, b, c) = rot 32 x a ^^^ rot 32 x b ^^^ rot 32 x c := rfl
  rw [e0]
  obtain ⟨A, hA⟩ : ∃ A, rot 32 x a = A := ⟨_, rfl⟩
  obtain ⟨D, hD⟩ : ∃ D, rot 32 x b = D := ⟨_, rfl⟩
  obtain ⟨E, hE⟩ : ∃ E, rot 32 x c = E := ⟨_, rfl⟩
  rw [hA] at la ca
  rw [hD] at lb cb
  rw [hE] at lc cc
  rw [hA, hD, hE]
  have m1 : bits .xor .u32 (A : Int) (D : Int) = ((A ^^^ D : Nat) : Int) := u32_xor_nat _ _ la lb
  have l1 : A ^^^ D < 4294967296 := Nat.xor_lt_two_pow (n := 32) la lb
  have m2 : bits .xor .u32 ((A ^^^ D : Nat) : Int) (E : Int) = ((A ^^^ D ^^^ E : Nat) : Int) := u32_xor_nat _ _ l1 lc
  obtain ⟨F, hF⟩ : ∃ F, A ^^^ D = F := ⟨_, rfl⟩
  obtain ⟨G, hG⟩ : ∃ G, F ^^^ E = G := ⟨_, rfl⟩
  rw [hF] at m1 m2 l1
  rw [hG] at m2
  rw [hF, hG]
  clear hA hD hE hF hG e0
  unfold sh at *
  obtain ⟨N, hN⟩ : ∃ N, w.heap.size + 2 = N := ⟨_, rfl⟩
  obtain ⟨V, hV⟩ : ∃ V, (w.alloc (.cells #[.int .u64 (a : Int), .int .u64 (b : Int), .int .u64 (c : Int)] 39)).alloc (.cells #[.int .u64 32, .int .i64 64, .int .u64 7, .int .u64 18, .int .u64 3, .int .u64 17, .int .u64 19, .int .u64 10, .int .u64 2, .int .u64 13, .int .u64 22, .int .u64 6, .int .u64 11, .int .u64 25] 41) = V := ⟨_, rfl⟩
  have hNV : N ≤ V.heap.size := by rw [← hV, ← hN]; simp
  have hbV : Below w.heap.size w V := by rw [← hV]; exact ((Below.refl _ _).alloc (Nat.le_refl _) _).alloc (by simp) _
  have q0 : ∀ x : Cl N V, x.u.cell? ⟨w.heap.size, 0, none⟩ = some (.int .u64 (a : Int)) := fun x => x.cell (by rw [← hV]; exact cell_old _ (cell_new _ _ _ rfl)) (by omega)
  have q1 : ∀ x : Cl N V, x.u.cell? ⟨w.heap.size, 1, none⟩ = some (.int .u64 (b : Int)) := fun x => x.cell (by rw [← hV]; exact cell_old _ (cell_new _ _ _ rfl)) (by omega)
  have q2 : ∀ x : Cl N V, x.u.cell? ⟨w.heap.size, 2, none⟩ = some (.int .u64 (c : Int)) := fun x => x.cell (by rw [← hV]; exact cell_old _ (cell_new _ _ _ rfl)) (by omega)
  have HS : Hid (∀ w', (∃ x : Cl N V, w' = x.u) → w'.rangeAt (w.heap.size + 1) 0 shc) := by
    rintro _ ⟨x, rfl⟩
    exact x.range (by rw [← hV]; exact range_new1 w _ shc 41) (by omega)
  have hne := Cl.ne N V
  go_enter Tryd.func48, Tryd.ntmps48
  go_wp2
  clear hV
  refine region_cl (N := N) (W := V) (by kernel_rfl) (by kernel_rfl) (Below.refl _ _) ?_
  repeat (first
    | (go_big_quiet_want; refine quiet_load 41 _ rfl (w.heap.size + 1) 0 rfl shc _ HS.out Tryd.underlying41 rfl (by kernel_rfl) ?_; simp only [shc, Act.put, List.setIfInBounds_toArray, List.set_cons_zero, List.set_cons_succ]; go_big_quiet_on)
    | go_big_quiet_step (fail))
  go_big_quiet_step ((go_at_call 55; exact cl_of (ca _) hNV))
  repeat (first
    | (go_big_quiet_want; refine quiet_load 41 _ rfl (w.heap.size + 1) 0 rfl shc _ HS.out Tryd.underlying41 rfl (by kernel_rfl) ?_; simp only [shc, Act.put, List.setIfInBounds_toArray, List.set_cons_zero, List.set_cons_succ]; go_big_quiet_on)
    | go_big_quiet_step (fail))
  go_big_quiet_step ((go_at_call 55; exact cl_of (cb _) hNV))
  repeat (first
    | (go_big_quiet_want; refine quiet_load 41 _ rfl (w.heap.size + 1) 0 rfl shc _ HS.out Tryd.underlying41 rfl (by kernel_rfl) ?_; simp only [shc, Act.put, List.setIfInBounds_toArray, List.set_cons_zero, List.set_cons_succ]; go_big_quiet_on)
    | go_big_quiet_step (fail))
  go_big_quiet_step ((go_at_call 55; exact cl_of (cc _) hNV))
  repeat (first
    | (go_big_quiet_want; refine quiet_load 41 _ rfl (w.heap.size + 1) 0 rfl shc _ HS.out Tryd.underlying41 rfl (by kernel_rfl) ?_; simp only [shc, Act.put, List.setIfInBounds_toArray, List.set_cons_zero, List.set_cons_succ]; go_big_quiet_on)
    | go_big_quiet_step (fail))
  refine wpQuiet_nil ?_
  rintro _ ⟨x, rfl⟩
  have hx := x.h
  go_wp2
  go_ret
  exact ⟨rfl, hbV.trans (hx.mono (by omega))⟩
set_option maxHeartbeats 2000000 in
theorem small_any (x a b c : Nat) (w : World) (ha : a ≤ 32) (hb : b ≤ 32) (hc : c ≤ 32) (hx : x < 4294967296) :
    Calls Tryd.prog 54 #[.int .u32 (x : Int), .agg #[.int .u64 (a : Int), .int .u64 (b : Int), .int .u64 (c : Int)], sh] w fun e w' => e = .returned (.int .u32 ((sm 32 x (a, b, c) : Nat) : Int)) ∧ Below w.heap.size w w' := by
  have ca := fun W => turn_any x a W ha hx
  have cb := fun W => turn_any x b W hb hx
  have la : rot 32 x a < 4294967296 := rot_lt hx
  have lb : rot 32 x b < 4294967296 := rot_lt hx
  have lc : x / 2 ^ c < 4294967296 := Nat.lt_of_le_of_lt (Nat.div_le_self _ _) hx
  have hmin : min c 32 = c := Nat.min_eq_left hc
  have ec : (x : Int) / 2 ^ c = ((x / 2 ^ c : Nat) : Int) := by simp
  have e0 : sm 32 x (a, b, c) = rot 32 x a ^^^ rot 32 x b ^^^ x / 2 ^ c := rfl
  rw [e0]
  obtain ⟨A, hA⟩ : ∃ A, rot 32 x a = A := ⟨_, rfl⟩
  obtain ⟨D, hD⟩ : ∃ D, rot 32 x b = D := ⟨_, rfl⟩
  obtain ⟨E, hE⟩ : ∃ E, x / 2 ^ c = E := ⟨_, rfl⟩
  rw [hA] at la ca
  rw [hD] at lb cb
  rw [hE] at lc ec
  rw [hA, hD, hE]
  have m1 : bits .xor .u32 (A : Int) (D : Int) = ((A ^^^ D : Nat) : Int) := u32_xor_nat _ _ la lb
  have l1 : A ^^^ D < 4294967296 := Nat.xor_lt_two_pow (n := 32) la lb
  have m2 : bits .xor .u32 ((A ^^^ D : Nat) : Int) (E : Int) = ((A ^^^ D ^^^ E : Nat) : Int) := u32_xor_nat _ _ l1 lc
  obtain ⟨F, hF⟩ : ∃ F, A ^^^ D = F := ⟨_, rfl⟩
  obtain ⟨G, hG⟩ : ∃ G, F ^^^ E = G := ⟨_, rfl⟩
  rw [hF] at m1 m2 l1
  rw [hG] at m2
  rw [hF, hG]
  clear hA hD hE hF hG e0
  unfold sh at *
  obtain ⟨N, hN⟩ : ∃ N, w.heap.size + 2 = N := ⟨_, rfl⟩
  obtain ⟨V, hV⟩ : ∃ V, (w.alloc (.cells #[.int .u64 (a : Int), .int .u64 (b : Int), .int .u64 (c : Int)] 39)).alloc (.cells #[.int .u64 32, .int .i64 64, .int .u64 7, .int .u64 18, .int .u64 3, .int .u64 17, .int .u64 19, .int .u64 10, .int .u64 2, .int .u64 13, .int .u64 22, .int .u64 6, .int .u64 11, .int .u64 25] 41) = V := ⟨_, rfl⟩
  have hNV : N ≤ V.heap.size := by rw [← hV, ← hN]; simp
  have hbV : Below w.heap.size w V := by rw [← hV]; exact ((Below.refl _ _).alloc (Nat.le_refl _) _).alloc (by simp) _
  have q0 : ∀ x : Cl N V, x.u.cell? ⟨w.heap.size, 0, none⟩ = some (.int .u64 (a : Int)) := fun x => x.cell (by rw [← hV]; exact cell_old _ (cell_new _ _ _ rfl)) (by omega)
  have q1 : ∀ x : Cl N V, x.u.cell? ⟨w.heap.size, 1, none⟩ = some (.int .u64 (b : Int)) := fun x => x.cell (by rw [← hV]; exact cell_old _ (cell_new _ _ _ rfl)) (by omega)
  have q2 : ∀ x : Cl N V, x.u.cell? ⟨w.heap.size, 2, none⟩ = some (.int .u64 (c : Int)) := fun x => x.cell (by rw [← hV]; exact cell_old _ (cell_new _ _ _ rfl)) (by omega)
  have HS : Hid (∀ w', (∃ x : Cl N V, w' = x.u) → w'.rangeAt (w.heap.size + 1) 0 shc) := by
    rintro _ ⟨x, rfl⟩
    exact x.range (by rw [← hV]; exact range_new1 w _ shc 41) (by omega)
  have hne := Cl.ne N V
  go_enter Tryd.func54, Tryd.ntmps54
  go_wp2
  clear hV
  refine region_cl (N := N) (W := V) (by kernel_rfl) (by kernel_rfl) (Below.refl _ _) ?_
  repeat (first
    | (go_big_quiet_want; refine quiet_load 41 _ rfl (w.heap.size + 1) 0 rfl shc _ HS.out Tryd.underlying41 rfl (by kernel_rfl) ?_; simp only [shc, Act.put, List.setIfInBounds_toArray, List.set_cons_zero, List.set_cons_succ]; go_big_quiet_on)
    | go_big_quiet_step (fail))
  go_big_quiet_step ((go_at_call 55; exact cl_of (ca _) hNV))
  repeat (first
    | (go_big_quiet_want; refine quiet_load 41 _ rfl (w.heap.size + 1) 0 rfl shc _ HS.out Tryd.underlying41 rfl (by kernel_rfl) ?_; simp only [shc, Act.put, List.setIfInBounds_toArray, List.set_cons_zero, List.set_cons_succ]; go_big_quiet_on)
    | go_big_quiet_step (fail))
  go_big_quiet_step ((go_at_call 55; exact cl_of (cb _) hNV))
  repeat (first
    | (go_big_quiet_want; refine quiet_load 41 _ rfl (w.heap.size + 1) 0 rfl shc _ HS.out Tryd.underlying41 rfl (by kernel_rfl) ?_; simp only [shc, Act.put, List.setIfInBounds_toArray, List.set_cons_zero, List.set_cons_succ]; go_big_quiet_on)
    | go_big_quiet_step (fail))
  refine wpQuiet_nil ?_
  rintro _ ⟨x, rfl⟩
  have hx := x.h
  go_wp2
  go_ret
  exact ⟨rfl, hbV.trans (hx.mono (by omega))⟩
theorem or_byte (x b : Nat) (hx : x * 256 < 4294967296) (hb : b < 256) : bits .or .u32 ((x : Int) * 256) (b : Int) = ((x * 256 + b : Nat) : Int) := by
  have h1 : (x : Int) * 256 = ((x * 256 : Nat) : Int) := by simp
  rw [h1, u32_or_nat _ _ hx (by omega)]
  have := Nat.shiftLeft_add_eq_or_of_lt (i := 8) (b := b) (by omega) x
  rw [Nat.shiftLeft_eq] at this
  rw [← this]
theorem wordAt_any (b off cap : Nat) (bs : List UInt8) (i : Nat) (w : World) (hl : bs.length = 64) (hi : i < 16) (hcap : 64 ≤ cap) (hcl : cap ≤ 9223372036854775807) (hc : ∀ j (h : j < bs.length), w.cell? ⟨b, off + j, none⟩ = some (.int .u8 (bs[j].toNat : Int))) :
    Calls Tryd.prog 53 #[.slice (some ⟨b, off, none⟩) 64 cap, .int .i64 (i : Int), sh] w fun e w' => e = .returned (.int .u32 ((Hs.wordAt kn bs i : Nat) : Int)) ∧ Below w.heap.size w w' := by
  have c := fun W => wordBytes_any W
  obtain ⟨seg, hseg⟩ : ∃ seg, (bs.drop (i * 4)).take 4 = seg := ⟨_, rfl⟩
  have hsl : seg.length = 4 := by rw [← hseg, List.length_take, List.length_drop]; omega
  have HW : Hid (Hs.wordAt kn bs i = be seg) := by show _ = _; rw [← hseg]; rfl
  have hcs : ∀ j (h : j < seg.length), w.cell? ⟨b, off + i * 4 + j, none⟩ = some (.int .u8 (seg[j].toNat : Int)) := by
    intro j hj
    have h1 : i * 4 + j < bs.length := by omega
    have h2 := hc (i * 4 + j) h1
    have e : seg[j] = bs[i * 4 + j] := by
      have h3 : seg[j]? = some bs[i * 4 + j] := by
        rw [← hseg, List.getElem?_take_of_lt (by omega), List.getElem?_drop, List.getElem?_eq_getElem h1]
      rw [List.getElem?_eq_getElem hj] at h3
      exact Option.some.inj h3
    rw [e, Nat.add_assoc]
    exact h2
  have HC : Hid (∀ j (h : j < seg.length), w.cell? ⟨b, off + i * 4 + j, none⟩ = some (.int .u8 (seg[j].toNat : Int))) := hcs
  clear hcs hc hseg hl
  have HL : Hid (seg.length = 4) := hsl
  clear hsl
  have hd : (i + 1) * 4 - i * 4 = 4 := by omega
  unfold sh at *
  go_enter Tryd.func53, Tryd.ntmps53
  go_wp2_with (go_at_call 29; refine (c _).mono ?_; rintro e w1 ⟨rfl, hb⟩)
  have hbw : Below w.heap.size w w1 := ((Below.refl _ _).alloc (Nat.le_refl _) _).trans (hb.mono (by simp))
  clear hb
  go_loop [7, 23] (fun x y => ∃ k : Nat, k ≤ 4 ∧ y = .int .i64 (k : Int) ∧ x = .int .u32 ((be (seg.take k) : Nat) : Int)) (fun _ y => 4 - Bw.numOf y)
  case atStart => exact ⟨0, Nat.zero_le _, rfl, rfl⟩
  case round =>
    obtain ⟨k, hk, rfl, rfl⟩ := hrel
    by_cases hlt : k < 4
    · have hlt' : (k : Int) < 4 := by omega
      have hlt0 : (0 : Int) ≤ (k : Int) := by omega
      have hks : k < seg.length := by rw [HL.out]; exact hlt
      have h0 := HC.out k hks
      have h1 := (hbw.cell (p := ⟨b, off + i * 4 + k, none⟩) (Bw.cell_lt h0)).trans h0
      have hsn : be (seg.take (k + 1)) = be (seg.take k) * 256 + seg[k].toNat := by
        rw [List.take_succ_eq_append_getElem hks, be_snoc]
      have hdl := seg[k].toNat_lt
      obtain ⟨d, hdd⟩ : ∃ d, seg[k].toNat = d := ⟨_, rfl⟩
      rw [hdd] at h1 hsn hdl
      have hX0 := be_lt (seg.take k)
      have hX1 : 256 ^ (seg.take k).length ≤ 256 ^ (4 - 1) := Nat.pow_le_pow_right (by decide) (by rw [List.length_take]; omega)
      obtain ⟨X, hX⟩ : ∃ X, be (seg.take k) = X := ⟨_, rfl⟩
      rw [hX] at hX0 hsn
      have hXb : X * 256 < 4294967296 := by
        have : (256 : Nat) ^ (4 - 1) * 256 = 4294967296 := by decide
        omega
      have hXi : (X : Int) * 256 < 4294967296 := by omega
      have m := or_byte X d hXb hdl
      obtain ⟨Z, hZ⟩ : ∃ Z, X * 256 + d = Z := ⟨_, rfl⟩
      rw [hZ] at m hsn
      have HZ : Hid (be (seg.take (k + 1)) = Z) := hsn
      rw [hX]
      clear hX0 hX1 hX hdd h0 hsn hZ
      go_wp2
      go_round
      case rel => exact ⟨k + 1, hlt, by go_num, by rw [HZ.out]⟩
      case measure => simp [Bw.numOf]; omega
    · have hlt' : ¬ (k : Int) < 4 := by omega
      have HK : Hid (seg.take k = seg) := by show _ = _; exact List.take_of_length_le (by rw [HL.out]; omega)
      go_wp2
      go_ret
      rw [HW.out, HK.out]
      exact ⟨rfl, hbw⟩
set_option maxHeartbeats 4000000 in
theorem appendWord_any (base : Nat) (w : World) (v : Value) (bs : List UInt8) (x : Nat) (hrow : Bw.RowB base w v bs) (hbase : base ≤ w.heap.size) (_hx : x < 4294967296) (hlen : bs.length ≤ 140737488350000) :
    Calls Tryd.prog 30 #[v, .int .u32 (x : Int), sh] w fun e w' => ∃ v', e = .returned v' ∧ Bw.RowB base w' v' (bs ++ beB 4 x) ∧ Below base w w' := by
  obtain ⟨i0, hi, hz0, hz1, hz2⟩ := info_parts Bw.info5
  have c := fun W => wordBytes_any W
  obtain ⟨T, hT⟩ : ∃ T, beB 4 x = T := ⟨_, rfl⟩
  have HT : Hid (∀ k, k < 4 → T.take (k + 1) = T.take k ++ [(x / 2 ^ (32 - 8 - 8 * k) % 256).toUInt8]) := by
    intro k hk
    have hl : k < T.length := by rw [← hT, beB_len]; exact hk
    rw [List.take_succ_eq_append_getElem hl]
    congr 2
    simp only [← hT, beB, List.getElem_map, List.getElem_range]
    rw [show 8 * (4 - 1 - k) = 32 - 8 - 8 * k by omega]
  have HTl : Hid (T.length = 4) := by show _ = _; rw [← hT, beB_len]
  rw [hT]
  clear hT
  have hgt := hrow.gt
  have hnb : v.ownBlock ≠ some w.heap.size := fun e => absurd (hgt _ e) (by omega)
  clear hgt
  unfold sh at *
  go_enter Tryd.func30, Tryd.ntmps30
  go_wp2_with (go_at_call 29; refine (c _).mono ?_; rintro e w1 ⟨rfl, hb⟩)
  have hba : Below w.heap.size w (w.alloc (.cells #[.int .u64 32, .int .i64 64, .int .u64 7, .int .u64 18, .int .u64 3, .int .u64 17, .int .u64 19, .int .u64 10, .int .u64 2, .int .u64 13, .int .u64 22, .int .u64 6, .int .u64 11, .int .u64 25] 41)) := (Below.refl _ _).alloc (Nat.le_refl _) _
  have hbw : Below w.heap.size w w1 := hba.trans (hb.mono (by simp))
  have hc0 : w1.cell? ⟨w.heap.size, 0, none⟩ = some (.int .u64 32) := (hb.cell (p := ⟨w.heap.size, 0, none⟩) (by simp)).trans (cell_new _ _ _ rfl)
  have hr1 : Bw.RowB base w1 v bs := Bw.RowB.kept hrow hbw
  have hs1 : w.heap.size < w1.heap.size := by have := hb.size; simp at this; omega
  have hb1 : Below base w w1 := hbw.mono hbase
  clear hb hba hbw hrow
  go_loopw [0, 10] (fun v y wr => ∃ k : Nat, y = .int .i64 (k : Int) ∧ k ≤ 4 ∧ Bw.RowB base wr v (bs ++ T.take k) ∧ Below base w wr ∧ wr.cell? ⟨w.heap.size, 0, none⟩ = some (.int .u64 32) ∧ v.ownBlock ≠ some w.heap.size ∧ w.heap.size < wr.heap.size) (fun _ y _ => 4 - Bw.numOf y)
  case atStart => exact ⟨0, rfl, Nat.zero_le _, by simpa using hr1, hb1, hc0, hnb, hs1⟩
  case round =>
    clear hr1 hb1 hc0 hnb hs1
    obtain ⟨k, rfl, hk, hr, hbr, hcr, hnr, hsr⟩ := hrel
    by_cases hlt : k < 4
    · have hlt' : (k : Int) < 4 := by omega
      have hsn := HT.out k hlt
      obtain ⟨e1, he1⟩ : ∃ e1 : Nat, 32 - 8 - 8 * k = e1 := ⟨_, rfl⟩
      have h1 : (24 : Int) - 8 * (k : Int) = (e1 : Int) := by omega
      have he2 : e1 ≤ 32 := by omega
      have he3 : min e1 32 = e1 := Nat.min_eq_left he2
      rw [he1] at hsn
      obtain ⟨S, hS⟩ : ∃ S, x / 2 ^ e1 = S := ⟨_, rfl⟩
      have hSB : S ≤ x := by rw [← hS]; exact Nat.div_le_self _ _
      have m2 : (x : Int) / 2 ^ e1 = (S : Int) := by rw [← hS]; simp
      rw [hS] at hsn
      obtain ⟨D, hD⟩ : ∃ D, S % 256 = D := ⟨_, rfl⟩
      have hDl : D < 256 := by omega
      have m3 : IntKind.u8.wrap (S : Int) = (D : Int) := by rw [IntKind.wrap_u8]; omega
      have m4 : (S : Int) % 256 = (D : Int) := by omega
      have hDn : ((D.toUInt8).toNat : Int) = (D : Int) := by
        have : D.toUInt8.toNat = D % 256 := by simp
        omega
      rw [hD] at hsn
      have HX : Hid (T.take (k + 1) = T.take k ++ [D.toUInt8]) := hsn
      have hln : (bs ++ T.take k).length ≤ 140737488350020 := by
        rw [List.length_append, List.length_take]; omega
      obtain ⟨M, hM⟩ : ∃ M, bs ++ T.take k = M := ⟨_, rfl⟩
      have HM : Hid (bs ++ T.take k = M) := hM
      rw [hM] at hr hln
      clear hM hS hD he1 hsn
      go_wp2_with (at_builtin; refine wpList_append_own_at _ rfl _ _ 22 rfl base 5 i0 (.int .u8 0) 1 1 Tryd.underlying22 hi hz0 hz1 hz2 rfl (by decide) _ _ _ rfl (Bw.RowB.kept hr ((Below.refl _ _).alloc (Nat.le_refl _) _)) ⟨_, 0, none⟩ 1 1 [.int .u8 (D : Int)] rfl rfl (Bw.cells_new _ _ _) (by simp [Value.oneCell']) (by unfold maxLen; omega) (by omega) (by simp; omega) ?_; intro v' w3 hown' hgrow3 hnil3 hat3)
      have hr3 : Bw.RowB base w3 v' (bs ++ T.take (k + 1)) := by
        rw [HX.out, ← List.append_assoc, HM.out]
        exact Bw.RowB.more hown' rfl (by simp only [Lib.byteCells, List.map_cons, List.map_nil, hDn])
      have hb3 : Below base w w3 := (hbr.alloc (by omega) _).trans (Bw.RowB.grown (Bw.RowB.kept hr ((Below.refl _ _).alloc (Nat.le_refl _) _)) hgrow3 (by simp; omega))
      have hs3 : w.heap.size < w3.heap.size := by have := hgrow3.size; simp at this; omega
      have hc3 : w3.cell? ⟨w.heap.size, 0, none⟩ = some (.int .u64 32) := by
        have h5 := hgrow3.block w.heap.size (by simp; omega) (fun e => hnr e.symm)
        have h6 := cell_old (.cells #[.int .u8 (D : Int)] 5) hcr
        rw [← h6]
        simp only [World.cell?, h5]
      have hn3 : v'.ownBlock ≠ some w.heap.size := by
        rcases hat3 with h | h
        · rw [h]; exact hnr
        · rw [h]; simp; omega
      go_roundw
      case rel => exact ⟨k + 1, by go_num, hlt, hr3, hb3, hc3, hn3, hs3⟩
      case measure => simp [Bw.numOf]; omega
    · have hlt' : ¬ (k : Int) < 4 := by omega
      have HK : Hid (T.take k = T) := by show _ = _; exact List.take_of_length_le (by rw [HTl.out]; omega)
      go_wp2
      go_ret
      rw [HK.out] at hr
      exact ⟨_, rfl, hr, hbr⟩
end HN
end Go.Proofs.YtfmkkjnmadaplaaDoor
