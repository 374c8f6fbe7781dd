/- What base.Encode does at every slice of bytes: a contract, by walking its text. -/
import Derived.Test.YtbbgkocdmebikaaDoorAp
namespace Go.Proofs.YtbbgkocdmebikaaDoor
open Go.RowKit
namespace Bw
open Bs

theorem rest_any (b off cap : Nat) (rs : List UInt8) (w : World) (hl : rs.length ≤ 2) (hc : ∀ j (h : j < rs.length), w.cell? ⟨b, off + j, none⟩ = some (.int .u8 (rs[j].toNat : Int))) :
    Calls Tryd.prog 16 #[.slice (some ⟨b, off, none⟩) rs.length cap] w fun e w' => e = .returned (.int .u32 (rest3 rs : Int)) ∧ w' = w := by
  match rs, hl, hc with
  | [], _, _ => exact rest_nil _ _ _
  | [x], _, hc => exact rest_one b off cap x w (hc 0 (by simp))
  | [x, y], _, hc => exact rest_two b off cap x y w (hc 0 (by simp)) (hc 1 (by simp))
theorem rest3_lt : ∀ rs : List UInt8, rest3 rs < 16777216
  | [] => by simp [rest3]
  | [a] => by have := a.toNat_lt; simp only [rest3]; omega
  | [a, b] => by have := a.toNat_lt; have := b.toNat_lt; simp only [rest3]; omega
  | _ :: _ :: _ :: _ => by simp [rest3]
theorem sixes_rest (u : Bool) : ∀ rs : List UInt8, rs.length ≤ 2 → sixes u (rest3 rs) (rs.length + (rs.length + 2) / 3) = enc u rs
  | [], _ => by simp [sixes, enc]
  | [a], _ => by
    have := a.toNat_lt
    show sixes u (rest3 [a]) (1 + (1 + 2) / 3) = enc u [a]
    rw [show 1 + (1 + 2) / 3 = 2 by decide]
    have e : sixes u (rest3 [a]) 2 = enc u [a] := by
      simp only [sixes, List.range, List.range.loop, List.map_cons, List.map_nil, six, rest3, enc, Nat.reduceMul, Nat.reduceSub, Nat.reducePow]
      rw [show 65536 * a.toNat / 262144 % 64 = a.toNat / 4 by omega, show 65536 * a.toNat / 4096 % 64 = a.toNat % 4 * 16 by omega]
    exact e
  | [a, b], _ => by
    have := a.toNat_lt
    have := b.toNat_lt
    show sixes u (rest3 [a, b]) (2 + (2 + 2) / 3) = enc u [a, b]
    rw [show 2 + (2 + 2) / 3 = 3 by decide]
    have e : sixes u (rest3 [a, b]) 3 = enc u [a, b] := by
      simp only [sixes, List.range, List.range.loop, List.map_cons, List.map_nil, six, rest3, enc, Nat.reduceMul, Nat.reduceSub, Nat.reducePow]
      rw [show (65536 * a.toNat + 256 * b.toNat) / 262144 % 64 = a.toNat / 4 by omega, show (65536 * a.toNat + 256 * b.toNat) / 4096 % 64 = a.toNat % 4 * 16 + b.toNat / 16 by omega, show (65536 * a.toNat + 256 * b.toNat) / 64 % 64 = b.toNat % 16 * 4 by omega]
    exact e
  | _ :: _ :: _ :: _, h => by simp at h
theorem sixes_three (u : Bool) (a b c : UInt8) : sixes u (65536 * a.toNat + 256 * b.toNat + c.toNat) 4 = enc u [a, b, c] := by
  have := a.toNat_lt
  have := b.toNat_lt
  have := c.toNat_lt
  simp only [sixes, List.range, List.range.loop, List.map_cons, List.map_nil, six, enc, Nat.reduceMul, Nat.reduceSub, Nat.reducePow]
  rw [show (65536 * a.toNat + 256 * b.toNat + c.toNat) / 262144 % 64 = a.toNat / 4 by omega, show (65536 * a.toNat + 256 * b.toNat + c.toNat) / 4096 % 64 = a.toNat % 4 * 16 + b.toNat / 16 by omega, show (65536 * a.toNat + 256 * b.toNat + c.toNat) / 64 % 64 = b.toNat % 16 * 4 + c.toNat / 64 by omega, show (65536 * a.toNat + 256 * b.toNat + c.toNat) / 1 % 64 = c.toNat % 64 by omega]
theorem take_three (bs : List UInt8) (I : Nat) (h : I + 2 < bs.length) : bs.take (I + 3) = bs.take I ++ [bs[I], bs[I + 1], bs[I + 2]] := by
  have e1 : bs.take (I + 1) = bs.take I ++ [bs[I]] := List.take_succ_eq_append_getElem (by omega)
  have e2 : bs.take (I + 2) = bs.take (I + 1) ++ [bs[I + 1]] := List.take_succ_eq_append_getElem (by omega)
  have e3 : bs.take (I + 3) = bs.take (I + 2) ++ [bs[I + 2]] := List.take_succ_eq_append_getElem (by omega)
  rw [e3, e2, e1]
  simp only [List.append_assoc, List.cons_append, List.nil_append]

theorem made (base : Nat) (W : World) (c : Nat) (hc : c ≤ 281474976710656) (hbase : base ≤ W.heap.size) :
    ∃ M : Array Value, (Instr.makeSlice 22 (.int .i64 0) (.int .i64 (c : Int))).run Tryd.prog W = .ok (.slice (some ⟨W.heap.size, 0, none⟩) 0 c) (W.alloc (.cells M 5)) ∧ RowB base (W.alloc (.cells M 5)) (.slice (some ⟨W.heap.size, 0, none⟩) 0 c) [] := by
  obtain ⟨i0, hi, hz0, hz1, hz2⟩ := info_parts info5
  have h := run_make (P := Tryd.prog) W 22 5 i0 (.int .u8 0) Tryd.underlying22 hi hz0 .i64 .i64 0 (c : Int) (by omega) (by omega) (by rw [hz2]; omega) (by omega)
  simp only [Int.toNat_zero, Int.toNat_natCast] at h
  refine ⟨_, h, ?_⟩
  exact World.ownsRow_made W _ c hbase (by unfold maxLen; omega) (by rw [size_madeCells, hz1])

set_option maxHeartbeats 1000000 in
theorem enc_cons (b off cap : Nat) (bs : List UInt8) (u : Bool) (w : World) (hl : bs.length ≤ 100000000000000) (h0 : bs ≠ []) (hcap : bs.length ≤ cap)
    (hc : ∀ j (h : j < bs.length), w.cell? ⟨b, off + j, none⟩ = some (.int .u8 (bs[j].toNat : Int))) :
    Calls Tryd.prog 7 #[.slice (some ⟨b, off, none⟩) bs.length cap, .bool u] w fun e w' => e = .returned (.string ⟨(enc u bs).toArray⟩) ∧ Below w.heap.size w w' := by
  have hn0 : 0 < bs.length := List.length_pos_iff.2 h0
  have hblt : b < w.heap.size := cell_lt (hc 0 hn0)
  obtain ⟨n, hn⟩ : ∃ n, bs.length = n := ⟨_, rfl⟩
  have HN : Hid (bs.length = n) := hn
  have HC : Hid (∀ j (h : j < bs.length), w.cell? ⟨b, off + j, none⟩ = some (.int .u8 (bs[j].toNat : Int))) := hc
  rw [hn] at hl hn0 hcap ⊢
  clear hn hc h0
  obtain ⟨r, hr⟩ : ∃ r, n % 3 = r := ⟨_, rfl⟩
  obtain ⟨W, hW⟩ : ∃ W, n - r = W := ⟨_, rfl⟩
  have hr3 : r < 3 := by omega
  have r1 : Int.tmod (n : Int) 3 = (r : Int) := by rw [Int.tmod_eq_emod_of_nonneg (by omega)]; omega
  have r2 : (n : Int) % 3 = (r : Int) := by omega
  have r3 : (n : Int) - (r : Int) = (W : Int) := by omega
  have r4 : (n : Int) - (W : Int) = (r : Int) := by omega
  have hWn : W ≤ n := by omega
  have HW : Hid (W % 3 = 0 ∧ W + r = n) := ⟨by omega, by omega⟩
  clear hr hW
  obtain ⟨C, hC⟩ : ∃ C, n + (n + 2) / 3 = C := ⟨_, rfl⟩
  have hCb : C ≤ 281474976710656 := by omega
  have c14 := fun W' => textLen_any n W' (by omega)
  rw [hC] at c14
  clear hC
  obtain ⟨M, hmk, hrow0⟩ := made w.heap.size w C hCb (Nat.le_refl _)
  go_enter Tryd.func7, Tryd.ntmps7
  go_wp2_with (first
    | (go_at_call 13; refine (abcOf_any u _).mono ?_; rintro e w1 ⟨rfl, hw1⟩; replace hw1 := hw1.symm; subst hw1)
    | (go_at_call 14; refine (c14 _).mono ?_; rintro e w1 ⟨rfl, hw1⟩; replace hw1 := hw1.symm; subst hw1))
  clear hmk c14
  go_loopw [6, 8] (fun x y wr => ∃ I : Nat, y = .int .i64 (I : Int) ∧ I ≤ W ∧ Hid (I % 3 = 0) ∧ RowB w.heap.size wr x (enc u (bs.take I)) ∧ Below w.heap.size w wr) (fun _ y _ => W - numOf y)
  case atStart => exact ⟨0, rfl, Nat.zero_le _, rfl, hrow0, (Below.refl _ _).alloc (Nat.le_refl _) _⟩
  case round =>
    obtain ⟨I, rfl, hI, HI, hrw, hb⟩ := hrel
    clear hrow0
    have hsw := hb.size
    have hel : (enc u (bs.take I)).length ≤ 134000000000000 := by rw [enc_len, List.length_take]; omega
    by_cases hlt : I < W
    · have hlt' : (I : Int) < (W : Int) := by omega
      have hI3 : I + 3 ≤ W := by have h1 := HI.out; have h2 := HW.out; omega
      have hnl : bs.length = n := HN.out
      have k0 := (hb.cell (p := ⟨b, off + I, none⟩) hblt).trans (HC.out I (by omega))
      have k1 := (hb.cell (p := ⟨b, off + (I + 1), none⟩) hblt).trans (HC.out (I + 1) (by omega))
      have k2 := (hb.cell (p := ⟨b, off + (I + 2), none⟩) hblt).trans (HC.out (I + 2) (by omega))
      have ht := take_three bs I (by omega)
      obtain ⟨x0, hx0⟩ : ∃ x, bs[I] = x := ⟨_, rfl⟩
      obtain ⟨x1, hx1⟩ : ∃ x, bs[I + 1] = x := ⟨_, rfl⟩
      obtain ⟨x2, hx2⟩ : ∃ x, bs[I + 2] = x := ⟨_, rfl⟩
      rw [hx0] at k0 ht
      rw [hx1] at k1 ht
      rw [hx2] at k2 ht
      have HT : Hid (enc u (bs.take (I + 3)) = enc u (bs.take I) ++ sixes u (65536 * x0.toNat + 256 * x1.toNat + x2.toNat) 4) := by
        show _ = _
        rw [ht, enc_append, sixes_three]
        rw [List.length_take]
        have h1 := HI.out
        omega
      have l0 := x0.toNat_lt
      have l1 := x1.toNat_lt
      have l2 := x2.toNat_lt
      obtain ⟨a, ha⟩ : ∃ a, x0.toNat = a := ⟨_, rfl⟩
      obtain ⟨c, hc⟩ : ∃ c, x1.toNat = c := ⟨_, rfl⟩
      obtain ⟨d, hd⟩ : ∃ d, x2.toNat = d := ⟨_, rfl⟩
      rw [ha] at k0 l0 HT
      rw [hc] at k1 l1 HT
      rw [hd] at k2 l2 HT
      clear hx0 hx1 hx2 ha hc hd ht hnl
      obtain ⟨I1, hI1⟩ : ∃ I1, I + 1 = I1 := ⟨_, rfl⟩
      obtain ⟨I2, hI2⟩ : ∃ I2, I + 2 = I2 := ⟨_, rfl⟩
      rw [hI1] at k1
      rw [hI2] at k2
      have j1 : (I : Int) + 1 = (I1 : Int) := by omega
      have j2 : (I : Int) + 2 = (I2 : Int) := by omega
      have b1 : (I1 : Int) < (n : Int) := by omega
      have b2 : (I2 : Int) < (n : Int) := by omega
      have b0 : (I : Int) < (n : Int) := by omega
      clear hI1 hI2
      obtain ⟨X, hX⟩ : ∃ X, 65536 * a = X := ⟨_, rfl⟩
      obtain ⟨Y, hY⟩ : ∃ Y, 256 * c = Y := ⟨_, rfl⟩
      obtain ⟨Z, hZ⟩ : ∃ Z, X + Y = Z := ⟨_, rfl⟩
      obtain ⟨B, hB⟩ : ∃ B, Z + d = B := ⟨_, rfl⟩
      have m1 : (a : Int) * 65536 = (X : Int) := by omega
      have m2 : IntKind.u32.wrap (X : Int) = (X : Int) := by rw [IntKind.wrap_u32']; omega
      have m5 : (c : Int) * 256 = (Y : Int) := by omega
      have m6 : IntKind.u32.wrap (Y : Int) = (Y : Int) := by rw [IntKind.wrap_u32']; omega
      have m3 : bits .or .u32 (X : Int) (Y : Int) = (Z : Int) := or32 16 a Y X Z (by omega) (by omega) (by omega) (by omega)
      have m4 : bits .or .u32 (Z : Int) (d : Int) = (B : Int) := or32 8 (256 * a + c) d Z B (by omega) (by omega) (by omega) (by omega)
      have hXb : X < 16777216 := by omega
      have hYb : Y < 16777216 := by omega
      have hBb : B < 16777216 := by omega
      rw [hX, hY, hZ, hB] at HT
      clear hX hY hZ hB
      go_wp2
      go_quiet (fail)
      go_wp2_with (go_at_call 15; refine (appL_any w.heap.size _ _ _ u B 4 (RowB.kept hrw (below_drewN (Below.refl _ _) _)) (by simp; omega) hBb (by omega) (by omega)).mono ?_; rintro e w2 ⟨v2, rfl, hr2, hb2⟩)
      have hr3 : RowB w.heap.size w2 v2 (enc u (bs.take (I + 3))) := by rw [HT.out]; exact hr2
      have hb3 : Below w.heap.size w w2 := (below_drewN hb _).trans hb2
      go_roundw
      case rel => exact ⟨I + 3, by go_num, hI3, by have h1 := HI.out; show _ = _; omega, hr3, hb3⟩
      case measure => simp [numOf]; omega
    · have hlt' : ¬ (I : Int) < (W : Int) := by omega
      have hIW : I = W := by omega
      have HIW : Hid (I = W) := hIW
      obtain ⟨rs, hrs⟩ : ∃ rs, bs.drop I = rs := ⟨_, rfl⟩
      have hrl : rs.length = r := by rw [← hrs, List.length_drop, HN.out]; have h2 := HW.out; omega
      have HT : Hid (enc u bs = enc u (bs.take I) ++ sixes u (rest3 rs) (r + (r + 2) / 3)) := by
        show _ = _
        rw [← hrl, sixes_rest u rs (by omega), ← hrs, ← enc_append, List.take_append_drop]
        rw [List.length_take, HN.out]
        have h1 := HI.out
        omega
      have hcl : ∀ j (h : j < rs.length), wr.cell? ⟨b, off + I + j, none⟩ = some (.int .u8 (rs[j].toNat : Int)) := by
        intro j hj
        have hj2 : I + j < bs.length := by rw [HN.out]; have h2 := HW.out; omega
        have k0 := (hb.cell (p := ⟨b, off + (I + j), none⟩) hblt).trans (HC.out (I + j) hj2)
        rw [Nat.add_assoc, k0]
        subst hrs
        rw [List.getElem_drop]
      have c16 := rest_any b (off + I) (cap - I) rs wr (by omega) hcl
      have c14 := fun W' => textLen_any r W' (by omega)
      have hBb := rest3_lt rs
      rw [show rs.length = n - I by rw [hrl]; have h2 := HW.out; omega] at c16
      obtain ⟨B, hB⟩ : ∃ B, rest3 rs = B := ⟨_, rfl⟩
      obtain ⟨T, hT⟩ : ∃ T, r + (r + 2) / 3 = T := ⟨_, rfl⟩
      have hTb : T ≤ 4 := by omega
      rw [hB] at c16 hBb HT
      rw [hT] at c14 HT
      rw [hIW] at c16 hrw HT hel
      have hWc : W ≤ cap := by omega
      have HB0 : Hid (r = 0 → B = 0) := fun h => by
        rw [← hB]
        have : rs = [] := List.eq_nil_of_length_eq_zero (by omega)
        rw [this]
        rfl
      clear hB hT hrs hrl hcl HIW hIW
      by_cases hcw : cap = W
      · have hnz : n - W = 0 := by omega
        have c16z : Calls Tryd.prog 16 #[.slice (some ⟨b, off, none⟩) 0 0] wr fun e w' => e = .returned (.int .u32 (B : Int)) ∧ w' = wr := by
          have hB0 : B = 0 := HB0.out (by have h2 := HW.out; omega)
          rw [hB0]
          exact rest_nil _ _ _
        clear hnz c16
        subst hcw
        go_wp2_with (first
          | (go_at_call 16; with_reducible refine c16z.mono ?_; rintro e w1 ⟨rfl, hw1⟩; replace hw1 := hw1.symm; subst hw1)
          | (go_at_call 14; refine (c14 _).mono ?_; rintro e w1 ⟨rfl, hw1⟩; replace hw1 := hw1.symm; subst hw1)
          | (go_at_call 15; refine (appL_any w.heap.size _ _ _ u B T hrw (by omega) hBb hTb (by omega)).mono ?_; rintro e w2 ⟨v2, rfl, hr2, hb2⟩; have hcv := conv_row (RowB.cell hr2)))
        go_ret
        rw [HT.out]
        exact ⟨rfl, hb.trans hb2⟩
      · go_wp2_with (first
          | (go_at_call 16; with_reducible refine c16.mono ?_; rintro e w1 ⟨rfl, hw1⟩; replace hw1 := hw1.symm; subst hw1)
          | (go_at_call 14; refine (c14 _).mono ?_; rintro e w1 ⟨rfl, hw1⟩; replace hw1 := hw1.symm; subst hw1)
          | (go_at_call 15; refine (appL_any w.heap.size _ _ _ u B T hrw (by omega) hBb hTb (by omega)).mono ?_; rintro e w2 ⟨v2, rfl, hr2, hb2⟩; have hcv := conv_row (RowB.cell hr2)))
        go_ret
        rw [HT.out]
        exact ⟨rfl, hb.trans hb2⟩
end Bw
end Go.Proofs.YtbbgkocdmebikaaDoor
