/- What the reference's Encode does at every slice of bytes: a contract, by walking its text. -/
import Derived.Test.YtbbgkocdmebikaaDoorEn
namespace Go.Proofs.YtbbgkocdmebikaaDoor
open Go.RowKit
namespace Bw
open Bs

/-- The number in a slot that may be -1, and 1 more. -/
def numS : Value → Nat
  | .int _ n => (n + 1).toNat
  | _ => 0
theorem bit_of (x : Nat) (hx : x < 256) : bits .and .i64 (x : Int) 1 = ((x % 2 : Nat) : Int) := by
  have h := bits_mask .i64 63 (by decide) (fun n h0 h1 => by rw [IntKind.wrap_i64]; have : (2 : Int) ^ 63 = 9223372036854775808 := by decide
                                                             omega) 1 (by decide) (x : Int) (by omega) (by have : (2 : Int) ^ 63 = 9223372036854775808 := by decide
                                                                                                           omega)
  have e : ((2 : Int) ^ 1 - 1) = 1 := by decide
  rw [e] at h
  rw [h]
  omega
theorem bsE_drop (u : Bool) (l : List UInt8) (i : Nat) (h : i < l.length) (s : St) : bsE u (l.drop i) s = bsE u (l.drop (i + 1)) (byE u l[i].toNat 8 s) := by
  rw [List.drop_eq_getElem_cons h, bsE]
theorem pow6 (n : Nat) (h : n < 6) : 2 ^ n ≤ 32 := by
  have : 2 ^ n ≤ 2 ^ 5 := Nat.pow_le_pow_right (by decide) (by omega)
  omega

theorem st_next (q v b : Nat) (hv : v < 2 ^ q) (hb : b < 2) : 2 * v + b < 2 ^ (q + 1) := by
  rw [Nat.pow_succ]
  omega
set_option maxHeartbeats 4000000 in
theorem renc_any (v0 : Value) (bs : List UInt8) (u : Bool) (w : World) (hl : bs.length ≤ 100000000000000) (hs : SlB w v0 bs) :
    Calls Tryd.prog 9 #[v0, .bool u] w fun e w' => e = .returned (.string ⟨(enc u bs).toArray⟩) ∧ Below w.heap.size w w' := by
  obtain ⟨i0, hi, hz0, hz1, hz2⟩ := info_parts info5
  have hsz := abc_size u
  have HV : Hid (SlB w v0 bs) := hs
  obtain ⟨a0, c0, rfl⟩ := hs.form
  clear hs
  obtain ⟨n, hn⟩ : ∃ n, bs.length = n := ⟨_, rfl⟩
  have HN : Hid (bs.length = n) := hn
  rw [hn] at hl ⊢
  clear hn
  go_enter Tryd.func9, Tryd.ntmps9
  go_wp2_with (go_at_call 17; refine (rabc_any u _).mono ?_; rintro e w1 ⟨rfl, hw1⟩; replace hw1 := hw1.symm; subst hw1)
  go_loopw [6, 7, 8, 9] (fun x y z t wr => ∃ (i : Nat) (o : List UInt8) (p q : Nat), t = .int .i64 (i : Int) ∧ i ≤ n ∧ y = .int .i64 (p : Int) ∧ z = .int .i64 (q : Int) ∧ RowB w.heap.size wr x o ∧ q < 6 ∧ Hid (p < 2 ^ q) ∧ 6 * o.length + q = 8 * i ∧ Hid (fiE u (bsE u (bs.drop i) ⟨o, p, q⟩) = enc u bs) ∧ Below w.heap.size w wr) (fun _ _ _ t _ => n - numOf t)
  case atStart => exact ⟨0, [], 0, 0, rfl, Nat.zero_le _, rfl, rfl, RowB.nil _ _, by decide, (by show 0 < 2 ^ 0; decide), rfl, bsE_enc u bs [], Below.refl _ _⟩
  case round =>
    obtain ⟨i, o, p, q, rfl, hin, rfl, rfl, hr, hq, HP, hlen, HF, hb⟩ := hrel
    by_cases hlt : i < n
    · have hlt' : (i : Int) < (n : Int) := by omega
      have hil : i < bs.length := by rw [HN.out]; exact hlt
      rcases HV.out with ⟨h0, _⟩ | ⟨b, off, cap, hv0, hcap, hc⟩
      · exfalso; rw [h0] at hil; simp at hil
      · have hck0 := hc i hil
        have hblt : b < w.heap.size := cell_lt hck0
        obtain rfl : a0 = some ⟨b, off, none⟩ := by injection hv0
        have HS := bsE_drop u bs i hil ⟨o, p, q⟩
        obtain ⟨a, ha⟩ : ∃ a, bs[i].toNat = a := ⟨_, rfl⟩
        have hal : a < 256 := by rw [← ha]; exact UInt8.toNat_lt _
        rw [ha] at hck0 HS
        have HF2 : Hid (fiE u (bsE u (bs.drop (i + 1)) (byE u a 8 ⟨o, p, q⟩)) = enc u bs) := by show _ = _; rw [← HS]; exact HF.out
        clear hc hv0 ha HS HF hil
        go_wp2
        go_loopw [6, 7, 8, 10] (fun x y z t wr => ∃ (k : Nat) (o' : List UInt8) (p' q' : Nat), t = .int .i64 ((k : Int) - 1) ∧ k ≤ 8 ∧ y = .int .i64 (p' : Int) ∧ z = .int .i64 (q' : Int) ∧ RowB w.heap.size wr x o' ∧ q' < 6 ∧ Hid (p' < 2 ^ q') ∧ 6 * o'.length + q' + k = 8 * i + 8 ∧ Hid (byE u a k ⟨o', p', q'⟩ = byE u a 8 ⟨o, p, q⟩) ∧ Below w.heap.size w wr) (fun _ _ _ t _ => numS t)
        case atStart => exact ⟨8, o, p, q, rfl, Nat.le_refl _, rfl, rfl, hr, hq, HP, by omega, rfl, hb⟩
        case round =>
          obtain ⟨k, o', p', q', rfl, hk8, rfl, rfl, hr', hq', HP', hlen', HK, hb'⟩ := hrel
          clear hr hb HP
          have hsw := hb'.size
          have hck : wr.cell? ⟨b, off + i, none⟩ = some (.int .u8 (a : Int)) := (hb'.cell (p := ⟨b, off + i, none⟩) hblt).trans hck0
          clear hck0
          rcases k with _ | k
          · have HE : Hid (fiE u (bsE u (bs.drop (i + 1)) ⟨o', p', q'⟩) = enc u bs) := by
              show _ = _
              have h1 : (⟨o', p', q'⟩ : St) = byE u a 8 ⟨o, p, q⟩ := HK.out
              rw [h1]
              exact HF2.out
            rw [show ((0 : Nat) : Int) - 1 = -1 by decide]
            clear HK HF2
            go_wp2
            go_roundw
            case rel => exact ⟨i + 1, o', p', q', by go_num, by omega, rfl, rfl, hr', hq', HP', by omega, HE, hb'⟩
            case measure => simp [numOf]; omega
          · rw [show ((k + 1 : Nat) : Int) - 1 = (k : Int) by omega]
            obtain ⟨S, hS⟩ : ∃ S, a / 2 ^ k = S := ⟨_, rfl⟩
            have hSa : S ≤ a := by rw [← hS]; exact Nat.div_le_self _ _
            obtain ⟨d, hd⟩ : ∃ d, S % 2 = d := ⟨_, rfl⟩
            have hd2 : d < 2 := by omega
            have m1 : (a : Int) / 2 ^ k = (S : Int) := by rw [← hS]; simp
            have m2 : bits .and .i64 (S : Int) 1 = (d : Int) := by rw [bit_of S (by omega), hd]
            have hp2 := st_next q' p' d HP'.out hd2
            have hp6 := pow6 q' hq'
            have hp7 := HP'.out
            have HB : Hid (byE u a (k + 1) ⟨o', p', q'⟩ = byE u a k (stE u ⟨o', p', q'⟩ d)) := by
              show _ = _
              rw [byE, hS, hd]
            have hpb : p' < 32 := by omega
            obtain ⟨p2, hpp⟩ : ∃ p2, 2 * p' + d = p2 := ⟨_, rfl⟩
            rw [hpp] at hp2
            have m3 : 2 * (p' : Int) + (d : Int) = (p2 : Int) := by omega
            have hp2b : p2 < 64 := by omega
            have hs1 : stE u ⟨o', p', q'⟩ d = if q' + 1 = 6 then ⟨o' ++ [lt u p2], 0, 0⟩ else ⟨o', p2, q' + 1⟩ := by
              unfold stE
              rw [hpp]
            have HP2 : Hid (p2 < 2 ^ (q' + 1)) := hp2
            clear hS hd hp7 hpp hp2 hp6
            by_cases hq6 : q' + 1 = 6
            · have HE : Hid (byE u a k ⟨o' ++ [lt u p2], 0, 0⟩ = byE u a 8 ⟨o, p, q⟩) := by
                show _ = _
                rw [← HK.out, HB.out, hs1, if_pos hq6]
              have hq5 : ((q' : Int) + 1 == 6) = true := by simp; omega
              have hgl : (abc u)[p2]'(by omega) = lt u p2 := lt_get u p2 hp2b (by omega)
              obtain ⟨c, hc⟩ : ∃ c, lt u p2 = c := ⟨_, rfl⟩
              rw [hc] at hgl HE
              clear hc hs1 HB HK
              go_wp2_with (at_builtin; refine wpList_append_own _ rfl _ _ 22 rfl w.heap.size 5 i0 (.int .u8 0) 1 1 Tryd.underlying22 hi hz0 hz1 hz2 rfl (by decide) _ _ _ rfl (RowB.kept hr' ((Below.refl _ _).alloc (Nat.le_refl _) _)) ⟨_, 0, none⟩ 1 1 [.int .u8 (c.toNat : Int)] rfl rfl (cells_new _ _ _) (by simp [Value.oneCell']) (by unfold maxLen; omega) (by omega) (by simp; omega) ?_; intro v' w3 hown' hgrow3 hnil3)
              have hr3 : RowB w.heap.size w3 v' (o' ++ [c]) := RowB.more hown' rfl rfl
              have hb3 : Below w.heap.size w w3 := (hb'.alloc (by omega) _).trans (RowB.grown (RowB.kept hr' ((Below.refl _ _).alloc (Nat.le_refl _) _)) hgrow3 (by simp; omega))
              go_roundw
              case rel => exact ⟨k, o' ++ [c], 0, 0, by go_num, by omega, rfl, rfl, hr3, by decide, (by show 0 < 2 ^ 0; decide), by simp; omega, HE, hb3⟩
              case measure => simp [numS]
            · have HE : Hid (byE u a k ⟨o', p2, q' + 1⟩ = byE u a 8 ⟨o, p, q⟩) := by
                show _ = _
                rw [← HK.out, HB.out, hs1, if_neg hq6]
              have hq5 : ((q' : Int) + 1 == 6) = false := by simp; omega
              clear hs1 HB HK
              go_wp2
              go_roundw
              case rel => exact ⟨k, o', p2, q' + 1, by go_num, by omega, rfl, by go_num, hr', by omega, HP2, by omega, HE, hb'⟩
              case measure => simp [numS]
    · have hlt' : ¬ (i : Int) < (n : Int) := by omega
      have hsw := hb.size
      have HE : Hid (fiE u ⟨o, p, q⟩ = enc u bs) := by
        show _ = _
        rw [← HF.out, List.drop_of_length_le (by rw [HN.out]; omega)]
        rfl
      clear HF
      by_cases hq0 : 0 < q
      · have HE2 : Hid (o ++ [lt u (p * 2 ^ (6 - q))] = enc u bs) := by
          show _ = _
          rw [← HE.out, fiE, if_pos hq0]
        have hq0' : (0 : Int) < (q : Int) := by omega
        clear HE
        go_wp2
        go_loopw [7, 8] (fun y z wx => ∃ p' q' : Nat, y = .int .i64 (p' : Int) ∧ z = .int .i64 (q' : Int) ∧ q' ≤ 6 ∧ Hid (p' < 2 ^ q') ∧ Hid (p' * 2 ^ (6 - q') = p * 2 ^ (6 - q)) ∧ wx = wr) (fun _ z _ => 6 - numOf z)
        case atStart => exact ⟨p, q, rfl, rfl, by omega, HP, rfl, rfl⟩
        case round =>
          obtain ⟨p', q', rfl, rfl, hq6, HP', HX, rfl⟩ := hrel
          by_cases hlt6 : q' < 6
          · have hp6 := pow6 q' hlt6
            have hp7 := HP'.out
            have hpb : p' < 32 := by omega
            have HP2 : Hid (2 * p' < 2 ^ (q' + 1)) := by
              show _ < _
              rw [Nat.pow_succ]
              omega
            have HX2 : Hid (2 * p' * 2 ^ (6 - (q' + 1)) = p * 2 ^ (6 - q)) := by
              show _ = _
              rw [← HX.out, show 6 - q' = (6 - (q' + 1)) + 1 by omega, Nat.pow_succ]
              rw [Nat.mul_comm 2 p', Nat.mul_assoc, Nat.mul_comm 2]
            have hlt6' : (q' : Int) < 6 := by omega
            clear hp6 hp7 HX
            go_wp2
            go_roundw
            case rel => exact ⟨2 * p', q' + 1, by go_num, by go_num, by omega, HP2, HX2, by first | trivial | rfl⟩
            case measure => simp [numOf]; omega
          · have hq66 : q' = 6 := by omega
            have hlt6' : ¬ (q' : Int) < 6 := by omega
            have HX2 : Hid (o ++ [lt u p'] = enc u bs) := by
              show _ = _
              rw [← HE2.out, ← HX.out, hq66]
              simp
            have hpb : p' < 64 := by
              have := HP'.out
              rw [hq66] at this
              exact this
            have hgl : (abc u)[p']'(by omega) = lt u p' := lt_get u p' hpb (by omega)
            obtain ⟨c, hc⟩ : ∃ c, lt u p' = c := ⟨_, rfl⟩
            rw [hc] at hgl HX2
            clear hc HX HE2 hq66
            go_wp2_with (at_builtin; refine wpList_append_own _ rfl _ _ 22 rfl w.heap.size 5 i0 (.int .u8 0) 1 1 Tryd.underlying22 hi hz0 hz1 hz2 rfl (by decide) _ _ _ rfl (RowB.kept hr ((Below.refl _ _).alloc (Nat.le_refl _) _)) ⟨_, 0, none⟩ 1 1 [.int .u8 (c.toNat : Int)] rfl rfl (cells_new _ _ _) (by simp [Value.oneCell']) (by unfold maxLen; omega) (by omega) (by simp; omega) ?_; intro v' w3 hown' hgrow3 hnil3; have hr3 : RowB w.heap.size w3 v' (o ++ [c]) := RowB.more hown' rfl rfl; have hcv := conv_row (RowB.cell hr3))
            have hb3 : Below w.heap.size w w3 := (hb.alloc (by omega) _).trans (RowB.grown (RowB.kept hr ((Below.refl _ _).alloc (Nat.le_refl _) _)) hgrow3 (by simp; omega))
            go_ret
            rw [← HX2.out]
            exact ⟨rfl, hb3⟩
      · have HE2 : Hid (o = enc u bs) := by
          show _ = _
          rw [← HE.out, fiE, if_neg hq0]
        have hq0' : ¬ (0 : Int) < (q : Int) := by omega
        have hcv := conv_row (RowB.cell hr)
        clear HE
        go_wp2
        go_ret
        rw [← HE2.out]
        exact ⟨rfl, hb⟩
end Bw
end Go.Proofs.YtbbgkocdmebikaaDoor
