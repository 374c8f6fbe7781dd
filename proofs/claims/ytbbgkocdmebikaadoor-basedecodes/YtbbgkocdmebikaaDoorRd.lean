/- What the reference's Decode does at every text: a contract, by walking its text. -/
import Derived.Test.YtbbgkocdmebikaaDoorRe
import Derived.Test.YtbbgkocdmebikaaDoorDe
namespace Go.Proofs.YtbbgkocdmebikaaDoor
open Go.RowKit
namespace Bw
open Bs

theorem bsD_drop (l : List Nat) (i : Nat) (h : i < l.length) (s : St) : bsD (l.drop i) s = bsD (l.drop (i + 1)) (byD l[i] 6 s) := by
  rw [List.drop_eq_getElem_cons h, bsD]
theorem pow8 (n : Nat) (h : n < 8) : 2 ^ n ≤ 128 := by
  have : 2 ^ n ≤ 2 ^ 7 := Nat.pow_le_pow_right (by decide) (by omega)
  omega

set_option maxHeartbeats 8000000 in
set_option maxRecDepth 100000 in
theorem rdec_any (s : ByteArray) (u : Bool) (w : World) (hs : s.size ≤ 140737488351232) :
    Calls Tryd.prog 11 #[.string s, .bool u] w fun e w' => ∃ v, e = .returned (.tuple #[v, .int .i64 (faultAt u s.data.toList)]) ∧ Below w.heap.size w w' ∧ (faultAt u s.data.toList = -1 → RowB w.heap.size w' v (dec (vals u s.data.toList))) := by
  obtain ⟨i0, hi, hz0, hz1, hz2⟩ := info_parts info5
  obtain ⟨l, hl⟩ : ∃ l, s.data.toList = l := ⟨_, rfl⟩
  have HL : Hid (s.data.toList = l) := hl
  have hll : l.length = s.size := by rw [← hl]; simp
  have HLL : Hid (l.length = s.size) := hll
  rw [hl]
  clear hl hll
  obtain ⟨F, hF⟩ : ∃ F, faultAt u l = F := ⟨_, rfl⟩
  have HF : Hid (faultAt u l = F) := hF
  rw [hF]
  clear hF
  have GG : Hid (∀ (i : Nat) (h : i < s.size) (h2 : i < l.length), s[i] = l[i]) := by
    intro i h h2
    have h1 := get_list s i h (by rw [HL.out]; exact h2)
    rw [h1]
    have h3 := HL.out
    subst h3
    rfl
  go_enter Tryd.func11, Tryd.ntmps11
  go_wp2
  go_loopw [6] (fun x wr => ∃ k : Nat, x = .int .i64 (k : Int) ∧ k ≤ s.size ∧ wr = w ∧ Hid (bad u (l.drop k) k = bad u l 0)) (fun x _ => s.size - numOf x)
  case atStart => exact ⟨0, rfl, Nat.zero_le _, rfl, rfl⟩
  case round =>
    obtain ⟨k, rfl, hk, hwr, HK⟩ := hrel
    replace hwr := hwr.symm
    subst hwr
    by_cases hlt : k < s.size
    · have hlt' : (k : Int) < (s.size : Int) := by omega
      have hkl : k < l.length := by rw [HLL.out]; exact hlt
      have hd0 := GG.out k hlt hkl
      have hhit := bad_hit u l k hkl
      have hnext := bad_next u l k hkl
      obtain ⟨d, hd⟩ : ∃ d, l[k] = d := ⟨_, rfl⟩
      rw [hd] at hd0 hhit hnext
      have cw := fun W' => worth_any u d W'
      obtain ⟨V, hV⟩ : ∃ V, wo u d = V := ⟨_, rfl⟩
      have hVb := wo_cases u d
      rw [hV] at cw hhit hnext hVb
      have hV2 : V < 64 := by omega
      have hV3 : -1 ≤ V := by omega
      clear hd hV hVb
      by_cases hneg : V < 0
      · have HE : Hid (F = (k : Int)) := by
          show _ = _
          rw [← HF.out]
          have h1 := (HK.out.symm.trans (hhit hneg))
          unfold faultAt
          rw [h1, if_pos (by omega)]
        clear hhit hnext
        go_wp2_with (go_at_call 25; refine (cw _).mono ?_; rintro e w1 ⟨rfl, hw1⟩; replace hw1 := hw1.symm; subst hw1)
        go_ret2
        rw [HE.out]
        exact ⟨_, rfl, Below.refl _ _, fun h => by omega⟩
      · have HE : Hid (bad u (l.drop (k + 1)) (k + 1) = bad u l 0) := by
          show _ = _
          rw [← HK.out]
          exact (hnext hneg).symm
        clear hhit hnext
        go_wp2_with (go_at_call 25; refine (cw _).mono ?_; rintro e w1 ⟨rfl, hw1⟩; replace hw1 := hw1.symm; subst hw1)
        go_roundw
        case rel => exact ⟨k + 1, by go_num, by omega, by first | trivial | rfl, HE⟩
        case measure => simp [numOf]; omega
    · have hlt' : ¬ (k : Int) < (s.size : Int) := by omega
      have HB : Hid (bad u l 0 = -1) := by
        show _ = _
        rw [← HK.out, bad_end u l k (by rw [HLL.out]; exact hlt)]
      clear HK
      obtain ⟨R, hR⟩ : ∃ R, s.size % 4 = R := ⟨_, rfl⟩
      have hR4 : R < 4 := by omega
      have r1 : Int.tmod (s.size : Int) 4 = (R : Int) := by rw [Int.tmod_eq_emod_of_nonneg (by omega)]; omega
      have r2 : (s.size : Int) % 4 = (R : Int) := by omega
      by_cases hR1 : R = 1
      · have hR2 : ((R : Int) == 1) = true := by simp [hR1]
        have HE : Hid (F = (s.size : Int) - 1) := by
          show _ = _
          rw [← HF.out]
          unfold faultAt
          rw [HB.out, if_neg (by simp), HLL.out, if_pos (by omega)]
        have hpos : 1 ≤ s.size := by omega
        clear hR hR1
        go_wp2
        go_ret2
        rw [HE.out]
        exact ⟨_, rfl, Below.refl _ _, fun h => by omega⟩
      · have hR2 : ((R : Int) == 1) = false := by simp; omega
        have HG : Hid (∀ c ∈ l, 0 ≤ wo u c) := none_bad u l 0 HB.out
        have hbsd := bsD_dec (vals u l) [] (vals_lt u l) (by rw [vals_len, HLL.out]; omega)
        have HX : Hid ((bsD (vals u l) ⟨[], 0, 0⟩).out = dec (vals u l) ∧ (bsD (vals u l) ⟨[], 0, 0⟩).v = fill (vals u l)) := hbsd
        have HM : Hid (l.length % 4 ≠ 1) := by show _ ≠ _; rw [HLL.out]; omega
        obtain ⟨FS, hFS⟩ : ∃ FS, bsD (vals u l) ⟨[], 0, 0⟩ = FS := ⟨_, rfl⟩
        have HFS : Hid (bsD (vals u l) ⟨[], 0, 0⟩ = FS) := hFS
        rw [hFS] at HX
        clear hR hR1 hbsd hFS
        go_wp2
        go_loopw [7, 8, 9, 10] (fun x y z t wr => ∃ (i : Nat) (o : List UInt8) (p q : Nat), t = .int .i64 (i : Int) ∧ i ≤ s.size ∧ y = .int .i64 (p : Int) ∧ z = .int .i64 (q : Int) ∧ RowB w.heap.size wr x o ∧ q < 8 ∧ Hid (p < 2 ^ q) ∧ 8 * o.length + q = 6 * i ∧ Hid (bsD ((vals u l).drop i) ⟨o, p, q⟩ = FS) ∧ Below w.heap.size w wr) (fun _ _ _ t _ => s.size - numOf t)
        case atStart => exact ⟨0, [], 0, 0, rfl, Nat.zero_le _, rfl, rfl, RowB.nil _ _, by decide, (by show 0 < 2 ^ 0; decide), rfl, HFS.out, Below.refl _ _⟩
        case round =>
          obtain ⟨i, o, p, q, rfl, hin, rfl, rfl, hr, hq, HP, hlen, HFi, hb⟩ := hrel
          by_cases hlt2 : i < s.size
          · have hlt2' : (i : Int) < (s.size : Int) := by omega
            have hil : i < l.length := by rw [HLL.out]; exact hlt2
            have hd0 := GG.out i hlt2 hil
            have hgi : 0 ≤ wo u l[i] := HG.out _ (List.getElem_mem _)
            have HS := bsD_drop (vals u l) i (by rw [vals_len]; exact hil) ⟨o, p, q⟩
            have hvi : (vals u l)[i]'(by rw [vals_len]; exact hil) = vl u l[i] := by simp [vals]
            rw [hvi] at HS
            obtain ⟨d, hd⟩ : ∃ d, l[i] = d := ⟨_, rfl⟩
            rw [hd] at hd0 HS hgi
            have cw := fun W' => worth_any u d W'
            have hwv : wo u d = (vl u d : Int) := by unfold vl; omega
            have hal := vl_lt u d
            rw [hwv] at cw
            obtain ⟨a, ha⟩ : ∃ a, vl u d = a := ⟨_, rfl⟩
            rw [ha] at cw HS hal
            have HF2 : Hid (bsD ((vals u l).drop (i + 1)) (byD a 6 ⟨o, p, q⟩) = FS) := by show _ = _; rw [← HS]; exact HFi.out
            clear hvi hd HS hwv ha hgi HFi hil
            go_wp2_with (go_at_call 25; refine (cw _).mono ?_; rintro e w1 ⟨rfl, hw1⟩; replace hw1 := hw1.symm; subst hw1)
            go_loopw [7, 8, 9, 12] (fun x y z t wr => ∃ (k : Nat) (o' : List UInt8) (p' q' : Nat), t = .int .i64 ((k : Int) - 1) ∧ k ≤ 6 ∧ y = .int .i64 (p' : Int) ∧ z = .int .i64 (q' : Int) ∧ RowB w.heap.size wr x o' ∧ q' < 8 ∧ Hid (p' < 2 ^ q') ∧ 8 * o'.length + q' + k = 6 * i + 6 ∧ Hid (byD a k ⟨o', p', q'⟩ = byD a 6 ⟨o, p, q⟩) ∧ Below w.heap.size w wr) (fun _ _ _ t _ => numS t)
            case atStart => exact ⟨6, o, p, q, rfl, Nat.le_refl _, rfl, rfl, hr, hq, HP, by omega, rfl, hb⟩
            case round =>
              obtain ⟨k, o', p', q', rfl, hk8, rfl, rfl, hr', hq', HP', hlen', HK, hb'⟩ := hrel
              clear hr hb HP
              have hsw := hb'.size
              rcases k with _ | k
              · have HE : Hid (bsD ((vals u l).drop (i + 1)) ⟨o', p', q'⟩ = FS) := by
                  show _ = _
                  have h1 : (⟨o', p', q'⟩ : St) = byD a 6 ⟨o, p, q⟩ := HK.out
                  rw [h1]
                  exact HF2.out
                rw [show ((0 : Nat) : Int) - 1 = -1 by decide]
                clear HK HF2
                go_wp2
                go_roundw
                case rel => exact ⟨i + 1, o', p', q', by go_num, by omega, rfl, rfl, hr', hq', HP', by omega, HE, hb'⟩
                case measure => simp [numOf]; omega
              · rw [show ((k + 1 : Nat) : Int) - 1 = (k : Int) by omega]
                obtain ⟨S, hS⟩ : ∃ S, a / 2 ^ k = S := ⟨_, rfl⟩
                have hSa : S ≤ a := by rw [← hS]; exact Nat.div_le_self _ _
                obtain ⟨b, hbb⟩ : ∃ b, S % 2 = b := ⟨_, rfl⟩
                have hb2 : b < 2 := by omega
                have m1 : (a : Int) / 2 ^ k = (S : Int) := by rw [← hS]; simp
                have m2 : bits .and .i64 (S : Int) 1 = (b : Int) := by rw [bit_of S (by omega), hbb]
                have hp2 := st_next q' p' b HP'.out hb2
                have hp6 := pow8 q' hq'
                have hp7 := HP'.out
                have HBy : Hid (byD a (k + 1) ⟨o', p', q'⟩ = byD a k (stD ⟨o', p', q'⟩ b)) := by
                  show _ = _
                  rw [byD, hS, hbb]
                have hpb : p' < 128 := by omega
                obtain ⟨p2, hpp⟩ : ∃ p2, 2 * p' + b = p2 := ⟨_, rfl⟩
                rw [hpp] at hp2
                have m3 : 2 * (p' : Int) + (b : Int) = (p2 : Int) := by omega
                have hp2b : p2 < 256 := by omega
                have m4 : IntKind.u8.wrap (p2 : Int) = (p2 : Int) := by rw [IntKind.wrap_u8]; omega
                have hs1 : stD ⟨o', p', q'⟩ b = if q' + 1 = 8 then ⟨o' ++ [p2.toUInt8], 0, 0⟩ else ⟨o', p2, q' + 1⟩ := by
                  unfold stD
                  rw [hpp]
                have HP2 : Hid (p2 < 2 ^ (q' + 1)) := hp2
                have hDn : ((p2.toUInt8).toNat : Int) = (p2 : Int) := by rw [u8 p2 hp2b]
                clear hS hbb hp7 hpp hp2 hp6
                by_cases hq8 : q' + 1 = 8
                · have HE : Hid (byD a k ⟨o' ++ [p2.toUInt8], 0, 0⟩ = byD a 6 ⟨o, p, q⟩) := by
                    show _ = _
                    rw [← HK.out, HBy.out, hs1, if_pos hq8]
                  have hq5 : ((q' : Int) + 1 == 8) = true := by simp; omega
                  clear hs1 HBy HK
                  go_wp2_with (at_builtin; refine wpList_append_own _ rfl _ _ 22 rfl w.heap.size 5 i0 (.int .u8 0) 1 1 Tryd.underlying22 hi hz0 hz1 hz2 rfl (by decide) _ _ _ rfl (RowB.kept hr' ((Below.refl _ _).alloc (Nat.le_refl _) _)) ⟨_, 0, none⟩ 1 1 [.int .u8 (p2 : Int)] rfl rfl (cells_new _ _ _) (by simp [Value.oneCell']) (by unfold maxLen; omega) (by omega) (by simp; omega) ?_; intro v' w3 hown' hgrow3 hnil3)
                  have hr3 : RowB w.heap.size w3 v' (o' ++ [p2.toUInt8]) := RowB.more hown' rfl (by simp only [Lib.byteCells, List.map_cons, List.map_nil, hDn])
                  have hb3 : Below w.heap.size w w3 := (hb'.alloc (by omega) _).trans (RowB.grown (RowB.kept hr' ((Below.refl _ _).alloc (Nat.le_refl _) _)) hgrow3 (by simp; omega))
                  go_roundw
                  case rel => exact ⟨k, o' ++ [p2.toUInt8], 0, 0, by go_num, by omega, rfl, rfl, hr3, by decide, (by show 0 < 2 ^ 0; decide), by simp; omega, HE, hb3⟩
                  case measure => simp [numS]
                · have HE : Hid (byD a k ⟨o', p2, q' + 1⟩ = byD a 6 ⟨o, p, q⟩) := by
                    show _ = _
                    rw [← HK.out, HBy.out, hs1, if_neg hq8]
                  have hq5 : ((q' : Int) + 1 == 8) = false := by simp; omega
                  clear hs1 HBy HK
                  go_wp2
                  go_roundw
                  case rel => exact ⟨k, o', p2, q' + 1, by go_num, by omega, rfl, by go_num, hr', by omega, HP2, by omega, HE, hb'⟩
                  case measure => simp [numS]
          · have hlt2' : ¬ (i : Int) < (s.size : Int) := by omega
            have HE : Hid (FS = ⟨o, p, q⟩) := by
              show _ = _
              rw [← HFi.out, List.drop_of_length_le (by rw [vals_len, HLL.out]; omega)]
              rfl
            have HO : Hid (o = dec (vals u l)) := by show _ = _; rw [← HX.out.1, HE.out]
            have hpv : p = fill (vals u l) := by rw [← HX.out.2, HE.out]
            have hp6 := pow8 q hq
            have hp7 := HP.out
            have hpb : p < 128 := by omega
            by_cases hp0 : p = 0
            · have HE2 : Hid (F = -1) := by
                show _ = _
                rw [← HF.out]
                unfold faultAt
                rw [HB.out, if_neg (by simp), if_neg HM.out, if_neg (by rw [← hpv]; omega)]
              subst hp0
              clear hpv hp6 hp7 HP HFi
              go_wp2
              go_ret2
              rw [HE2.out]
              exact ⟨_, rfl, hb, fun _ => by rw [← HO.out]; exact hr⟩
            · have HE2 : Hid (F = (s.size : Int) - 1) := by
                show _ = _
                rw [← HF.out]
                unfold faultAt
                rw [HB.out, if_neg (by simp), if_neg HM.out, if_pos (by rw [← hpv]; exact hp0), HLL.out]
              have hpos : 1 ≤ s.size := by
                have h1 := fill_len (vals u l) (by rw [← hpv]; exact hp0)
                rw [vals_len, HLL.out] at h1
                exact h1
              have hp1 : ((p : Int) != 0) = true := by simp; omega
              clear hpv hp6 hp7 HP HFi hp0
              go_wp2
              go_ret2
              rw [HE2.out]
              exact ⟨_, rfl, hb, fun h => by omega⟩
end Bw
end Go.Proofs.YtbbgkocdmebikaaDoor
