/- The walk of HashCuts: it answers true. -/
import Derived.Test.YtfmkkjnmadaplaaDoorHmN
import Derived.Test.YtfmkkjnmadaplaaDoorHmW
import Derived.Test.YtfmkkjnmadaplaaDoorSh
import Derived.Test.YtfmkkjnmadaplaaDoorSa
import Derived.Deep.Cut
import Derived.Deep.CutRange
namespace Go.Proofs.YtfmkkjnmadaplaaDoor
open Go.RowKit
namespace Lc
open Hs Rg Wo

theorem slb_of_range {w : World} {b : Nat} {rs : List UInt8} {m : Nat} (h : w.rangeAt b 0 (Lib.byteCells rs)) (hm : rs.length = m) : Bw.SlB w (.slice (some ⟨b, 0, none⟩) m m) rs := by
  subst hm
  refine .inr ⟨b, 0, _, rfl, Nat.le_refl _, fun j hj => h j _ (by simp [Lib.byteCells, hj])⟩

theorem same_true (u v : Value) (S : List UInt8) (W : World) (hS : S.length ≤ 140737488355328) (hu : Bw.SlB W u S) (hv : Bw.SlB W v S) :
    Calls Tryd.prog 9 #[u, v] W fun e w' => e = .returned (.bool true) ∧ Below W.heap.size W w' := by
  have h := Bw.same_any u v S S W hS hS hu hv
  rw [decide_eq_true rfl] at h
  exact h
/-- A variable that was made and filled. -/
theorem made_new (w1 : World) (Z : Array Value) (t : TypeId) (C : List Value) (hZ : ∀ j, j < C.length → (Z[j]?).isSome = true) :
    (w1.alloc (.cells Z t)).there w1.heap.size 0 C.length ∧ Below w1.heap.size w1 ((w1.alloc (.cells Z t)).setCells w1.heap.size 0 C) ∧ ((w1.alloc (.cells Z t)).setCells w1.heap.size 0 C).rangeAt w1.heap.size 0 C ∧ w1.heap.size < ((w1.alloc (.cells Z t)).setCells w1.heap.size 0 C).heap.size := by
  have h := Hw.filled_new (t := t) (Below.refl w1.heap.size w1) hZ
  exact ⟨h.1, h.2.1, h.2.2.1, by rw [h.2.2.2.2]; omega⟩

set_option maxHeartbeats 16000000 in
set_option maxRecDepth 4000 in
theorem cuts_law (sp : Option Addr) (sc : Nat) (bs : List UInt8) (f s : Int) (w : World) (hT : Tabs w) (hm : bs.length ≤ 140737488355328) (hf1 : -9223372036854775808 ≤ f) (hf2 : f ≤ 9223372036854775807) (hs1 : -9223372036854775808 ≤ s) (hs2 : s ≤ 9223372036854775807) (hv : Bw.SlM w (.slice sp bs.length sc) bs) :
    Calls Tryd.prog 5 #[.slice sp bs.length sc, .int .i64 f, .int .i64 s] w fun e w' => e = .returned (.bool true) ∧ Below w.heap.size w w' := by
  have hsc : bs.length ≤ sc ∧ sc ≤ 9223372036854775807 := by
    rcases hv with ⟨rfl, h | ⟨x, c, h, hc⟩⟩ | ⟨b, off, c, h, h1, h2, _⟩
    · cases h; simp
    · cases h; exact ⟨Nat.zero_le _, hc⟩
    · cases h; exact ⟨h1, h2⟩
  have HV : Hid (Bw.SlM w (.slice sp bs.length sc) bs) := hv
  have HT : Hid (Tabs w) := hT
  obtain ⟨L, hL⟩ : ∃ L, bs.length = L := ⟨_, rfl⟩
  have HL : Hid (bs.length = L) := hL
  rw [hL] at hm hsc ⊢
  obtain ⟨hsc1, hsc2⟩ := hsc
  have cSh := Hw.shown_any w hT
  clear hL hv hT
  go_enter Tryd.func5, Tryd.ntmps5
  go_upto_region 4 with (go_at_call 6; refine cSh.mono ?_; rintro e w1 ⟨rfl, hb1⟩; have HB1 := (show Hid (Below w.heap.size w w1) from hb1); clear hb1 cSh)
  go_cut [30] from 20 (fun c wx => c = .bool (decide (f < 0 ∨ (L : Int) < f)) ∧ wx = w1)
  case first =>
    by_cases h1 : f < 0
    · go_wp2
      go_meet
      case rel => exact ⟨by simp [h1], rfl⟩
    · by_cases h2 : (L : Int) < f
      · go_wp2
        go_meet
        case rel => exact ⟨by simp [h2], rfl⟩
      · go_wp2
        go_meet
        case rel => exact ⟨by simp [h1, h2], rfl⟩
  case rest =>
  obtain ⟨rfl, rfl⟩ := hcut
  go_upto_if 30 with fail
  go_cut [9] from 20 (fun x wx => (∃ i : Nat, i ≤ L ∧ x = .int .i64 (i : Int)) ∧ wx = wc)
  case first =>
    by_cases hB : f < 0 ∨ (L : Int) < f
    · have hd : decide (f < 0 ∨ (L : Int) < f) = true := decide_eq_true hB
      have hq : Int.tdiv (L : Int) 2 = ((L / 2 : Nat) : Int) := by rw [Int.tdiv_eq_ediv_of_nonneg (by omega)]; omega
      rw [hd]
      clear hB hd
      go_wp2
      go_meet
      case rel => exact ⟨⟨L / 2, by omega, by congr 1⟩, rfl⟩
    · have hd : decide (f < 0 ∨ (L : Int) < f) = false := decide_eq_false hB
      rw [hd]
      go_wp2
      go_meet
      case rel => exact ⟨⟨f.toNat, by omega, by congr 1; omega⟩, rfl⟩
  case rest =>
  obtain ⟨⟨i, hi, rfl⟩, rfl⟩ := hcut
  clear hf1 hf2
  go_upto_region 7 with fail
  go_cut [41] from 20 (fun c wx => c = .bool (decide (s < (i : Int) ∨ (L : Int) < s)) ∧ wx = wc)
  case first =>
    by_cases h1 : s < (i : Int)
    · go_wp2
      go_meet
      case rel => exact ⟨by simp [h1], rfl⟩
    · by_cases h2 : (L : Int) < s
      · go_wp2
        go_meet
        case rel => exact ⟨by simp [h2], rfl⟩
      · go_wp2
        go_meet
        case rel => exact ⟨by simp [h1, h2], rfl⟩
  case rest =>
  obtain ⟨rfl, rfl⟩ := hcut
  go_upto_if 41 with fail
  go_cut [10] from 20 (fun x wx => (∃ k : Nat, (i ≤ k ∧ k ≤ L) ∧ x = .int .i64 (k : Int)) ∧ wx = wc)
  case first =>
    by_cases hB : s < (i : Int) ∨ (L : Int) < s
    · have hd : decide (s < (i : Int) ∨ (L : Int) < s) = true := decide_eq_true hB
      rw [hd]
      clear hB hd
      go_wp2
      go_meet
      case rel => exact ⟨⟨L, ⟨hi, Nat.le_refl _⟩, rfl⟩, rfl⟩
    · have hd : decide (s < (i : Int) ∨ (L : Int) < s) = false := decide_eq_false hB
      rw [hd]
      go_wp2
      go_meet
      case rel => exact ⟨⟨s.toNat, ⟨by omega, by omega⟩, by congr 1; omega⟩, rfl⟩
  case rest =>
  obtain ⟨⟨k, ⟨hik, hk⟩, rfl⟩, rfl⟩ := hcut
  clear hs1 hs2
  obtain ⟨KI, hKI⟩ : ∃ x, k - i = x := ⟨_, rfl⟩
  obtain ⟨KL, hKL⟩ : ∃ x, L - k = x := ⟨_, rfl⟩
  obtain ⟨spi, hspi⟩ : ∃ x, (if sc = i then sp else Option.map (fun x => x.add i) sp) = x := ⟨_, rfl⟩
  obtain ⟨spk, hspk⟩ : ∃ x, (if sc = k then sp else Option.map (fun x => x.add k) sp) = x := ⟨_, rfl⟩
  obtain ⟨D1, hD1⟩ : ∃ x, bs.take i = x := ⟨_, rfl⟩
  obtain ⟨D2, hD2⟩ : ∃ x, (bs.drop i).take KI = x := ⟨_, rfl⟩
  obtain ⟨D3, hD3⟩ : ∃ x, bs.drop k = x := ⟨_, rfl⟩
  have HD : Hid (D1 ++ D2 ++ D3 = bs) := by
    show _ = _
    have e : D2 ++ D3 = bs.drop i := by
      rw [← hD2, ← hD3, show bs.drop k = (bs.drop i).drop KI by rw [List.drop_drop]; congr 1; omega, List.take_append_drop]
    rw [List.append_assoc, e, ← hD1, List.take_append_drop]
  have HDl : Hid (D1.length = i ∧ D2.length = KI ∧ D3.length = KL) := by
    have := HL.out
    refine ⟨?_, ?_, ?_⟩
    · rw [← hD1, List.length_take]; omega
    · rw [← hD2, List.length_take, List.length_drop]; omega
    · rw [← hD3, List.length_drop]; omega
  have hv1 : Bw.SlM w (.slice sp i sc) D1 := by rw [← hD1]; exact HV.out.front i (by rw [HL.out]; exact hi)
  have hv2 : Bw.SlM w (.slice spi KI (sc - i)) D2 := by
    have h1 := HV.out.back i (by rw [HL.out]; exact hi)
    rw [hspi, ← List.length_drop] at h1
    have h2 := h1.front KI (by rw [List.length_drop, HL.out]; omega)
    rw [hD2] at h2
    exact h2
  have hv3 : Bw.SlM w (.slice spk KL (sc - k)) D3 := by
    have h1 := HV.out.back k (by rw [HL.out]; exact hk)
    rw [hspk, hD3, HL.out, hKL] at h1
    exact h1
  have HV0 : Hid (Bw.SlM w (.slice sp L sc) bs) := by show Bw.SlM _ _ _; have := HV.out; rw [HL.out] at this; exact this
  have HV1 : Hid (Bw.SlM w (.slice sp i sc) D1) := hv1
  have HV2 : Hid (Bw.SlM w (.slice spi KI (sc - i)) D2) := hv2
  have HV3 : Hid (Bw.SlM w (.slice spk KL (sc - k)) D3) := hv3
  have m1 : (i : Int) ≤ (sc : Int) := by omega
  have m2 : (i : Int) ≤ (L : Int) := by omega
  have m3 : (k : Int) ≤ (L : Int) := by omega
  have m4 : (k : Int) ≤ (sc : Int) := by omega
  have m5 : (i : Int) ≤ (k : Int) := by omega
  have m6 : (L : Int) ≤ (sc : Int) := by omega
  clear hv1 hv2 hv3 hD1 hD2 hD3 HV
  obtain ⟨n, hn⟩ : ∃ n, w.heap.size = n := ⟨_, rfl⟩
  have HNn : Hid (w.heap.size = n) := hn
  rw [hn] at HB1
  have hT1 : 1 < n := by rw [← hn]; exact HT.out.lt
  clear hn
  have hz1 := HN.zeroOut
  have hz2 := HW.zeroOut
  obtain ⟨Z1, hZ1⟩ : ∃ Z, HN.zout = Z := ⟨_, rfl⟩
  obtain ⟨Z2, hZ2⟩ : ∃ Z, HW.zout = Z := ⟨_, rfl⟩
  have Y1 : Hid (∀ j, j < 32 → (Z1[j]?).isSome = true) := fun j hj => by rw [← hZ1, HN.zout]; simp [hj]
  have Y2 : Hid (∀ j, j < 64 → (Z2[j]?).isSome = true) := fun j hj => by rw [← hZ2, HW.zout]; simp [hj]
  rw [hZ1] at hz1
  rw [hZ2] at hz2
  have c1 : ∀ W : World, Below n w W → Calls Tryd.prog 7 #[.slice sp L sc] W fun e w' => e = .returned (.agg (Lib.byteCells (sum kn bs)).toArray) ∧ Below W.heap.size W w' := fun W hW => by
    have h := HN.sum_any sp sc bs W (HT.out.below hW hT1) (by have := HDl.out; have := HL.out; omega) (by have := HV0.out.below hW (by rw [HNn.out]; exact Nat.le_refl _); rw [HL.out]; exact this)
    rw [HL.out] at h
    exact h
  have O1 : Hid ((Lib.byteCells (sum kn bs)).toArray.all (·.oneCell') = true) := all_oneCell_toArray (Bw.one_byte _)
  have N1 : Hid ((Lib.byteCells (sum kn bs)).length = 32) := by show _ = _; rw [Lib.byteCells_length]; exact sum_len kn _
  obtain ⟨C1, hC1⟩ : ∃ C, Lib.byteCells (sum kn bs) = C := ⟨_, rfl⟩
  rw [hC1] at c1 O1 N1
  have E1 : Hid (Lib.byteCells (sum kn bs) = C1) := hC1
  have c2 : ∀ W : World, Below n w W → Calls Tryd.prog 8 #[.slice sp L sc] W fun e w' => e = .returned (.agg (Lib.byteCells (sum kw bs)).toArray) ∧ Below W.heap.size W w' := fun W hW => by
    have h := HW.sum_any sp sc bs W (HT.out.below hW hT1) (by have := HDl.out; have := HL.out; omega) (by have := HV0.out.below hW (by rw [HNn.out]; exact Nat.le_refl _); rw [HL.out]; exact this)
    rw [HL.out] at h
    exact h
  have O2 : Hid ((Lib.byteCells (sum kw bs)).toArray.all (·.oneCell') = true) := all_oneCell_toArray (Bw.one_byte _)
  have N2 : Hid ((Lib.byteCells (sum kw bs)).length = 64) := by show _ = _; rw [Lib.byteCells_length]; exact sum_len kw _
  obtain ⟨C2, hC2⟩ : ∃ C, Lib.byteCells (sum kw bs) = C := ⟨_, rfl⟩
  rw [hC2] at c2 O2 N2
  have E2 : Hid (Lib.byteCells (sum kw bs) = C2) := hC2
  have c3 : ∀ W : World, Below n w W → Calls Tryd.prog 7 #[.slice sp i sc] W fun e w' => e = .returned (.agg (Lib.byteCells (sum kn D1)).toArray) ∧ Below W.heap.size W w' := fun W hW => by
    have h := HN.sum_any sp sc D1 W (HT.out.below hW hT1) (by have := HDl.out; have := HL.out; omega) (by have := HV1.out.below hW (by rw [HNn.out]; exact Nat.le_refl _); rw [HDl.out.1]; exact this)
    rw [HDl.out.1] at h
    exact h
  have O3 : Hid ((Lib.byteCells (sum kn D1)).toArray.all (·.oneCell') = true) := all_oneCell_toArray (Bw.one_byte _)
  have N3 : Hid ((Lib.byteCells (sum kn D1)).length = 32) := by show _ = _; rw [Lib.byteCells_length]; exact sum_len kn _
  obtain ⟨C3, hC3⟩ : ∃ C, Lib.byteCells (sum kn D1) = C := ⟨_, rfl⟩
  rw [hC3] at c3 O3 N3
  have E3 : Hid (Lib.byteCells (sum kn D1) = C3) := hC3
  have c4 : ∀ W : World, Below n w W → Calls Tryd.prog 8 #[.slice sp i sc] W fun e w' => e = .returned (.agg (Lib.byteCells (sum kw D1)).toArray) ∧ Below W.heap.size W w' := fun W hW => by
    have h := HW.sum_any sp sc D1 W (HT.out.below hW hT1) (by have := HDl.out; have := HL.out; omega) (by have := HV1.out.below hW (by rw [HNn.out]; exact Nat.le_refl _); rw [HDl.out.1]; exact this)
    rw [HDl.out.1] at h
    exact h
  have O4 : Hid ((Lib.byteCells (sum kw D1)).toArray.all (·.oneCell') = true) := all_oneCell_toArray (Bw.one_byte _)
  have N4 : Hid ((Lib.byteCells (sum kw D1)).length = 64) := by show _ = _; rw [Lib.byteCells_length]; exact sum_len kw _
  obtain ⟨C4, hC4⟩ : ∃ C, Lib.byteCells (sum kw D1) = C := ⟨_, rfl⟩
  rw [hC4] at c4 O4 N4
  have E4 : Hid (Lib.byteCells (sum kw D1) = C4) := hC4
  clear hZ1 hZ2 hC1 hC2 hC3 hC4
  go_wp2_with fail
  go_loopw [11] (fun x wr => ∃ r : Nat, x = .int .i64 (r : Int) ∧ r ≤ 2 ∧ Hid (Below n w wr)) (fun x _ => 2 - Bw.numOf x)
  case atStart => exact ⟨0, rfl, by omega, HB1⟩
  case round =>
    clear HB1
    obtain ⟨r, rfl, hr, HBr⟩ := hrel
    rcases (show r = 0 ∨ r = 1 ∨ r = 2 by omega) with rfl | rfl | rfl
    · obtain ⟨b, hb⟩ : ∃ b, wr.heap.size = b := ⟨_, rfl⟩
      have hnb : n ≤ b := by rw [← hb, ← HNn.out]; exact HBr.out.size
      have cN := HN.new_any wr (HT.out.below HBr.out hT1)
      rw [hb] at cN
      go_wp2_with (first
        | (go_at_call 9; have hq := HB18; clear hq; refine (same_true vm (.slice (some ⟨w13.heap.size, 0, none⟩) 32 32) (sum kn D1) w18 (by rw [sum_len]; decide) HM18.out.cell (slb_of_range (by rw [E3.out]; exact HA3_18.out.1) (sum_len _ _))).mono ?_; rintro e w19 ⟨rfl, hb⟩; have HB19 := (show Hid (Below n w w19) from HB18.out.trans (hb.mono (by have := HS18.out; omega))); have HS19 := (show Hid (b < w19.heap.size) from Nat.lt_of_lt_of_le HS18.out hb.size); have HM19 := (show Hid (Bw.RowB (b + 1) w19 vm (sum kn D1)) from HM18.out.kept hb); have HX19 := (show Hid (Bw.RowB (b + 1) w19 vx (sum kn bs)) from HX18.out.kept hb); have HY19 := (show Hid (Bw.RowB (b + 1) w19 vy (sum kn bs)) from HY18.out.kept hb); have HA1_19 := (show Hid (w19.rangeAt w9.heap.size 0 C1 ∧ w9.heap.size < w19.heap.size) from ⟨Below.range hb HA1_18.out.1 HA1_18.out.2, Nat.lt_of_lt_of_le HA1_18.out.2 (hb).size⟩); have HA2_19 := (show Hid (w19.rangeAt w11.heap.size 0 C2 ∧ w11.heap.size < w19.heap.size) from ⟨Below.range hb HA2_18.out.1 HA2_18.out.2, Nat.lt_of_lt_of_le HA2_18.out.2 (hb).size⟩); have HA3_19 := (show Hid (w19.rangeAt w13.heap.size 0 C3 ∧ w13.heap.size < w19.heap.size) from ⟨Below.range hb HA3_18.out.1 HA3_18.out.2, Nat.lt_of_lt_of_le HA3_18.out.2 (hb).size⟩); have HA4_19 := (show Hid (w19.rangeAt w15.heap.size 0 C4 ∧ w15.heap.size < w19.heap.size) from ⟨Below.range hb HA4_18.out.1 HA4_18.out.2, Nat.lt_of_lt_of_le HA4_18.out.2 (hb).size⟩); clear hb)
        | (go_at_call 9; have hq := HB17; clear hq; refine (same_true vy (.slice (some ⟨w9.heap.size, 0, none⟩) 32 32) (sum kn bs) w17 (by rw [sum_len]; decide) HY17.out.cell (slb_of_range (by rw [E1.out]; exact HA1_17.out.1) (sum_len _ _))).mono ?_; rintro e w18 ⟨rfl, hb⟩; have HB18 := (show Hid (Below n w w18) from HB17.out.trans (hb.mono (by have := HS17.out; omega))); have HS18 := (show Hid (b < w18.heap.size) from Nat.lt_of_lt_of_le HS17.out hb.size); have HM18 := (show Hid (Bw.RowB (b + 1) w18 vm (sum kn D1)) from HM17.out.kept hb); have HX18 := (show Hid (Bw.RowB (b + 1) w18 vx (sum kn bs)) from HX17.out.kept hb); have HY18 := (show Hid (Bw.RowB (b + 1) w18 vy (sum kn bs)) from HY17.out.kept hb); have HA1_18 := (show Hid (w18.rangeAt w9.heap.size 0 C1 ∧ w9.heap.size < w18.heap.size) from ⟨Below.range hb HA1_17.out.1 HA1_17.out.2, Nat.lt_of_lt_of_le HA1_17.out.2 (hb).size⟩); have HA2_18 := (show Hid (w18.rangeAt w11.heap.size 0 C2 ∧ w11.heap.size < w18.heap.size) from ⟨Below.range hb HA2_17.out.1 HA2_17.out.2, Nat.lt_of_lt_of_le HA2_17.out.2 (hb).size⟩); have HA3_18 := (show Hid (w18.rangeAt w13.heap.size 0 C3 ∧ w13.heap.size < w18.heap.size) from ⟨Below.range hb HA3_17.out.1 HA3_17.out.2, Nat.lt_of_lt_of_le HA3_17.out.2 (hb).size⟩); have HA4_18 := (show Hid (w18.rangeAt w15.heap.size 0 C4 ∧ w15.heap.size < w18.heap.size) from ⟨Below.range hb HA4_17.out.1 HA4_17.out.2, Nat.lt_of_lt_of_le HA4_17.out.2 (hb).size⟩); clear hb)
        | (go_at_call 9; have hq := HB16; clear hq; refine (same_true vx (.slice (some ⟨w9.heap.size, 0, none⟩) 32 32) (sum kn bs) w16 (by rw [sum_len]; decide) HX16.out.cell (slb_of_range (by rw [E1.out]; exact HA1_16.out.1) (sum_len _ _))).mono ?_; rintro e w17 ⟨rfl, hb⟩; have HB17 := (show Hid (Below n w w17) from HB16.out.trans (hb.mono (by have := HS16.out; omega))); have HS17 := (show Hid (b < w17.heap.size) from Nat.lt_of_lt_of_le HS16.out hb.size); have HM17 := (show Hid (Bw.RowB (b + 1) w17 vm (sum kn D1)) from HM16.out.kept hb); have HX17 := (show Hid (Bw.RowB (b + 1) w17 vx (sum kn bs)) from HX16.out.kept hb); have HY17 := (show Hid (Bw.RowB (b + 1) w17 vy (sum kn bs)) from HY16.out.kept hb); have HA1_17 := (show Hid (w17.rangeAt w9.heap.size 0 C1 ∧ w9.heap.size < w17.heap.size) from ⟨Below.range hb HA1_16.out.1 HA1_16.out.2, Nat.lt_of_lt_of_le HA1_16.out.2 (hb).size⟩); have HA2_17 := (show Hid (w17.rangeAt w11.heap.size 0 C2 ∧ w11.heap.size < w17.heap.size) from ⟨Below.range hb HA2_16.out.1 HA2_16.out.2, Nat.lt_of_lt_of_le HA2_16.out.2 (hb).size⟩); have HA3_17 := (show Hid (w17.rangeAt w13.heap.size 0 C3 ∧ w13.heap.size < w17.heap.size) from ⟨Below.range hb HA3_16.out.1 HA3_16.out.2, Nat.lt_of_lt_of_le HA3_16.out.2 (hb).size⟩); have HA4_17 := (show Hid (w17.rangeAt w15.heap.size 0 C4 ∧ w15.heap.size < w17.heap.size) from ⟨Below.range hb HA4_16.out.1 HA4_16.out.2, Nat.lt_of_lt_of_le HA4_16.out.2 (hb).size⟩); clear hb)
        | (refine wpList_store_mid rfl 26 (.tmp 19) (.tmp 85) rfl w15.heap.size 0 C4.toArray rfl rfl f15.out.1 (by rw [List.size_toArray, N4.out]; exact HW.infoOut) O4.out ?_; simp only; obtain ⟨w16, hw16⟩ : ∃ v, (w15.alloc (.cells Z2 26)).setCells w15.heap.size 0 C4 = v := ⟨_, rfl⟩; rw [hw16] at f15 ⊢; clear hw16; have hb := f15.out.2.1; have HB16 := (show Hid (Below n w w16) from HB15.out.trans (hb.mono (by have := HS15.out; omega))); have HS16 := (show Hid (b < w16.heap.size) from Nat.lt_of_lt_of_le HS15.out hb.size); have HM16 := (show Hid (Bw.RowB (b + 1) w16 vm (sum kn D1)) from HM15.out.kept f15.out.2.1); have HX16 := (show Hid (Bw.RowB (b + 1) w16 vx (sum kn bs)) from HX15.out.kept f15.out.2.1); have HY16 := (show Hid (Bw.RowB (b + 1) w16 vy (sum kn bs)) from HY15.out.kept f15.out.2.1); have HA1_16 := (show Hid (w16.rangeAt w9.heap.size 0 C1 ∧ w9.heap.size < w16.heap.size) from ⟨Below.range f15.out.2.1 HA1_15.out.1 HA1_15.out.2, Nat.lt_of_lt_of_le HA1_15.out.2 (f15.out.2.1).size⟩); have HA2_16 := (show Hid (w16.rangeAt w11.heap.size 0 C2 ∧ w11.heap.size < w16.heap.size) from ⟨Below.range f15.out.2.1 HA2_15.out.1 HA2_15.out.2, Nat.lt_of_lt_of_le HA2_15.out.2 (f15.out.2.1).size⟩); have HA3_16 := (show Hid (w16.rangeAt w13.heap.size 0 C3 ∧ w13.heap.size < w16.heap.size) from ⟨Below.range f15.out.2.1 HA3_15.out.1 HA3_15.out.2, Nat.lt_of_lt_of_le HA3_15.out.2 (f15.out.2.1).size⟩); have HA4_16 := (show Hid (w16.rangeAt w15.heap.size 0 C4 ∧ w15.heap.size < w16.heap.size) from f15.out.2.2); clear hb f15)
        | (go_at_call 8; have hq := HB14; clear hq; refine (c4 w14 HB14.out).mono ?_; rintro e w15 ⟨rfl, hb⟩; have HB15 := (show Hid (Below n w w15) from HB14.out.trans (hb.mono (by have := HS14.out; omega))); have HS15 := (show Hid (b < w15.heap.size) from Nat.lt_of_lt_of_le HS14.out hb.size); have HM15 := (show Hid (Bw.RowB (b + 1) w15 vm (sum kn D1)) from HM14.out.kept hb); have HX15 := (show Hid (Bw.RowB (b + 1) w15 vx (sum kn bs)) from HX14.out.kept hb); have HY15 := (show Hid (Bw.RowB (b + 1) w15 vy (sum kn bs)) from HY14.out.kept hb); have HA1_15 := (show Hid (w15.rangeAt w9.heap.size 0 C1 ∧ w9.heap.size < w15.heap.size) from ⟨Below.range hb HA1_14.out.1 HA1_14.out.2, Nat.lt_of_lt_of_le HA1_14.out.2 (hb).size⟩); have HA2_15 := (show Hid (w15.rangeAt w11.heap.size 0 C2 ∧ w11.heap.size < w15.heap.size) from ⟨Below.range hb HA2_14.out.1 HA2_14.out.2, Nat.lt_of_lt_of_le HA2_14.out.2 (hb).size⟩); have HA3_15 := (show Hid (w15.rangeAt w13.heap.size 0 C3 ∧ w13.heap.size < w15.heap.size) from ⟨Below.range hb HA3_14.out.1 HA3_14.out.2, Nat.lt_of_lt_of_le HA3_14.out.2 (hb).size⟩); have f15 := (show Hid (_ ∧ _ ∧ _ ∧ _) from made_new w15 Z2 26 C4 (by rw [N4.out]; exact Y2.out)); clear hb)
        | (refine wpList_store_mid rfl 24 (.tmp 18) (.tmp 81) rfl w13.heap.size 0 C3.toArray rfl rfl f13.out.1 (by rw [List.size_toArray, N3.out]; exact HN.infoOut) O3.out ?_; simp only; obtain ⟨w14, hw14⟩ : ∃ v, (w13.alloc (.cells Z1 24)).setCells w13.heap.size 0 C3 = v := ⟨_, rfl⟩; rw [hw14] at f13 ⊢; clear hw14; have hb := f13.out.2.1; have HB14 := (show Hid (Below n w w14) from HB13.out.trans (hb.mono (by have := HS13.out; omega))); have HS14 := (show Hid (b < w14.heap.size) from Nat.lt_of_lt_of_le HS13.out hb.size); have HM14 := (show Hid (Bw.RowB (b + 1) w14 vm (sum kn D1)) from HM13.out.kept f13.out.2.1); have HX14 := (show Hid (Bw.RowB (b + 1) w14 vx (sum kn bs)) from HX13.out.kept f13.out.2.1); have HY14 := (show Hid (Bw.RowB (b + 1) w14 vy (sum kn bs)) from HY13.out.kept f13.out.2.1); have HA1_14 := (show Hid (w14.rangeAt w9.heap.size 0 C1 ∧ w9.heap.size < w14.heap.size) from ⟨Below.range f13.out.2.1 HA1_13.out.1 HA1_13.out.2, Nat.lt_of_lt_of_le HA1_13.out.2 (f13.out.2.1).size⟩); have HA2_14 := (show Hid (w14.rangeAt w11.heap.size 0 C2 ∧ w11.heap.size < w14.heap.size) from ⟨Below.range f13.out.2.1 HA2_13.out.1 HA2_13.out.2, Nat.lt_of_lt_of_le HA2_13.out.2 (f13.out.2.1).size⟩); have HA3_14 := (show Hid (w14.rangeAt w13.heap.size 0 C3 ∧ w13.heap.size < w14.heap.size) from f13.out.2.2); clear hb f13)
        | (go_at_call 7; have hq := HB12; clear hq; refine (c3 w12 HB12.out).mono ?_; rintro e w13 ⟨rfl, hb⟩; have HB13 := (show Hid (Below n w w13) from HB12.out.trans (hb.mono (by have := HS12.out; omega))); have HS13 := (show Hid (b < w13.heap.size) from Nat.lt_of_lt_of_le HS12.out hb.size); have HM13 := (show Hid (Bw.RowB (b + 1) w13 vm (sum kn D1)) from HM12.out.kept hb); have HX13 := (show Hid (Bw.RowB (b + 1) w13 vx (sum kn bs)) from HX12.out.kept hb); have HY13 := (show Hid (Bw.RowB (b + 1) w13 vy (sum kn bs)) from HY12.out.kept hb); have HA1_13 := (show Hid (w13.rangeAt w9.heap.size 0 C1 ∧ w9.heap.size < w13.heap.size) from ⟨Below.range hb HA1_12.out.1 HA1_12.out.2, Nat.lt_of_lt_of_le HA1_12.out.2 (hb).size⟩); have HA2_13 := (show Hid (w13.rangeAt w11.heap.size 0 C2 ∧ w11.heap.size < w13.heap.size) from ⟨Below.range hb HA2_12.out.1 HA2_12.out.2, Nat.lt_of_lt_of_le HA2_12.out.2 (hb).size⟩); have f13 := (show Hid (_ ∧ _ ∧ _ ∧ _) from made_new w13 Z1 24 C3 (by rw [N3.out]; exact Y1.out)); clear hb)
        | (refine wpList_store_mid rfl 26 (.tmp 17) (.tmp 77) rfl w11.heap.size 0 C2.toArray rfl rfl f11.out.1 (by rw [List.size_toArray, N2.out]; exact HW.infoOut) O2.out ?_; simp only; obtain ⟨w12, hw12⟩ : ∃ v, (w11.alloc (.cells Z2 26)).setCells w11.heap.size 0 C2 = v := ⟨_, rfl⟩; rw [hw12] at f11 ⊢; clear hw12; have hb := f11.out.2.1; have HB12 := (show Hid (Below n w w12) from HB11.out.trans (hb.mono (by have := HS11.out; omega))); have HS12 := (show Hid (b < w12.heap.size) from Nat.lt_of_lt_of_le HS11.out hb.size); have HM12 := (show Hid (Bw.RowB (b + 1) w12 vm (sum kn D1)) from HM11.out.kept f11.out.2.1); have HX12 := (show Hid (Bw.RowB (b + 1) w12 vx (sum kn bs)) from HX11.out.kept f11.out.2.1); have HY12 := (show Hid (Bw.RowB (b + 1) w12 vy (sum kn bs)) from HY11.out.kept f11.out.2.1); have HA1_12 := (show Hid (w12.rangeAt w9.heap.size 0 C1 ∧ w9.heap.size < w12.heap.size) from ⟨Below.range f11.out.2.1 HA1_11.out.1 HA1_11.out.2, Nat.lt_of_lt_of_le HA1_11.out.2 (f11.out.2.1).size⟩); have HA2_12 := (show Hid (w12.rangeAt w11.heap.size 0 C2 ∧ w11.heap.size < w12.heap.size) from f11.out.2.2); clear hb f11)
        | (go_at_call 8; have hq := HB10; clear hq; refine (c2 w10 HB10.out).mono ?_; rintro e w11 ⟨rfl, hb⟩; have HB11 := (show Hid (Below n w w11) from HB10.out.trans (hb.mono (by have := HS10.out; omega))); have HS11 := (show Hid (b < w11.heap.size) from Nat.lt_of_lt_of_le HS10.out hb.size); have HM11 := (show Hid (Bw.RowB (b + 1) w11 vm (sum kn D1)) from HM10.out.kept hb); have HX11 := (show Hid (Bw.RowB (b + 1) w11 vx (sum kn bs)) from HX10.out.kept hb); have HY11 := (show Hid (Bw.RowB (b + 1) w11 vy (sum kn bs)) from HY10.out.kept hb); have HA1_11 := (show Hid (w11.rangeAt w9.heap.size 0 C1 ∧ w9.heap.size < w11.heap.size) from ⟨Below.range hb HA1_10.out.1 HA1_10.out.2, Nat.lt_of_lt_of_le HA1_10.out.2 (hb).size⟩); have f11 := (show Hid (_ ∧ _ ∧ _ ∧ _) from made_new w11 Z2 26 C2 (by rw [N2.out]; exact Y2.out)); clear hb)
        | (refine wpList_store_mid rfl 24 (.tmp 16) (.tmp 75) rfl w9.heap.size 0 C1.toArray rfl rfl f9.out.1 (by rw [List.size_toArray, N1.out]; exact HN.infoOut) O1.out ?_; simp only; obtain ⟨w10, hw10⟩ : ∃ v, (w9.alloc (.cells Z1 24)).setCells w9.heap.size 0 C1 = v := ⟨_, rfl⟩; rw [hw10] at f9 ⊢; clear hw10; have hb := f9.out.2.1; have HB10 := (show Hid (Below n w w10) from HB9.out.trans (hb.mono (by have := HS9.out; omega))); have HS10 := (show Hid (b < w10.heap.size) from Nat.lt_of_lt_of_le HS9.out hb.size); have HM10 := (show Hid (Bw.RowB (b + 1) w10 vm (sum kn D1)) from HM9.out.kept f9.out.2.1); have HX10 := (show Hid (Bw.RowB (b + 1) w10 vx (sum kn bs)) from HX9.out.kept f9.out.2.1); have HY10 := (show Hid (Bw.RowB (b + 1) w10 vy (sum kn bs)) from HY9.out.kept f9.out.2.1); have HA1_10 := (show Hid (w10.rangeAt w9.heap.size 0 C1 ∧ w9.heap.size < w10.heap.size) from f9.out.2.2); clear hb f9)
        | (go_at_call 7; have hq := HB8; clear hq; refine (c1 w8 HB8.out).mono ?_; rintro e w9 ⟨rfl, hb⟩; have HB9 := (show Hid (Below n w w9) from HB8.out.trans (hb.mono (by have := HS8.out; omega))); have HS9 := (show Hid (b < w9.heap.size) from Nat.lt_of_lt_of_le HS8.out hb.size); have HM9 := (show Hid (Bw.RowB (b + 1) w9 vm (sum kn D1)) from HM8.out.kept hb); have HX9 := (show Hid (Bw.RowB (b + 1) w9 vx (sum kn bs)) from HX8.out.kept hb); have HY9 := (show Hid (Bw.RowB (b + 1) w9 vy (sum kn bs)) from HY8.out.kept hb); have f9 := (show Hid (_ ∧ _ ∧ _ ∧ _) from made_new w9 Z1 24 C1 (by rw [N1.out]; exact Y1.out)); clear hb)
        | (go_at_call 14; have hq := HH7; clear hq; refine (HN.hsum_any b ([] ++ D1 ++ D2 ++ D3) w7 (HT.out.below HB7.out hT1) HH7.out (by have := HDl.out; simp only [List.length_append, List.length_nil]; omega)).mono ?_; rintro e w8 ⟨vy, rfl, hr, hb⟩; have HH8 := (show Hid (HN.HsAt w8 b ([] ++ D1 ++ D2 ++ D3)) from HH7.out.kept hb HS7.out); have HB8 := (show Hid (Below n w w8) from HB7.out.trans (hb.mono (by have := HS7.out; omega))); have HS8 := (show Hid (b < w8.heap.size) from Nat.lt_of_lt_of_le HS7.out hb.size); have HY8 := (show Hid (Bw.RowB (b + 1) w8 vy (sum kn bs)) from (by rw [← HD.out]; exact hr.mono HS7.out)); have HM8 := (show Hid (Bw.RowB (b + 1) w8 vm (sum kn D1)) from HM7.out.kept hb); have HX8 := (show Hid (Bw.RowB (b + 1) w8 vx (sum kn bs)) from HX7.out.kept hb); clear hr hb)
        | (go_at_call 14; have hq := HH6; clear hq; refine (HN.hsum_any b ([] ++ D1 ++ D2 ++ D3) w6 (HT.out.below HB6.out hT1) HH6.out (by have := HDl.out; simp only [List.length_append, List.length_nil]; omega)).mono ?_; rintro e w7 ⟨vx, rfl, hr, hb⟩; have HH7 := (show Hid (HN.HsAt w7 b ([] ++ D1 ++ D2 ++ D3)) from HH6.out.kept hb HS6.out); have HB7 := (show Hid (Below n w w7) from HB6.out.trans (hb.mono (by have := HS6.out; omega))); have HS7 := (show Hid (b < w7.heap.size) from Nat.lt_of_lt_of_le HS6.out hb.size); have HX7 := (show Hid (Bw.RowB (b + 1) w7 vx (sum kn bs)) from (by rw [← HD.out]; exact hr.mono HS6.out)); have HM7 := (show Hid (Bw.RowB (b + 1) w7 vm (sum kn D1)) from HM6.out.kept hb); clear hr hb)
        | (go_at_call 13; have hq := HH5; clear hq; refine (HN.write_any b ([] ++ D1 ++ D2) (Value.slice spk KL (sc - k)) D3 w5 (HT.out.below HB5.out hT1) (by omega) HH5.out (by have := HDl.out; omega) (by have := HDl.out; simp only [List.length_append, List.length_nil]; omega) (HV3.out.below HB5.out (by rw [HNn.out]; exact Nat.le_refl _)) (slm_apart HV3.out (by rw [HNn.out]; exact hnb))).mono ?_; rintro e w6 ⟨rfl, hh, hk⟩; have HH6 := (show Hid (HN.HsAt w6 b (([] ++ D1 ++ D2) ++ D3)) from hh); have HB6 := (show Hid (Below n w w6) from HB5.out.trans (hk.below hnb (by have := HS5.out; omega))); have HS6 := (show Hid (b < w6.heap.size) from Nat.lt_of_lt_of_le HS5.out hk.size); have HM6 := (show Hid (Bw.RowB (b + 1) w6 vm (sum kn D1)) from row_wrote HM5.out hk (Nat.lt_succ_self b)); clear hh hk)
        | (go_at_call 13; have hq := HH4; clear hq; refine (HN.write_any b ([] ++ D1) (Value.slice spi KI (sc - i)) D2 w4 (HT.out.below HB4.out hT1) (by omega) HH4.out (by have := HDl.out; omega) (by have := HDl.out; simp only [List.length_append, List.length_nil]; omega) (HV2.out.below HB4.out (by rw [HNn.out]; exact Nat.le_refl _)) (slm_apart HV2.out (by rw [HNn.out]; exact hnb))).mono ?_; rintro e w5 ⟨rfl, hh, hk⟩; have HH5 := (show Hid (HN.HsAt w5 b (([] ++ D1) ++ D2)) from hh); have HB5 := (show Hid (Below n w w5) from HB4.out.trans (hk.below hnb (by have := HS4.out; omega))); have HS5 := (show Hid (b < w5.heap.size) from Nat.lt_of_lt_of_le HS4.out hk.size); have HM5 := (show Hid (Bw.RowB (b + 1) w5 vm (sum kn D1)) from row_wrote HM4.out hk (Nat.lt_succ_self b)); clear hh hk)
        | (go_at_call 14; have hq := HH3; clear hq; refine (HN.hsum_any b ([] ++ D1) w3 (HT.out.below HB3.out hT1) HH3.out (by have := HDl.out; simp only [List.length_append, List.length_nil]; omega)).mono ?_; rintro e w4 ⟨vm, rfl, hr, hb⟩; have HH4 := (show Hid (HN.HsAt w4 b ([] ++ D1)) from HH3.out.kept hb HS3.out); have HB4 := (show Hid (Below n w w4) from HB3.out.trans (hb.mono (by have := HS3.out; omega))); have HS4 := (show Hid (b < w4.heap.size) from Nat.lt_of_lt_of_le HS3.out hb.size); have HM4 := (show Hid (Bw.RowB (b + 1) w4 vm (sum kn D1)) from (by exact hr.mono HS3.out)); clear hr hb)
        | (go_at_call 13; have hq := HH2; clear hq; refine (HN.write_any b ([]) (Value.slice sp i sc) D1 w2 (HT.out.below HB2.out hT1) (by omega) HH2.out (by have := HDl.out; omega) (by have := HDl.out; simp only [List.length_nil]; omega) (HV1.out.below HB2.out (by rw [HNn.out]; exact Nat.le_refl _)) (slm_apart HV1.out (by rw [HNn.out]; exact hnb))).mono ?_; rintro e w3 ⟨rfl, hh, hk⟩; have HH3 := (show Hid (HN.HsAt w3 b (([]) ++ D1)) from hh); have HB3 := (show Hid (Below n w w3) from HB2.out.trans (hk.below hnb (by have := HS2.out; omega))); have HS3 := (show Hid (b < w3.heap.size) from Nat.lt_of_lt_of_le HS2.out hk.size); clear hh hk)
        | (go_at_call 12; refine (cN).mono ?_; rintro e w2 ⟨rfl, hh2, hb2⟩; have HH2 := (show Hid (HN.HsAt w2 b []) from hh2); have HB2 := (show Hid (Below n w w2) from HBr.out.trans (hb2.mono hnb)); have HS2 := (show Hid (b < w2.heap.size) from Bw.cell_lt hh2.wide); clear hh2 hb2 cN))
      exact ⟨⟨1, rfl, by omega, HB19⟩, by decide⟩
    · obtain ⟨b, hb⟩ : ∃ b, wr.heap.size = b := ⟨_, rfl⟩
      have hnb : n ≤ b := by rw [← hb, ← HNn.out]; exact HBr.out.size
      have cN := HW.new_any wr (HT.out.below HBr.out hT1)
      rw [hb] at cN
      go_wp2_with (first
        | (go_at_call 9; have hq := HB18; clear hq; refine (same_true vm (.slice (some ⟨w15.heap.size, 0, none⟩) 64 64) (sum kw D1) w18 (by rw [sum_len]; decide) HM18.out.cell (slb_of_range (by rw [E4.out]; exact HA4_18.out.1) (sum_len _ _))).mono ?_; rintro e w19 ⟨rfl, hb⟩; have HB19 := (show Hid (Below n w w19) from HB18.out.trans (hb.mono (by have := HS18.out; omega))); have HS19 := (show Hid (b < w19.heap.size) from Nat.lt_of_lt_of_le HS18.out hb.size); have HM19 := (show Hid (Bw.RowB (b + 1) w19 vm (sum kw D1)) from HM18.out.kept hb); have HX19 := (show Hid (Bw.RowB (b + 1) w19 vx (sum kw bs)) from HX18.out.kept hb); have HY19 := (show Hid (Bw.RowB (b + 1) w19 vy (sum kw bs)) from HY18.out.kept hb); have HA1_19 := (show Hid (w19.rangeAt w9.heap.size 0 C1 ∧ w9.heap.size < w19.heap.size) from ⟨Below.range hb HA1_18.out.1 HA1_18.out.2, Nat.lt_of_lt_of_le HA1_18.out.2 (hb).size⟩); have HA2_19 := (show Hid (w19.rangeAt w11.heap.size 0 C2 ∧ w11.heap.size < w19.heap.size) from ⟨Below.range hb HA2_18.out.1 HA2_18.out.2, Nat.lt_of_lt_of_le HA2_18.out.2 (hb).size⟩); have HA3_19 := (show Hid (w19.rangeAt w13.heap.size 0 C3 ∧ w13.heap.size < w19.heap.size) from ⟨Below.range hb HA3_18.out.1 HA3_18.out.2, Nat.lt_of_lt_of_le HA3_18.out.2 (hb).size⟩); have HA4_19 := (show Hid (w19.rangeAt w15.heap.size 0 C4 ∧ w15.heap.size < w19.heap.size) from ⟨Below.range hb HA4_18.out.1 HA4_18.out.2, Nat.lt_of_lt_of_le HA4_18.out.2 (hb).size⟩); clear hb)
        | (go_at_call 9; have hq := HB17; clear hq; refine (same_true vy (.slice (some ⟨w11.heap.size, 0, none⟩) 64 64) (sum kw bs) w17 (by rw [sum_len]; decide) HY17.out.cell (slb_of_range (by rw [E2.out]; exact HA2_17.out.1) (sum_len _ _))).mono ?_; rintro e w18 ⟨rfl, hb⟩; have HB18 := (show Hid (Below n w w18) from HB17.out.trans (hb.mono (by have := HS17.out; omega))); have HS18 := (show Hid (b < w18.heap.size) from Nat.lt_of_lt_of_le HS17.out hb.size); have HM18 := (show Hid (Bw.RowB (b + 1) w18 vm (sum kw D1)) from HM17.out.kept hb); have HX18 := (show Hid (Bw.RowB (b + 1) w18 vx (sum kw bs)) from HX17.out.kept hb); have HY18 := (show Hid (Bw.RowB (b + 1) w18 vy (sum kw bs)) from HY17.out.kept hb); have HA1_18 := (show Hid (w18.rangeAt w9.heap.size 0 C1 ∧ w9.heap.size < w18.heap.size) from ⟨Below.range hb HA1_17.out.1 HA1_17.out.2, Nat.lt_of_lt_of_le HA1_17.out.2 (hb).size⟩); have HA2_18 := (show Hid (w18.rangeAt w11.heap.size 0 C2 ∧ w11.heap.size < w18.heap.size) from ⟨Below.range hb HA2_17.out.1 HA2_17.out.2, Nat.lt_of_lt_of_le HA2_17.out.2 (hb).size⟩); have HA3_18 := (show Hid (w18.rangeAt w13.heap.size 0 C3 ∧ w13.heap.size < w18.heap.size) from ⟨Below.range hb HA3_17.out.1 HA3_17.out.2, Nat.lt_of_lt_of_le HA3_17.out.2 (hb).size⟩); have HA4_18 := (show Hid (w18.rangeAt w15.heap.size 0 C4 ∧ w15.heap.size < w18.heap.size) from ⟨Below.range hb HA4_17.out.1 HA4_17.out.2, Nat.lt_of_lt_of_le HA4_17.out.2 (hb).size⟩); clear hb)
        | (go_at_call 9; have hq := HB16; clear hq; refine (same_true vx (.slice (some ⟨w11.heap.size, 0, none⟩) 64 64) (sum kw bs) w16 (by rw [sum_len]; decide) HX16.out.cell (slb_of_range (by rw [E2.out]; exact HA2_16.out.1) (sum_len _ _))).mono ?_; rintro e w17 ⟨rfl, hb⟩; have HB17 := (show Hid (Below n w w17) from HB16.out.trans (hb.mono (by have := HS16.out; omega))); have HS17 := (show Hid (b < w17.heap.size) from Nat.lt_of_lt_of_le HS16.out hb.size); have HM17 := (show Hid (Bw.RowB (b + 1) w17 vm (sum kw D1)) from HM16.out.kept hb); have HX17 := (show Hid (Bw.RowB (b + 1) w17 vx (sum kw bs)) from HX16.out.kept hb); have HY17 := (show Hid (Bw.RowB (b + 1) w17 vy (sum kw bs)) from HY16.out.kept hb); have HA1_17 := (show Hid (w17.rangeAt w9.heap.size 0 C1 ∧ w9.heap.size < w17.heap.size) from ⟨Below.range hb HA1_16.out.1 HA1_16.out.2, Nat.lt_of_lt_of_le HA1_16.out.2 (hb).size⟩); have HA2_17 := (show Hid (w17.rangeAt w11.heap.size 0 C2 ∧ w11.heap.size < w17.heap.size) from ⟨Below.range hb HA2_16.out.1 HA2_16.out.2, Nat.lt_of_lt_of_le HA2_16.out.2 (hb).size⟩); have HA3_17 := (show Hid (w17.rangeAt w13.heap.size 0 C3 ∧ w13.heap.size < w17.heap.size) from ⟨Below.range hb HA3_16.out.1 HA3_16.out.2, Nat.lt_of_lt_of_le HA3_16.out.2 (hb).size⟩); have HA4_17 := (show Hid (w17.rangeAt w15.heap.size 0 C4 ∧ w15.heap.size < w17.heap.size) from ⟨Below.range hb HA4_16.out.1 HA4_16.out.2, Nat.lt_of_lt_of_le HA4_16.out.2 (hb).size⟩); clear hb)
        | (refine wpList_store_mid rfl 26 (.tmp 19) (.tmp 85) rfl w15.heap.size 0 C4.toArray rfl rfl f15.out.1 (by rw [List.size_toArray, N4.out]; exact HW.infoOut) O4.out ?_; simp only; obtain ⟨w16, hw16⟩ : ∃ v, (w15.alloc (.cells Z2 26)).setCells w15.heap.size 0 C4 = v := ⟨_, rfl⟩; rw [hw16] at f15 ⊢; clear hw16; have hb := f15.out.2.1; have HB16 := (show Hid (Below n w w16) from HB15.out.trans (hb.mono (by have := HS15.out; omega))); have HS16 := (show Hid (b < w16.heap.size) from Nat.lt_of_lt_of_le HS15.out hb.size); have HM16 := (show Hid (Bw.RowB (b + 1) w16 vm (sum kw D1)) from HM15.out.kept f15.out.2.1); have HX16 := (show Hid (Bw.RowB (b + 1) w16 vx (sum kw bs)) from HX15.out.kept f15.out.2.1); have HY16 := (show Hid (Bw.RowB (b + 1) w16 vy (sum kw bs)) from HY15.out.kept f15.out.2.1); have HA1_16 := (show Hid (w16.rangeAt w9.heap.size 0 C1 ∧ w9.heap.size < w16.heap.size) from ⟨Below.range f15.out.2.1 HA1_15.out.1 HA1_15.out.2, Nat.lt_of_lt_of_le HA1_15.out.2 (f15.out.2.1).size⟩); have HA2_16 := (show Hid (w16.rangeAt w11.heap.size 0 C2 ∧ w11.heap.size < w16.heap.size) from ⟨Below.range f15.out.2.1 HA2_15.out.1 HA2_15.out.2, Nat.lt_of_lt_of_le HA2_15.out.2 (f15.out.2.1).size⟩); have HA3_16 := (show Hid (w16.rangeAt w13.heap.size 0 C3 ∧ w13.heap.size < w16.heap.size) from ⟨Below.range f15.out.2.1 HA3_15.out.1 HA3_15.out.2, Nat.lt_of_lt_of_le HA3_15.out.2 (f15.out.2.1).size⟩); have HA4_16 := (show Hid (w16.rangeAt w15.heap.size 0 C4 ∧ w15.heap.size < w16.heap.size) from f15.out.2.2); clear hb f15)
        | (go_at_call 8; have hq := HB14; clear hq; refine (c4 w14 HB14.out).mono ?_; rintro e w15 ⟨rfl, hb⟩; have HB15 := (show Hid (Below n w w15) from HB14.out.trans (hb.mono (by have := HS14.out; omega))); have HS15 := (show Hid (b < w15.heap.size) from Nat.lt_of_lt_of_le HS14.out hb.size); have HM15 := (show Hid (Bw.RowB (b + 1) w15 vm (sum kw D1)) from HM14.out.kept hb); have HX15 := (show Hid (Bw.RowB (b + 1) w15 vx (sum kw bs)) from HX14.out.kept hb); have HY15 := (show Hid (Bw.RowB (b + 1) w15 vy (sum kw bs)) from HY14.out.kept hb); have HA1_15 := (show Hid (w15.rangeAt w9.heap.size 0 C1 ∧ w9.heap.size < w15.heap.size) from ⟨Below.range hb HA1_14.out.1 HA1_14.out.2, Nat.lt_of_lt_of_le HA1_14.out.2 (hb).size⟩); have HA2_15 := (show Hid (w15.rangeAt w11.heap.size 0 C2 ∧ w11.heap.size < w15.heap.size) from ⟨Below.range hb HA2_14.out.1 HA2_14.out.2, Nat.lt_of_lt_of_le HA2_14.out.2 (hb).size⟩); have HA3_15 := (show Hid (w15.rangeAt w13.heap.size 0 C3 ∧ w13.heap.size < w15.heap.size) from ⟨Below.range hb HA3_14.out.1 HA3_14.out.2, Nat.lt_of_lt_of_le HA3_14.out.2 (hb).size⟩); have f15 := (show Hid (_ ∧ _ ∧ _ ∧ _) from made_new w15 Z2 26 C4 (by rw [N4.out]; exact Y2.out)); clear hb)
        | (refine wpList_store_mid rfl 24 (.tmp 18) (.tmp 81) rfl w13.heap.size 0 C3.toArray rfl rfl f13.out.1 (by rw [List.size_toArray, N3.out]; exact HN.infoOut) O3.out ?_; simp only; obtain ⟨w14, hw14⟩ : ∃ v, (w13.alloc (.cells Z1 24)).setCells w13.heap.size 0 C3 = v := ⟨_, rfl⟩; rw [hw14] at f13 ⊢; clear hw14; have hb := f13.out.2.1; have HB14 := (show Hid (Below n w w14) from HB13.out.trans (hb.mono (by have := HS13.out; omega))); have HS14 := (show Hid (b < w14.heap.size) from Nat.lt_of_lt_of_le HS13.out hb.size); have HM14 := (show Hid (Bw.RowB (b + 1) w14 vm (sum kw D1)) from HM13.out.kept f13.out.2.1); have HX14 := (show Hid (Bw.RowB (b + 1) w14 vx (sum kw bs)) from HX13.out.kept f13.out.2.1); have HY14 := (show Hid (Bw.RowB (b + 1) w14 vy (sum kw bs)) from HY13.out.kept f13.out.2.1); have HA1_14 := (show Hid (w14.rangeAt w9.heap.size 0 C1 ∧ w9.heap.size < w14.heap.size) from ⟨Below.range f13.out.2.1 HA1_13.out.1 HA1_13.out.2, Nat.lt_of_lt_of_le HA1_13.out.2 (f13.out.2.1).size⟩); have HA2_14 := (show Hid (w14.rangeAt w11.heap.size 0 C2 ∧ w11.heap.size < w14.heap.size) from ⟨Below.range f13.out.2.1 HA2_13.out.1 HA2_13.out.2, Nat.lt_of_lt_of_le HA2_13.out.2 (f13.out.2.1).size⟩); have HA3_14 := (show Hid (w14.rangeAt w13.heap.size 0 C3 ∧ w13.heap.size < w14.heap.size) from f13.out.2.2); clear hb f13)
        | (go_at_call 7; have hq := HB12; clear hq; refine (c3 w12 HB12.out).mono ?_; rintro e w13 ⟨rfl, hb⟩; have HB13 := (show Hid (Below n w w13) from HB12.out.trans (hb.mono (by have := HS12.out; omega))); have HS13 := (show Hid (b < w13.heap.size) from Nat.lt_of_lt_of_le HS12.out hb.size); have HM13 := (show Hid (Bw.RowB (b + 1) w13 vm (sum kw D1)) from HM12.out.kept hb); have HX13 := (show Hid (Bw.RowB (b + 1) w13 vx (sum kw bs)) from HX12.out.kept hb); have HY13 := (show Hid (Bw.RowB (b + 1) w13 vy (sum kw bs)) from HY12.out.kept hb); have HA1_13 := (show Hid (w13.rangeAt w9.heap.size 0 C1 ∧ w9.heap.size < w13.heap.size) from ⟨Below.range hb HA1_12.out.1 HA1_12.out.2, Nat.lt_of_lt_of_le HA1_12.out.2 (hb).size⟩); have HA2_13 := (show Hid (w13.rangeAt w11.heap.size 0 C2 ∧ w11.heap.size < w13.heap.size) from ⟨Below.range hb HA2_12.out.1 HA2_12.out.2, Nat.lt_of_lt_of_le HA2_12.out.2 (hb).size⟩); have f13 := (show Hid (_ ∧ _ ∧ _ ∧ _) from made_new w13 Z1 24 C3 (by rw [N3.out]; exact Y1.out)); clear hb)
        | (refine wpList_store_mid rfl 26 (.tmp 17) (.tmp 77) rfl w11.heap.size 0 C2.toArray rfl rfl f11.out.1 (by rw [List.size_toArray, N2.out]; exact HW.infoOut) O2.out ?_; simp only; obtain ⟨w12, hw12⟩ : ∃ v, (w11.alloc (.cells Z2 26)).setCells w11.heap.size 0 C2 = v := ⟨_, rfl⟩; rw [hw12] at f11 ⊢; clear hw12; have hb := f11.out.2.1; have HB12 := (show Hid (Below n w w12) from HB11.out.trans (hb.mono (by have := HS11.out; omega))); have HS12 := (show Hid (b < w12.heap.size) from Nat.lt_of_lt_of_le HS11.out hb.size); have HM12 := (show Hid (Bw.RowB (b + 1) w12 vm (sum kw D1)) from HM11.out.kept f11.out.2.1); have HX12 := (show Hid (Bw.RowB (b + 1) w12 vx (sum kw bs)) from HX11.out.kept f11.out.2.1); have HY12 := (show Hid (Bw.RowB (b + 1) w12 vy (sum kw bs)) from HY11.out.kept f11.out.2.1); have HA1_12 := (show Hid (w12.rangeAt w9.heap.size 0 C1 ∧ w9.heap.size < w12.heap.size) from ⟨Below.range f11.out.2.1 HA1_11.out.1 HA1_11.out.2, Nat.lt_of_lt_of_le HA1_11.out.2 (f11.out.2.1).size⟩); have HA2_12 := (show Hid (w12.rangeAt w11.heap.size 0 C2 ∧ w11.heap.size < w12.heap.size) from f11.out.2.2); clear hb f11)
        | (go_at_call 8; have hq := HB10; clear hq; refine (c2 w10 HB10.out).mono ?_; rintro e w11 ⟨rfl, hb⟩; have HB11 := (show Hid (Below n w w11) from HB10.out.trans (hb.mono (by have := HS10.out; omega))); have HS11 := (show Hid (b < w11.heap.size) from Nat.lt_of_lt_of_le HS10.out hb.size); have HM11 := (show Hid (Bw.RowB (b + 1) w11 vm (sum kw D1)) from HM10.out.kept hb); have HX11 := (show Hid (Bw.RowB (b + 1) w11 vx (sum kw bs)) from HX10.out.kept hb); have HY11 := (show Hid (Bw.RowB (b + 1) w11 vy (sum kw bs)) from HY10.out.kept hb); have HA1_11 := (show Hid (w11.rangeAt w9.heap.size 0 C1 ∧ w9.heap.size < w11.heap.size) from ⟨Below.range hb HA1_10.out.1 HA1_10.out.2, Nat.lt_of_lt_of_le HA1_10.out.2 (hb).size⟩); have f11 := (show Hid (_ ∧ _ ∧ _ ∧ _) from made_new w11 Z2 26 C2 (by rw [N2.out]; exact Y2.out)); clear hb)
        | (refine wpList_store_mid rfl 24 (.tmp 16) (.tmp 75) rfl w9.heap.size 0 C1.toArray rfl rfl f9.out.1 (by rw [List.size_toArray, N1.out]; exact HN.infoOut) O1.out ?_; simp only; obtain ⟨w10, hw10⟩ : ∃ v, (w9.alloc (.cells Z1 24)).setCells w9.heap.size 0 C1 = v := ⟨_, rfl⟩; rw [hw10] at f9 ⊢; clear hw10; have hb := f9.out.2.1; have HB10 := (show Hid (Below n w w10) from HB9.out.trans (hb.mono (by have := HS9.out; omega))); have HS10 := (show Hid (b < w10.heap.size) from Nat.lt_of_lt_of_le HS9.out hb.size); have HM10 := (show Hid (Bw.RowB (b + 1) w10 vm (sum kw D1)) from HM9.out.kept f9.out.2.1); have HX10 := (show Hid (Bw.RowB (b + 1) w10 vx (sum kw bs)) from HX9.out.kept f9.out.2.1); have HY10 := (show Hid (Bw.RowB (b + 1) w10 vy (sum kw bs)) from HY9.out.kept f9.out.2.1); have HA1_10 := (show Hid (w10.rangeAt w9.heap.size 0 C1 ∧ w9.heap.size < w10.heap.size) from f9.out.2.2); clear hb f9)
        | (go_at_call 7; have hq := HB8; clear hq; refine (c1 w8 HB8.out).mono ?_; rintro e w9 ⟨rfl, hb⟩; have HB9 := (show Hid (Below n w w9) from HB8.out.trans (hb.mono (by have := HS8.out; omega))); have HS9 := (show Hid (b < w9.heap.size) from Nat.lt_of_lt_of_le HS8.out hb.size); have HM9 := (show Hid (Bw.RowB (b + 1) w9 vm (sum kw D1)) from HM8.out.kept hb); have HX9 := (show Hid (Bw.RowB (b + 1) w9 vx (sum kw bs)) from HX8.out.kept hb); have HY9 := (show Hid (Bw.RowB (b + 1) w9 vy (sum kw bs)) from HY8.out.kept hb); have f9 := (show Hid (_ ∧ _ ∧ _ ∧ _) from made_new w9 Z1 24 C1 (by rw [N1.out]; exact Y1.out)); clear hb)
        | (go_at_call 14; have hq := HH7; clear hq; refine (HW.hsum_any b ([] ++ D1 ++ D2 ++ D3) w7 (HT.out.below HB7.out hT1) HH7.out (by have := HDl.out; simp only [List.length_append, List.length_nil]; omega)).mono ?_; rintro e w8 ⟨vy, rfl, hr, hb⟩; have HH8 := (show Hid (HW.HsAt w8 b ([] ++ D1 ++ D2 ++ D3)) from HH7.out.kept hb HS7.out); have HB8 := (show Hid (Below n w w8) from HB7.out.trans (hb.mono (by have := HS7.out; omega))); have HS8 := (show Hid (b < w8.heap.size) from Nat.lt_of_lt_of_le HS7.out hb.size); have HY8 := (show Hid (Bw.RowB (b + 1) w8 vy (sum kw bs)) from (by rw [← HD.out]; exact hr.mono HS7.out)); have HM8 := (show Hid (Bw.RowB (b + 1) w8 vm (sum kw D1)) from HM7.out.kept hb); have HX8 := (show Hid (Bw.RowB (b + 1) w8 vx (sum kw bs)) from HX7.out.kept hb); clear hr hb)
        | (go_at_call 14; have hq := HH6; clear hq; refine (HW.hsum_any b ([] ++ D1 ++ D2 ++ D3) w6 (HT.out.below HB6.out hT1) HH6.out (by have := HDl.out; simp only [List.length_append, List.length_nil]; omega)).mono ?_; rintro e w7 ⟨vx, rfl, hr, hb⟩; have HH7 := (show Hid (HW.HsAt w7 b ([] ++ D1 ++ D2 ++ D3)) from HH6.out.kept hb HS6.out); have HB7 := (show Hid (Below n w w7) from HB6.out.trans (hb.mono (by have := HS6.out; omega))); have HS7 := (show Hid (b < w7.heap.size) from Nat.lt_of_lt_of_le HS6.out hb.size); have HX7 := (show Hid (Bw.RowB (b + 1) w7 vx (sum kw bs)) from (by rw [← HD.out]; exact hr.mono HS6.out)); have HM7 := (show Hid (Bw.RowB (b + 1) w7 vm (sum kw D1)) from HM6.out.kept hb); clear hr hb)
        | (go_at_call 13; have hq := HH5; clear hq; refine (HW.write_any b ([] ++ D1 ++ D2) (Value.slice spk KL (sc - k)) D3 w5 (HT.out.below HB5.out hT1) (by omega) HH5.out (by have := HDl.out; omega) (by have := HDl.out; simp only [List.length_append, List.length_nil]; omega) (HV3.out.below HB5.out (by rw [HNn.out]; exact Nat.le_refl _)) (slm_apart HV3.out (by rw [HNn.out]; exact hnb))).mono ?_; rintro e w6 ⟨rfl, hh, hk⟩; have HH6 := (show Hid (HW.HsAt w6 b (([] ++ D1 ++ D2) ++ D3)) from hh); have HB6 := (show Hid (Below n w w6) from HB5.out.trans (hk.below hnb (by have := HS5.out; omega))); have HS6 := (show Hid (b < w6.heap.size) from Nat.lt_of_lt_of_le HS5.out hk.size); have HM6 := (show Hid (Bw.RowB (b + 1) w6 vm (sum kw D1)) from row_wrote HM5.out hk (Nat.lt_succ_self b)); clear hh hk)
        | (go_at_call 13; have hq := HH4; clear hq; refine (HW.write_any b ([] ++ D1) (Value.slice spi KI (sc - i)) D2 w4 (HT.out.below HB4.out hT1) (by omega) HH4.out (by have := HDl.out; omega) (by have := HDl.out; simp only [List.length_append, List.length_nil]; omega) (HV2.out.below HB4.out (by rw [HNn.out]; exact Nat.le_refl _)) (slm_apart HV2.out (by rw [HNn.out]; exact hnb))).mono ?_; rintro e w5 ⟨rfl, hh, hk⟩; have HH5 := (show Hid (HW.HsAt w5 b (([] ++ D1) ++ D2)) from hh); have HB5 := (show Hid (Below n w w5) from HB4.out.trans (hk.below hnb (by have := HS4.out; omega))); have HS5 := (show Hid (b < w5.heap.size) from Nat.lt_of_lt_of_le HS4.out hk.size); have HM5 := (show Hid (Bw.RowB (b + 1) w5 vm (sum kw D1)) from row_wrote HM4.out hk (Nat.lt_succ_self b)); clear hh hk)
        | (go_at_call 14; have hq := HH3; clear hq; refine (HW.hsum_any b ([] ++ D1) w3 (HT.out.below HB3.out hT1) HH3.out (by have := HDl.out; simp only [List.length_append, List.length_nil]; omega)).mono ?_; rintro e w4 ⟨vm, rfl, hr, hb⟩; have HH4 := (show Hid (HW.HsAt w4 b ([] ++ D1)) from HH3.out.kept hb HS3.out); have HB4 := (show Hid (Below n w w4) from HB3.out.trans (hb.mono (by have := HS3.out; omega))); have HS4 := (show Hid (b < w4.heap.size) from Nat.lt_of_lt_of_le HS3.out hb.size); have HM4 := (show Hid (Bw.RowB (b + 1) w4 vm (sum kw D1)) from (by exact hr.mono HS3.out)); clear hr hb)
        | (go_at_call 13; have hq := HH2; clear hq; refine (HW.write_any b ([]) (Value.slice sp i sc) D1 w2 (HT.out.below HB2.out hT1) (by omega) HH2.out (by have := HDl.out; omega) (by have := HDl.out; simp only [List.length_nil]; omega) (HV1.out.below HB2.out (by rw [HNn.out]; exact Nat.le_refl _)) (slm_apart HV1.out (by rw [HNn.out]; exact hnb))).mono ?_; rintro e w3 ⟨rfl, hh, hk⟩; have HH3 := (show Hid (HW.HsAt w3 b (([]) ++ D1)) from hh); have HB3 := (show Hid (Below n w w3) from HB2.out.trans (hk.below hnb (by have := HS2.out; omega))); have HS3 := (show Hid (b < w3.heap.size) from Nat.lt_of_lt_of_le HS2.out hk.size); clear hh hk)
        | (go_at_call 12; refine (cN).mono ?_; rintro e w2 ⟨rfl, hh2, hb2⟩; have HH2 := (show Hid (HW.HsAt w2 b []) from hh2); have HB2 := (show Hid (Below n w w2) from HBr.out.trans (hb2.mono hnb)); have HS2 := (show Hid (b < w2.heap.size) from Bw.cell_lt hh2.wide); clear hh2 hb2 cN))
      exact ⟨⟨2, rfl, by omega, HB19⟩, by decide⟩
    · go_wp2
      go_ret
      exact ⟨rfl, by rw [HNn.out]; exact HBr.out⟩
end Lc
end Go.Proofs.YtfmkkjnmadaplaaDoor
