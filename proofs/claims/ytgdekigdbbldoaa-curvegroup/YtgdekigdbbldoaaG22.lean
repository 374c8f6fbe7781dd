/- What the reference's settle does: a contract, by walking its text. What the reference's Add and Sub do: contracts, by walking their texts. -/
import Derived.Test.YtgdekigdbbldoaaG21
namespace Go.Proofs.Ytgdekigdbbldoaa
open Go.RowKit
namespace Dt
open Rg Go.Proofs.Ytgdekigdbbldoaa.Fd

open Classical in
/-- The number that a block of 23 sums tells. -/
noncomputable def mb (w : World) (g : Nat) : Nat := if h : ∃ L : List Nat, L.length = 23 ∧ w.rangeAt g 0 (ic L) then ofD h.choose else 0
theorem mb_is {w : World} {g : Nat} {L : List Nat} (hl : L.length = 23) (h : w.rangeAt g 0 (ic L)) : mb w g = ofD L := by
  have h1 : ∃ L : List Nat, L.length = 23 ∧ w.rangeAt g 0 (ic L) := ⟨L, hl, h⟩
  unfold mb
  rw [dif_pos h1]
  congr 1
  have hs := h1.choose_spec
  refine List.ext_getElem (by omega) fun i h2 h3 => ?_
  have c1 := cell_i hs.2 i h2
  have c2 := cell_i h i h3
  rw [c1] at c2
  simp only [Option.some.injEq, Value.int.injEq, true_and] at c2
  have c3 : h1.choose.getD i 0 = L.getD i 0 := by omega
  rwa [List.getD_eq_getElem?_getD, List.getD_eq_getElem?_getD, List.getElem?_eq_getElem h2, List.getElem?_eq_getElem h3] at c3
def bz : Value → Nat
  | .bool true => 1
  | _ => 0
theorem below_num {u : Value} {x : Nat} {w : World} (hu : Num w u x) (hx : x < 2 ^ 255) : Calls Try.prog 94 #[u] w fun e w' => ∃ v, e = .returned v ∧ Num w' v (x % p) ∧ Below w.heap.size w w' := by
  obtain ⟨A, L, cap, rfl, h2, h3, h4⟩ := hu
  exact below_any A L cap x w h2 h3 h4 hx

set_option maxHeartbeats 8000000 in
set_option maxRecDepth 8000 in
theorem settle_any (N g : Nat) (L0 : List Nat) (w : World) (hk : Bk N w w g L0) (hL : SeI L0) :
    Calls Try.prog 63 #[.slice (some ⟨g, 0, none⟩) 23 23] w fun e w' => ∃ v, e = .returned v ∧ Num w' v (ofD L0 % p) ∧ Below N w w' := by
  have HK0 : Hid (Bk N w w g L0) := hk
  have HL0 : Hid (SeI L0) := hL
  clear hk hL
  go_enter Try.func63, Try.ntmps63
  go_wp2
  go_loopw [3] (fun u wr => ∃ (L : List Nat) (ag : Bool), u = .bool ag ∧ Hid (SeI L) ∧ Hid (ofD L % p = ofD L0 % p) ∧ Hid (ag = false → Fin_ L) ∧ Hid (Bk N w wr g L)) (fun u wr => 2 * mb wr g + bz u)
  case atStart => exact ⟨L0, true, rfl, HL0, rfl, fun e => (by cases e), HK0⟩
  case round =>
    clear HK0 HL0
    obtain ⟨L, ag, rfl, HS, HM, HF, HK⟩ := hrel
    cases ag with
    | false =>
      have hf := HF.out rfl
      have hl11 : (L.take 11).length = 11 := by rw [List.length_take, hf.l]; rfl
      have k1 := cut_num (some ⟨g, 0, none⟩) (L.take 11) 23 wr (by rw [hl11]; decide) (by rw [hl11]; decide) (.inr ⟨g, 0, rfl, HK.out.l, take_range HK.out.r 11⟩) (hf.s.take 11)
      rw [hl11, hf.val.1] at k1
      have HV : Hid (ofD L < 2 ^ 255) := hf.val.2
      clear hf hl11
      go_wp2_with (first
        | (go_at_call 92; refine k1.mono ?_; rintro e w1 ⟨v1, rfl, hn1, hw1⟩; subst w1; have HN1 := (show Hid (Num wr v1 (ofD L)) from hn1); clear k1 hn1)
        | (go_at_call 94; refine (below_num HN1.out HV.out).mono ?_; rintro e w2 ⟨v2, rfl, hn2, hb2⟩; have HN2 := (show Hid (Num w2 v2 (ofD L % p)) from hn2); have HB2 := (show Hid (Below wr.heap.size wr w2) from hb2); clear hn2 hb2))
      go_ret
      refine ⟨_, rfl, by rw [← HM.out]; exact HN2.out, HK.out.b.trans (HB2.out.mono ?_)⟩
      have := HK.out.l
      have := HK.out.n
      omega
    | true =>
      have HC : Hid (Ca L L 0) := Ca.start HS.out
      have HMS : Hid (mb wr g = ofD L) := mb_is HS.out.l HK.out.r
      clear HF
      go_wp2
      go_loopw [4] (fun y wr => ∃ (M : List Nat) (i : Nat), y = .int .i64 (i : Int) ∧ i ≤ 22 ∧ Hid (Ca L M i) ∧ Hid (Bk N w wr g M)) (fun y _ => 22 - numOf y)
      case atStart => exact ⟨L, 0, rfl, Nat.zero_le _, HC, HK⟩
      case round =>
        clear HC HK
        obtain ⟨M, i, rfl, hi, HC, HK⟩ := hrel
        by_cases hlt : i < 22
        · have HN := (show Hid (Ca L _ (i + 1)) from HC.out.step HS.out hlt)
          have HLM : Hid (M.length = 23) := HC.out.l
          have hx1 : M.getD i 0 < 9007200328482816 := by have := HC.out.c; have := HS.out.b i; omega
          have hx2 : M.getD (i + 1) 0 < 9007199254740992 := by rw [HC.out.r (i + 1) (by omega)]; exact HS.out.b _
          obtain ⟨i', hi'⟩ : ∃ r, i + 1 = r := ⟨_, rfl⟩
          rw [hi'] at HN hx2
          obtain ⟨x, hx⟩ : ∃ r, M.getD i 0 = r := ⟨_, rfl⟩
          obtain ⟨y, hy⟩ : ∃ r, M.getD i' 0 = r := ⟨_, rfl⟩
          obtain ⟨q, hq⟩ : ∃ r, x / 16777216 = r := ⟨_, rfl⟩
          obtain ⟨r, hr⟩ : ∃ r, x % 16777216 = r := ⟨_, rfl⟩
          obtain ⟨s, hs⟩ : ∃ r, y + q = r := ⟨_, rfl⟩
          rw [hx, hy, hq, hr, hs] at HN
          rw [hx] at hx1
          rw [hy] at hx2
          have HXI : Hid (M.getD i 0 = x) := hx
          have HYI : Hid (M.getD i' 0 = y) := hy
          have e1 : IntKind.i64.wrap ((i : Int) + 1) = (i' : Int) := by rw [IntKind.wrap_i64]; omega
          have e2 : Int.tdiv (x : Int) 16777216 = (q : Int) := by rw [Int.tdiv_eq_ediv_of_nonneg (by omega)]; omega
          have e3 : Int.tmod (x : Int) 16777216 = (r : Int) := by rw [Int.tmod_eq_emod_of_nonneg (by omega)]; omega
          have e4 : IntKind.i64.wrap (q : Int) = (q : Int) := by rw [IntKind.wrap_i64]; omega
          have e5 : IntKind.i64.wrap (r : Int) = (r : Int) := by rw [IntKind.wrap_i64]; omega
          have e6 : IntKind.i64.wrap ((y : Int) + (q : Int)) = (s : Int) := by rw [IntKind.wrap_i64]; omega
          have h0 : (0 : Int) ≤ (i : Int) := by omega
          have h1 : (i : Int) < 22 := by omega
          have h2 : (i : Int) < 23 := by omega
          have h3 : (i' : Int) < 23 := by omega
          have h4 : (0 : Int) ≤ (i' : Int) := by omega
          have HI : Hid (i < 23 ∧ i' < 23 ∧ i' ≤ 22 ∧ 22 - i' < 22 - i ∧ i ≠ i') := by show _ ∧ _; omega
          have q0 : ∀ z : Cl wr.heap.size wr, z.u.cell? ⟨g, i, none⟩ = some (.int .i64 (x : Int)) := fun z => z.cell (by rw [← hx]; exact HK.out.cell i (by rw [HLM.out]; omega)) HK.out.l
          have q1 : ∀ z : Cl wr.heap.size wr, z.u.cell? ⟨g, i', none⟩ = some (.int .i64 (y : Int)) := fun z => z.cell (by rw [← hy]; exact HK.out.cell i' (by rw [HLM.out]; omega)) HK.out.l
          have hne := Cl.ne wr.heap.size wr
          clear hx hy hq hr hs hi' hx1 hx2 hlt hi HC
          go_wp2
          apply region_cl_tail (N := wr.heap.size) (W := wr) 15 8 (by kernel_rfl) (Below.refl _ _)
          case hl => simp only [List.take_succ_cons, List.take_zero]; rfl
          case ht => simp only [List.drop_succ_cons, List.drop_zero]; rfl
          case hB => kernel_rfl
          case hT => kernel_rfl
          case h =>
            repeat (go_big_quiet_step (fail))
            refine wpQuiet_nil ?_
            rintro _ ⟨z, rfl⟩
            have HKz : Hid (Bk N w z.u g M) := HK.out.below z.h
            obtain ⟨w3, hw3⟩ : ∃ v, z.u = v := ⟨_, rfl⟩
            rw [hw3] at HKz ⊢
            clear hw3 z hne q0 q1
            have HK5 : Hid (Bk N w (w3.setCell ⟨g, i', none⟩ (.int .i64 (s : Int))) g (M.set i' s)) := HKz.out.set i' s (by rw [HLM.out]; exact HI.out.2.1)
            have c1 := HKz.out.cell i' (by rw [HLM.out]; exact HI.out.2.1)
            have c2 := HKz.out.free i' (by rw [HLM.out]; exact HI.out.2.1)
            have c3 := HK5.out.cell i (by rw [List.length_set, HLM.out]; exact HI.out.1)
            have c4 := HK5.out.free i (by rw [List.length_set, HLM.out]; exact HI.out.1)
            rw [get_set M i' s i (by rw [HLM.out]; exact HI.out.2.1), if_neg HI.out.2.2.2.2, HXI.out] at c3
            rw [HYI.out] at c1
            go_wp2
            go_roundw
            case rel => exact ⟨_, i', rfl, HI.out.2.2.1, HN, HK5.out.set i r (by rw [List.length_set, HLM.out]; exact HI.out.1)⟩
            case measure => simp only [numOf, Int.toNat_natCast]; exact HI.out.2.2.2.1
        · have hi22 : i = 22 := by omega
          subst hi22
          have h1 : ¬ ((22 : Nat) : Int) < 22 := by omega
          have HCD : Hid (Cd M) := HC.out.done HS.out
          have HVM : Hid (ofD M = ofD L) := HC.out.e
          have HFS : Hid (Fo M M 11 false) := Fo.start HCD.out
          clear HC hi hlt
          go_wp2
          go_loopw [3, 5] (fun u y wr => ∃ (J : List Nat) (i : Nat) (fl : Bool), u = .bool fl ∧ y = .int .i64 (i : Int) ∧ 11 ≤ i ∧ i ≤ 23 ∧ Hid (Fo M J i fl) ∧ Hid (Bk N w wr g J)) (fun _ y _ => 23 - numOf y)
          case atStart => exact ⟨M, 11, false, rfl, rfl, by omega, by omega, HFS, HK⟩
          case round =>
            clear HFS HK
            obtain ⟨J, i, fl, rfl, rfl, hi1, hi2, HFo, HK⟩ := hrel
            have HLJ : Hid (J.length = 23) := HFo.out.l
            by_cases hlt : i < 23
            · have hcl := HK.out.cell i (by rw [HLJ.out]; exact hlt)
              have h1 : (i : Int) < 23 := by omega
              have h0 : (0 : Int) ≤ (i : Int) := by omega
              obtain ⟨i', hi'⟩ : ∃ r, i + 1 = r := ⟨_, rfl⟩
              have e1 : IntKind.i64.wrap ((i : Int) + 1) = (i' : Int) := by rw [IntKind.wrap_i64]; omega
              have HI : Hid (11 ≤ i' ∧ i' ≤ 23 ∧ 23 - i' < 23 - i ∧ i < 23) := by show _ ∧ _; omega
              by_cases hz : J.getD i 0 = 0
              · have HN : Hid (Fo M J i' fl) := by show Fo _ _ _ _; rw [← hi']; exact HFo.out.skip hi1 hz
                rw [hz] at hcl
                have z : ((0 : Nat) : Int) = 0 := rfl
                rw [z] at hcl
                clear hz hi' hlt hi1 hi2 HFo
                go_wp2
                go_roundw
                case rel => exact ⟨J, i', fl, rfl, rfl, HI.out.1, HI.out.2.1, HN, HK⟩
                case measure => simp only [numOf, Int.toNat_natCast]; exact HI.out.2.2.1
              · have HN := (show Hid (Fo M _ (i + 1) true) from HFo.out.fold HCD.out hi1 hlt (by omega))
                have hbi : J.getD i 0 < 1073741824 := by rw [HFo.out.r i (Nat.le_refl _)]; exact HCD.out.b i
                obtain ⟨d, hd⟩ : ∃ r, i - 11 = r := ⟨_, rfl⟩
                have hbd := HFo.out.b d
                rw [hd, hi'] at HN
                obtain ⟨x, hx⟩ : ∃ r, J.getD i 0 = r := ⟨_, rfl⟩
                obtain ⟨y, hy⟩ : ∃ r, J.getD d 0 = r := ⟨_, rfl⟩
                obtain ⟨a, ha⟩ : ∃ r, x * 19 = r := ⟨_, rfl⟩
                obtain ⟨b, hb⟩ : ∃ r, a * 512 = r := ⟨_, rfl⟩
                obtain ⟨s, hs⟩ : ∃ r, y + b = r := ⟨_, rfl⟩
                rw [hx, hy, ha, hb, hs] at HN
                rw [hx] at hcl hz hbi
                rw [hy] at hbd
                have hxp : (0 : Int) < (x : Int) := by omega
                have e2 : IntKind.i64.wrap ((i : Int) - 11) = (d : Int) := by rw [IntKind.wrap_i64]; omega
                have e3 : IntKind.i64.wrap ((x : Int) * 19) = (a : Int) := by rw [IntKind.wrap_i64]; omega
                have e4 : IntKind.i64.wrap ((a : Int) * 512) = (b : Int) := by rw [IntKind.wrap_i64]; omega
                have e5 : IntKind.i64.wrap ((y : Int) + (b : Int)) = (s : Int) := by rw [IntKind.wrap_i64]; omega
                have h3 : (d : Int) < 23 := by omega
                have h4 : (0 : Int) ≤ (d : Int) := by omega
                have HD : Hid (d < 23 ∧ i ≠ d) := by show _ ∧ _; omega
                have q0 : ∀ z : Cl wr.heap.size wr, z.u.cell? ⟨g, i, none⟩ = some (.int .i64 (x : Int)) := fun z => z.cell hcl HK.out.l
                have q1 : ∀ z : Cl wr.heap.size wr, z.u.cell? ⟨g, d, none⟩ = some (.int .i64 (y : Int)) := fun z => z.cell (by rw [← hy]; exact HK.out.cell d (by rw [HLJ.out]; omega)) HK.out.l
                have hne := Cl.ne wr.heap.size wr
                have HYI : Hid (J.getD d 0 = y) := hy
                have HXI : Hid (J.getD i 0 = x) := hx
                clear hx hy ha hb hs hd hbd hbi hi' hlt hi1 hi2 HFo hz
                go_wp2
                apply region_cl_tail (N := wr.heap.size) (W := wr) 16 8 (by kernel_rfl) (Below.refl _ _)
                case hl => simp only [List.take_succ_cons, List.take_zero]; rfl
                case ht => simp only [List.drop_succ_cons, List.drop_zero]; rfl
                case hB => kernel_rfl
                case hT => kernel_rfl
                case h =>
                  repeat (go_big_quiet_step (fail))
                  refine wpQuiet_nil ?_
                  rintro _ ⟨z, rfl⟩
                  have HKz : Hid (Bk N w z.u g J) := HK.out.below z.h
                  obtain ⟨w3, hw3⟩ : ∃ v, z.u = v := ⟨_, rfl⟩
                  rw [hw3] at HKz ⊢
                  clear hw3 z hne q0 q1 hcl
                  have HK5 : Hid (Bk N w (w3.setCell ⟨g, d, none⟩ (.int .i64 (s : Int))) g (J.set d s)) := HKz.out.set d s (by rw [HLJ.out]; exact HD.out.1)
                  have c1 := HKz.out.cell d (by rw [HLJ.out]; exact HD.out.1)
                  have c2 := HKz.out.free d (by rw [HLJ.out]; exact HD.out.1)
                  have c3 := HK5.out.cell i (by rw [List.length_set, HLJ.out]; exact HI.out.2.2.2)
                  have c4 := HK5.out.free i (by rw [List.length_set, HLJ.out]; exact HI.out.2.2.2)
                  rw [get_set J d s i (by rw [HLJ.out]; exact HD.out.1), if_neg HD.out.2, HXI.out] at c3
                  rw [HYI.out] at c1
                  go_wp2
                  go_roundw
                  case rel => exact ⟨_, i', true, rfl, rfl, HI.out.1, HI.out.2.1, HN, HK5.out.set i 0 (by rw [List.length_set, HLJ.out]; exact HI.out.2.2.2)⟩
                  case measure => simp only [numOf, Int.toNat_natCast]; exact HI.out.2.2.1
            · have hi23 : i = 23 := by omega
              subst hi23
              have h1 : ¬ ((23 : Nat) : Int) < 23 := by omega
              have HMJ : Hid (ofD J % p = ofD L0 % p) := by show _ = _; rw [HFo.out.m, HVM.out, HM.out]
              clear hi1 hi2 hlt
              cases fl with
              | true =>
                have HSJ : Hid (SeI J) := HFo.out.again
                have HLT : Hid (mb wr g = ofD J ∧ ofD J < ofD L) := ⟨mb_is HLJ.out HK.out.r, by rw [← HVM.out]; exact HFo.out.d rfl⟩
                clear HFo
                go_wp2
                go_roundw
                case rel => exact ⟨J, true, rfl, HSJ, HMJ, fun e => (by cases e), HK⟩
                case measure =>
                  show 2 * mb wr g + bz (.bool true) < 2 * mb _ g + bz (.bool true)
                  rw [HMS.out, HLT.out.1]
                  have := HLT.out.2
                  omega
              | false =>
                have hc10 := HK.out.cell 10 (by rw [HLJ.out]; decide)
                have HJM : Hid (J = M) := HFo.out.n rfl
                by_cases hlow : J.getD 10 0 < 32768
                · have hfin := HFo.out.fin HCD.out hlow
                  have HFN : Hid (Fin_ J) := hfin.1
                  have HSJ : Hid (SeI J) := hfin.2
                  have HLT : Hid (mb wr g = ofD L) := by show _ = _; rw [mb_is HLJ.out HK.out.r, HJM.out, HVM.out]
                  obtain ⟨t, ht⟩ : ∃ r, J.getD 10 0 = r := ⟨_, rfl⟩
                  rw [ht] at hc10 hlow
                  have h2 : ¬ (32768 : Int) ≤ (t : Int) := by omega
                  clear HFo hfin ht hlow
                  go_wp2
                  go_roundw
                  case rel => exact ⟨J, false, rfl, HSJ, HMJ, fun _ => HFN.out, HK⟩
                  case measure =>
                    show 2 * mb wr g + bz (.bool false) < 2 * mb _ g + bz (.bool true)
                    rw [HMS.out, HLT.out]
                    show 2 * ofD L + 0 < 2 * ofD L + 1
                    omega
                · have htop := HFo.out.top HCD.out (by omega)
                  have hb10 : J.getD 10 0 < 16777216 := by rw [HJM.out]; exact HCD.out.s 10 (by omega)
                  have hb0 : J.getD 0 0 < 16777216 := by rw [HJM.out]; exact HCD.out.s 0 (by omega)
                  obtain ⟨t, ht⟩ : ∃ r, J.getD 10 0 = r := ⟨_, rfl⟩
                  obtain ⟨y, hy⟩ : ∃ r, J.getD 0 0 = r := ⟨_, rfl⟩
                  obtain ⟨q, hq⟩ : ∃ r, t / 32768 = r := ⟨_, rfl⟩
                  obtain ⟨r, hr⟩ : ∃ r, t % 32768 = r := ⟨_, rfl⟩
                  obtain ⟨a, ha⟩ : ∃ r, 19 * q = r := ⟨_, rfl⟩
                  obtain ⟨s, hs⟩ : ∃ r, y + a = r := ⟨_, rfl⟩
                  have HXI : Hid (J.getD 10 0 = t) := ht
                  have HYI : Hid (J.getD 0 0 = y) := hy
                  rw [ht, hy, hq, hr, ha, hs] at htop
                  rw [ht] at hb10 hc10 hlow
                  rw [hy] at hb0
                  have HTOP : Hid (SeI ((J.set 0 s).set 10 r) ∧ ofD ((J.set 0 s).set 10 r) % p = ofD L0 % p ∧ ofD ((J.set 0 s).set 10 r) < ofD L) := ⟨htop.1, by rw [htop.2.1, HVM.out, HM.out], by rw [← HVM.out]; exact htop.2.2⟩
                  have h2 : (32768 : Int) ≤ (t : Int) := by omega
                  have e2 : Int.tdiv (t : Int) 32768 = (q : Int) := by rw [Int.tdiv_eq_ediv_of_nonneg (by omega)]; omega
                  have e3 : Int.tmod (t : Int) 32768 = (r : Int) := by rw [Int.tmod_eq_emod_of_nonneg (by omega)]; omega
                  have e4 : IntKind.i64.wrap (q : Int) = (q : Int) := by rw [IntKind.wrap_i64]; omega
                  have e5 : IntKind.i64.wrap (r : Int) = (r : Int) := by rw [IntKind.wrap_i64]; omega
                  have e6 : IntKind.i64.wrap (19 * (q : Int)) = (a : Int) := by rw [IntKind.wrap_i64]; omega
                  have e7 : IntKind.i64.wrap ((y : Int) + (a : Int)) = (s : Int) := by rw [IntKind.wrap_i64]; omega
                  have q0 : ∀ z : Cl wr.heap.size wr, z.u.cell? ⟨g, 10, none⟩ = some (.int .i64 (t : Int)) := fun z => z.cell hc10 HK.out.l
                  have q1 : ∀ z : Cl wr.heap.size wr, z.u.cell? ⟨g, 0, none⟩ = some (.int .i64 (y : Int)) := fun z => z.cell (by rw [← hy]; exact HK.out.cell 0 (by rw [HLJ.out]; decide)) HK.out.l
                  have hne := Cl.ne wr.heap.size wr
                  clear ht hy hq hr ha hs hb10 hb0 hlow htop HFo
                  go_wp2
                  apply region_cl_tail (N := wr.heap.size) (W := wr) 11 8 (by kernel_rfl) (Below.refl _ _)
                  case hl => simp only [List.take_succ_cons, List.take_zero]; rfl
                  case ht => simp only [List.drop_succ_cons, List.drop_zero]; rfl
                  case hB => kernel_rfl
                  case hT => kernel_rfl
                  case h =>
                    repeat (go_big_quiet_step (fail))
                    refine wpQuiet_nil ?_
                    rintro _ ⟨z, rfl⟩
                    have HKz : Hid (Bk N w z.u g J) := HK.out.below z.h
                    obtain ⟨w3, hw3⟩ : ∃ v, z.u = v := ⟨_, rfl⟩
                    rw [hw3] at HKz ⊢
                    clear hw3 z hne q0 q1 hc10
                    have HK5 : Hid (Bk N w (w3.setCell ⟨g, 0, none⟩ (.int .i64 (s : Int))) g (J.set 0 s)) := HKz.out.set 0 s (by rw [HLJ.out]; decide)
                    have c1 := HKz.out.cell 0 (by rw [HLJ.out]; decide)
                    have c2 := HKz.out.free 0 (by rw [HLJ.out]; decide)
                    have c3 := HK5.out.cell 10 (by rw [List.length_set, HLJ.out]; decide)
                    have c4 := HK5.out.free 10 (by rw [List.length_set, HLJ.out]; decide)
                    rw [get_set J 0 s 10 (by rw [HLJ.out]; decide), if_neg (by decide), HXI.out] at c3
                    rw [HYI.out] at c1
                    have HK6 : Hid (Bk N w ((w3.setCell ⟨g, 0, none⟩ (.int .i64 (s : Int))).setCell ⟨g, 10, none⟩ (.int .i64 (r : Int))) g ((J.set 0 s).set 10 r)) := HK5.out.set 10 r (by rw [List.length_set, HLJ.out]; decide)
                    have HLT : Hid (mb ((w3.setCell ⟨g, 0, none⟩ (.int .i64 (s : Int))).setCell ⟨g, 10, none⟩ (.int .i64 (r : Int))) g = ofD ((J.set 0 s).set 10 r)) := mb_is (by rw [List.length_set, List.length_set, HLJ.out]) HK6.out.r
                    go_wp2
                    go_roundw
                    case rel => exact ⟨_, true, rfl, HTOP.out.1, HTOP.out.2.1, fun e => (by cases e), HK6⟩
                    case measure =>
                      show 2 * mb _ g + bz (.bool true) < 2 * mb _ g + bz (.bool true)
                      rw [HMS.out, HLT.out]
                      have := HTOP.out.2.2
                      omega
end Dt
end Go.Proofs.Ytgdekigdbbldoaa

namespace Go.Proofs.Ytgdekigdbbldoaa
open Go.RowKit
namespace Dt
open Rg Go.Proofs.Ytgdekigdbbldoaa.Fd

/-- 23 sums by their places. -/
def mp (f : Nat → Nat) : List Nat := (List.range 23).map f
theorem mp_len (f : Nat → Nat) : (mp f).length = 23 := by simp [mp]
theorem mp_get (f : Nat → Nat) (j : Nat) : (mp f).getD j 0 = if j < 23 then f j else 0 := by
  unfold mp
  rw [List.getD_eq_getElem?_getD, List.getElem?_map]
  by_cases h : j < 23
  · rw [List.getElem?_range h, if_pos h]; rfl
  · rw [List.getElem?_eq_none (by simp; omega), if_neg h]; rfl
theorem mp_set (f : Nat → Nat) (i v : Nat) : (mp f).set i v = mp fun j => if j = i then v else f j := by
  refine List.ext_getElem (by rw [List.length_set, mp_len, mp_len]) fun j h1 h2 => ?_
  rw [List.getElem_set]
  by_cases e : i = j
  · rw [if_pos e]; simp [mp, e]
  · rw [if_neg e]; simp [mp, Ne.symm e]
theorem sum_succ (f : Nat → Nat) (n : Nat) : ofD ((List.range (n + 1)).map f) = ofD ((List.range n).map f) + 16777216 ^ n * f n := by
  rw [List.range_succ, List.map_append, List.map_singleton, ofD_snoc]
  simp
theorem sum_tail (f : Nat → Nat) (n : Nat) (h : ∀ j, n ≤ j → f j = 0) : ∀ m, ofD ((List.range (n + m)).map f) = ofD ((List.range n).map f)
  | 0 => rfl
  | m + 1 => by
    rw [← Nat.add_assoc, sum_succ, h (n + m) (by omega), Nat.mul_zero, Nat.add_zero]
    exact sum_tail f n h m
theorem sum_add (a b : List Nat) : ∀ n, ofD ((List.range n).map fun j => a.getD j 0 + b.getD j 0) = ofD (a.take n) + ofD (b.take n)
  | 0 => by simp [ofD]
  | n + 1 => by
    rw [sum_succ, sum_add a b n, take_step, take_step, Nat.mul_add]
    omega
theorem mp_add {a b : List Nat} {x y : Nat} (ha : IsD a x) (hb : IsD b y) (hla : a.length ≤ 11) (hlb : b.length ≤ 11) : ofD (mp fun j => if j < 11 then a.getD j 0 + b.getD j 0 else 0) = x + y ∧ SeI (mp fun j => if j < 11 then a.getD j 0 + b.getD j 0 else 0) := by
  refine ⟨?_, ⟨mp_len _, fun j => ?_, by rw [mp_get]; rfl, by rw [mp_get]; rfl⟩⟩
  · have h1 := sum_tail (fun j => if j < 11 then a.getD j 0 + b.getD j 0 else 0) 11 (fun j hj => if_neg (by omega)) 12
    unfold mp
    rw [h1]
    have h2 : (List.range 11).map (fun j => if j < 11 then a.getD j 0 + b.getD j 0 else 0) = (List.range 11).map fun j => a.getD j 0 + b.getD j 0 := List.map_congr_left fun j hj => if_pos (List.mem_range.1 hj)
    rw [h2, sum_add, List.take_of_length_le hla, List.take_of_length_le hlb, ha.v, hb.v]
  · rw [mp_get]
    have := ha.s j
    have := hb.s j
    split
    · show (if j < 11 then _ else _) < _
      split <;> omega
    · decide
theorem sum_sub (a b q : List Nat) : ∀ n, (∀ j, j < n → b.getD j 0 ≤ 2 * q.getD j 0) → ofD ((List.range n).map fun j => a.getD j 0 + 2 * q.getD j 0 - b.getD j 0) + ofD (b.take n) = ofD (a.take n) + 2 * ofD (q.take n)
  | 0, _ => by simp [ofD]
  | n + 1, h => by
    have ih := sum_sub a b q n (fun j hj => h j (by omega))
    have h1 := h n (by omega)
    rw [sum_succ, take_step, take_step, take_step]
    have e : 16777216 ^ n * (a.getD n 0 + 2 * q.getD n 0 - b.getD n 0 + b.getD n 0) = 16777216 ^ n * (a.getD n 0 + 2 * q.getD n 0) := by congr 1; omega
    rw [Nat.mul_add, Nat.mul_add, Nat.mul_left_comm _ 2] at e
    omega
theorem top_p {b : List Nat} {y : Nat} (hb : IsD b y) (hy : y < p) (j : Nat) (hj : j < 11) : b.getD j 0 ≤ 2 * pD.getD j 0 := by
  have h1 := hb.s j
  by_cases e : j = 10
  · subst e
    have h2 := top_div hb (by rw [pow11]; unfold p at hy; omega)
    have h3 : pD.getD 10 0 = 32767 := rfl
    rw [h2, h3, pow10]
    unfold p at hy
    omega
  · have h3 : 16777197 ≤ pD.getD j 0 := by
      match j, hj with
      | 0, _ => decide
      | 1, _ => decide
      | 2, _ => decide
      | 3, _ => decide
      | 4, _ => decide
      | 5, _ => decide
      | 6, _ => decide
      | 7, _ => decide
      | 8, _ => decide
      | 9, _ => decide
      | 10, _ => exact absurd rfl e
    omega
theorem mp_sub {a b : List Nat} {x y : Nat} (ha : IsD a x) (hb : IsD b y) (hla : a.length ≤ 11) (hlb : b.length ≤ 11) (hy : y < p) : ofD (mp fun j => if j < 11 then a.getD j 0 + 2 * pD.getD j 0 - b.getD j 0 else 0) % p = (x + p - y) % p ∧ SeI (mp fun j => if j < 11 then a.getD j 0 + 2 * pD.getD j 0 - b.getD j 0 else 0) := by
  refine ⟨?_, ⟨mp_len _, fun j => ?_, by rw [mp_get]; rfl, by rw [mp_get]; rfl⟩⟩
  · have h1 := sum_tail (fun j => if j < 11 then a.getD j 0 + 2 * pD.getD j 0 - b.getD j 0 else 0) 11 (fun j hj => if_neg (by omega)) 12
    unfold mp
    rw [h1]
    have h2 : (List.range 11).map (fun j => if j < 11 then a.getD j 0 + 2 * pD.getD j 0 - b.getD j 0 else 0) = (List.range 11).map fun j => a.getD j 0 + 2 * pD.getD j 0 - b.getD j 0 := List.map_congr_left fun j hj => if_pos (List.mem_range.1 hj)
    have h3 := sum_sub a b pD 11 (top_p hb hy)
    rw [h2]
    rw [List.take_of_length_le hla, List.take_of_length_le hlb, ha.v, hb.v, List.take_of_length_le (by decide), pD_is.v] at h3
    have e : ofD ((List.range 11).map fun j => a.getD j 0 + 2 * pD.getD j 0 - b.getD j 0) = x + p - y + p := by omega
    rw [e, Nat.add_mod_right]
  · rw [mp_get]
    have := ha.s j
    have := pD_sm j
    split
    · show (if j < 11 then _ else _) < _
      split <;> omega
    · decide
theorem mp_zero : List.replicate 23 0 = mp fun _ => 0 := rfl
theorem mp_next (f : Nat → Nat) (i : Nat) : (mp fun j => if j < i then f j else 0).set i (f i) = mp fun j => if j < i + 1 then f j else 0 := by
  rw [mp_set]
  congr 1
  funext j
  by_cases e : j = i
  · rw [if_pos e, if_pos (by omega), e]
  · rw [if_neg e]
    by_cases h : j < i
    · rw [if_pos h, if_pos (by omega)]
    · rw [if_neg h, if_neg (by omega)]
theorem Bk.start23 (w : World) (f : Nat → Nat) : Bk w.heap.size w (w.alloc (.cells (ic (List.replicate 23 0)).toArray 3)) w.heap.size (mp fun j => if j < 0 then f j else 0) := by
  have e : (mp fun j => if j < 0 then f j else 0) = List.replicate 23 0 := by
    rw [mp_zero]
    congr 1
  rw [e]
  exact Bk.start w _
theorem len11 {L : List Nat} {x : Nat} (h : IsD L x) (hx : x < p) : L.length ≤ 11 := h.len (by rw [pow11]; unfold p at hx; omega)
theorem made23 (W : World) : (Instr.makeSlice 24 (.int .i64 23) (.int .i64 23)).run Try.prog W = .ok (.slice (some ⟨W.heap.size, 0, none⟩) 23 23) (W.alloc (.cells (ic (List.replicate 23 0)).toArray 3)) := made W 23 (by decide)
theorem settle_at {N g : Nat} {L0 : List Nat} {w w1 : World} (hk : Bk N w w1 g L0) (hL : SeI L0) :
    Calls Try.prog 63 #[.slice (some ⟨g, 0, none⟩) 23 23] w1 fun e w' => ∃ v, e = .returned v ∧ Num w' v (ofD L0 % p) ∧ Below N w w' :=
  (settle_any N g L0 w1 ⟨Below.refl _ _, hk.r, hk.t, hk.l, hk.n⟩ hL).mono fun _ _ ⟨v, h1, h2, h3⟩ => ⟨v, h1, h2, hk.b.trans h3⟩

set_option maxHeartbeats 4000000 in
set_option maxRecDepth 4000 in
theorem add_num {u v : Value} {x y : Nat} {w : World} (hu : Num w u x) (hv : Num w v y) (hx : x < p) (hy : y < p) :
    Calls Try.prog 17 #[u, v] w fun e w' => ∃ v, e = .returned v ∧ Num w' v ((x + y) % p) ∧ Below w.heap.size w w' := by
  obtain ⟨A, a, cap, rfl, _, h3, ha⟩ := hu
  obtain ⟨A', b, cap', rfl, _, k3, hb⟩ := hv
  have c1 : ∀ (k : Nat) (W : World), Below w.heap.size w W → Calls Try.prog 62 #[.slice A a.length cap, .int .i64 (k : Int)] W fun e w' => e = .returned (.int .i64 ((a.getD k 0 : Nat) : Int)) ∧ w' = W := fun k W hW => digit_any A a cap k W (h3.below hW)
  have c2 : ∀ (k : Nat) (W : World), Below w.heap.size w W → Calls Try.prog 62 #[.slice A' b.length cap', .int .i64 (k : Int)] W fun e w' => e = .returned (.int .i64 ((b.getD k 0 : Nat) : Int)) ∧ w' = W := fun k W hW => digit_any A' b cap' k W (k3.below hW)
  have HLt : Hid (∀ k, a.getD k 0 < 16777216 ∧ b.getD k 0 < 16777216) := fun k => ⟨ha.s k, hb.s k⟩
  have HMA := (show Hid (_ ∧ _) from mp_add ha hb (len11 ha hx) (len11 hb hy))
  have hmk := made23 w
  have HK0 := (show Hid (Bk w.heap.size w _ w.heap.size _) from Bk.start23 w fun j => a.getD j 0 + b.getD j 0)
  obtain ⟨Z, hZ⟩ : ∃ Z, (ic (List.replicate 23 0)).toArray = Z := ⟨_, rfl⟩
  rw [hZ] at hmk HK0
  obtain ⟨na, hna⟩ : ∃ n, a.length = n := ⟨_, rfl⟩
  obtain ⟨nb, hnb⟩ : ∃ n, b.length = n := ⟨_, rfl⟩
  rw [hna] at c1 ⊢
  rw [hnb] at c2 ⊢
  obtain ⟨g, hg⟩ : ∃ g, w.heap.size = g := ⟨_, rfl⟩
  have HG : Hid (w.heap.size = g) := hg
  rw [hg] at hmk HK0 c1 c2
  clear hna hnb ha hb h3 k3 hx hy hZ hg
  go_enter Try.func17, Try.ntmps17
  go_wp2
  clear hmk
  go_loopw [6] (fun y wr => ∃ i : Nat, y = .int .i64 (i : Int) ∧ i ≤ 11 ∧ Hid (Bk g w wr g (mp fun j => if j < i then a.getD j 0 + b.getD j 0 else 0))) (fun y _ => 11 - numOf y)
  case atStart => exact ⟨0, rfl, Nat.zero_le _, HK0⟩
  case round =>
    clear HK0
    obtain ⟨i, rfl, hi, HK⟩ := hrel
    by_cases hlt : i < 11
    · have h1 : (i : Int) < 11 := by omega
      have h2 : (i : Int) < 23 := by omega
      have h0 : (0 : Int) ≤ (i : Int) := by omega
      have q1 := c1 i wr HK.out.b
      have q2 := c2 i wr HK.out.b
      have hl := HLt.out i
      have d1 := HK.out.cell i (by rw [mp_len]; omega)
      have d2 := HK.out.free i (by rw [mp_len]; omega)
      have HK2 := (show Hid (Bk g w _ g _) from HK.out.set i (a.getD i 0 + b.getD i 0) (by rw [mp_len]; omega))
      rw [mp_next (fun j => a.getD j 0 + b.getD j 0) i] at HK2
      obtain ⟨xa, hxa⟩ : ∃ d, a.getD i 0 = d := ⟨_, rfl⟩
      obtain ⟨xb, hxb⟩ : ∃ d, b.getD i 0 = d := ⟨_, rfl⟩
      rw [hxa] at q1 hl HK2
      rw [hxb] at q2 hl HK2
      obtain ⟨s, hs⟩ : ∃ d, xa + xb = d := ⟨_, rfl⟩
      rw [hs] at HK2
      obtain ⟨i', hi'⟩ : ∃ d, i + 1 = d := ⟨_, rfl⟩
      rw [hi'] at HK2
      have e1 : IntKind.i64.wrap ((xa : Int) + (xb : Int)) = (s : Int) := by rw [IntKind.wrap_i64]; omega
      have e2 : IntKind.i64.wrap ((i : Int) + 1) = (i' : Int) := by rw [IntKind.wrap_i64]; omega
      have HI : Hid (i' ≤ 11 ∧ 11 - i' < 11 - i) := by show _ ∧ _; omega
      have HFST : Hid True := trivial
      clear hxa hxb hl hs hi' hlt c1 c2 HK
      go_wp2_with (first
        | (have hq := HFST; go_at_call 62; refine q1.mono ?_; rintro e w1 ⟨rfl, hw1⟩; subst w1; clear hq HFST q1)
        | (go_at_call 62; refine q2.mono ?_; rintro e w1 ⟨rfl, hw1⟩; subst w1; clear q2))
      go_roundw
      case rel => exact ⟨i', rfl, HI.out.1, HK2⟩
      case measure => simp only [numOf, Int.toNat_natCast]; exact HI.out.2
    · have hi11 : i = 11 := by omega
      subst hi11
      have h1 : ¬ ((11 : Nat) : Int) < 11 := by omega
      have k1 := settle_at HK.out HMA.out.2
      rw [HMA.out.1] at k1
      clear c1 c2 hlt hi
      go_wp2_with (go_at_call 63; refine k1.mono ?_; rintro e w2 ⟨v2, rfl, hn2, hb2⟩)
      go_ret
      exact ⟨_, rfl, hn2, by rw [HG.out]; exact hb2⟩

set_option maxHeartbeats 4000000 in
set_option maxRecDepth 4000 in
theorem sub_num {u v : Value} {x y : Nat} {w : World} (hu : Num w u x) (hv : Num w v y) (hx : x < p) (hy : y < p) :
    Calls Try.prog 19 #[u, v] w fun e w' => ∃ v, e = .returned v ∧ Num w' v ((x + p - y) % p) ∧ Below w.heap.size w w' := by
  obtain ⟨A, a, cap, rfl, _, h3, ha⟩ := hu
  obtain ⟨A', b, cap', rfl, _, k3, hb⟩ := hv
  have c1 : ∀ (k : Nat) (W : World), Below w.heap.size w W → Calls Try.prog 62 #[.slice A a.length cap, .int .i64 (k : Int)] W fun e w' => e = .returned (.int .i64 ((a.getD k 0 : Nat) : Int)) ∧ Below W.heap.size W w' := fun k W hW => (digit_any A a cap k W (h3.below hW)).mono fun e w' ⟨h1, h2⟩ => ⟨h1, by rw [h2]; exact Below.refl _ _⟩
  have c2 : ∀ (k : Nat) (W : World), Below w.heap.size w W → Calls Try.prog 62 #[.slice A' b.length cap', .int .i64 (k : Int)] W fun e w' => e = .returned (.int .i64 ((b.getD k 0 : Nat) : Int)) ∧ Below W.heap.size W w' := fun k W hW => (digit_any A' b cap' k W (k3.below hW)).mono fun e w' ⟨h1, h2⟩ => ⟨h1, by rw [h2]; exact Below.refl _ _⟩
  have HLt : Hid (∀ k, a.getD k 0 < 16777216 ∧ b.getD k 0 < 16777216 ∧ pD.getD k 0 < 16777216) := fun k => ⟨ha.s k, hb.s k, pD_sm k⟩
  have HTP : Hid (∀ k, k < 11 → b.getD k 0 ≤ 2 * pD.getD k 0) := top_p hb hy
  have HMA := (show Hid (_ ∧ _) from mp_sub ha hb (len11 ha hx) (len11 hb hy) hy)
  have hmk := made23 w
  have HK0 := (show Hid (Bk w.heap.size w _ w.heap.size _) from Bk.start23 w fun j => a.getD j 0 + 2 * pD.getD j 0 - b.getD j 0)
  obtain ⟨Z, hZ⟩ : ∃ Z, (ic (List.replicate 23 0)).toArray = Z := ⟨_, rfl⟩
  rw [hZ] at hmk HK0
  obtain ⟨na, hna⟩ : ∃ n, a.length = n := ⟨_, rfl⟩
  obtain ⟨nb, hnb⟩ : ∃ n, b.length = n := ⟨_, rfl⟩
  rw [hna] at c1 ⊢
  rw [hnb] at c2 ⊢
  obtain ⟨g, hg⟩ : ∃ g, w.heap.size = g := ⟨_, rfl⟩
  have HG : Hid (w.heap.size = g) := hg
  rw [hg] at hmk HK0 c1 c2
  have cP := p_any (w.alloc (.cells Z 3))
  have HZs : Hid ((w.alloc (.cells Z 3)).heap.size = g + 1) := by show _ = _; rw [size_alloc, hg]
  rw [HZs.out] at cP
  clear hna hnb ha hb h3 k3 hx hy hZ hg
  go_enter Try.func19, Try.ntmps19
  go_wp2_with (go_at_call 56; refine cP.mono ?_; rintro e w1 ⟨rfl, _, hr1, hb1, hl1⟩; have HK1 := (show Hid (Bk g w w1 g _) from HK0.out.below (by rw [HZs.out]; exact hb1)); have HR1 := (show Hid (w1.rangeAt (g + 1) 0 (ic pD) ∧ g + 1 < w1.heap.size) from ⟨hr1, hl1⟩); clear hr1 hb1 hl1 cP)
  clear hmk HK0 HZs
  go_loopw [7] (fun y wr => ∃ i : Nat, y = .int .i64 (i : Int) ∧ i ≤ 11 ∧ Hid (Bk g w wr g (mp fun j => if j < i then a.getD j 0 + 2 * pD.getD j 0 - b.getD j 0 else 0)) ∧ Hid (wr.rangeAt (g + 1) 0 (ic pD) ∧ g + 1 < wr.heap.size)) (fun y _ => 11 - numOf y)
  case atStart => exact ⟨0, rfl, Nat.zero_le _, HK1, HR1⟩
  case round =>
    clear HK1 HR1
    obtain ⟨i, rfl, hi, HK, HR⟩ := hrel
    by_cases hlt : i < 11
    · have h1 : (i : Int) < 11 := by omega
      have h2 : (i : Int) < 23 := by omega
      have h0 : (0 : Int) ≤ (i : Int) := by omega
      have hl := HLt.out i
      have htp := HTP.out i hlt
      have dp := cell_i HR.out.1 i (by show i < 11; exact hlt)
      rw [Nat.zero_add] at dp
      have q1 : ∀ z : Cl wr.heap.size wr, Calls Try.prog 62 #[.slice A na cap, .int .i64 (i : Int)] z.u fun e w' => e = .returned (.int .i64 ((a.getD i 0 : Nat) : Int)) ∧ Below z.u.heap.size z.u w' := fun z => c1 i z.u (HK.out.b.trans (z.h.mono (Nat.le_of_lt HK.out.l)))
      have q2 : ∀ z : Cl wr.heap.size wr, Calls Try.prog 62 #[.slice A' nb cap', .int .i64 (i : Int)] z.u fun e w' => e = .returned (.int .i64 ((b.getD i 0 : Nat) : Int)) ∧ Below z.u.heap.size z.u w' := fun z => c2 i z.u (HK.out.b.trans (z.h.mono (Nat.le_of_lt HK.out.l)))
      obtain ⟨xa, hxa⟩ : ∃ d, a.getD i 0 = d := ⟨_, rfl⟩
      obtain ⟨xb, hxb⟩ : ∃ d, b.getD i 0 = d := ⟨_, rfl⟩
      obtain ⟨xp, hxp⟩ : ∃ d, pD.getD i 0 = d := ⟨_, rfl⟩
      rw [hxa] at q1 hl
      rw [hxb] at q2 hl htp
      rw [hxp] at hl htp dp
      obtain ⟨p2, hp2⟩ : ∃ d, 2 * xp = d := ⟨_, rfl⟩
      obtain ⟨s1, hs1⟩ : ∃ d, xa + p2 = d := ⟨_, rfl⟩
      obtain ⟨s, hs⟩ : ∃ d, s1 - xb = d := ⟨_, rfl⟩
      obtain ⟨i', hi'⟩ : ∃ d, i + 1 = d := ⟨_, rfl⟩
      have HST : Hid ((mp fun j => if j < i then a.getD j 0 + 2 * pD.getD j 0 - b.getD j 0 else 0).set i s = mp fun j => if j < i' then a.getD j 0 + 2 * pD.getD j 0 - b.getD j 0 else 0) := by
        have := mp_next (fun j => a.getD j 0 + 2 * pD.getD j 0 - b.getD j 0) i
        simp only [hxa, hxb, hxp, hp2, hs1, hs, hi'] at this
        exact this
      have e0 : IntKind.i64.wrap (2 * (xp : Int)) = (p2 : Int) := by rw [IntKind.wrap_i64]; omega
      have e1 : IntKind.i64.wrap ((xa : Int) + (p2 : Int)) = (s1 : Int) := by rw [IntKind.wrap_i64]; omega
      have e3 : IntKind.i64.wrap ((s1 : Int) - (xb : Int)) = (s : Int) := by rw [IntKind.wrap_i64]; omega
      have e2 : IntKind.i64.wrap ((i : Int) + 1) = (i' : Int) := by rw [IntKind.wrap_i64]; omega
      have HI : Hid (i' ≤ 11 ∧ 11 - i' < 11 - i ∧ i < 23) := by show _ ∧ _; omega
      have q0 : ∀ z : Cl wr.heap.size wr, z.u.cell? ⟨g + 1, i, none⟩ = some (.int .i64 (xp : Int)) := fun z => z.cell dp HR.out.2
      have hne := Cl.ne wr.heap.size wr
      clear hxa hxb hxp hp2 hl htp hs hs1 hi' hlt c1 c2 dp
      go_wp2
      apply region_cl_tail (N := wr.heap.size) (W := wr) 16 8 (by kernel_rfl) (Below.refl _ _)
      case hl => simp only [List.take_succ_cons, List.take_zero]; rfl
      case ht => simp only [List.drop_succ_cons, List.drop_zero]; rfl
      case hB => kernel_rfl
      case hT => kernel_rfl
      case h =>
        repeat (go_big_quiet_step (fail))
        go_big_quiet_step ((go_at_call 62; exact cl_of (q1 _) (Nat.le_refl _)))
        repeat (go_big_quiet_step (fail))
        go_big_quiet_step ((go_at_call 62; exact cl_of (q2 _) (Nat.le_refl _)))
        repeat (go_big_quiet_step (fail))
        refine wpQuiet_nil ?_
        rintro _ ⟨z, rfl⟩
        have HKz := (show Hid (Bk g w z.u g _) from HK.out.below z.h)
        have HRz : Hid (z.u.rangeAt (g + 1) 0 (ic pD) ∧ g + 1 < z.u.heap.size) := ⟨z.range HR.out.1 HR.out.2, Nat.lt_of_lt_of_le HR.out.2 z.h.size⟩
        obtain ⟨w3, hw3⟩ : ∃ v, z.u = v := ⟨_, rfl⟩
        rw [hw3] at HKz HRz ⊢
        clear hw3 z hne q0 q1 q2
        have d1 := HKz.out.cell i (by rw [mp_len]; exact HI.out.2.2)
        have d2 := HKz.out.free i (by rw [mp_len]; exact HI.out.2.2)
        have HK5 := (show Hid (Bk g w (w3.setCell ⟨g, i, none⟩ (.int .i64 (s : Int))) g _) from HKz.out.set i s (by rw [mp_len]; exact HI.out.2.2))
        rw [HST.out] at HK5
        have HR5 : Hid ((w3.setCell ⟨g, i, none⟩ (.int .i64 (s : Int))).rangeAt (g + 1) 0 (ic pD) ∧ g + 1 < (w3.setCell ⟨g, i, none⟩ (.int .i64 (s : Int))).heap.size) := ⟨fun j v hv => (World.cell?_setCell_other _ _ _ _ (fun e => by cases e)).trans (HRz.out.1 j v hv), by simpa using HRz.out.2⟩
        go_wp2
        go_roundw
        case rel => exact ⟨i', rfl, HI.out.1, HK5, HR5⟩
        case measure => simp only [numOf, Int.toNat_natCast]; exact HI.out.2.1
    · have hi11 : i = 11 := by omega
      subst hi11
      have h1 : ¬ ((11 : Nat) : Int) < 11 := by omega
      have k1 := settle_at HK.out HMA.out.2
      rw [HMA.out.1] at k1
      clear c1 c2 hlt hi
      go_wp2_with (go_at_call 63; refine k1.mono ?_; rintro e w2 ⟨v2, rfl, hn2, hb2⟩)
      go_ret
      exact ⟨_, rfl, hn2, by rw [HG.out]; exact hb2⟩
end Dt
end Go.Proofs.Ytgdekigdbbldoaa
