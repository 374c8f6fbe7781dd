/- What the reference's settle does: a contract, by walking its text. -/
import Derived.Test.YtgdekigdbbldoaaDm
namespace Go.Proofs.Ytgdekigdbbldoaa
open Go.RowKit
namespace Dt
open Rg Go.Proofs.Ytgdekigdbbldoaa.Fd

open Classical in
/-- The number that a block of 23 sums tells. -/
noncomputable def mb (w : World) (g : Nat) : Nat := if h : ∃ L : List Nat, L.length = 23 ∧ w.rangeAt g 0 (ic L) then ofD h.choose else 0
theorem mb_is {w : World} {g : Nat} {L : List Nat} (hl : L.length = 23) (h : w.rangeAt g 0 (ic L)) : mb w g = ofD L := by
  have h1 : ∃ L : List Nat, L.length = 23 ∧ w.rangeAt g 0 (ic L) := ⟨L, hl, h⟩
  unfold mb
  rw [dif_pos h1]
  congr 1
  have hs := h1.choose_spec
  refine List.ext_getElem (by omega) fun i h2 h3 => ?_
  have c1 := cell_i hs.2 i h2
  have c2 := cell_i h i h3
  rw [c1] at c2
  simp only [Option.some.injEq, Value.int.injEq, true_and] at c2
  have c3 : h1.choose.getD i 0 = L.getD i 0 := by omega
  rwa [List.getD_eq_getElem?_getD, List.getD_eq_getElem?_getD, List.getElem?_eq_getElem h2, List.getElem?_eq_getElem h3] at c3
def bz : Value → Nat
  | .bool true => 1
  | _ => 0
theorem below_num {u : Value} {x : Nat} {w : World} (hu : Num w u x) (hx : x < 2 ^ 255) : Calls Try.prog 94 #[u] w fun e w' => ∃ v, e = .returned v ∧ Num w' v (x % p) ∧ Below w.heap.size w w' := by
  obtain ⟨A, L, cap, rfl, h2, h3, h4⟩ := hu
  exact below_any A L cap x w h2 h3 h4 hx

set_option maxHeartbeats 8000000 in
set_option maxRecDepth 8000 in
theorem settle_any (N g : Nat) (L0 : List Nat) (w : World) (hk : Bk N w w g L0) (hL : SeI L0) :
    Calls Try.prog 63 #[.slice (some ⟨g, 0, none⟩) 23 23] w fun e w' => ∃ v, e = .returned v ∧ Num w' v (ofD L0 % p) ∧ Below N w w' := by
  have HK0 : Hid (Bk N w w g L0) := hk
  have HL0 : Hid (SeI L0) := hL
  clear hk hL
  go_enter Try.func63, Try.ntmps63
  go_wp2
  go_loopw [3] (fun u wr => ∃ (L : List Nat) (ag : Bool), u = .bool ag ∧ Hid (SeI L) ∧ Hid (ofD L % p = ofD L0 % p) ∧ Hid (ag = false → Fin_ L) ∧ Hid (Bk N w wr g L)) (fun u wr => 2 * mb wr g + bz u)
  case atStart => exact ⟨L0, true, rfl, HL0, rfl, fun e => (by cases e), HK0⟩
  case round =>
    clear HK0 HL0
    obtain ⟨L, ag, rfl, HS, HM, HF, HK⟩ := hrel
    cases ag with
    | false =>
      have hf := HF.out rfl
      have hl11 : (L.take 11).length = 11 := by rw [List.length_take, hf.l]; rfl
      have k1 := cut_num (some ⟨g, 0, none⟩) (L.take 11) 23 wr (by rw [hl11]; decide) (by rw [hl11]; decide) (.inr ⟨g, 0, rfl, HK.out.l, take_range HK.out.r 11⟩) (hf.s.take 11)
      rw [hl11, hf.val.1] at k1
      have HV : Hid (ofD L < 2 ^ 255) := hf.val.2
      clear hf hl11
      go_wp2_with (first
        | (go_at_call 92; refine k1.mono ?_; rintro e w1 ⟨v1, rfl, hn1, hw1⟩; subst w1; have HN1 := (show Hid (Num wr v1 (ofD L)) from hn1); clear k1 hn1)
        | (go_at_call 94; refine (below_num HN1.out HV.out).mono ?_; rintro e w2 ⟨v2, rfl, hn2, hb2⟩; have HN2 := (show Hid (Num w2 v2 (ofD L % p)) from hn2); have HB2 := (show Hid (Below wr.heap.size wr w2) from hb2); clear hn2 hb2))
      go_ret
      refine ⟨_, rfl, by rw [← HM.out]; exact HN2.out, HK.out.b.trans (HB2.out.mono ?_)⟩
      have := HK.out.l
      have := HK.out.n
      omega
    | true =>
      have HC : Hid (Ca L L 0) := Ca.start HS.out
      have HMS : Hid (mb wr g = ofD L) := mb_is HS.out.l HK.out.r
      clear HF
      go_wp2
      go_loopw [4] (fun y wr => ∃ (M : List Nat) (i : Nat), y = .int .i64 (i : Int) ∧ i ≤ 22 ∧ Hid (Ca L M i) ∧ Hid (Bk N w wr g M)) (fun y _ => 22 - numOf y)
      case atStart => exact ⟨L, 0, rfl, Nat.zero_le _, HC, HK⟩
      case round =>
        clear HC HK
        obtain ⟨M, i, rfl, hi, HC, HK⟩ := hrel
        by_cases hlt : i < 22
        · have HN := (show Hid (Ca L _ (i + 1)) from HC.out.step HS.out hlt)
          have HLM : Hid (M.length = 23) := HC.out.l
          have hx1 : M.getD i 0 < 9007200328482816 := by have := HC.out.c; have := HS.out.b i; omega
          have hx2 : M.getD (i + 1) 0 < 9007199254740992 := by rw [HC.out.r (i + 1) (by omega)]; exact HS.out.b _
          obtain ⟨i', hi'⟩ : ∃ r, i + 1 = r := ⟨_, rfl⟩
          rw [hi'] at HN hx2
          obtain ⟨x, hx⟩ : ∃ r, M.getD i 0 = r := ⟨_, rfl⟩
          obtain ⟨y, hy⟩ : ∃ r, M.getD i' 0 = r := ⟨_, rfl⟩
          obtain ⟨q, hq⟩ : ∃ r, x / 16777216 = r := ⟨_, rfl⟩
          obtain ⟨r, hr⟩ : ∃ r, x % 16777216 = r := ⟨_, rfl⟩
          obtain ⟨s, hs⟩ : ∃ r, y + q = r := ⟨_, rfl⟩
          rw [hx, hy, hq, hr, hs] at HN
          rw [hx] at hx1
          rw [hy] at hx2
          have HXI : Hid (M.getD i 0 = x) := hx
          have HYI : Hid (M.getD i' 0 = y) := hy
          have e1 : IntKind.i64.wrap ((i : Int) + 1) = (i' : Int) := by rw [IntKind.wrap_i64]; omega
          have e2 : Int.tdiv (x : Int) 16777216 = (q : Int) := by rw [Int.tdiv_eq_ediv_of_nonneg (by omega)]; omega
          have e3 : Int.tmod (x : Int) 16777216 = (r : Int) := by rw [Int.tmod_eq_emod_of_nonneg (by omega)]; omega
          have e4 : IntKind.i64.wrap (q : Int) = (q : Int) := by rw [IntKind.wrap_i64]; omega
          have e5 : IntKind.i64.wrap (r : Int) = (r : Int) := by rw [IntKind.wrap_i64]; omega
          have e6 : IntKind.i64.wrap ((y : Int) + (q : Int)) = (s : Int) := by rw [IntKind.wrap_i64]; omega
          have h0 : (0 : Int) ≤ (i : Int) := by omega
          have h1 : (i : Int) < 22 := by omega
          have h2 : (i : Int) < 23 := by omega
          have h3 : (i' : Int) < 23 := by omega
          have h4 : (0 : Int) ≤ (i' : Int) := by omega
          have HI : Hid (i < 23 ∧ i' < 23 ∧ i' ≤ 22 ∧ 22 - i' < 22 - i ∧ i ≠ i') := by show _ ∧ _; omega
          have q0 : ∀ z : Cl wr.heap.size wr, z.u.cell? ⟨g, i, none⟩ = some (.int .i64 (x : Int)) := fun z => z.cell (by rw [← hx]; exact HK.out.cell i (by rw [HLM.out]; omega)) HK.out.l
          have q1 : ∀ z : Cl wr.heap.size wr, z.u.cell? ⟨g, i', none⟩ = some (.int .i64 (y : Int)) := fun z => z.cell (by rw [← hy]; exact HK.out.cell i' (by rw [HLM.out]; omega)) HK.out.l
          have hne := Cl.ne wr.heap.size wr
          clear hx hy hq hr hs hi' hx1 hx2 hlt hi HC
          go_wp2
          apply region_cl_tail (N := wr.heap.size) (W := wr) 15 8 (by kernel_rfl) (Below.refl _ _)
          case hl => simp only [List.take_succ_cons, List.take_zero]; rfl
          case ht => simp only [List.drop_succ_cons, List.drop_zero]; rfl
          case hB => kernel_rfl
          case hT => kernel_rfl
          case h =>
            repeat (go_big_quiet_step (fail))
            refine wpQuiet_nil ?_
            rintro _ ⟨z, rfl⟩
            have HKz : Hid (Bk N w z.u g M) := HK.out.below z.h
            obtain ⟨w3, hw3⟩ : ∃ v, z.u = v := ⟨_, rfl⟩
            rw [hw3] at HKz ⊢
            clear hw3 z hne q0 q1
            have HK5 : Hid (Bk N w (w3.setCell ⟨g, i', none⟩ (.int .i64 (s : Int))) g (M.set i' s)) := HKz.out.set i' s (by rw [HLM.out]; exact HI.out.2.1)
            have c1 := HKz.out.cell i' (by rw [HLM.out]; exact HI.out.2.1)
            have c2 := HKz.out.free i' (by rw [HLM.out]; exact HI.out.2.1)
            have c3 := HK5.out.cell i (by rw [List.length_set, HLM.out]; exact HI.out.1)
            have c4 := HK5.out.free i (by rw [List.length_set, HLM.out]; exact HI.out.1)
            rw [get_set M i' s i (by rw [HLM.out]; exact HI.out.2.1), if_neg HI.out.2.2.2.2, HXI.out] at c3
            rw [HYI.out] at c1
            go_wp2
            go_roundw
            case rel => exact ⟨_, i', rfl, HI.out.2.2.1, HN, HK5.out.set i r (by rw [List.length_set, HLM.out]; exact HI.out.1)⟩
            case measure => simp only [numOf, Int.toNat_natCast]; exact HI.out.2.2.2.1
        · have hi22 : i = 22 := by omega
          subst hi22
          have h1 : ¬ ((22 : Nat) : Int) < 22 := by omega
          have HCD : Hid (Cd M) := HC.out.done HS.out
          have HVM : Hid (ofD M = ofD L) := HC.out.e
          have HFS : Hid (Fo M M 11 false) := Fo.start HCD.out
          clear HC hi hlt
          go_wp2
          go_loopw [3, 5] (fun u y wr => ∃ (J : List Nat) (i : Nat) (fl : Bool), u = .bool fl ∧ y = .int .i64 (i : Int) ∧ 11 ≤ i ∧ i ≤ 23 ∧ Hid (Fo M J i fl) ∧ Hid (Bk N w wr g J)) (fun _ y _ => 23 - numOf y)
          case atStart => exact ⟨M, 11, false, rfl, rfl, by omega, by omega, HFS, HK⟩
          case round =>
            clear HFS HK
            obtain ⟨J, i, fl, rfl, rfl, hi1, hi2, HFo, HK⟩ := hrel
            have HLJ : Hid (J.length = 23) := HFo.out.l
            by_cases hlt : i < 23
            · have hcl := HK.out.cell i (by rw [HLJ.out]; exact hlt)
              have h1 : (i : Int) < 23 := by omega
              have h0 : (0 : Int) ≤ (i : Int) := by omega
              obtain ⟨i', hi'⟩ : ∃ r, i + 1 = r := ⟨_, rfl⟩
              have e1 : IntKind.i64.wrap ((i : Int) + 1) = (i' : Int) := by rw [IntKind.wrap_i64]; omega
              have HI : Hid (11 ≤ i' ∧ i' ≤ 23 ∧ 23 - i' < 23 - i ∧ i < 23) := by show _ ∧ _; omega
              by_cases hz : J.getD i 0 = 0
              · have HN : Hid (Fo M J i' fl) := by show Fo _ _ _ _; rw [← hi']; exact HFo.out.skip hi1 hz
                rw [hz] at hcl
                have z : ((0 : Nat) : Int) = 0 := rfl
                rw [z] at hcl
                clear hz hi' hlt hi1 hi2 HFo
                go_wp2
                go_roundw
                case rel => exact ⟨J, i', fl, rfl, rfl, HI.out.1, HI.out.2.1, HN, HK⟩
                case measure => simp only [numOf, Int.toNat_natCast]; exact HI.out.2.2.1
              · have HN := (show Hid (Fo M _ (i + 1) true) from HFo.out.fold HCD.out hi1 hlt (by omega))
                have hbi : J.getD i 0 < 1073741824 := by rw [HFo.out.r i (Nat.le_refl _)]; exact HCD.out.b i
                obtain ⟨d, hd⟩ : ∃ r, i - 11 = r := ⟨_, rfl⟩
                have hbd := HFo.out.b d
                rw [hd, hi'] at HN
                obtain ⟨x, hx⟩ : ∃ r, J.getD i 0 = r := ⟨_, rfl⟩
                obtain ⟨y, hy⟩ : ∃ r, J.getD d 0 = r := ⟨_, rfl⟩
                obtain ⟨a, ha⟩ : ∃ r, x * 19 = r := ⟨_, rfl⟩
                obtain ⟨b, hb⟩ : ∃ r, a * 512 = r := ⟨_, rfl⟩
                obtain ⟨s, hs⟩ : ∃ r, y + b = r := ⟨_, rfl⟩
                rw [hx, hy, ha, hb, hs] at HN
                rw [hx] at hcl hz hbi
                rw [hy] at hbd
                have hxp : (0 : Int) < (x : Int) := by omega
                have e2 : IntKind.i64.wrap ((i : Int) - 11) = (d : Int) := by rw [IntKind.wrap_i64]; omega
                have e3 : IntKind.i64.wrap ((x : Int) * 19) = (a : Int) := by rw [IntKind.wrap_i64]; omega
                have e4 : IntKind.i64.wrap ((a : Int) * 512) = (b : Int) := by rw [IntKind.wrap_i64]; omega
                have e5 : IntKind.i64.wrap ((y : Int) + (b : Int)) = (s : Int) := by rw [IntKind.wrap_i64]; omega
                have h3 : (d : Int) < 23 := by omega
                have h4 : (0 : Int) ≤ (d : Int) := by omega
                have HD : Hid (d < 23 ∧ i ≠ d) := by show _ ∧ _; omega
                have q0 : ∀ z : Cl wr.heap.size wr, z.u.cell? ⟨g, i, none⟩ = some (.int .i64 (x : Int)) := fun z => z.cell hcl HK.out.l
                have q1 : ∀ z : Cl wr.heap.size wr, z.u.cell? ⟨g, d, none⟩ = some (.int .i64 (y : Int)) := fun z => z.cell (by rw [← hy]; exact HK.out.cell d (by rw [HLJ.out]; omega)) HK.out.l
                have hne := Cl.ne wr.heap.size wr
                have HYI : Hid (J.getD d 0 = y) := hy
                have HXI : Hid (J.getD i 0 = x) := hx
                clear hx hy ha hb hs hd hbd hbi hi' hlt hi1 hi2 HFo hz
                go_wp2
                apply region_cl_tail (N := wr.heap.size) (W := wr) 16 8 (by kernel_rfl) (Below.refl _ _)
                case hl => simp only [List.take_succ_cons, List.take_zero]; rfl
                case ht => simp only [List.drop_succ_cons, List.drop_zero]; rfl
                case hB => kernel_rfl
                case hT => kernel_rfl
                case h =>
                  repeat (go_big_quiet_step (fail))
                  refine wpQuiet_nil ?_
                  rintro _ ⟨z, rfl⟩
                  have HKz : Hid (Bk N w z.u g J) := HK.out.below z.h
                  obtain ⟨w3, hw3⟩ : ∃ v, z.u = v := ⟨_, rfl⟩
                  rw [hw3] at HKz ⊢
                  clear hw3 z hne q0 q1 hcl
                  have HK5 : Hid (Bk N w (w3.setCell ⟨g, d, none⟩ (.int .i64 (s : Int))) g (J.set d s)) := HKz.out.set d s (by rw [HLJ.out]; exact HD.out.1)
                  have c1 := HKz.out.cell d (by rw [HLJ.out]; exact HD.out.1)
                  have c2 := HKz.out.free d (by rw [HLJ.out]; exact HD.out.1)
                  have c3 := HK5.out.cell i (by rw [List.length_set, HLJ.out]; exact HI.out.2.2.2)
                  have c4 := HK5.out.free i (by rw [List.length_set, HLJ.out]; exact HI.out.2.2.2)
                  rw [get_set J d s i (by rw [HLJ.out]; exact HD.out.1), if_neg HD.out.2, HXI.out] at c3
                  rw [HYI.out] at c1
                  go_wp2
                  go_roundw
                  case rel => exact ⟨_, i', true, rfl, rfl, HI.out.1, HI.out.2.1, HN, HK5.out.set i 0 (by rw [List.length_set, HLJ.out]; exact HI.out.2.2.2)⟩
                  case measure => simp only [numOf, Int.toNat_natCast]; exact HI.out.2.2.1
            · have hi23 : i = 23 := by omega
              subst hi23
              have h1 : ¬ ((23 : Nat) : Int) < 23 := by omega
              have HMJ : Hid (ofD J % p = ofD L0 % p) := by show _ = _; rw [HFo.out.m, HVM.out, HM.out]
              clear hi1 hi2 hlt
              cases fl with
              | true =>
                have HSJ : Hid (SeI J) := HFo.out.again
                have HLT : Hid (mb wr g = ofD J ∧ ofD J < ofD L) := ⟨mb_is HLJ.out HK.out.r, by rw [← HVM.out]; exact HFo.out.d rfl⟩
                clear HFo
                go_wp2
                go_roundw
                case rel => exact ⟨J, true, rfl, HSJ, HMJ, fun e => (by cases e), HK⟩
                case measure =>
                  show 2 * mb wr g + bz (.bool true) < 2 * mb _ g + bz (.bool true)
                  rw [HMS.out, HLT.out.1]
                  have := HLT.out.2
                  omega
              | false =>
                have hc10 := HK.out.cell 10 (by rw [HLJ.out]; decide)
                have HJM : Hid (J = M) := HFo.out.n rfl
                by_cases hlow : J.getD 10 0 < 32768
                · have hfin := HFo.out.fin HCD.out hlow
                  have HFN : Hid (Fin_ J) := hfin.1
                  have HSJ : Hid (SeI J) := hfin.2
                  have HLT : Hid (mb wr g = ofD L) := by show _ = _; rw [mb_is HLJ.out HK.out.r, HJM.out, HVM.out]
                  obtain ⟨t, ht⟩ : ∃ r, J.getD 10 0 = r := ⟨_, rfl⟩
                  rw [ht] at hc10 hlow
                  have h2 : ¬ (32768 : Int) ≤ (t : Int) := by omega
                  clear HFo hfin ht hlow
                  go_wp2
                  go_roundw
                  case rel => exact ⟨J, false, rfl, HSJ, HMJ, fun _ => HFN.out, HK⟩
                  case measure =>
                    show 2 * mb wr g + bz (.bool false) < 2 * mb _ g + bz (.bool true)
                    rw [HMS.out, HLT.out]
                    show 2 * ofD L + 0 < 2 * ofD L + 1
                    omega
                · have htop := HFo.out.top HCD.out (by omega)
                  have hb10 : J.getD 10 0 < 16777216 := by rw [HJM.out]; exact HCD.out.s 10 (by omega)
                  have hb0 : J.getD 0 0 < 16777216 := by rw [HJM.out]; exact HCD.out.s 0 (by omega)
                  obtain ⟨t, ht⟩ : ∃ r, J.getD 10 0 = r := ⟨_, rfl⟩
                  obtain ⟨y, hy⟩ : ∃ r, J.getD 0 0 = r := ⟨_, rfl⟩
                  obtain ⟨q, hq⟩ : ∃ r, t / 32768 = r := ⟨_, rfl⟩
                  obtain ⟨r, hr⟩ : ∃ r, t % 32768 = r := ⟨_, rfl⟩
                  obtain ⟨a, ha⟩ : ∃ r, 19 * q = r := ⟨_, rfl⟩
                  obtain ⟨s, hs⟩ : ∃ r, y + a = r := ⟨_, rfl⟩
                  have HXI : Hid (J.getD 10 0 = t) := ht
                  have HYI : Hid (J.getD 0 0 = y) := hy
                  rw [ht, hy, hq, hr, ha, hs] at htop
                  rw [ht] at hb10 hc10 hlow
                  rw [hy] at hb0
                  have HTOP : Hid (SeI ((J.set 0 s).set 10 r) ∧ ofD ((J.set 0 s).set 10 r) % p = ofD L0 % p ∧ ofD ((J.set 0 s).set 10 r) < ofD L) := ⟨htop.1, by rw [htop.2.1, HVM.out, HM.out], by rw [← HVM.out]; exact htop.2.2⟩
                  have h2 : (32768 : Int) ≤ (t : Int) := by omega
                  have e2 : Int.tdiv (t : Int) 32768 = (q : Int) := by rw [Int.tdiv_eq_ediv_of_nonneg (by omega)]; omega
                  have e3 : Int.tmod (t : Int) 32768 = (r : Int) := by rw [Int.tmod_eq_emod_of_nonneg (by omega)]; omega
                  have e4 : IntKind.i64.wrap (q : Int) = (q : Int) := by rw [IntKind.wrap_i64]; omega
                  have e5 : IntKind.i64.wrap (r : Int) = (r : Int) := by rw [IntKind.wrap_i64]; omega
                  have e6 : IntKind.i64.wrap (19 * (q : Int)) = (a : Int) := by rw [IntKind.wrap_i64]; omega
                  have e7 : IntKind.i64.wrap ((y : Int) + (a : Int)) = (s : Int) := by rw [IntKind.wrap_i64]; omega
                  have q0 : ∀ z : Cl wr.heap.size wr, z.u.cell? ⟨g, 10, none⟩ = some (.int .i64 (t : Int)) := fun z => z.cell hc10 HK.out.l
                  have q1 : ∀ z : Cl wr.heap.size wr, z.u.cell? ⟨g, 0, none⟩ = some (.int .i64 (y : Int)) := fun z => z.cell (by rw [← hy]; exact HK.out.cell 0 (by rw [HLJ.out]; decide)) HK.out.l
                  have hne := Cl.ne wr.heap.size wr
                  clear ht hy hq hr ha hs hb10 hb0 hlow htop HFo
                  go_wp2
                  apply region_cl_tail (N := wr.heap.size) (W := wr) 11 8 (by kernel_rfl) (Below.refl _ _)
                  case hl => simp only [List.take_succ_cons, List.take_zero]; rfl
                  case ht => simp only [List.drop_succ_cons, List.drop_zero]; rfl
                  case hB => kernel_rfl
                  case hT => kernel_rfl
                  case h =>
                    repeat (go_big_quiet_step (fail))
                    refine wpQuiet_nil ?_
                    rintro _ ⟨z, rfl⟩
                    have HKz : Hid (Bk N w z.u g J) := HK.out.below z.h
                    obtain ⟨w3, hw3⟩ : ∃ v, z.u = v := ⟨_, rfl⟩
                    rw [hw3] at HKz ⊢
                    clear hw3 z hne q0 q1 hc10
                    have HK5 : Hid (Bk N w (w3.setCell ⟨g, 0, none⟩ (.int .i64 (s : Int))) g (J.set 0 s)) := HKz.out.set 0 s (by rw [HLJ.out]; decide)
                    have c1 := HKz.out.cell 0 (by rw [HLJ.out]; decide)
                    have c2 := HKz.out.free 0 (by rw [HLJ.out]; decide)
                    have c3 := HK5.out.cell 10 (by rw [List.length_set, HLJ.out]; decide)
                    have c4 := HK5.out.free 10 (by rw [List.length_set, HLJ.out]; decide)
                    rw [get_set J 0 s 10 (by rw [HLJ.out]; decide), if_neg (by decide), HXI.out] at c3
                    rw [HYI.out] at c1
                    have HK6 : Hid (Bk N w ((w3.setCell ⟨g, 0, none⟩ (.int .i64 (s : Int))).setCell ⟨g, 10, none⟩ (.int .i64 (r : Int))) g ((J.set 0 s).set 10 r)) := HK5.out.set 10 r (by rw [List.length_set, HLJ.out]; decide)
                    have HLT : Hid (mb ((w3.setCell ⟨g, 0, none⟩ (.int .i64 (s : Int))).setCell ⟨g, 10, none⟩ (.int .i64 (r : Int))) g = ofD ((J.set 0 s).set 10 r)) := mb_is (by rw [List.length_set, List.length_set, HLJ.out]) HK6.out.r
                    go_wp2
                    go_roundw
                    case rel => exact ⟨_, true, rfl, HTOP.out.1, HTOP.out.2.1, fun e => (by cases e), HK6⟩
                    case measure =>
                      show 2 * mb _ g + bz (.bool true) < 2 * mb _ g + bz (.bool true)
                      rw [HMS.out, HLT.out]
                      have := HTOP.out.2.2
                      omega
end Dt
end Go.Proofs.Ytgdekigdbbldoaa
