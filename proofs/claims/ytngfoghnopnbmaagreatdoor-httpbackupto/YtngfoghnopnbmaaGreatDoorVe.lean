/- The head of a message that is written, whole; Write. -/
import Derived.Test.YtngfoghnopnbmaaGreatDoorVd
namespace Go.Proofs.YtngfoghnopnbmaaGreatDoor
open Go.RowKit
namespace Ht
open Bw

def bsL (p : ByteArray × ByteArray) : List UInt8 × List UInt8 := (p.1.data.toList, p.2.data.toList)
/-- Lines of headers. -/
def linesM (hs : List (ByteArray × ByteArray)) : List UInt8 := hs.flatMap fun p => lineM (bsL p)
/-- The head of a message. -/
def hedM (g : Msg) : List UInt8 := startM g.me.data.toList g.ta.data.toList g.st g.re.data.toList ++ [13, 10] ++ linesM g.hs ++ lineM (lenL, Lib.itoa (g.bo.length : Int)) ++ [13, 10]
theorem linesM_snoc (l : List (ByteArray × ByteArray)) (p : ByteArray × ByteArray) : linesM (l ++ [p]) = linesM l ++ lineM (bsL p) := by
  unfold linesM
  rw [List.flatMap_append]
  simp
theorem lines_len : ∀ (l : List (ByteArray × ByteArray)), (∀ p ∈ l, p.1.size ≤ 1000000000 ∧ p.2.size ≤ 1000000000) → (linesM l).length ≤ l.length * 2000000004
  | [], _ => by simp [linesM]
  | p :: l, h => by
    have h1 := lines_len l (fun q hq => h q (by simp [hq]))
    have h2 := h p (by simp)
    have e0 := Lib.size_eq p.1
    have e1 := Lib.size_eq p.2
    have e : linesM (p :: l) = lineM (bsL p) ++ linesM l := by simp [linesM]
    rw [e]
    simp only [lineM, bsL, List.length_append, List.length_cons, List.length_nil]
    omega
theorem start_len (me ta re : ByteArray) (st : Int) (h0 : me.size ≤ 1000000000) (h2 : ta.size ≤ 1000000000) (h3 : re.size ≤ 1000000000) (hst : -9223372036854775808 ≤ st ∧ st ≤ 9223372036854775807) : (startM me.data.toList ta.data.toList st re.data.toList).length ≤ 3000000000 := by
  have e0 := Lib.size_eq me
  have e1 := Lib.size_eq ta
  have e2 := Lib.size_eq re
  have e3 := Lib.itoa_length_le st hst.1 hst.2
  unfold startM
  split
  · simp only [verL, List.length_append, List.length_cons, List.length_nil]
    omega
  · simp only [verL, List.length_append, List.length_cons, List.length_nil]
    omega
theorem bytes_of (l : List UInt8) : (⟨l.toArray⟩ : ByteArray).size = l.length := by rw [Lib.size_eq]
section
variable {w : World}
set_option maxRecDepth 20000 in
set_option maxHeartbeats 8000000 in
theorem head39 (me ta re : ByteArray) (st : Int) (hs : List (ByteArray × ByteArray)) (bo : List UInt8) (vh : Value) (a2 : Option Addr) (c2 : Nat) (h0 : me.size ≤ 1000000000) (h2 : ta.size ≤ 1000000000) (h3 : re.size ≤ 1000000000) (hst : -9223372036854775808 ≤ st ∧ st ≤ 9223372036854775807)
    (hl : hs.length ≤ 64) (hz : ∀ p ∈ hs, p.1.size ≤ 1000000000 ∧ p.2.size ≤ 1000000000) (hbo : bo.length ≤ 1000000000) (hv : HdAt w vh hs) (hp : Pow w) :
    Calls Tryz.prog 39 #[.slice none 0 0, .agg #[.string me, .string ta, .int .i64 st, .string re, vh, .slice a2 bo.length c2]] w fun e w' => ∃ v', e = .returned v' ∧ RowB w.heap.size w' v' (hedM ⟨me, ta, st, re, hs, bo⟩) ∧ Below w.heap.size w w' := by
  obtain ⟨va, vc, rfl, hv⟩ := hv
  have HV : Hid _ := hv
  have HZ : Hid (∀ p ∈ hs, p.1.size ≤ 1000000000 ∧ p.2.size ≤ 1000000000) := hz
  have hsl := start_len me ta re st h0 h2 h3 hst
  obtain ⟨w1, hw1⟩ : ∃ v, w.alloc (.cells #[.string me, .string ta, .int .i64 st, .string re, .slice va hs.length vc, .slice a2 bo.length c2] 42) = v := ⟨_, rfl⟩
  have hb1 : Below w.heap.size w w1 := by rw [← hw1]; exact allocB' _ _
  have hN : w1.heap[w.heap.size]? = some (.cells #[.string me, .string ta, .int .i64 st, .string re, .slice va hs.length vc, .slice a2 bo.length c2] 42 (0, 0)) := by rw [← hw1]; exact heap_alloc_new _ _
  have HS1 : Hid (w1.heap.size = w.heap.size + 1) := by show _ = _; rw [← hw1]; simp
  have hp1 : Pow w1 := hp.below hb1 (Nat.le_refl _)
  have qs := start76 me ta re st va a2 hs.length bo.length vc c2 h0 h2 h3 hst w1 hp1
  obtain ⟨SM, hSM⟩ : ∃ L, startM me.data.toList ta.data.toList st re.data.toList = L := ⟨_, rfl⟩
  have HSM : Hid (startM me.data.toList ta.data.toList st re.data.toList = SM) := hSM
  rw [hSM] at qs hsl
  have HC : Hid (∀ W : World, Below w1.heap.size w1 W → ∀ i u, #[Value.string me, .string ta, .int .i64 st, .string re, .slice va hs.length vc, .slice a2 bo.length c2][i]? = some u → W.cell? ⟨w.heap.size, i, none⟩ = some u) := fun W hW i u hu => by
    have e := (hW.block w.heap.size (by rw [HS1.out]; omega)).trans hN
    simp only [World.cell?, e]
    exact hu
  have HB1 : Hid (Below w.heap.size w w1 ∧ Pow w1) := ⟨hb1, hp1⟩
  have d0 := HC.out w1 (Below.refl _ _) 0 _ rfl
  have d1 := HC.out w1 (Below.refl _ _) 1 _ rfl
  have d2 := HC.out w1 (Below.refl _ _) 2 _ rfl
  have d3 := HC.out w1 (Below.refl _ _) 3 _ rfl
  have d4 := HC.out w1 (Below.refl _ _) 4 _ rfl
  have d5 := HC.out w1 (Below.refl _ _) 5 _ rfl
  clear hv hz hN hb1 hp1 hSM hp
  go_enter Tryz.func39, Tryz.ntmps39
  go_wp2_with (first
    | (go_at_call 76; refine qs.mono ?_; rintro e w2 ⟨S, rfl, hS, hb2⟩; have hz2 := hb2.size; have hS0 : S.size ≤ 3000000000 := (by rw [Lib.size_eq, hS]; exact hsl); have hSz : (S ++ ⟨#[13, 10]⟩ : ByteArray).size ≤ 3000000002 := (by rw [Lib.size_eq, app_data, hS, List.length_append]; simp only [List.length_cons, List.length_nil]; omega); have H2 : Hid _ := And.intro hS hb2; clear hS hb2)
    | (refine app_str rfl (.tmp 7) (.tmp 10) rfl w1.heap.size (.slice none 0 0) [] rfl (RowB.nil _ _) _ rfl (Nat.le_trans (Nat.le_of_eq (Nat.zero_add _)) (Nat.le_trans hSz (by decide))) (by omega) ?_; intro v3 w3 hr3 hb3; have e4 := HC.out w3 (H2.out.2.trans hb3) 4 _ rfl; have H3 : Hid (RowB w1.heap.size w3 v3 (SM ++ [13, 10]) ∧ Below w1.heap.size w1 w3) := ⟨(by rw [List.nil_append, app_data, H2.out.1] at hr3; exact hr3), H2.out.2.trans hb3⟩; clear hr3 hb3))
  clear d0 d1 d2 d3 d4 d5 e4
  go_loopw [0, 15] (fun u v w' => ∃ i : Nat, v = .int .i64 (i : Int) ∧ i ≤ hs.length ∧ RowB w1.heap.size w' u (SM ++ [13, 10] ++ linesM (hs.take i)) ∧ Below w1.heap.size w1 w') (fun _ v _ => hs.length - numOf v)
  case atStart => exact ⟨0, rfl, Nat.zero_le _, by rw [List.take_zero]; simp only [linesM, List.flatMap_nil, List.append_nil]; exact H3.out.1, H3.out.2⟩
  case round =>
    clear H3
    obtain ⟨i, rfl, hil, hrow, hbw⟩ := hrel
    have hzw := hbw.size
    have HLL : Hid ((SM ++ [13, 10] ++ linesM (hs.take i)).length ≤ 200000000000) := by
      have h1 := lines_len (hs.take i) (fun p hp => HZ.out p (List.mem_of_mem_take hp))
      have h4 : (hs.take i).length ≤ 64 := by rw [List.length_take]; omega
      show _ ≤ _
      rw [List.length_append, List.length_append]
      simp only [List.length_cons, List.length_nil]
      omega
    by_cases hlt : i < hs.length
    · have hlt' : (i : Int) < (hs.length : Int) := by omega
      obtain ⟨g, off, rfl, hg, hc0, hc1⟩ := HV.out i hlt
      obtain ⟨⟨x, y⟩, hx⟩ : ∃ p, hs[i] = p := ⟨_, rfl⟩
      have hxz := HZ.out _ (List.getElem_mem hlt)
      have HT : Hid (SM ++ [13, 10] ++ linesM (hs.take i) ++ lineM (x.data.toList, y.data.toList) = SM ++ [13, 10] ++ linesM (hs.take (i + 1))) := by
        show _ = _
        rw [List.take_succ_eq_append_getElem hlt, hx, linesM_snoc]
        simp only [bsL, List.append_assoc]
      rw [hx] at hc0 hc1 hxz
      have hg1 : g < w1.heap.size := by rw [HS1.out]; omega
      have c0 : wr.cell? ⟨g, off + i * 2, none⟩ = some (.string x) := (hbw.cell (p := ⟨g, off + i * 2, none⟩) hg1).trans ((HB1.out.1.cell (p := ⟨g, off + i * 2, none⟩) hg).trans hc0)
      have c1 : wr.cell? ⟨g, off + i * 2 + 1, none⟩ = some (.string y) := (hbw.cell (p := ⟨g, off + i * 2 + 1, none⟩) hg1).trans ((HB1.out.1.cell (p := ⟨g, off + i * 2 + 1, none⟩) hg).trans hc1)
      have hb2 := allocB' wr (.cells #[.string x, .string y] 66)
      have q77 := hdr77 (hrow.kept hb2) (by simp; omega) (Nat.le_trans HLL.out (by decide)) x y hxz.1 hxz.2
      have HBW : Hid (Below w1.heap.size w1 (wr.alloc (.cells #[.string x, .string y] 66))) := hbw.trans (hb2.mono hzw)
      rw [HT.out] at q77
      clear hc0 hc1 hx hxz hrow hbw hb2
      go_wp2_with (go_at_call 77; refine q77.mono ?_; rintro e w5 ⟨v5, rfl, hr5, hb5⟩; have H5 : Hid _ := And.intro hr5 hb5; clear hr5 hb5)
      go_roundw
      case rel => exact ⟨i + 1, by simp, hlt, H5.out.1, HBW.out.trans H5.out.2⟩
      case measure => simp [numOf]; omega
    · have hlt' : ¬ (i : Int) < (hs.length : Int) := by omega
      obtain rfl : i = hs.length := by omega
      rw [List.take_length] at hrow HLL
      have c5 := HC.out wr hbw 5 _ rfl
      have q78 := itoa78 (bo.length : Int) (by omega) (by omega) wr (HB1.out.2.below hbw (Nat.le_refl _))
      obtain ⟨I, hI⟩ : ∃ I : ByteArray, ⟨(Lib.itoa (bo.length : Int)).toArray⟩ = I := ⟨_, rfl⟩
      have hIs : I.size ≤ 21 := by rw [← hI, Lib.size_eq]; simpa using Lib.itoa_length_le (bo.length : Int) (by omega) (by omega)
      have HID : Hid (I.data.toList = Lib.itoa (bo.length : Int)) := by rw [← hI]; rfl
      rw [hI] at q78
      clear hI
      obtain ⟨L, hL⟩ : ∃ L, SM ++ [13, 10] ++ linesM hs = L := ⟨_, rfl⟩
      have HL : Hid (SM ++ [13, 10] ++ linesM hs = L) := hL
      rw [hL] at hrow HLL
      clear hL
      have hLL := HLL.out
      have HR : Hid (RowB w1.heap.size wr u0 L ∧ Below w1.heap.size w1 wr) := ⟨hrow, hbw⟩
      clear hrow hbw
      go_wp2_with (first
        | (go_at_call 78; refine q78.mono ?_; rintro e w4 ⟨rfl, hb4⟩; have hz4 := hb4.size; have q77 := hdr77 (HR.out.1.kept hb4) (by omega) (Nat.le_trans hLL (by decide)) ⟨#[67, 111, 110, 116, 101, 110, 116, 45, 76, 101, 110, 103, 116, 104]⟩ I (by decide) (by omega); have H4 : Hid _ := hb4; clear hb4)
        | (go_at_call 77; refine q77.mono ?_; rintro e w5 ⟨v5, rfl, hr5, hb5⟩; have hz5 := hb5.size; have hln : (L ++ lineM (lenL, I.data.toList)).length ≤ 200000000100 := (by have e0 := Lib.size_eq I; simp only [lineM, lenL, List.length_append, List.length_cons, List.length_nil]; omega); have H5 : Hid (RowB w1.heap.size w5 v5 (L ++ lineM (lenL, I.data.toList)) ∧ Below w1.heap.size w4 w5) := ⟨hr5, hb5⟩; clear hr5 hb5)
        | (refine app_str rfl (.tmp 30) (.const (.string ⟨#[13, 10]⟩)) rfl w1.heap.size _ _ rfl H5.out.1 ⟨#[13, 10]⟩ rfl (by show _ + 2 ≤ _; omega) (by omega) ?_; intro v6 w6 hr6 hb6; have H6 : Hid _ := And.intro hr6 hb6; clear hr6 hb6))
      go_ret
      refine ⟨_, rfl, ?_, HB1.out.1.trans (((HR.out.2.trans (H4.out.mono hzw)).trans (H5.out.2.trans H6.out.2)).mono (by rw [HS1.out]; omega))⟩
      have := H6.out.1.mono (base' := w.heap.size) (by rw [HS1.out]; omega)
      unfold hedM
      rw [HSM.out, HL.out, ← HID.out]
      exact this
end
end Ht
end Go.Proofs.YtngfoghnopnbmaaGreatDoor
