/- The examples at the head of the statements (up), and WalFrames at all bytes. -/
import Derived.Test.YtamddicoancdhaaCf
import Derived.Lib.SlBytesConst
namespace Go.Proofs.Ytamddicoancdhaa
open Go.RowKit
namespace Wl
open Bw Rg

def lit9 : List UInt8 := [0, 0, 0, 0, 28, 223, 68, 33, 1]
def digits : List UInt8 := [49, 50, 51, 52, 53, 54, 55, 56, 57]
theorem frame_nil : frame [] = [0, 0, 0, 0, 28, 223, 68, 33] := by decide +kernel
theorem chk_digits : chk digits = 3421780262 := by decide +kernel
theorem scan_lit9 : scan lit9 = ([[]], 8) := by decide +kernel
theorem lit_marked (w : World) (bs : List UInt8) (m : Nat × Nat) (h : bs.length ≤ 9223372036854775807) : SlM (w.alloc (.cells (Lib.byteCells bs).toArray 5 m)) (.slice (some ⟨w.heap.size, 0, none⟩) bs.length bs.length) bs := by
  refine .inr ⟨w.heap.size, 0, bs.length, rfl, Nat.le_refl _, h, fun j hj => ?_⟩
  have e : (w.alloc (.cells (Lib.byteCells bs).toArray 5 m)).heap[w.heap.size]? = some (.cells (Lib.byteCells bs).toArray 5 m) := heap_alloc_new _ _
  simp only [World.cell?, e, Nat.zero_add]
  simp [Lib.byteCells, hj]
set_option maxHeartbeats 1000000 in
theorem up_any (w : World) : Calls Try.prog 8 #[] w fun e w' => e = .returned (.bool true) ∧ Below w.heap.size w w' := by
  have HA : Hid True := trivial
  have c1 := frame_ok (.slice none 0 0) [] w (.inl ⟨rfl, .inl rfl⟩) (by simp)
  rw [frame_nil] at c1
  have c2 : ∀ W : World, Calls Try.prog 14 #[.slice (some ⟨W.heap.size, 0, none⟩) 9 9] (W.alloc (.cells #[.int .u8 0, .int .u8 0, .int .u8 0, .int .u8 0, .int .u8 28, .int .u8 223, .int .u8 68, .int .u8 33, .int .u8 1] 5)) fun e w' => ∃ x, e = .returned (.tuple #[x, .int .i64 8]) ∧ SlS w' x [[]] ∧ Below W.heap.size W w' := fun W => by
    refine (scan_any (.slice (some ⟨W.heap.size, 0, none⟩) 9 9) lit9 _ (Dk.lit_slm W lit9 (by decide) (by decide)) (by decide)).mono ?_
    rw [scan_lit9]
    rintro e w' ⟨x, rfl, h1, h2⟩
    exact ⟨x, rfl, h1.sls, ((Below.refl _ _).alloc (Nat.le_refl _) _).trans (h2.mono (by simp))⟩
  have c3 : ∀ W : World, Calls Try.prog 11 #[.slice (some ⟨W.heap.size, 0, none⟩) 9 9] (W.alloc (.cells #[.int .u8 49, .int .u8 50, .int .u8 51, .int .u8 52, .int .u8 53, .int .u8 54, .int .u8 55, .int .u8 56, .int .u8 57] 5 (9, 10))) fun e w' => e = .returned (.int .u32 3421780262) ∧ Below W.heap.size W w' := fun W => by
    refine (check_any (.slice (some ⟨W.heap.size, 0, none⟩) 9 9) digits _ (lit_marked W digits (9, 10) (by decide)) (by decide)).mono ?_
    rw [chk_digits]
    rintro e w' ⟨rfl, rfl⟩
    exact ⟨rfl, (Below.refl _ _).alloc (Nat.le_refl _) _⟩
  have kc := fun (w : World) (C : Array Value) (n c : Nat) => Lib.run_convert_bytes_const (P := Try.prog) w 22 5 C n c Try.underlying22 Try.underlying5
  go_enter Try.func8, Try.ntmps8
  go_wp2_with first
    | (go_at_call 9; refine Calls.mono c1 ?_; rintro e w1 ⟨f, rfl, hr1, hb1⟩; have HF := (show Hid (SlM w1 f [0, 0, 0, 0, 28, 223, 68, 33]) from hr1.slm); have HB1 := (show Hid (Below w.heap.size w w1) from hb1); clear hr1 hb1 c1)
    | (go_at_call 14; refine (c2 w1).mono ?_; rintro e w2 ⟨x, rfl, hs2, hb2⟩; have hlen := SlS.len hs2; have HF2 := (show Hid (SlM w2 f [0, 0, 0, 0, 28, 223, 68, 33]) from HF.out.below hb2 (Nat.le_refl _)); have HB2 := (show Hid (Below w.heap.size w w2) from HB1.out.trans (hb2.mono HB1.out.size)); clear hs2 hb2)
    | (go_at_call 11; refine (c3 w2).mono ?_; rintro e w3 ⟨rfl, hb3⟩; have HB3 := (show Hid (Below w.heap.size w w3) from HB2.out.trans (hb3.mono HB2.out.size)); have hconv := conv_sl (HF2.out.below hb3 (Nat.le_refl _)); clear hb3)
  go_ret
  exact ⟨rfl, HB3.out⟩
set_option maxHeartbeats 1000000 in
theorem frames_long (v : Value) (bs : List UInt8) (w : World) (hv : SlM w v bs) (h : 2097152 < bs.length) (hl : bs.length ≤ 140737488355328) : Calls Try.prog 3 #[v] w fun e w' => e = .returned (.bool true) ∧ Below w.heap.size w w' := by
  have HV : Hid (SlM w v bs) := hv
  have HH : Hid (2097152 < bs.length ∧ bs.length ≤ 140737488355328) := ⟨h, hl⟩
  have HA : Hid True := trivial
  obtain ⟨p, c, hvf⟩ := hv.sl.form
  subst hvf
  clear hv h hl
  obtain ⟨R, hR⟩ : ∃ R, chk bs = R := ⟨_, rfl⟩
  have HRR : Hid (chk bs = R) := hR
  clear hR
  obtain ⟨X, hX⟩ : ∃ X : ByteArray, (⟨bs.toArray⟩ : ByteArray) = X := ⟨_, rfl⟩
  have HX : Hid ((⟨bs.toArray⟩ : ByteArray) = X) := hX
  clear hX
  have z2 : ∀ W, (convert 22 9 (.slice none 0 0)).run Try.prog W = .ok (.string ⟨#[]⟩) W := fun W => conv_sl (.inl ⟨rfl, .inl rfl⟩)
  go_enter Try.func3, Try.ntmps3
  go_wp2_with first
    | (go_at_call 8; refine (up_any w).mono ?_; rintro e w1 ⟨rfl, hb1⟩; have HB1 := (show Hid (Below w.heap.size w w1) from hb1); have HV1 := (show Hid (SlM w1 _ bs) from HV.out.below hb1 (Nat.le_refl _)); clear hb1)
    | (have hq := HA; clear hq; refine app_any rfl (.tmp 10) (.tmp 11) rfl w1.heap.size (.slice none 0 0) [] rfl (RowB.nil _ _) _ bs rfl HV1.out (by simp; exact HH.out.2) (Nat.le_refl _) ?_; rintro v2 w2 hr2 hb2; rw [List.nil_append] at hr2; have HO := (show Hid (SlM w2 v2 bs) from hr2.slm); have HB2 := (show Hid (Below w.heap.size w w2) from HB1.out.trans (hb2.mono HB1.out.size)); have HV2 := (show Hid (SlM w2 _ bs) from HV1.out.below hb2 (Nat.le_refl _)); have k1 := conv_sl HO.out; have k2 := conv_sl HV2.out; rw [HX.out] at k1 k2; clear hr2 hb2 HA)
    | (go_at_call 9; refine (frame_long v2 bs _ HO.out HH.out.1).mono ?_; rintro e w3 ⟨rfl, rfl⟩)
    | (go_at_call 10; refine (rframe_long _ bs _ HV2.out HH.out.1).mono ?_; rintro e w4 ⟨rfl, rfl⟩)
    | (go_at_call 11; refine (check_any v2 bs _ HO.out HH.out.2).mono ?_; rw [HRR.out]; rintro e w5 ⟨rfl, rfl⟩)
    | (go_at_call 12; refine (rcheck_any _ bs _ HV2.out HH.out.2).mono ?_; rw [HRR.out]; rintro e w6 ⟨rfl, rfl⟩)
    | (go_at_call 13; refine (code_2 _).mono ?_; rintro e w7 ⟨rfl, rfl⟩)
  go_ret
  exact ⟨rfl, HB2.out⟩
set_option maxHeartbeats 1000000 in
theorem frames_short (v : Value) (bs : List UInt8) (w : World) (hv : SlM w v bs) (h : bs.length ≤ 2097152) : Calls Try.prog 3 #[v] w fun e w' => e = .returned (.bool true) ∧ Below w.heap.size w w' := by
  have HV : Hid (SlM w v bs) := hv
  have HH : Hid (bs.length ≤ 2097152) := h
  have HA : Hid True := trivial
  obtain ⟨p, c, hvf⟩ := hv.sl.form
  subst hvf
  clear hv h
  obtain ⟨R, hR⟩ : ∃ R, chk bs = R := ⟨_, rfl⟩
  have HRR : Hid (chk bs = R) := hR
  clear hR
  obtain ⟨X, hX⟩ : ∃ X : ByteArray, (⟨bs.toArray⟩ : ByteArray) = X := ⟨_, rfl⟩
  have HX : Hid ((⟨bs.toArray⟩ : ByteArray) = X) := hX
  clear hX
  obtain ⟨Y, hY⟩ : ∃ X : ByteArray, (⟨(frame bs).toArray⟩ : ByteArray) = X := ⟨_, rfl⟩
  have HY : Hid ((⟨(frame bs).toArray⟩ : ByteArray) = Y) := hY
  clear hY
  go_enter Try.func3, Try.ntmps3
  go_wp2_with first
    | (go_at_call 8; refine (up_any w).mono ?_; rintro e w1 ⟨rfl, hb1⟩; have HB1 := (show Hid (Below w.heap.size w w1) from hb1); have HV1 := (show Hid (SlM w1 _ bs) from HV.out.below hb1 (Nat.le_refl _)); clear hb1)
    | (have hq := HA; clear hq; refine app_any rfl (.tmp 10) (.tmp 11) rfl w1.heap.size (.slice none 0 0) [] rfl (RowB.nil _ _) _ bs rfl HV1.out (by simp; have := HH.out; omega) (Nat.le_refl _) ?_; rintro v2 w2 hr2 hb2; rw [List.nil_append] at hr2; have HO := (show Hid (SlM w2 v2 bs) from hr2.slm); have HB2 := (show Hid (Below w.heap.size w w2) from HB1.out.trans (hb2.mono HB1.out.size)); have HV2 := (show Hid (SlM w2 _ bs) from HV1.out.below hb2 (Nat.le_refl _)); clear hr2 hb2 HA)
    | (go_at_call 9; refine (frame_ok v2 bs _ HO.out HH.out).mono ?_; rintro e w3 ⟨f3, rfl, hr3, hb3⟩; have HF3 := (show Hid (SlM w3 f3 (frame bs)) from hr3.slm); have HB3 := (show Hid (Below w2.heap.size w2 w3) from hb3); clear hr3 hb3)
    | (go_at_call 10; refine (rframe_ok _ bs _ (HV2.out.below HB3.out (Nat.le_refl _)) HH.out).mono ?_; rintro e w4 ⟨f4, rfl, hr4, hb4⟩; have HB4 := (show Hid (Below w2.heap.size w2 w4) from HB3.out.trans (hb4.mono HB3.out.size)); have HO4 := (show Hid (SlM w4 v2 bs) from HO.out.below HB4.out (Nat.le_refl _)); have HV4 := (show Hid (SlM w4 _ bs) from HV2.out.below HB4.out (Nat.le_refl _)); have k1 := conv_sl HO4.out; have k2 := conv_sl HV4.out; have k3 := conv_sl (HF3.out.below hb4 (Nat.le_refl _)); have k4 := conv_sl hr4.slm; rw [HX.out] at k1 k2; rw [HY.out] at k3 k4; clear hr4 hb4)
    | (go_at_call 11; refine (check_any v2 bs _ HO4.out (by have := HH.out; omega)).mono ?_; rw [HRR.out]; rintro e w5 ⟨rfl, rfl⟩)
    | (go_at_call 12; refine (rcheck_any _ bs _ HV4.out (by have := HH.out; omega)).mono ?_; rw [HRR.out]; rintro e w6 ⟨rfl, rfl⟩)
    | (go_at_call 13; refine (code_0 _).mono ?_; rintro e w7 ⟨rfl, rfl⟩)
  go_ret
  exact ⟨rfl, HB2.out.trans (HB4.out.mono HB2.out.size)⟩
end Wl
end Go.Proofs.Ytamddicoancdhaa
