/- What hash.filledUp does at words of 64 bits: a contract, by walking its text. -/
import Derived.Test.YtfmkkjnmadaplaaDoorSmW
import Derived.Test.YtfmkkjnmadaplaaDoorHq
namespace Go.Proofs.YtfmkkjnmadaplaaDoor
open Go.RowKit
namespace HW
open Hs Rg

set_option maxHeartbeats 4000000 in
set_option maxRecDepth 4000 in
theorem filledUp_any (v : Value) (r : List UInt8) (len : Nat) (w : World) (hr : r.length < 128) (hlen : len < 2305843009213693952) (hv : Bw.SlM w v r) :
    Calls Tryd.prog 33 #[v, .int .u64 (len : Int), sh] w fun e w' => ∃ v', e = .returned v' ∧ Bw.RowB (w.heap.size + 1) w' v' (filled kw r len) ∧ Below w.heap.size w w' := by
  obtain ⟨i0, hi, hz0, hz1, hz2⟩ := info_parts Bw.info5
  have cB := fun W => blockBytes_any W
  have cW := fun W => wordBytes_any W
  have cA := @appendWord_any
  obtain ⟨n, hn⟩ : ∃ n, w.heap.size = n := ⟨_, rfl⟩
  have HN : Hid (w.heap.size = n) := hn
  have hba : Below w.heap.size w (w.alloc (.cells #[.int .u64 64, .int .i64 80, .int .u64 1, .int .u64 8, .int .u64 7, .int .u64 19, .int .u64 61, .int .u64 6, .int .u64 28, .int .u64 34, .int .u64 39, .int .u64 14, .int .u64 18, .int .u64 41] 41)) := (Below.refl _ _).alloc (Nat.le_refl _) _
  have hrs : (w.alloc (.cells #[.int .u64 64, .int .i64 80, .int .u64 1, .int .u64 8, .int .u64 7, .int .u64 19, .int .u64 61, .int .u64 6, .int .u64 28, .int .u64 34, .int .u64 39, .int .u64 14, .int .u64 18, .int .u64 41] 41)).rangeAt w.heap.size 0 shc := range_new w shc 41
  have hsa : (w.alloc (.cells #[.int .u64 64, .int .i64 80, .int .u64 1, .int .u64 8, .int .u64 7, .int .u64 19, .int .u64 61, .int .u64 6, .int .u64 28, .int .u64 34, .int .u64 39, .int .u64 14, .int .u64 18, .int .u64 41] 41)).heap.size = n + 1 := by rw [size_alloc, hn]
  rw [hn] at hba hrs
  have HBA : Hid (Below n w (w.alloc (.cells #[.int .u64 64, .int .i64 80, .int .u64 1, .int .u64 8, .int .u64 7, .int .u64 19, .int .u64 61, .int .u64 6, .int .u64 28, .int .u64 34, .int .u64 39, .int .u64 14, .int .u64 18, .int .u64 41] 41)) ∧ (w.alloc (.cells #[.int .u64 64, .int .i64 80, .int .u64 1, .int .u64 8, .int .u64 7, .int .u64 19, .int .u64 61, .int .u64 6, .int .u64 28, .int .u64 34, .int .u64 39, .int .u64 14, .int .u64 18, .int .u64 41] 41)).rangeAt n 0 shc ∧ (w.alloc (.cells #[.int .u64 64, .int .i64 80, .int .u64 1, .int .u64 8, .int .u64 7, .int .u64 19, .int .u64 61, .int .u64 6, .int .u64 28, .int .u64 34, .int .u64 39, .int .u64 14, .int .u64 18, .int .u64 41] 41)).heap.size = n + 1) := ⟨hba, hrs, hsa⟩
  obtain ⟨z, hz⟩ : ∃ z, zs kw r.length = z := ⟨_, rfl⟩
  have hzz : z = (239 - r.length) % 128 := by
    rw [← hz]
    show (2 * (16 * 8) - 2 * 8 - 1 - r.length % (16 * 8)) % (16 * 8) = _
    rw [Nat.mod_eq_of_lt (show r.length < 16 * 8 from hr)]
  have HF : Hid (filled kw r len = r ++ 128 :: List.replicate z 0 ++ (beB 8 (8 * len / 2 ^ 64) ++ beB 8 (8 * len % 2 ^ 64))) := by
    show _ = _
    unfold filled
    rw [hz]
    congr 1
    exact beB_split 8 (8 * len)
  have HV : Hid (Bw.SlM w v r) := hv
  have HZ : Hid (z = (239 - r.length) % 128) := hzz
  have hzb : z < 128 := by omega
  clear hz hba hrs hsa hv hzz
  unfold sh at *
  go_enter Tryd.func33, Tryd.ntmps33
  go_wp2_with (first
    | (go_at_call 23; refine (cB _).mono ?_; rintro e w1 ⟨rfl, hb⟩; obtain ⟨M, hmk, hro⟩ := Bw.made (n + 1) w1 (2 * 128) (by decide) (by have := hb.size; have := HBA.out.2.2; omega); have hmk2 : (Instr.makeSlice 22 (.int .i64 0) (.int .i64 256)).run Tryd.prog w1 = .ok (.slice (some ⟨w1.heap.size, 0, none⟩) 0 256) (w1.alloc (.cells M 5)) := hmk; clear hmk; have hs1 : n + 1 ≤ w1.heap.size := by { have := hb.size; have := HBA.out.2.2; omega }; have hbw : Below n w (w1.alloc (.cells M 5)) := (HBA.out.1.trans (hb.mono (by have := HBA.out.2.2; omega))).alloc (by omega) _; have hsw : (w1.alloc (.cells M 5)).rangeAt n 0 shc := World.rangeAt_alloc (Below.range hb HBA.out.2.1 (by have := HBA.out.2.2; omega)) _)
    | (at_builtin; refine Bw.app_any rfl (.tmp 14) (.tmp 15) rfl (n + 1) (.slice (some ⟨w1.heap.size, 0, none⟩) 0 256) [] rfl hro v r rfl (HV.out.below hbw (by have := HN.out; omega)) (by simp; omega) (by simp; omega) ?_; intro v2 w2 hr2 hb2)
    | (at_builtin; refine Bw.app_any rfl (.tmp 17) (.tmp 18) rfl (n + 1) v2 ([] ++ r) rfl (Bw.RowB.kept hr2 ((Below.refl _ _).alloc (Nat.le_refl _) _)) (.slice (some ⟨w2.heap.size, 0, none⟩) 1 1) [128] rfl (.inr ⟨w2.heap.size, 0, 1, rfl, by decide, by decide, fun j hj => by simp at hj; subst hj; exact cell_new _ _ _ rfl⟩) (by simp; omega) (by have := hb2.size; simp at this; simp; omega) ?_; intro v3 w3 hr3 hb3))
  have hs2 : n + 1 ≤ w2.heap.size := by have := hb2.size; simp at this; omega
  have hbn : Below n w w3 := (hbw.trans (hb2.mono (by omega))).trans ((((Below.refl (n + 1) w2).alloc hs2 _).trans hb3).mono (by omega))
  have hs3 : w3.rangeAt n 0 shc := Below.range (((Below.refl (n + 1) w2).alloc hs2 _).trans hb3) (Below.range hb2 hsw (by omega)) (by omega)
  have hs4 : n + 1 ≤ w3.heap.size := by have := hb3.size; simp at this; omega
  rw [List.nil_append] at hr3
  clear hb2 hb3 hr2 hro hmk2 hbw hsw hs1 hb hs2 cB hn
  go_loopw [8] (fun x wr => ∃ k : Nat, k ≤ z ∧ Bw.RowB (n + 1) wr x (r ++ 128 :: List.replicate k 0) ∧ Below n w wr ∧ wr.rangeAt n 0 shc ∧ n + 1 ≤ wr.heap.size) (fun x _ => 2 * 128 - (match x with | .slice _ k _ => k | _ => 0))
  case atStart => exact ⟨0, Nat.zero_le _, hr3, hbn, hs3, hs4⟩
  case round =>
    clear hr3 hbn hs3 hs4
    obtain ⟨k, hk, hro, hbr, hsr, hnr⟩ := hrel
    obtain ⟨ad, cp, rfl⟩ := hro.form
    have hT : (r ++ 128 :: List.replicate k 0).length = r.length + 1 + k := by simp; omega
    rw [hT]
    obtain ⟨T, hTT⟩ : ∃ T, r.length + 1 + k = T := ⟨_, rfl⟩
    rw [hTT]
    rw [hT, hTT] at hro
    have HTT : Hid (r.length + 1 + k = T) := hTT
    have hTb : T ≤ 2 * 128 := by omega
    have hne := Cl.ne wr.heap.size wr
    have HS : Hid (∀ w', (∃ x : Cl wr.heap.size wr, w' = x.u) → w'.rangeAt n 0 shc) := by
      rintro _ ⟨x, rfl⟩
      exact x.range hsr (by omega)
    obtain ⟨Rm, hRm⟩ : ∃ Rm, T % 128 = Rm := ⟨_, rfl⟩
    have r1 : (T : Int) % 128 = (Rm : Int) := by omega
    have r2 : Int.tmod (T : Int) 128 = (Rm : Int) := by rw [Int.tmod_eq_emod_of_nonneg (by omega)]; exact r1
    by_cases hlt : k < z
    · have hRn : ((Rm : Int) != 112) = true := by have := HZ.out; simp; omega
      clear hTT hRm
      go_wp2
      refine region_cl (N := wr.heap.size) (W := wr) (by kernel_rfl) (by kernel_rfl) (Below.refl _ _) ?_
      repeat (first
        | (go_big_quiet_want; refine quiet_load 41 _ rfl n 0 rfl shc _ HS.out Tryd.underlying41 rfl (by kernel_rfl) ?_; simp only [shc, Act.put, List.setIfInBounds_toArray, List.set_cons_zero, List.set_cons_succ]; go_big_quiet_on)
        | go_big_quiet_step (fail))
      go_big_quiet_step ((go_at_call 29; exact cl_of (cW _) (Nat.le_refl _)))
      repeat (go_big_quiet_step (fail))
      refine wpQuiet_nil ?_
      rintro _ ⟨x, rfl⟩
      have hrx := Bw.RowB.kept hro x.h
      have hbx : Below n w x.u := hbr.trans (x.h.mono (by omega))
      have hsx : x.u.rangeAt n 0 shc := x.range hsr (by omega)
      have hnx : n + 1 ≤ x.u.heap.size := by have := x.h.size; omega
      obtain ⟨w4, hw4⟩ : ∃ w4, x.u = w4 := ⟨_, rfl⟩
      rw [hw4] at hrx hbx hsx hnx ⊢
      clear hw4 x HS hne hro hbr hsr hnr
      obtain ⟨R, hR⟩ : ∃ R, r ++ 128 :: List.replicate k 0 = R := ⟨_, rfl⟩
      have HR1 : Hid (r ++ 128 :: List.replicate (k + 1) 0 = R ++ [0]) := by
        show _ = _
        rw [← hR, List.replicate_succ']
        simp
      rw [hR] at hrx hT
      have hRl : R.length = T := by rw [hT]; exact HTT.out
      have HRl : Hid (R.length = T) := hRl
      clear hR hT hRl
      go_wp2_with (at_builtin; refine Bw.app_any rfl (.tmp 30) (.tmp 31) rfl (n + 1) (.slice ad T cp) R rfl (Bw.RowB.kept hrx ((Below.refl _ _).alloc (Nat.le_refl _) _)) (.slice (some ⟨w4.heap.size, 0, none⟩) 1 1) [0] rfl (.inr ⟨w4.heap.size, 0, 1, rfl, by decide, by decide, fun j hj => by simp at hj; subst hj; exact cell_new _ _ _ rfl⟩) (by rw [HRl.out]; simp; omega) (by simp; omega) ?_; intro v5 w5 hr5 hb5)
      have hb6 : Below (n + 1) w4 w5 := ((Below.refl (n + 1) w4).alloc hnx _).trans hb5
      obtain ⟨ad5, cp5, rfl⟩ := hr5.form
      have hl5 : (R ++ [0]).length = T + 1 := by rw [List.length_append, HRl.out]; rfl
      rw [hl5] at hr5 ⊢
      go_roundw
      case rel => exact ⟨k + 1, hlt, by rw [HR1.out]; exact hr5, hbx.trans (hb6.mono (by omega)), Below.range hb6 hsx (by omega), Nat.le_trans hnx hb6.size⟩
      case measure =>
        have := HTT.out
        have := HZ.out
        simp
        omega
    · have hkz : k = z := by omega
      have hRn : ((Rm : Int) != 112) = false := by have := HZ.out; simp; omega
      have hRm2 : Rm = 112 := by have := HZ.out; omega
      obtain ⟨X1, hX1⟩ : ∃ X, 8 * len / 2 ^ 64 = X := ⟨_, rfl⟩
      obtain ⟨X2, hX2⟩ : ∃ X, 8 * len % 2 ^ 64 = X := ⟨_, rfl⟩
      have hX1b : X1 < 18446744073709551616 := by omega
      have hX2b : X2 < 18446744073709551616 := by omega
      rw [hX1, hX2] at HF
      have k1 : (len : Int) / 2 ^ 61 = (X1 : Int) := by omega
      have k2 : (len : Int) / 2305843009213693952 = (X1 : Int) := by omega
      have k3 : (len : Int) * 8 < 18446744073709551616 := by omega
      have HX : Hid (8 * len / 2 ^ 64 = X1 ∧ 8 * len % 2 ^ 64 = X2) := ⟨hX1, hX2⟩
      clear hTT hRm hX1 hX2
      go_wp2
      refine region_cl (N := wr.heap.size) (W := wr) (by kernel_rfl) (by kernel_rfl) (Below.refl _ _) ?_
      repeat (first
        | (go_big_quiet_want; refine quiet_load 41 _ rfl n 0 rfl shc _ HS.out Tryd.underlying41 rfl (by kernel_rfl) ?_; simp only [shc, Act.put, List.setIfInBounds_toArray, List.set_cons_zero, List.set_cons_succ]; go_big_quiet_on)
        | go_big_quiet_step (fail))
      go_big_quiet_step ((go_at_call 29; exact cl_of (cW _) (Nat.le_refl _)))
      repeat (go_big_quiet_step (fail))
      refine wpQuiet_nil ?_
      rintro _ ⟨x, rfl⟩
      have hrx := Bw.RowB.kept hro x.h
      have hbx : Below n w x.u := hbr.trans (x.h.mono (by omega))
      have hsx : x.u.rangeAt n 0 shc := x.range hsr (by omega)
      have hnx : n + 1 ≤ x.u.heap.size := by have := x.h.size; omega
      obtain ⟨w4, hw4⟩ : ∃ w4, x.u = w4 := ⟨_, rfl⟩
      rw [hw4] at hrx hbx hsx hnx ⊢
      clear hw4 x HS hne hro hbr hsr hnr
      have c0 := hsx 0 _ rfl
      have k4 : (len : Int) * 8 = (X2 : Int) := by have := HX.out; omega
      rw [hkz] at hrx hT
      obtain ⟨R, hR⟩ : ∃ R, r ++ 128 :: List.replicate z 0 = R := ⟨_, rfl⟩
      rw [hR] at hrx hT HF
      have HT2 : Hid (R.length ≤ 2 * 128) := by show _ ≤ _; rw [hT]; omega
      clear hR hT hkz
      go_wp2_with (first
        | (refine wpList_load_mid rfl 41 (.tmp 5) rfl n 0 rfl shc _ hs6 Tryd.underlying41 rfl (by kernel_rfl) ?_; simp only [shc])
        | (refine wpList_load_mid rfl 41 (.tmp 5) rfl n 0 rfl shc _ hsx Tryd.underlying41 rfl (by kernel_rfl) ?_; simp only [shc])
        | (go_at_call 34; refine (cA (n + 1) w6 v6 (R ++ beB 8 X1) X2 hr6 (by have := hb6.size; omega) hX2b (by have := HT2.out; rw [List.length_append, beB_len]; omega)).mono ?_; rintro e w7 ⟨v7, rfl, hr7, hb7⟩)
        | (go_at_call 34; refine (cA (n + 1) w4 (.slice ad T cp) R X1 hrx hnx hX1b (by have := HT2.out; omega)).mono ?_; rintro e w6 ⟨v6, rfl, hr6, hb6⟩; have hs6 := Below.range hb6 hsx (by omega)))
      go_ret
      refine ⟨_, rfl, ?_, ?_⟩
      · rw [HF.out, HN.out, ← List.append_assoc]
        exact hr7
      · rw [HN.out]
        exact hbx.trans ((hb6.trans (hb7.mono (Nat.le_refl _))).mono (by omega))
end HW
end Go.Proofs.YtfmkkjnmadaplaaDoor
