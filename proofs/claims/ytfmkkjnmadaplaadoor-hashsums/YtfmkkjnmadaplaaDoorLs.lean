/- The walk of HashSums: it answers true. -/
import Derived.Test.YtfmkkjnmadaplaaDoorRkN
import Derived.Test.YtfmkkjnmadaplaaDoorRkW
import Derived.Test.YtfmkkjnmadaplaaDoorLc
import Derived.Test.YtfmkkjnmadaplaaDoorRgu
namespace Go.Proofs.YtfmkkjnmadaplaaDoor
open Go.RowKit
namespace Ls
open Hs Rg Wo Lc

set_option maxHeartbeats 16000000 in
set_option maxRecDepth 4000 in
theorem sums_law (sp : Option Addr) (sc : Nat) (bs : List UInt8) (w : World) (hT : Tabs w) (hm : bs.length ≤ 140737488351232) (hv : Bw.SlM w (.slice sp bs.length sc) bs) :
    Calls Tryd.prog 3 #[.slice sp bs.length sc] w fun e w' => e = .returned (.bool true) ∧ Below w.heap.size w w' := by
  have HV : Hid (Bw.SlM w (.slice sp bs.length sc) bs) := hv
  have HT : Hid (Tabs w) := hT
  have cSh := Hw.shown_any w hT
  obtain ⟨n, hn⟩ : ∃ n, w.heap.size = n := ⟨_, rfl⟩
  have HNn : Hid (w.heap.size = n) := hn
  have hT1 : 1 < n := by rw [← hn]; exact hT.lt
  rw [hn] at cSh
  obtain ⟨L, hL⟩ : ∃ L, bs.length = L := ⟨_, rfl⟩
  have HL : Hid (bs.length = L) := hL
  have HV' : Hid (Bw.SlM w (.slice sp L sc) bs) := by show Bw.SlM _ _ _; rw [← hL]; exact hv
  rw [hL] at hm ⊢
  have hz1 := HN.zeroOut
  have hz2 := HW.zeroOut
  obtain ⟨Z1, hZ1⟩ : ∃ Z, HN.zout = Z := ⟨_, rfl⟩
  obtain ⟨Z2, hZ2⟩ : ∃ Z, HW.zout = Z := ⟨_, rfl⟩
  have Y1 : Hid (∀ j, j < 32 → (Z1[j]?).isSome = true) := fun j hj => by rw [← hZ1, HN.zout]; simp [hj]
  have Y2 : Hid (∀ j, j < 64 → (Z2[j]?).isSome = true) := fun j hj => by rw [← hZ2, HW.zout]; simp [hj]
  rw [hZ1] at hz1
  rw [hZ2] at hz2
  have c1 : Hid (∀ (W : World) (a : Option Addr) (c : Nat), Below n w W → Bw.SlM W (.slice a L c) bs → Calls Tryd.prog 7 #[.slice a L c] W fun e w' => e = .returned (.agg (Lib.byteCells (sum kn bs)).toArray) ∧ Below W.heap.size W w') := fun W a c hW hs => by
    have h := HN.sum_any a c bs W (HT.out.below hW hT1) (by have := HL.out; omega) (by rw [HL.out]; exact hs)
    rw [HL.out] at h
    exact h
  have O1 : Hid ((Lib.byteCells (sum kn bs)).toArray.all (·.oneCell') = true) := all_oneCell_toArray (Bw.one_byte _)
  have N1 : Hid ((Lib.byteCells (sum kn bs)).length = 32) := by show _ = _; rw [Lib.byteCells_length]; exact sum_len kn _
  obtain ⟨C1, hC1⟩ : ∃ C, Lib.byteCells (sum kn bs) = C := ⟨_, rfl⟩
  rw [hC1] at c1 O1 N1
  have E1 : Hid (Lib.byteCells (sum kn bs) = C1) := hC1
  have c2 : Hid (∀ (W : World) (a : Option Addr) (c : Nat), Below n w W → Bw.SlM W (.slice a L c) bs → Calls Tryd.prog 8 #[.slice a L c] W fun e w' => e = .returned (.agg (Lib.byteCells (sum kw bs)).toArray) ∧ Below W.heap.size W w') := fun W a c hW hs => by
    have h := HW.sum_any a c bs W (HT.out.below hW hT1) (by have := HL.out; omega) (by rw [HL.out]; exact hs)
    rw [HL.out] at h
    exact h
  have O2 : Hid ((Lib.byteCells (sum kw bs)).toArray.all (·.oneCell') = true) := all_oneCell_toArray (Bw.one_byte _)
  have N2 : Hid ((Lib.byteCells (sum kw bs)).length = 64) := by show _ = _; rw [Lib.byteCells_length]; exact sum_len kw _
  obtain ⟨C2, hC2⟩ : ∃ C, Lib.byteCells (sum kw bs) = C := ⟨_, rfl⟩
  rw [hC2] at c2 O2 N2
  have E2 : Hid (Lib.byteCells (sum kw bs) = C2) := hC2
  have HR1 : Hid (∀ W : World, Below n w W → Calls Tryd.prog 10 #[.slice sp L sc] W fun e w' => ∃ v', e = .returned v' ∧ Bw.RowB W.heap.size w' v' (sum kn bs) ∧ Below W.heap.size W w') := fun W hW => by
    have h := RN.ref_any sp sc bs W (by rw [HL.out]; exact hm) (by rw [HL.out]; exact HV'.out.below hW (by rw [HNn.out]; exact Nat.le_refl _))
    rw [HL.out] at h
    exact h
  have HR2 : Hid (∀ W : World, Below n w W → Calls Tryd.prog 11 #[.slice sp L sc] W fun e w' => ∃ v', e = .returned v' ∧ Bw.RowB W.heap.size w' v' (sum kw bs) ∧ Below W.heap.size W w') := fun W hW => by
    have h := RW.ref_any sp sc bs W (by rw [HL.out]; exact hm) (by rw [HL.out]; exact HV'.out.below hW (by rw [HNn.out]; exact Nat.le_refl _))
    rw [HL.out] at h
    exact h
  clear hL hv hT hZ1 hZ2 hn HV hC1 hC2
  go_enter Tryd.func3, Tryd.ntmps3
  go_wp2_with (first
    | (go_at_call 6; refine cSh.mono ?_; rintro e w1 ⟨rfl, hb⟩; have HB1 := (show Hid (Below n w w1) from hb); have hr0 := (show Bw.RowB w1.heap.size w1 (.slice none 0 0) [] from Bw.RowB.nil _ _); clear hb cSh)
    | (refine Bw.app_any rfl (.tmp 11) (.tmp 12) rfl w1.heap.size _ [] rfl hr0 _ bs rfl (HV'.out.below HB1.out (by rw [HNn.out]; exact Nat.le_refl _)) (by rw [HL.out]; simp only [List.length_nil]; omega) (Nat.le_refl _) ?_; rintro v2 w2 hr2 hb; have hr2' := (show Bw.RowB w1.heap.size w2 v2 bs from hr2); obtain ⟨oa, oc, hof⟩ := hr2'.form; rw [HL.out] at hof; subst hof; have HO2 := (show Hid (Bw.RowB w1.heap.size w2 (.slice oa L oc) bs) from hr2'); have HB2 := (show Hid (Below n w w2) from HB1.out.trans (hb.mono (by have := HB1.out.size; have := HNn.out; omega))); clear hr2 hr2' hb hr0)
    | (go_at_call 7; refine (c1.out w2 oa oc HB2.out HO2.out.slm).mono ?_; rintro e w3 ⟨rfl, hb⟩; have HB3 := (show Hid (Below n w w3) from HB2.out.trans (hb.mono (by have := HB2.out.size; have := HNn.out; omega))); have HO3 := (show Hid (Bw.RowB w1.heap.size w3 (.slice oa L oc) bs) from HO2.out.kept hb); have f3 := (show Hid (_ ∧ _ ∧ _ ∧ _) from made_new w3 Z1 24 C1 (by rw [N1.out]; exact Y1.out)); clear hb)
    | (refine wpList_store_mid rfl 24 (.tmp 5) (.tmp 15) rfl w3.heap.size 0 C1.toArray rfl rfl f3.out.1 (by rw [List.size_toArray, N1.out]; exact HN.infoOut) O1.out ?_; simp only; obtain ⟨w4, hw4⟩ : ∃ v, (w3.alloc (.cells Z1 24)).setCells w3.heap.size 0 C1 = v := ⟨_, rfl⟩; rw [hw4] at f3 ⊢; clear hw4; have hb := f3.out.2.1; have HB4 := (show Hid (Below n w w4) from HB3.out.trans (hb.mono (by have := HB3.out.size; have := HNn.out; omega))); have HO4 := (show Hid (Bw.RowB w1.heap.size w4 (.slice oa L oc) bs) from HO3.out.kept f3.out.2.1); have HA1_4 := (show Hid (w4.rangeAt w3.heap.size 0 C1 ∧ w3.heap.size < w4.heap.size) from f3.out.2.2); clear hb f3)
    | (go_at_call 8; refine (c2.out w4 oa oc HB4.out HO4.out.slm).mono ?_; rintro e w5 ⟨rfl, hb⟩; have HB5 := (show Hid (Below n w w5) from HB4.out.trans (hb.mono (by have := HB4.out.size; have := HNn.out; omega))); have HO5 := (show Hid (Bw.RowB w1.heap.size w5 (.slice oa L oc) bs) from HO4.out.kept hb); have HA1_5 := (show Hid (w5.rangeAt w3.heap.size 0 C1 ∧ w3.heap.size < w5.heap.size) from ⟨Below.range hb HA1_4.out.1 HA1_4.out.2, Nat.lt_of_lt_of_le HA1_4.out.2 (hb).size⟩); have f5 := (show Hid (_ ∧ _ ∧ _ ∧ _) from made_new w5 Z2 26 C2 (by rw [N2.out]; exact Y2.out)); clear hb)
    | (refine wpList_store_mid rfl 26 (.tmp 6) (.tmp 17) rfl w5.heap.size 0 C2.toArray rfl rfl f5.out.1 (by rw [List.size_toArray, N2.out]; exact HW.infoOut) O2.out ?_; simp only; obtain ⟨w6, hw6⟩ : ∃ v, (w5.alloc (.cells Z2 26)).setCells w5.heap.size 0 C2 = v := ⟨_, rfl⟩; rw [hw6] at f5 ⊢; clear hw6; have hb := f5.out.2.1; have HB6 := (show Hid (Below n w w6) from HB5.out.trans (hb.mono (by have := HB5.out.size; have := HNn.out; omega))); have HO6 := (show Hid (Bw.RowB w1.heap.size w6 (.slice oa L oc) bs) from HO5.out.kept f5.out.2.1); have HA1_6 := (show Hid (w6.rangeAt w3.heap.size 0 C1 ∧ w3.heap.size < w6.heap.size) from ⟨Below.range f5.out.2.1 HA1_5.out.1 HA1_5.out.2, Nat.lt_of_lt_of_le HA1_5.out.2 (f5.out.2.1).size⟩); have HA2_6 := (show Hid (w6.rangeAt w5.heap.size 0 C2 ∧ w5.heap.size < w6.heap.size) from f5.out.2.2); clear hb f5))
  try simp only [Act.put]
  apply region_tail2 (C := fun w' => ∃ x : Cl w6.heap.size w6, w' = x.u) (v0 := .slice (some ⟨w3.heap.size, 0, none⟩) 32 32) 2 4 (by kernel_rfl)
  case hl => simp only [List.take_succ_cons, List.take_zero]; rfl
  case ht => simp only [List.drop_succ_cons, List.drop_zero]; rfl
  case hC => exact ⟨⟨_, drawn_below (Below.refl _ _)⟩, rfl⟩
  case hg => rfl
  case hy => intro w'; go_simp
  case hQ2 => exact fun _ _ _ h => h
  case hs => kernel_rfl
  case hf => kernel_rfl
  case hr => kernel_rfl
  case hB1 => kernel_rfl
  case hB => kernel_rfl
  case hT => kernel_rfl
  case h =>
  simp only [Act.put, List.setIfInBounds_toArray, List.set_cons_zero, List.set_cons_succ]
  have hne := Cl.ne w6.heap.size w6
  repeat (go_big_quiet_step (fail))
  refine wpQuiet_nil ?_
  rintro _ ⟨x, rfl⟩
  obtain ⟨w7, hw7⟩ : ∃ y, x.u = y := ⟨_, rfl⟩
  have hb := x.h
  rw [hw7] at hb ⊢
  have HB7 := (show Hid (Below n w w7) from HB6.out.trans (hb.mono (by have := HB6.out.size; have := HNn.out; omega)))
  have HO7 := (show Hid (Bw.RowB w1.heap.size w7 (.slice oa L oc) bs) from HO6.out.kept hb)
  have HA1_7 := (show Hid (w7.rangeAt w3.heap.size 0 C1 ∧ w3.heap.size < w7.heap.size) from ⟨Below.range hb HA1_6.out.1 HA1_6.out.2, Nat.lt_of_lt_of_le HA1_6.out.2 (hb).size⟩)
  have HA2_7 := (show Hid (w7.rangeAt w5.heap.size 0 C2 ∧ w5.heap.size < w7.heap.size) from ⟨Below.range hb HA2_6.out.1 HA2_6.out.2, Nat.lt_of_lt_of_le HA2_6.out.2 (hb).size⟩)
  clear hb hw7 hne x
  go_wp2_with (first
    | (go_at_call 9; have hq := HF8; clear hq; refine (same_true (.slice (some ⟨w3.heap.size, 0, none⟩) 32 32) _ (sum kn bs) w8 (by rw [sum_len]; decide) (slb_of_range (by rw [E1.out]; exact HA1_8.out.1) (sum_len _ _)) HF8.out.cell).mono ?_; rintro e w9 ⟨rfl, hb⟩; have HB9 := (show Hid (Below n w w9) from HB8.out.trans (hb.mono (by have := HB8.out.size; have := HNn.out; omega))); have HO9 := (show Hid (Bw.RowB w1.heap.size w9 (.slice oa L oc) bs) from HO8.out.kept hb); have HA1_9 := (show Hid (w9.rangeAt w3.heap.size 0 C1 ∧ w3.heap.size < w9.heap.size) from ⟨Below.range hb HA1_8.out.1 HA1_8.out.2, Nat.lt_of_lt_of_le HA1_8.out.2 (hb).size⟩); have HA2_9 := (show Hid (w9.rangeAt w5.heap.size 0 C2 ∧ w5.heap.size < w9.heap.size) from ⟨Below.range hb HA2_8.out.1 HA2_8.out.2, Nat.lt_of_lt_of_le HA2_8.out.2 (hb).size⟩); clear hb HF8)
    | (go_at_call 10; refine (HR1.out w7 HB7.out).mono ?_; rintro e w8 ⟨vf8, rfl, hr, hb⟩; have HF8 := (show Hid (Bw.RowB w7.heap.size w8 vf8 (sum kn bs)) from hr); have HB8 := (show Hid (Below n w w8) from HB7.out.trans (hb.mono (by have := HB7.out.size; have := HNn.out; omega))); have HO8 := (show Hid (Bw.RowB w1.heap.size w8 (.slice oa L oc) bs) from HO7.out.kept hb); have HA1_8 := (show Hid (w8.rangeAt w3.heap.size 0 C1 ∧ w3.heap.size < w8.heap.size) from ⟨Below.range hb HA1_7.out.1 HA1_7.out.2, Nat.lt_of_lt_of_le HA1_7.out.2 (hb).size⟩); have HA2_8 := (show Hid (w8.rangeAt w5.heap.size 0 C2 ∧ w5.heap.size < w8.heap.size) from ⟨Below.range hb HA2_7.out.1 HA2_7.out.2, Nat.lt_of_lt_of_le HA2_7.out.2 (hb).size⟩); clear hr hb))
  try simp only [Act.put, List.getElem_toArray, List.getElem_cons_succ, List.getElem_cons_zero, List.setIfInBounds_toArray, List.set_cons_zero, List.set_cons_succ]
  apply region_tail2 (C := fun w' => ∃ x : Cl w9.heap.size w9, w' = x.u) (v0 := .slice (some ⟨w5.heap.size, 0, none⟩) 64 64) 2 4 (by kernel_rfl)
  case hl => simp only [List.take_succ_cons, List.take_zero]; rfl
  case ht => simp only [List.drop_succ_cons, List.drop_zero]; rfl
  case hC => exact ⟨⟨_, drawn_below (Below.refl _ _)⟩, rfl⟩
  case hg => rfl
  case hy => intro w'; go_simp
  case hQ2 => exact fun _ _ _ h => h
  case hs => kernel_rfl
  case hf => kernel_rfl
  case hr => kernel_rfl
  case hB1 => kernel_rfl
  case hB => kernel_rfl
  case hT => kernel_rfl
  case h =>
  simp only [Act.put, List.setIfInBounds_toArray, List.set_cons_zero, List.set_cons_succ]
  have hne := Cl.ne w9.heap.size w9
  repeat (go_big_quiet_step (fail))
  refine wpQuiet_nil ?_
  rintro _ ⟨x, rfl⟩
  obtain ⟨w10, hw10⟩ : ∃ y, x.u = y := ⟨_, rfl⟩
  have hb := x.h
  rw [hw10] at hb ⊢
  have HB10 := (show Hid (Below n w w10) from HB9.out.trans (hb.mono (by have := HB9.out.size; have := HNn.out; omega)))
  have HO10 := (show Hid (Bw.RowB w1.heap.size w10 (.slice oa L oc) bs) from HO9.out.kept hb)
  have HA1_10 := (show Hid (w10.rangeAt w3.heap.size 0 C1 ∧ w3.heap.size < w10.heap.size) from ⟨Below.range hb HA1_9.out.1 HA1_9.out.2, Nat.lt_of_lt_of_le HA1_9.out.2 (hb).size⟩)
  have HA2_10 := (show Hid (w10.rangeAt w5.heap.size 0 C2 ∧ w5.heap.size < w10.heap.size) from ⟨Below.range hb HA2_9.out.1 HA2_9.out.2, Nat.lt_of_lt_of_le HA2_9.out.2 (hb).size⟩)
  clear hb hw10 hne x
  go_wp2_with (first
    | (go_at_call 9; have hq := HB12; clear hq; refine (same_true (.slice oa L oc) (.slice sp L sc) bs w12 (by rw [HL.out]; omega) HO12.out.cell (HV'.out.below HB12.out (by rw [HNn.out]; exact Nat.le_refl _)).sl).mono ?_; rintro e w13 ⟨rfl, hb⟩; have HB13 := (show Hid (Below n w w13) from HB12.out.trans (hb.mono (by have := HB12.out.size; have := HNn.out; omega))); clear hb)
    | (go_at_call 9; have hq := HF11; clear hq; refine (same_true (.slice (some ⟨w5.heap.size, 0, none⟩) 64 64) _ (sum kw bs) w11 (by rw [sum_len]; decide) (slb_of_range (by rw [E2.out]; exact HA2_11.out.1) (sum_len _ _)) HF11.out.cell).mono ?_; rintro e w12 ⟨rfl, hb⟩; have HB12 := (show Hid (Below n w w12) from HB11.out.trans (hb.mono (by have := HB11.out.size; have := HNn.out; omega))); have HO12 := (show Hid (Bw.RowB w1.heap.size w12 (.slice oa L oc) bs) from HO11.out.kept hb); have HA1_12 := (show Hid (w12.rangeAt w3.heap.size 0 C1 ∧ w3.heap.size < w12.heap.size) from ⟨Below.range hb HA1_11.out.1 HA1_11.out.2, Nat.lt_of_lt_of_le HA1_11.out.2 (hb).size⟩); have HA2_12 := (show Hid (w12.rangeAt w5.heap.size 0 C2 ∧ w5.heap.size < w12.heap.size) from ⟨Below.range hb HA2_11.out.1 HA2_11.out.2, Nat.lt_of_lt_of_le HA2_11.out.2 (hb).size⟩); clear hb HF11)
    | (go_at_call 11; refine (HR2.out w10 HB10.out).mono ?_; rintro e w11 ⟨vf11, rfl, hr, hb⟩; have HF11 := (show Hid (Bw.RowB w10.heap.size w11 vf11 (sum kw bs)) from hr); have HB11 := (show Hid (Below n w w11) from HB10.out.trans (hb.mono (by have := HB10.out.size; have := HNn.out; omega))); have HO11 := (show Hid (Bw.RowB w1.heap.size w11 (.slice oa L oc) bs) from HO10.out.kept hb); have HA1_11 := (show Hid (w11.rangeAt w3.heap.size 0 C1 ∧ w3.heap.size < w11.heap.size) from ⟨Below.range hb HA1_10.out.1 HA1_10.out.2, Nat.lt_of_lt_of_le HA1_10.out.2 (hb).size⟩); have HA2_11 := (show Hid (w11.rangeAt w5.heap.size 0 C2 ∧ w5.heap.size < w11.heap.size) from ⟨Below.range hb HA2_10.out.1 HA2_10.out.2, Nat.lt_of_lt_of_le HA2_10.out.2 (hb).size⟩); clear hr hb))
  go_ret
  exact ⟨rfl, by rw [HNn.out]; exact HB13.out⟩
end Ls
end Go.Proofs.YtfmkkjnmadaplaaDoor
