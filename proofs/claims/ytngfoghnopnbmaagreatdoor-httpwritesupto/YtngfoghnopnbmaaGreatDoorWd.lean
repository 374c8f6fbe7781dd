/- Whether a header may be written: the reference. -/
import Derived.Test.YtngfoghnopnbmaaGreatDoorWc
namespace Go.Proofs.YtngfoghnopnbmaaGreatDoor
open Go.RowKit
namespace Ht
open Bw

def teS : ByteArray := ⟨#[116, 114, 97, 110, 115, 102, 101, 114, 45, 101, 110, 99, 111, 100, 105, 110, 103]⟩
def clS : ByteArray := ⟨#[99, 111, 110, 116, 101, 110, 116, 45, 108, 101, 110, 103, 116, 104]⟩
theorem teS_list : teS.toList = [116, 114, 97, 110, 115, 102, 101, 114, 45, 101, 110, 99, 111, 100, 105, 110, 103] := by rw [Lib.toList_data]; rfl
theorem clS_list : clS.toList = [99, 111, 110, 116, 101, 110, 116, 45, 108, 101, 110, 103, 116, 104] := by rw [Lib.toList_data]; rfl
theorem low_nil (n : ByteArray) : ((⟨(n.data.toList.map smallU).toArray⟩ : ByteArray).toList == ([] : List UInt8)) = (n.toList == ([] : List UInt8)) := by
  rw [Lib.toList_data, Lib.toList_data]
  cases n.data.toList <;> rfl
theorem low_te (n : ByteArray) : ((⟨(n.data.toList.map smallU).toArray⟩ : ByteArray).toList == teS.toList) = sameL n.data.toList encL := by
  unfold sameL
  rw [Lib.toList_data, Lib.toList_data, show encL.map smallU = teS.data.toList by decide, Bool.eq_iff_iff]
  simp
theorem low_cl (n : ByteArray) : ((⟨(n.data.toList.map smallU).toArray⟩ : ByteArray).toList == clS.toList) = sameL n.data.toList lenL := by
  unfold sameL
  rw [Lib.toList_data, Lib.toList_data, show lenL.map smallU = clS.data.toList by decide, Bool.eq_iff_iff]
  simp
theorem hdr_fits (n v : ByteArray) : hdrB (n, v) = (n.data.toList.all nmB && (v.data.toList.all vlB && (barB v.data.toList && (!(n.toList == ([] : List UInt8)) && (!sameL n.data.toList encL && !sameL n.data.toList lenL))))) := by
  unfold hdrB namB tellB
  rw [ne_nil]
  simp only
  cases n.data.toList.all nmB <;> cases v.data.toList.all vlB <;> cases barB v.data.toList <;> cases (n.toList == ([] : List UInt8)) <;> cases sameL n.data.toList encL <;> cases sameL n.data.toList lenL <;> rfl
set_option maxRecDepth 20000 in
set_option maxHeartbeats 8000000 in
theorem fits41 (n v : ByteArray) (hn : n.size ≤ 1000000000) (hv : v.size ≤ 1000000000) (w : World) : Calls Tryz.prog 41 #[.agg #[.string n, .string v]] w fun e w' => e = .returned (.bool (hdrB (n, v))) ∧ Below w.heap.size w w' := by
  have q46 := fun W => lower46 n hn W
  have q1 := fun W => all79_1 n (by omega) W
  have q2 := fun W => all79_2 v (by omega) W
  have HT : Hid (∀ W : World, Calls Tryz.prog 80 #[.slice (some ⟨W.heap.size, 0, none⟩) v.size (grownCap W v.size 0 5)] (Lib.bytesWorld W 5 v) fun e w' => ∃ S : ByteArray, e = .returned (.string S) ∧ (S.toList == v.toList) = barB v.data.toList ∧ w' = Lib.bytesWorld W 5 v) := fun W => trim_conv v hv W
  have e1 := low_nil n
  have e2 := low_te n
  have e3 := low_cl n
  rw [hdr_fits]
  obtain ⟨L, hL⟩ : ∃ L : ByteArray, ⟨(n.data.toList.map smallU).toArray⟩ = L := ⟨_, rfl⟩
  obtain ⟨A, hA⟩ : ∃ A, n.data.toList.all nmB = A := ⟨_, rfl⟩
  obtain ⟨B, hB⟩ : ∃ A, v.data.toList.all vlB = A := ⟨_, rfl⟩
  obtain ⟨C, hC⟩ : ∃ A, barB v.data.toList = A := ⟨_, rfl⟩
  obtain ⟨E1, hE1⟩ : ∃ A, (n.toList == ([] : List UInt8)) = A := ⟨_, rfl⟩
  obtain ⟨E2, hE2⟩ : ∃ A, sameL n.data.toList encL = A := ⟨_, rfl⟩
  obtain ⟨E3, hE3⟩ : ∃ A, sameL n.data.toList lenL = A := ⟨_, rfl⟩
  rw [hC] at HT
  simp only [hL, hE1, hE2, hE3] at e1 e2 e3
  simp only [hL, hA, hB] at q46 q1 q2
  rw [hA, hB, hC, hE1, hE2, hE3]
  rw [teS_list] at e2
  rw [clS_list] at e3
  clear hL hA hB hC hE1 hE2 hE3
  have hb1 := allocB' w (.cells #[.string n, .string v] 66)
  have hN := heap_alloc_new w (.cells #[.string n, .string v] 66)
  go_enter Tryz.func41, Tryz.ntmps41
  go_wp2_with (first
    | (go_at_call 46; refine (q46 _).mono ?_; rintro e w2 ⟨rfl, b2⟩; have hn2 := (b2.block w.heap.size (by simp)).trans hN; obtain ⟨x0, x1, x2, x3⟩ := box2 hn2; have hz2 := b2.size; simp at hz2; have B2 : Hid (Below w.heap.size w w2) := hb1.trans (b2.mono (by simp)); clear b2 q46)
    | (have hq := K1; go_at_call 79; refine (q2 _).mono ?_; clear hq; rintro e w4 ⟨rfl, hw4⟩; obtain rfl := hw4.symm)
    | (go_at_call 79; refine (q1 _).mono ?_; rintro e w3 ⟨rfl, hw3⟩; obtain rfl := hw3.symm; have K1 := trivial))
  have HX : Hid (∀ wq : World, Below w2.heap.size w2 wq → wq.cell? ⟨w.heap.size, 1, none⟩ = some (.string v)) := fun wq hq => (hq.cell (p := ⟨w.heap.size, 1, none⟩) (show w.heap.size < _ by omega)).trans x1
  have hcv := Lib.run_convert_string_bytes (P := Tryz.prog) w2.drew 9 29 5 v Tryz.underlying9 Tryz.underlying29 Tryz.underlying5
  have q80 := HT.out w2.drew
  have HBW : Hid (Below w2.heap.size w2 (Lib.bytesWorld w2.drew 5 v)) := ⟨rfl, rfl, rfl, by rw [Lib.bytesWorld_size]; exact Nat.le_succ _, fun k hk => Lib.bytesWorld_at_old w2.drew 5 v k hk⟩
  obtain ⟨W5, hW5⟩ : ∃ W, Lib.bytesWorld w2.drew 5 v = W := ⟨_, rfl⟩
  rw [hW5] at hcv q80 HBW
  obtain ⟨gc, hgc⟩ : ∃ g, grownCap w2.drew v.size 0 5 = g := ⟨_, rfl⟩
  rw [hgc] at hcv q80
  have hdw : w2.drew.heap.size = w2.heap.size := rfl
  rw [hdw] at hcv q80
  clear hgc hW5 hdw x0 x1 x2 x3 hn2
  refine wp_region_held_drew (S := fun w' => Below w2.heap.size w2 w') (by kernel_rfl) (below_drewN (Below.refl _ _) 1) ?_
  intro hS
  refine wpAnyH_take (i := 0) (v := .pointer (some ⟨w.heap.size, 1, none⟩)) rfl (by kernel_rfl) (by kernel_rfl) (by kernel_rfl) (fun _ _ _ h => h) (Or.inl ⟨by kernel_rfl, fun wq hS => by clear hS; go_simp⟩) hS ?_
  try simp only [Act.put, List.getElem_toArray, List.getElem_cons_zero, List.setIfInBounds_toArray, List.set_cons_zero, List.set_cons_succ]
  refine wpAnyH_take (i := 1) (v := .string v) rfl (by kernel_rfl) (by kernel_rfl) (by kernel_rfl) (fun _ _ _ h => h) (Or.inl ⟨by kernel_rfl, fun wq hS => by have h8 := HX.out wq hS; clear hS; go_simp⟩) hS ?_
  try simp only [Act.put, List.getElem_toArray, List.getElem_cons_succ, List.getElem_cons_zero, List.setIfInBounds_toArray, List.set_cons_zero, List.set_cons_succ]
  refine wpAnyH_take (i := 4) (v := .pointer (some ⟨w.heap.size, 1, none⟩)) rfl (by kernel_rfl) (by kernel_rfl) (by kernel_rfl) (fun _ _ _ h => h) (Or.inl ⟨by kernel_rfl, fun wq hS => by clear hS; go_simp⟩) hS ?_
  try simp only [Act.put, List.getElem_toArray, List.getElem_cons_succ, List.getElem_cons_zero, List.setIfInBounds_toArray, List.set_cons_zero, List.set_cons_succ]
  refine wpAnyH_take (i := 5) (v := .string v) rfl (by kernel_rfl) (by kernel_rfl) (by kernel_rfl) (fun _ _ _ h => h) (Or.inl ⟨by kernel_rfl, fun wq hS => by have h8 := HX.out wq hS; clear hS; go_simp⟩) hS ?_
  try simp only [Act.put, List.getElem_toArray, List.getElem_cons_succ, List.getElem_cons_zero, List.setIfInBounds_toArray, List.set_cons_zero, List.set_cons_succ]
  refine wpAnyH_ready (rs := [2]) (by kernel_rfl) (by simp) ?_
  refine AllReadyH.cons rfl (fun K' hK' => ?_) AllReadyH.nil
  go_simp
  refine hK'.out _ _ HBW.out (fun hS => ?_)
  clear hK' K'
  try simp only [Act.put, List.getElem_toArray, List.getElem_cons_succ, List.getElem_cons_zero, List.setIfInBounds_toArray, List.set_cons_zero, List.set_cons_succ]
  refine wpAnyH_ready (rs := [3]) (by kernel_rfl) (by simp) ?_
  refine AllReadyH.cons rfl (fun K' hK' => ?_) AllReadyH.nil
  go_simp
  refine q80.mono ?_
  rintro e w6 ⟨S, rfl, hSe, hw6⟩
  obtain rfl := hw6.symm
  refine hK'.out _ _ HBW.out (fun hS => ?_)
  clear hK' K'
  try simp only [Act.put, List.getElem_toArray, List.getElem_cons_succ, List.getElem_cons_zero, List.setIfInBounds_toArray, List.set_cons_zero, List.set_cons_succ]
  refine wpAnyH_take (i := 6) (v := .bool C) rfl (by kernel_rfl) (by kernel_rfl) (by kernel_rfl) (fun _ _ _ h => h) (Or.inl ⟨by kernel_rfl, fun wq hS => by clear hS; go_simp⟩) hS ?_
  try simp only [Act.put, List.getElem_toArray, List.getElem_cons_succ, List.getElem_cons_zero, List.setIfInBounds_toArray, List.set_cons_zero, List.set_cons_succ]
  refine wpAnyH_take (i := 7) (v := .bool C) rfl (by kernel_rfl) (by kernel_rfl) (by kernel_rfl) (fun _ _ _ h => h) (Or.inl ⟨by kernel_rfl, fun wq hS => by clear hS; go_simp⟩) hS ?_
  try simp only [Act.put, List.getElem_toArray, List.getElem_cons_succ, List.getElem_cons_zero, List.setIfInBounds_toArray, List.set_cons_zero, List.set_cons_succ]
  refine wpAnyH_done (by kernel_rfl) ?_ _
  have HF : Hid (Below w.heap.size w W5) := B2.out.trans (HBW.out.mono (by omega))
  cases A <;> cases B <;> cases C <;> cases E1 <;> cases E2 <;> cases E3
  all_goals clear hb1 hN HX HBW hcv q1 q2 HT q80 B2
  all_goals go_wp2
  all_goals
    go_ret
    first
      | exact ⟨rfl, HF.out⟩
      | (exfalso; simp_all; done)
      | exact ⟨by simp_all, HF.out⟩
end Ht
end Go.Proofs.YtngfoghnopnbmaaGreatDoor
