/- A header is found: the reference. -/
import Derived.Test.YtngfoghnopnbmaaGreatDoorLa
namespace Go.Proofs.YtngfoghnopnbmaaGreatDoor
open Go.RowKit
namespace Ht
open Bw

section
variable {w : World}
theorem low_eq (a b : ByteArray) : ((⟨(a.data.toList.map smallU).toArray⟩ : ByteArray).toList == (⟨(b.data.toList.map smallU).toArray⟩ : ByteArray).toList) = sameL a.data.toList b.data.toList := by
  unfold sameL
  rw [Bool.eq_iff_iff]
  simp [Lib.toList_data]
set_option maxRecDepth 20000 in
set_option maxHeartbeats 4000000 in
theorem rhead22 (me ta re n : ByteArray) (st : Int) (hs : List (ByteArray × ByteArray)) (vh : Value) (a2 : Option Addr) (l2 c2 : Nat) (hn : n.size ≤ 1000000000) (hl : hs.length ≤ 1000000000) (hz : ∀ p ∈ hs, p.1.size ≤ 1000000000 ∧ p.2.size ≤ 1000000000) (hv : HdAt w vh hs) :
    Calls Tryz.prog 22 #[.agg #[.string me, .string ta, .int .i64 st, .string re, vh, .slice a2 l2 c2], .string n] w fun e w' => e = .returned (fndV (findH hs n)) ∧ Below w.heap.size w w' := by
  obtain ⟨va, vc, rfl, hv⟩ := hv
  have HV : Hid _ := hv
  have HZ : Hid (∀ p ∈ hs, p.1.size ≤ 1000000000 ∧ p.2.size ≤ 1000000000) := hz
  obtain ⟨w1, hw1⟩ : ∃ v, w.alloc (.cells #[.string me, .string ta, .int .i64 st, .string re, .slice va hs.length vc, .slice a2 l2 c2] 42) = v := ⟨_, rfl⟩
  have HB1 : Hid (Below w.heap.size w w1) := by rw [← hw1]; exact allocB' _ _
  have HS1 : Hid (w1.heap.size = w.heap.size + 1) := by show _ = _; rw [← hw1]; simp
  have D4 : Hid (w1.cell? ⟨w.heap.size, 4, none⟩ = some (.slice va hs.length vc)) := by rw [← hw1]; exact new_cell w [.string me, .string ta, .int .i64 st, .string re, .slice va hs.length vc, .slice a2 l2 c2] 42 4 _ rfl
  have qn := fun W => lower46 n hn W
  obtain ⟨N, hN⟩ : ∃ T : ByteArray, ⟨(n.data.toList.map smallU).toArray⟩ = T := ⟨_, rfl⟩
  have HN : Hid ((⟨(n.data.toList.map smallU).toArray⟩ : ByteArray) = N) := hN
  simp only [hN] at qn
  clear hv hz hN
  go_enter Tryz.func22, Tryz.ntmps22
  go_wp2
  go_loopw [6] (fun u w' => ∃ i : Nat, u = .int .i64 (i : Int) ∧ i ≤ hs.length ∧ Hid (∀ j (hj : j < i), ∀ h : j < hs.length, sameL (hs[j]).1.data.toList n.data.toList = false) ∧ Below w1.heap.size w1 w') (fun u _ => hs.length - numOf u)
  case atStart => exact ⟨0, rfl, Nat.zero_le _, (fun j hj => by omega), Below.refl _ _⟩
  case round =>
    clear hw1
    obtain ⟨i, rfl, hil, HI, hbw⟩ := hrel
    have hzw := hbw.size
    have d4 : wr.cell? ⟨w.heap.size, 4, none⟩ = some (.slice va hs.length vc) := (hbw.cell (p := ⟨w.heap.size, 4, none⟩) (by rw [HS1.out]; exact Nat.lt_succ_self _)).trans D4.out
    by_cases hlt : i < hs.length
    · have hlt' : (i : Int) < (hs.length : Int) := by omega
      obtain ⟨g, off, rfl, hg, hc0, hc1⟩ := HV.out i hlt
      obtain ⟨⟨x, y⟩, hx⟩ : ∃ p, hs[i] = p := ⟨_, rfl⟩
      have hxz := HZ.out _ (List.getElem_mem hlt)
      have HX : Hid (hs[i] = (x, y)) := hx
      rw [hx] at hc0 hc1 hxz
      have hg1 : g < w1.heap.size := by rw [HS1.out]; omega
      have c0 : wr.cell? ⟨g, off + i * 2, none⟩ = some (.string x) := (hbw.cell (p := ⟨g, off + i * 2, none⟩) hg1).trans ((HB1.out.cell (p := ⟨g, off + i * 2, none⟩) hg).trans hc0)
      have C1 : Hid (wr.cell? ⟨g, off + i * 2 + 1, none⟩ = some (.string y)) := (hbw.cell (p := ⟨g, off + i * 2 + 1, none⟩) hg1).trans ((HB1.out.cell (p := ⟨g, off + i * 2 + 1, none⟩) hg).trans hc1)
      have qx := fun W => lower46 x (by simp at hxz; omega) W
      obtain ⟨X, hXX⟩ : ∃ T : ByteArray, ⟨(x.data.toList.map smallU).toArray⟩ = T := ⟨_, rfl⟩
      simp only [hXX] at qx
      have hE := low_eq x n
      rw [hXX, HN.out] at hE
      obtain ⟨A, hA⟩ : ∃ A, sameL x.data.toList n.data.toList = A := ⟨_, rfl⟩
      rw [hA] at hE
      have HA : Hid (sameL x.data.toList n.data.toList = A) := hA
      clear hc0 hc1 hx hxz hA hXX
      cases A with
      | true =>
        go_wp2_with (first
          | (have hq := b3; go_at_call 46; clear qx; refine (qn _).mono ?_; rintro e w4 ⟨rfl, b4⟩; have c1 := (b4.cell (p := ⟨g, off + i * 2 + 1, none⟩) (show g < _ by omega)).trans ((b3.cell (p := ⟨g, off + i * 2 + 1, none⟩) (show g < _ by omega)).trans C1.out); have e4 := (b4.cell (p := ⟨w.heap.size, 4, none⟩) (show w.heap.size < _ by have := HS1.out; omega)).trans ((b3.cell (p := ⟨w.heap.size, 4, none⟩) (show w.heap.size < _ by have := HS1.out; omega)).trans d4); clear hq)
          | (go_at_call 46; refine (qx _).mono ?_; rintro e w3 ⟨rfl, b3⟩; have hz3 := b3.size))
        go_ret2
        refine ⟨?_, HB1.out.trans (((hbw.trans (b3.mono hzw)).trans (b4.mono (by omega))).mono (by rw [HS1.out]; omega))⟩
        rw [findH_hit hlt (fun j hj => HI.out j hj (by omega)) (by rw [HX.out]; exact HA.out), HX.out]
        rfl
      | false =>
        go_wp2_with (first
          | (have hq := b3; go_at_call 46; clear qx; refine (qn _).mono ?_; rintro e w4 ⟨rfl, b4⟩; clear hq)
          | (go_at_call 46; refine (qx _).mono ?_; rintro e w3 ⟨rfl, b3⟩; have hz3 := b3.size))
        go_roundw
        case rel => exact ⟨i + 1, by simp, hlt, (fun j hj h => by
          by_cases hji : j = i
          · subst hji
            rw [HX.out]
            exact HA.out
          · exact HI.out j (by omega) h), (hbw.trans (b3.mono hzw)).trans (b4.mono (by omega))⟩
        case measure => simp [numOf]; omega
    · have hlt' : ¬ (i : Int) < (hs.length : Int) := by omega
      have HF : Hid (findH hs n = none) := findH_none (fun j hj => HI.out j (by omega) hj)
      go_wp2
      go_ret2
      exact ⟨by rw [HF.out]; rfl, HB1.out.trans (hbw.mono (by rw [HS1.out]; omega))⟩
end
end Ht
end Go.Proofs.YtngfoghnopnbmaaGreatDoor
