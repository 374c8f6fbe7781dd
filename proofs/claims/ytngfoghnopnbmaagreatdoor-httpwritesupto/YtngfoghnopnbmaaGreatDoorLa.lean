/- A header is found: the program's and the reference's way; HttpHeaders. -/
import Derived.Test.YtngfoghnopnbmaaGreatDoorSh
namespace Go.Proofs.YtngfoghnopnbmaaGreatDoor
open Go.RowKit
namespace Ht
open Bw

/-- The first header of a name. -/
def findH (hs : List (ByteArray × ByteArray)) (n : ByteArray) : Option ByteArray := (hs.find? fun p => sameL p.1.data.toList n.data.toList).map (·.2)
def fndV : Option ByteArray → Value
  | none => .tuple #[.string ⟨#[]⟩, .bool false]
  | some x => .tuple #[.string x, .bool true]
theorem findH_hit {hs : List (ByteArray × ByteArray)} {n : ByteArray} {i : Nat} (hi : i < hs.length) (h : ∀ j (hj : j < i), sameL (hs[j]'(by omega)).1.data.toList n.data.toList = false) (he : sameL (hs[i]).1.data.toList n.data.toList = true) : findH hs n = some (hs[i]).2 := by
  have hf : hs.find? (fun p => sameL p.1.data.toList n.data.toList) = some hs[i] := List.find?_eq_some_iff_getElem.2 ⟨he, i, hi, rfl, fun j hj => by rw [h j hj]; rfl⟩
  unfold findH
  rw [hf]
  rfl
theorem findH_none {hs : List (ByteArray × ByteArray)} {n : ByteArray} (h : ∀ j (hj : j < hs.length), sameL (hs[j]).1.data.toList n.data.toList = false) : findH hs n = none := by
  unfold findH
  rw [Option.map_eq_none_iff, List.find?_eq_none]
  intro p hp
  obtain ⟨j, hj, rfl⟩ := List.getElem_of_mem hp
  rw [h j hj]
  decide
section
variable {w : World}
theorem clone45 (s : ByteArray) (hs : s.size ≤ 281474976710656) (w : World) : Calls Tryz.prog 45 #[.string s] w fun e w' => e = .returned (.string s) ∧ Below w.heap.size w w' := by
  have q := stringslite_Clone s w hs
  go_enter Tryz.func45, Tryz.ntmps45
  go_wp2_with (go_at_call 82; refine q.mono ?_; rintro e w1 ⟨rfl, hb⟩)
  go_ret
  exact ⟨rfl, hb⟩
set_option maxRecDepth 20000 in
set_option maxHeartbeats 4000000 in
theorem head21 (me ta re n : ByteArray) (st : Int) (hs : List (ByteArray × ByteArray)) (vh : Value) (a2 : Option Addr) (l2 c2 : Nat) (hl : hs.length ≤ 1000000000) (hz : ∀ p ∈ hs, p.1.size ≤ 1000000000 ∧ p.2.size ≤ 1000000000) (hv : HdAt w vh hs) :
    Calls Tryz.prog 21 #[.agg #[.string me, .string ta, .int .i64 st, .string re, vh, .slice a2 l2 c2], .string n] w fun e w' => e = .returned (fndV (findH hs n)) ∧ Below w.heap.size w w' := by
  obtain ⟨va, vc, rfl, hv⟩ := hv
  have HV : Hid _ := hv
  have HZ : Hid (∀ p ∈ hs, p.1.size ≤ 1000000000 ∧ p.2.size ≤ 1000000000) := hz
  obtain ⟨w1, hw1⟩ : ∃ v, w.alloc (.cells #[.string me, .string ta, .int .i64 st, .string re, .slice va hs.length vc, .slice a2 l2 c2] 42) = v := ⟨_, rfl⟩
  have HB1 : Hid (Below w.heap.size w w1) := by rw [← hw1]; exact allocB' _ _
  have d4 : w1.cell? ⟨w.heap.size, 4, none⟩ = some (.slice va hs.length vc) := by rw [← hw1]; exact new_cell w [.string me, .string ta, .int .i64 st, .string re, .slice va hs.length vc, .slice a2 l2 c2] 42 4 _ rfl
  clear hv hz
  go_enter Tryz.func21, Tryz.ntmps21
  go_wp2
  go_loopw [11] (fun u w' => ∃ i : Nat, u = .int .i64 (i : Int) ∧ i ≤ hs.length ∧ Hid (∀ j (hj : j < i), ∀ h : j < hs.length, sameL (hs[j]).1.data.toList n.data.toList = false) ∧ Below w.heap.size w w') (fun u _ => hs.length - numOf u)
  case atStart => exact ⟨0, rfl, Nat.zero_le _, (fun j hj => by omega), HB1.out⟩
  case round =>
    clear d4 HB1 hw1
    obtain ⟨i, rfl, hil, HI, hbw⟩ := hrel
    have hzw := hbw.size
    by_cases hlt : i < hs.length
    · have hlt' : (i : Int) < (hs.length : Int) := by omega
      obtain ⟨g, off, rfl, hg, hc0, hc1⟩ := HV.out i hlt
      obtain ⟨⟨x, y⟩, hx⟩ : ∃ p, hs[i] = p := ⟨_, rfl⟩
      have hxz := HZ.out _ (List.getElem_mem hlt)
      have HX : Hid (hs[i] = (x, y)) := hx
      rw [hx] at hc0 hc1 hxz
      have c0 : wr.cell? ⟨g, off + i * 2, none⟩ = some (.string x) := (hbw.cell (p := ⟨g, off + i * 2, none⟩) hg).trans hc0
      have c1 : wr.cell? ⟨g, off + i * 2 + 1, none⟩ = some (.string y) := (hbw.cell (p := ⟨g, off + i * 2 + 1, none⟩) hg).trans hc1
      have q44 := fun W => same44 x n (by simp at hxz; omega) W
      have q45 := fun W => clone45 y (by simp at hxz; omega) W
      obtain ⟨A, hA⟩ : ∃ A, sameL x.data.toList n.data.toList = A := ⟨_, rfl⟩
      simp only [hA] at q44
      have HA : Hid (sameL x.data.toList n.data.toList = A) := hA
      have hb2 := allocB' wr (.cells #[.string x, .string y] 66)
      have e2 : (wr.alloc (.cells #[.string x, .string y] 66)).heap[wr.heap.size]? = some (.cells #[.string x, .string y] 66 (0, 0)) := heap_alloc_new _ _
      have b2 := hbw.trans (hb2.mono hzw)
      clear hc0 hc1 hx hxz hA hb2
      cases A with
      | true =>
        go_wp2_with (first
          | (go_at_call 44; refine (q44 _).mono ?_; rintro e w3 ⟨rfl, h3⟩; have b3 := below_of_drew h3; have e3 := (b3.block wr.heap.size (by simp)).trans e2; obtain ⟨x0, x1, x2, x3⟩ := box2 e3; have b4 := b2.trans (b3.mono (by simp; omega)); have hz4 := b4.size; clear h3)
          | (go_at_call 45; refine (q45 _).mono ?_; rintro e w5 ⟨rfl, b5⟩))
        go_ret2
        refine ⟨?_, b4.trans (b5.mono hz4)⟩
        rw [findH_hit hlt (fun j hj => HI.out j hj (by omega)) (by rw [HX.out]; exact HA.out), HX.out]
        rfl
      | false =>
        go_wp2_with (go_at_call 44; refine (q44 _).mono ?_; rintro e w3 ⟨rfl, h3⟩; have b3 := below_of_drew h3; have b4 := b2.trans (b3.mono (by simp; omega)); clear h3)
        go_roundw
        case rel => exact ⟨i + 1, by simp, hlt, (fun j hj h => by
          by_cases hji : j = i
          · subst hji
            rw [HX.out]
            exact HA.out
          · exact HI.out j (by omega) h), b4⟩
        case measure => simp [numOf]; omega
    · have hlt' : ¬ (i : Int) < (hs.length : Int) := by omega
      have HN : Hid (findH hs n = none) := findH_none (fun j hj => HI.out j (by omega) hj)
      go_wp2
      go_ret2
      exact ⟨by rw [HN.out]; rfl, hbw⟩
theorem small_hi {c : UInt8} (h : grB c = true) : IntKind.u8.wrap ((c.toNat : Int) + 32) = ((smallU c).toNat : Int) := by
  have h1 := smallU_gr h
  have h2 := gr_bd h
  rw [h1]
  exact wrap8 _ _ rfl (by omega) (by omega)
theorem small_lo {c : UInt8} (h : grB c = false) : smallU c = c := by
  unfold smallU
  rw [if_neg (by rw [h]; decide)]
set_option maxRecDepth 20000 in
set_option maxHeartbeats 4000000 in
theorem lower46 (s : ByteArray) (hs : s.size ≤ 1000000000) (w : World) : Calls Tryz.prog 46 #[.string s] w fun e w' => e = .returned (.string ⟨(s.data.toList.map smallU).toArray⟩) ∧ Below w.heap.size w w' := by
  have HSL : Hid (s.data.toList.length = s.size) := by show _ = _; rw [Lib.size_eq]
  go_enter Tryz.func46, Tryz.ntmps46
  go_wp2
  go_loopw [3, 4] (fun u v w' => ∃ i : Nat, v = .int .i64 (i : Int) ∧ i ≤ s.size ∧ RowB w.heap.size w' u ((s.data.toList.take i).map smallU) ∧ Below w.heap.size w w') (fun _ v _ => s.size - numOf v)
  case atStart => exact ⟨0, rfl, Nat.zero_le _, RowB.nil _ _, Below.refl _ _⟩
  case round =>
    obtain ⟨i, rfl, hil, hrow, hbw⟩ := hrel
    have hzw := hbw.size
    by_cases hlt : i < s.size
    · have hlt' : (i : Int) < (s.size : Int) := by omega
      obtain ⟨c, hc⟩ : ∃ c, s[i]'hlt = c := ⟨_, rfl⟩
      have HT : Hid ((s.data.toList.take i).map smallU ++ [smallU c] = (s.data.toList.take (i + 1)).map smallU) := by
        have h2 : i < s.data.toList.length := by rw [HSL.out]; exact hlt
        have h3 := get_data hlt
        rw [hc, List.getElem?_eq_getElem h2] at h3
        show _ = _
        rw [List.take_succ_eq_append_getElem h2, Option.some.inj h3, List.map_append]
        rfl
      have hlen : ((s.data.toList.take i).map smallU).length ≤ 1000000000 := by rw [List.length_map, List.length_take]; omega
      obtain ⟨L, hL⟩ : ∃ L, (s.data.toList.take i).map smallU = L := ⟨_, rfl⟩
      rw [hL] at hrow HT hlen
      clear hL
      have hB := inB_eq 65 90 c
      cases hg : grB c with
      | true =>
        have h1 := small_hi hg
        have h2 := gr_bd hg
        have h3 : (65 : Int) ≤ (c.toNat : Int) := by omega
        have h4 : (c.toNat : Int) ≤ 90 := by omega
        have ha := allocB' wr (.cells #[.int .u8 ((smallU c).toNat : Int)] 5)
        clear hB hg
        go_wp2_with (refine app_any rfl (.tmp 23) (.tmp 25) rfl w.heap.size _ L rfl (hrow.kept ha) (.slice (some ⟨wr.heap.size, 0, none⟩) 1 1) [smallU c] rfl (one_sl wr (smallU c)) (by simp; omega) (by simp; omega) ?_; intro v' w3 hr hb; have H3 : Hid _ := And.intro hr hb; clear hr hb)
        go_roundw
        case rel => exact ⟨i + 1, by simp, hlt, by rw [← HT.out]; exact H3.out.1, (hbw.trans (ha.mono hzw)).trans H3.out.2⟩
        case measure => simp [numOf]; omega
      | false =>
        have h1 := small_lo hg
        have ha := allocB' wr (.cells #[.int .u8 (c.toNat : Int)] 5)
        rw [h1] at HT
        unfold grB at hg
        rw [hg] at hB
        clear h1 hg
        by_cases h3 : (65 : Int) ≤ (c.toNat : Int)
        · have h4 : ¬ (c.toNat : Int) ≤ 90 := by
            intro h4
            simp [h3, h4] at hB
          clear hB
          go_wp2_with (refine app_any rfl (.tmp 23) (.tmp 25) rfl w.heap.size _ L rfl (hrow.kept ha) (.slice (some ⟨wr.heap.size, 0, none⟩) 1 1) [c] rfl (one_sl wr c) (by simp; omega) (by simp; omega) ?_; intro v' w3 hr hb; have H3 : Hid _ := And.intro hr hb; clear hr hb)
          go_roundw
          case rel => exact ⟨i + 1, by simp, hlt, by rw [← HT.out]; exact H3.out.1, (hbw.trans (ha.mono hzw)).trans H3.out.2⟩
          case measure => simp [numOf]; omega
        · clear hB
          go_wp2_with (refine app_any rfl (.tmp 23) (.tmp 25) rfl w.heap.size _ L rfl (hrow.kept ha) (.slice (some ⟨wr.heap.size, 0, none⟩) 1 1) [c] rfl (one_sl wr c) (by simp; omega) (by simp; omega) ?_; intro v' w3 hr hb; have H3 : Hid _ := And.intro hr hb; clear hr hb)
          go_roundw
          case rel => exact ⟨i + 1, by simp, hlt, by rw [← HT.out]; exact H3.out.1, (hbw.trans (ha.mono hzw)).trans H3.out.2⟩
          case measure => simp [numOf]; omega
    · have hlt' : ¬ (i : Int) < (s.size : Int) := by omega
      rw [List.take_of_length_le (by rw [HSL.out]; omega)] at hrow
      have hcv := conv_sl hrow.slm
      obtain ⟨va, vl, vc, rfl⟩ : ∃ a l c, u3 = .slice a l c := by obtain ⟨a, c, e⟩ := hrow.form; exact ⟨_, _, _, e⟩
      obtain ⟨T, hT⟩ : ∃ T : ByteArray, ⟨(s.data.toList.map smallU).toArray⟩ = T := ⟨_, rfl⟩
      rw [hT] at hcv
      have HT : Hid (⟨(s.data.toList.map smallU).toArray⟩ = T) := hT
      clear hrow hT
      go_wp2
      go_ret
      exact ⟨by rw [HT.out]; rfl, hbw⟩
end
end Ht
end Go.Proofs.YtngfoghnopnbmaaGreatDoor
