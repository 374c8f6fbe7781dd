/- Write. -/
import Derived.Test.YtngfoghnopnbmaaGreatDoorVe
namespace Go.Proofs.YtngfoghnopnbmaaGreatDoor
open Go.RowKit
namespace Ht
open Bw

/-- The bytes of a message, or why it can't be written. -/
def wrM (g : Msg) : Except Int (List UInt8) :=
  if ((reqB g || ansB g) && g.hs.all hdrB) = true then (if 64 ≤ g.hs.length ∨ 65536 < g.bo.length then .error 2 else if 8192 < (hedM g).length then .error 2 else .ok (hedM g ++ g.bo)) else .error 1
/-- How Write ends. -/
def WrOut (r : Except Int (List UInt8)) (w : World) (e : Ending) (w' : World) : Prop :=
  Below w.heap.size w w' ∧ match r with
  | .ok b => ∃ v, e = .returned (.tuple #[v, .nilIface]) ∧ RowB w.heap.size w' v b
  | .error c => e = .returned (.tuple #[.slice none 0 0, .iface 34 (.int .i64 c)])
section
variable {w : World}
set_option maxRecDepth 20000 in
set_option maxHeartbeats 8000000 in
theorem write18 (me ta re : ByteArray) (st : Int) (hs : List (ByteArray × ByteArray)) (bo : List UInt8) (vh vb : Value) (h0 : me.size ≤ 1000000000) (h2 : ta.size ≤ 1000000000) (h3 : re.size ≤ 1000000000) (hst : -9223372036854775808 ≤ st ∧ st ≤ 9223372036854775807)
    (hl : hs.length ≤ 1000000000) (hz : ∀ p ∈ hs, p.1.size ≤ 1000000000 ∧ p.2.size ≤ 1000000000) (hbo : bo.length ≤ 1000000000) (hv : HdAt w vh hs) (hvb : SlM w vb bo) (hp : Pow w) :
    Calls Tryz.prog 18 #[.agg #[.string me, .string ta, .int .i64 st, .string re, vh, vb]] w fun e w' => WrOut (wrM ⟨me, ta, st, re, hs, bo⟩) w e w' := by
  have HV : Hid (HdAt w vh hs) := hv
  have HVB : Hid (SlM w vb bo) := hvb
  obtain ⟨va, vc, rfl, -⟩ := hv
  obtain ⟨a2, c2, rfl⟩ : ∃ a c, vb = .slice a bo.length c := by
    rcases hvb.cases with ⟨rfl, a, c, rfl⟩ | ⟨b, off, c, rfl, _⟩
    · exact ⟨_, _, rfl⟩
    · exact ⟨_, _, rfl⟩
  obtain ⟨w1, hw1⟩ : ∃ v, w.alloc (.cells #[.string me, .string ta, .int .i64 st, .string re, .slice va hs.length vc, .slice a2 bo.length c2] 42) = v := ⟨_, rfl⟩
  have hb1 : Below w.heap.size w w1 := by rw [← hw1]; exact allocB' _ _
  have hN : w1.heap[w.heap.size]? = some (.cells #[.string me, .string ta, .int .i64 st, .string re, .slice va hs.length vc, .slice a2 bo.length c2] 42 (0, 0)) := by rw [← hw1]; exact heap_alloc_new _ _
  have HS1 : Hid (w1.heap.size = w.heap.size + 1) := by show _ = _; rw [← hw1]; simp
  have HC : Hid (∀ W : World, Below w1.heap.size w1 W → W.cell? ⟨w.heap.size, 0, none⟩ = some (.string me) ∧ W.cell? ⟨w.heap.size, 1, none⟩ = some (.string ta) ∧ W.cell? ⟨w.heap.size, 2, none⟩ = some (.int .i64 st) ∧ W.cell? ⟨w.heap.size, 3, none⟩ = some (.string re) ∧ W.cell? ⟨w.heap.size, 4, none⟩ = some (.slice va hs.length vc) ∧ W.cell? ⟨w.heap.size, 5, none⟩ = some (.slice a2 bo.length c2)) := fun W hW => by
    have e := (hW.block w.heap.size (by rw [HS1.out]; omega)).trans hN
    simp only [World.cell?, e]
    exact ⟨rfl, rfl, rfl, rfl, rfl, rfl⟩
  have HB1 : Hid (Below w.heap.size w w1) := hb1
  have HW : Hid (∀ W : World, Below w1.heap.size w1 W → Below w.heap.size w W) := fun W hW => hb1.trans (hW.mono (by rw [HS1.out]; omega))
  have q36 := req36 me ta re st va a2 hs.length bo.length vc c2 h0 h2 w1
  have q37 := fun W => ans37 me ta re st va a2 hs.length bo.length vc c2 h3 W
  have H38 : Hid (∀ W : World, Below w1.heap.size w1 W → Calls Tryz.prog 38 #[.slice va hs.length vc] W fun e w' => e = .returned (.bool (hs.all hdrB)) ∧ Below W.heap.size W w') := fun W hW => own38 hs hl hz _ W (HV.out.below (HW.out W hW))
  have H39 : Hid (hs.length ≤ 64 → ∀ W : World, Below w1.heap.size w1 W → Calls Tryz.prog 39 #[.slice none 0 0, .agg #[.string me, .string ta, .int .i64 st, .string re, .slice va hs.length vc, .slice a2 bo.length c2]] W fun e w' => ∃ v', e = .returned v' ∧ RowB W.heap.size w' v' (hedM ⟨me, ta, st, re, hs, bo⟩) ∧ Below W.heap.size W w') := fun h64 W hW => head39 me ta re st hs bo _ a2 c2 h0 h2 h3 hst h64 hz hbo (HV.out.below (HW.out W hW)) (hp.of ((HW.out W hW).block 2 hp.lt))
  have eR : reqB ⟨me, ta, st, re, [], []⟩ = reqB ⟨me, ta, st, re, hs, bo⟩ := rfl
  have eA : ansB ⟨me, ta, st, re, [], []⟩ = ansB ⟨me, ta, st, re, hs, bo⟩ := rfl
  rw [eR] at q36
  simp only [eA] at q37
  unfold wrM
  obtain ⟨R, hR⟩ : ∃ R, reqB ⟨me, ta, st, re, hs, bo⟩ = R := ⟨_, rfl⟩
  obtain ⟨A, hA⟩ : ∃ A, ansB ⟨me, ta, st, re, hs, bo⟩ = A := ⟨_, rfl⟩
  obtain ⟨O, hO⟩ : ∃ O, hs.all hdrB = O := ⟨_, rfl⟩
  obtain ⟨HD, hHD⟩ : ∃ L, hedM ⟨me, ta, st, re, hs, bo⟩ = L := ⟨_, rfl⟩
  simp only [hR, hA, hO, hHD] at q36 q37 H38 H39 ⊢
  clear hR hA hO hHD eR eA hN hb1 hp hz
  obtain ⟨d0, d1, d2, d3, d4, d5⟩ := HC.out w1 (Below.refl _ _)
  cases R with
  | true =>
    simp only [Bool.true_or, Bool.true_and]
    cases O with
    | false =>
      go_enter Tryz.func18, Tryz.ntmps18
      go_wp2_with (first
        | (go_at_call 36; refine q36.mono ?_; rintro e w2 ⟨rfl, hb2⟩; have hz2 := hb2.size; have B2 : Hid (Below w1.heap.size w1 w2) := hb2; clear hb2; clear d0 d1 d2 d3 d4 d5; obtain ⟨d0, d1, d2, d3, d4, d5⟩ := HC.out w2 B2.out; skip)
        | (go_at_call 37; refine (q37 _).mono ?_; rintro e w3 ⟨rfl, hb3⟩; have hz3 := hb3.size; have B3 : Hid (Below w1.heap.size w1 w3) := B2.out.trans (hb3.mono hz2); clear hb3; clear d0 d1 d2 d3 d4 d5; obtain ⟨d0, d1, d2, d3, d4, d5⟩ := HC.out w3 B3.out; skip)
        | (go_at_call 38; refine (H38.out _ B2.out).mono ?_; rintro e w4 ⟨rfl, hb4⟩; have hz4 := hb4.size; have B4 : Hid (Below w1.heap.size w1 w4) := B2.out.trans (hb4.mono hz2); have hy4 : w1.heap.size ≤ w4.heap.size := Nat.le_trans hz2 hz4; clear hb4; clear d0 d1 d2 d3 d4 d5; obtain ⟨d0, d1, d2, d3, d4, d5⟩ := HC.out w4 B4.out; skip))
      go_ret2
      exact ⟨HW.out _ B4.out, rfl⟩
    | true =>
      by_cases h64 : 64 ≤ hs.length
      · have h64' : (64 : Int) ≤ (hs.length : Int) := by omega
        rw [if_pos (by decide), if_pos (.inl h64)]
        go_enter Tryz.func18, Tryz.ntmps18
        go_wp2_with (first
          | (go_at_call 36; refine q36.mono ?_; rintro e w2 ⟨rfl, hb2⟩; have hz2 := hb2.size; have B2 : Hid (Below w1.heap.size w1 w2) := hb2; clear hb2; clear d0 d1 d2 d3 d4 d5; obtain ⟨d0, d1, d2, d3, d4, d5⟩ := HC.out w2 B2.out; skip)
          | (go_at_call 37; refine (q37 _).mono ?_; rintro e w3 ⟨rfl, hb3⟩; have hz3 := hb3.size; have B3 : Hid (Below w1.heap.size w1 w3) := B2.out.trans (hb3.mono hz2); clear hb3; clear d0 d1 d2 d3 d4 d5; obtain ⟨d0, d1, d2, d3, d4, d5⟩ := HC.out w3 B3.out; skip)
          | (go_at_call 38; refine (H38.out _ B2.out).mono ?_; rintro e w4 ⟨rfl, hb4⟩; have hz4 := hb4.size; have B4 : Hid (Below w1.heap.size w1 w4) := B2.out.trans (hb4.mono hz2); have hy4 : w1.heap.size ≤ w4.heap.size := Nat.le_trans hz2 hz4; clear hb4; clear d0 d1 d2 d3 d4 d5; obtain ⟨d0, d1, d2, d3, d4, d5⟩ := HC.out w4 B4.out; skip))
        go_ret2
        exact ⟨HW.out _ B4.out, rfl⟩
      · have h64' : ¬ (64 : Int) ≤ (hs.length : Int) := by omega
        by_cases hbb : 65536 < bo.length
        · have hbb' : (65536 : Int) < (bo.length : Int) := by omega
          rw [if_pos (by decide), if_pos (.inr hbb)]
          go_enter Tryz.func18, Tryz.ntmps18
          go_wp2_with (first
            | (go_at_call 36; refine q36.mono ?_; rintro e w2 ⟨rfl, hb2⟩; have hz2 := hb2.size; have B2 : Hid (Below w1.heap.size w1 w2) := hb2; clear hb2; clear d0 d1 d2 d3 d4 d5; obtain ⟨d0, d1, d2, d3, d4, d5⟩ := HC.out w2 B2.out; skip)
            | (go_at_call 37; refine (q37 _).mono ?_; rintro e w3 ⟨rfl, hb3⟩; have hz3 := hb3.size; have B3 : Hid (Below w1.heap.size w1 w3) := B2.out.trans (hb3.mono hz2); clear hb3; clear d0 d1 d2 d3 d4 d5; obtain ⟨d0, d1, d2, d3, d4, d5⟩ := HC.out w3 B3.out; skip)
            | (go_at_call 38; refine (H38.out _ B2.out).mono ?_; rintro e w4 ⟨rfl, hb4⟩; have hz4 := hb4.size; have B4 : Hid (Below w1.heap.size w1 w4) := B2.out.trans (hb4.mono hz2); have hy4 : w1.heap.size ≤ w4.heap.size := Nat.le_trans hz2 hz4; clear hb4; clear d0 d1 d2 d3 d4 d5; obtain ⟨d0, d1, d2, d3, d4, d5⟩ := HC.out w4 B4.out; skip))
          go_ret2
          exact ⟨HW.out _ B4.out, rfl⟩
        · have hbb' : ¬ (65536 : Int) < (bo.length : Int) := by omega
          by_cases hh : 8192 < HD.length
          · have hh' : (8192 : Int) < (HD.length : Int) := by omega
            rw [if_pos (by decide), if_neg (by omega), if_pos hh]
            go_enter Tryz.func18, Tryz.ntmps18
            go_wp2_with (first
              | (go_at_call 36; refine q36.mono ?_; rintro e w2 ⟨rfl, hb2⟩; have hz2 := hb2.size; have B2 : Hid (Below w1.heap.size w1 w2) := hb2; clear hb2; clear d0 d1 d2 d3 d4 d5; obtain ⟨d0, d1, d2, d3, d4, d5⟩ := HC.out w2 B2.out; skip)
              | (go_at_call 37; refine (q37 _).mono ?_; rintro e w3 ⟨rfl, hb3⟩; have hz3 := hb3.size; have B3 : Hid (Below w1.heap.size w1 w3) := B2.out.trans (hb3.mono hz2); clear hb3; clear d0 d1 d2 d3 d4 d5; obtain ⟨d0, d1, d2, d3, d4, d5⟩ := HC.out w3 B3.out; skip)
              | (go_at_call 38; refine (H38.out _ B2.out).mono ?_; rintro e w4 ⟨rfl, hb4⟩; have hz4 := hb4.size; have B4 : Hid (Below w1.heap.size w1 w4) := B2.out.trans (hb4.mono hz2); have hy4 : w1.heap.size ≤ w4.heap.size := Nat.le_trans hz2 hz4; clear hb4; clear d0 d1 d2 d3 d4 d5; obtain ⟨d0, d1, d2, d3, d4, d5⟩ := HC.out w4 B4.out; skip)
              | (go_at_call 39; refine (H39.out (by omega) _ B4.out).mono ?_; rintro e w5 ⟨v5, rfl, hr5, hb5⟩; have hz5 := hb5.size; have hvb5 := HVB.out.below (HW.out _ (B4.out.trans (hb5.mono hy4))) (Nat.le_refl _); have B5 : Hid (Below w1.heap.size w1 w5) := B4.out.trans (hb5.mono hy4); obtain ⟨fa, fc, rfl⟩ := hr5.form; have H5 : Hid _ := hr5; clear hr5 hb5; clear d0 d1 d2 d3 d4 d5; obtain ⟨d0, d1, d2, d3, d4, d5⟩ := HC.out w5 B5.out; skip))
            go_ret2
            exact ⟨HW.out _ B5.out, rfl⟩
          · have hh' : ¬ (8192 : Int) < (HD.length : Int) := by omega
            rw [if_pos (by decide), if_neg (by omega), if_neg hh]
            go_enter Tryz.func18, Tryz.ntmps18
            go_wp2_with (first
              | (go_at_call 36; refine q36.mono ?_; rintro e w2 ⟨rfl, hb2⟩; have hz2 := hb2.size; have B2 : Hid (Below w1.heap.size w1 w2) := hb2; clear hb2; clear d0 d1 d2 d3 d4 d5; obtain ⟨d0, d1, d2, d3, d4, d5⟩ := HC.out w2 B2.out; skip)
              | (go_at_call 37; refine (q37 _).mono ?_; rintro e w3 ⟨rfl, hb3⟩; have hz3 := hb3.size; have B3 : Hid (Below w1.heap.size w1 w3) := B2.out.trans (hb3.mono hz2); clear hb3; clear d0 d1 d2 d3 d4 d5; obtain ⟨d0, d1, d2, d3, d4, d5⟩ := HC.out w3 B3.out; skip)
              | (go_at_call 38; refine (H38.out _ B2.out).mono ?_; rintro e w4 ⟨rfl, hb4⟩; have hz4 := hb4.size; have B4 : Hid (Below w1.heap.size w1 w4) := B2.out.trans (hb4.mono hz2); have hy4 : w1.heap.size ≤ w4.heap.size := Nat.le_trans hz2 hz4; clear hb4; clear d0 d1 d2 d3 d4 d5; obtain ⟨d0, d1, d2, d3, d4, d5⟩ := HC.out w4 B4.out; skip)
              | (go_at_call 39; refine (H39.out (by omega) _ B4.out).mono ?_; rintro e w5 ⟨v5, rfl, hr5, hb5⟩; have hz5 := hb5.size; have hvb5 := HVB.out.below (HW.out _ (B4.out.trans (hb5.mono hy4))) (Nat.le_refl _); have B5 : Hid (Below w1.heap.size w1 w5) := B4.out.trans (hb5.mono hy4); obtain ⟨fa, fc, rfl⟩ := hr5.form; have H5 : Hid _ := hr5; clear hr5 hb5; clear d0 d1 d2 d3 d4 d5; obtain ⟨d0, d1, d2, d3, d4, d5⟩ := HC.out w5 B5.out; skip)
              | (refine app_any rfl (.tmp 37) (.tmp 39) rfl w4.heap.size _ _ rfl H5.out _ _ rfl hvb5 (by omega) (by omega) ?_; intro v6 w6 hr6 hb6; have H6 : Hid _ := And.intro hr6 hb6; clear hr6 hb6))
            go_ret2
            exact ⟨(HW.out _ B5.out).trans (H6.out.2.mono (by rw [HS1.out] at hy4; omega)), _, rfl, H6.out.1.mono (by rw [HS1.out] at hy4; omega)⟩
  | false =>
    cases A with
    | true =>
      simp only [Bool.or_true, Bool.true_and]
      cases O with
      | false =>
        go_enter Tryz.func18, Tryz.ntmps18
        go_wp2_with (first
          | (go_at_call 36; refine q36.mono ?_; rintro e w2 ⟨rfl, hb2⟩; have hz2 := hb2.size; have B2 : Hid (Below w1.heap.size w1 w2) := hb2; clear hb2; clear d0 d1 d2 d3 d4 d5; obtain ⟨d0, d1, d2, d3, d4, d5⟩ := HC.out w2 B2.out; skip)
          | (go_at_call 37; refine (q37 _).mono ?_; rintro e w3 ⟨rfl, hb3⟩; have hz3 := hb3.size; have B3 : Hid (Below w1.heap.size w1 w3) := B2.out.trans (hb3.mono hz2); clear hb3; clear d0 d1 d2 d3 d4 d5; obtain ⟨d0, d1, d2, d3, d4, d5⟩ := HC.out w3 B3.out; skip)
          | (go_at_call 38; refine (H38.out _ B3.out).mono ?_; rintro e w4 ⟨rfl, hb4⟩; have hz4 := hb4.size; have B4 : Hid (Below w1.heap.size w1 w4) := B3.out.trans (hb4.mono (Nat.le_trans hz2 hz3)); have hy4 : w1.heap.size ≤ w4.heap.size := Nat.le_trans (Nat.le_trans hz2 hz3) hz4; clear hb4; clear d0 d1 d2 d3 d4 d5; obtain ⟨d0, d1, d2, d3, d4, d5⟩ := HC.out w4 B4.out; skip))
        go_ret2
        exact ⟨HW.out _ B4.out, rfl⟩
      | true =>
        by_cases h64 : 64 ≤ hs.length
        · have h64' : (64 : Int) ≤ (hs.length : Int) := by omega
          rw [if_pos (by decide), if_pos (.inl h64)]
          go_enter Tryz.func18, Tryz.ntmps18
          go_wp2_with (first
            | (go_at_call 36; refine q36.mono ?_; rintro e w2 ⟨rfl, hb2⟩; have hz2 := hb2.size; have B2 : Hid (Below w1.heap.size w1 w2) := hb2; clear hb2; clear d0 d1 d2 d3 d4 d5; obtain ⟨d0, d1, d2, d3, d4, d5⟩ := HC.out w2 B2.out; skip)
            | (go_at_call 37; refine (q37 _).mono ?_; rintro e w3 ⟨rfl, hb3⟩; have hz3 := hb3.size; have B3 : Hid (Below w1.heap.size w1 w3) := B2.out.trans (hb3.mono hz2); clear hb3; clear d0 d1 d2 d3 d4 d5; obtain ⟨d0, d1, d2, d3, d4, d5⟩ := HC.out w3 B3.out; skip)
            | (go_at_call 38; refine (H38.out _ B3.out).mono ?_; rintro e w4 ⟨rfl, hb4⟩; have hz4 := hb4.size; have B4 : Hid (Below w1.heap.size w1 w4) := B3.out.trans (hb4.mono (Nat.le_trans hz2 hz3)); have hy4 : w1.heap.size ≤ w4.heap.size := Nat.le_trans (Nat.le_trans hz2 hz3) hz4; clear hb4; clear d0 d1 d2 d3 d4 d5; obtain ⟨d0, d1, d2, d3, d4, d5⟩ := HC.out w4 B4.out; skip))
          go_ret2
          exact ⟨HW.out _ B4.out, rfl⟩
        · have h64' : ¬ (64 : Int) ≤ (hs.length : Int) := by omega
          by_cases hbb : 65536 < bo.length
          · have hbb' : (65536 : Int) < (bo.length : Int) := by omega
            rw [if_pos (by decide), if_pos (.inr hbb)]
            go_enter Tryz.func18, Tryz.ntmps18
            go_wp2_with (first
              | (go_at_call 36; refine q36.mono ?_; rintro e w2 ⟨rfl, hb2⟩; have hz2 := hb2.size; have B2 : Hid (Below w1.heap.size w1 w2) := hb2; clear hb2; clear d0 d1 d2 d3 d4 d5; obtain ⟨d0, d1, d2, d3, d4, d5⟩ := HC.out w2 B2.out; skip)
              | (go_at_call 37; refine (q37 _).mono ?_; rintro e w3 ⟨rfl, hb3⟩; have hz3 := hb3.size; have B3 : Hid (Below w1.heap.size w1 w3) := B2.out.trans (hb3.mono hz2); clear hb3; clear d0 d1 d2 d3 d4 d5; obtain ⟨d0, d1, d2, d3, d4, d5⟩ := HC.out w3 B3.out; skip)
              | (go_at_call 38; refine (H38.out _ B3.out).mono ?_; rintro e w4 ⟨rfl, hb4⟩; have hz4 := hb4.size; have B4 : Hid (Below w1.heap.size w1 w4) := B3.out.trans (hb4.mono (Nat.le_trans hz2 hz3)); have hy4 : w1.heap.size ≤ w4.heap.size := Nat.le_trans (Nat.le_trans hz2 hz3) hz4; clear hb4; clear d0 d1 d2 d3 d4 d5; obtain ⟨d0, d1, d2, d3, d4, d5⟩ := HC.out w4 B4.out; skip))
            go_ret2
            exact ⟨HW.out _ B4.out, rfl⟩
          · have hbb' : ¬ (65536 : Int) < (bo.length : Int) := by omega
            by_cases hh : 8192 < HD.length
            · have hh' : (8192 : Int) < (HD.length : Int) := by omega
              rw [if_pos (by decide), if_neg (by omega), if_pos hh]
              go_enter Tryz.func18, Tryz.ntmps18
              go_wp2_with (first
                | (go_at_call 36; refine q36.mono ?_; rintro e w2 ⟨rfl, hb2⟩; have hz2 := hb2.size; have B2 : Hid (Below w1.heap.size w1 w2) := hb2; clear hb2; clear d0 d1 d2 d3 d4 d5; obtain ⟨d0, d1, d2, d3, d4, d5⟩ := HC.out w2 B2.out; skip)
                | (go_at_call 37; refine (q37 _).mono ?_; rintro e w3 ⟨rfl, hb3⟩; have hz3 := hb3.size; have B3 : Hid (Below w1.heap.size w1 w3) := B2.out.trans (hb3.mono hz2); clear hb3; clear d0 d1 d2 d3 d4 d5; obtain ⟨d0, d1, d2, d3, d4, d5⟩ := HC.out w3 B3.out; skip)
                | (go_at_call 38; refine (H38.out _ B3.out).mono ?_; rintro e w4 ⟨rfl, hb4⟩; have hz4 := hb4.size; have B4 : Hid (Below w1.heap.size w1 w4) := B3.out.trans (hb4.mono (Nat.le_trans hz2 hz3)); have hy4 : w1.heap.size ≤ w4.heap.size := Nat.le_trans (Nat.le_trans hz2 hz3) hz4; clear hb4; clear d0 d1 d2 d3 d4 d5; obtain ⟨d0, d1, d2, d3, d4, d5⟩ := HC.out w4 B4.out; skip)
                | (go_at_call 39; refine (H39.out (by omega) _ B4.out).mono ?_; rintro e w5 ⟨v5, rfl, hr5, hb5⟩; have hz5 := hb5.size; have hvb5 := HVB.out.below (HW.out _ (B4.out.trans (hb5.mono hy4))) (Nat.le_refl _); have B5 : Hid (Below w1.heap.size w1 w5) := B4.out.trans (hb5.mono hy4); obtain ⟨fa, fc, rfl⟩ := hr5.form; have H5 : Hid _ := hr5; clear hr5 hb5; clear d0 d1 d2 d3 d4 d5; obtain ⟨d0, d1, d2, d3, d4, d5⟩ := HC.out w5 B5.out; skip))
              go_ret2
              exact ⟨HW.out _ B5.out, rfl⟩
            · have hh' : ¬ (8192 : Int) < (HD.length : Int) := by omega
              rw [if_pos (by decide), if_neg (by omega), if_neg hh]
              go_enter Tryz.func18, Tryz.ntmps18
              go_wp2_with (first
                | (go_at_call 36; refine q36.mono ?_; rintro e w2 ⟨rfl, hb2⟩; have hz2 := hb2.size; have B2 : Hid (Below w1.heap.size w1 w2) := hb2; clear hb2; clear d0 d1 d2 d3 d4 d5; obtain ⟨d0, d1, d2, d3, d4, d5⟩ := HC.out w2 B2.out; skip)
                | (go_at_call 37; refine (q37 _).mono ?_; rintro e w3 ⟨rfl, hb3⟩; have hz3 := hb3.size; have B3 : Hid (Below w1.heap.size w1 w3) := B2.out.trans (hb3.mono hz2); clear hb3; clear d0 d1 d2 d3 d4 d5; obtain ⟨d0, d1, d2, d3, d4, d5⟩ := HC.out w3 B3.out; skip)
                | (go_at_call 38; refine (H38.out _ B3.out).mono ?_; rintro e w4 ⟨rfl, hb4⟩; have hz4 := hb4.size; have B4 : Hid (Below w1.heap.size w1 w4) := B3.out.trans (hb4.mono (Nat.le_trans hz2 hz3)); have hy4 : w1.heap.size ≤ w4.heap.size := Nat.le_trans (Nat.le_trans hz2 hz3) hz4; clear hb4; clear d0 d1 d2 d3 d4 d5; obtain ⟨d0, d1, d2, d3, d4, d5⟩ := HC.out w4 B4.out; skip)
                | (go_at_call 39; refine (H39.out (by omega) _ B4.out).mono ?_; rintro e w5 ⟨v5, rfl, hr5, hb5⟩; have hz5 := hb5.size; have hvb5 := HVB.out.below (HW.out _ (B4.out.trans (hb5.mono hy4))) (Nat.le_refl _); have B5 : Hid (Below w1.heap.size w1 w5) := B4.out.trans (hb5.mono hy4); obtain ⟨fa, fc, rfl⟩ := hr5.form; have H5 : Hid _ := hr5; clear hr5 hb5; clear d0 d1 d2 d3 d4 d5; obtain ⟨d0, d1, d2, d3, d4, d5⟩ := HC.out w5 B5.out; skip)
                | (refine app_any rfl (.tmp 37) (.tmp 39) rfl w4.heap.size _ _ rfl H5.out _ _ rfl hvb5 (by omega) (by omega) ?_; intro v6 w6 hr6 hb6; have H6 : Hid _ := And.intro hr6 hb6; clear hr6 hb6))
              go_ret2
              exact ⟨(HW.out _ B5.out).trans (H6.out.2.mono (by rw [HS1.out] at hy4; omega)), _, rfl, H6.out.1.mono (by rw [HS1.out] at hy4; omega)⟩
    | false =>
      go_enter Tryz.func18, Tryz.ntmps18
      go_wp2_with (first
        | (go_at_call 36; refine q36.mono ?_; rintro e w2 ⟨rfl, hb2⟩; have hz2 := hb2.size; have B2 : Hid (Below w1.heap.size w1 w2) := hb2; clear hb2; clear d0 d1 d2 d3 d4 d5; obtain ⟨d0, d1, d2, d3, d4, d5⟩ := HC.out w2 B2.out; skip)
        | (go_at_call 37; refine (q37 _).mono ?_; rintro e w3 ⟨rfl, hb3⟩; have hz3 := hb3.size; have B3 : Hid (Below w1.heap.size w1 w3) := B2.out.trans (hb3.mono hz2); clear hb3; clear d0 d1 d2 d3 d4 d5; obtain ⟨d0, d1, d2, d3, d4, d5⟩ := HC.out w3 B3.out; skip))
      go_ret2
      exact ⟨HW.out _ B3.out, rfl⟩
end
end Ht
end Go.Proofs.YtngfoghnopnbmaaGreatDoor
