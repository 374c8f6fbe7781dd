/- HttpWrites at every message. -/
import Derived.Test.YtngfoghnopnbmaaGreatDoorWf
namespace Go.Proofs.YtngfoghnopnbmaaGreatDoor
open Go.RowKit
namespace Ht
open Bw

theorem compW34 : (Tryz.prog.info? 34).map (·.comparable) = some true := by kernel_rfl
theorem eqW_err (a b : Int) (W : World) : (Op.equalIn 10000 31 (.iface 34 (.int .i64 a)) (.iface 34 (.int .i64 b))).run Tryz.prog W = .ok (a == b) W := by
  obtain ⟨i, hi, hc⟩ := Option.map_eq_some_iff.1 compW34
  rw [show (10000 : Nat) = 9999 + 1 from rfl, Op.equalIn]
  simp only [Sem.run_bind, run_underlying Tryz.underlying31, Result.andThen_ok]
  simp [typeInfo, hi, hc]
  rw [show (9999 : Nat) = 9998 + 1 from rfl]
  exact run_equalIn_int (P := Tryz.prog) W 9998 34 .i64 .i64 a b Tryz.underlying34
theorem binW_err (a b : Int) (W : World) : (binOp .eql 31 (.iface 34 (.int .i64 a)) (.iface 34 (.int .i64 b))).run Tryz.prog W = .ok (.bool (a == b)) W := by
  simp only [binOp]
  simp [Op.equal, Op.maxDepth, eqW_err a b W]
theorem wr_code {g : Msg} {c : Int} (h : wrM g = .error c) : c = 1 ∨ c = 2 := by
  unfold wrM at h
  split at h
  · split at h
    · injection h with h; omega
    · split at h
      · injection h with h; omega
      · exact absurd h (by simp)
  · injection h with h; omega
theorem code20_0 (w : World) : Calls Tryz.prog 20 #[.nilIface] w fun e w' => e = .returned (.int .i64 0) ∧ w' = w := by
  go_enter Tryz.func20, Tryz.ntmps20
  go_wp2
  go_ret
  exact ⟨rfl, rfl⟩
theorem code20_1 (w : World) : Calls Tryz.prog 20 #[.iface 34 (.int .i64 1)] w fun e w' => e = .returned (.int .i64 1) ∧ w' = w := by
  have hee := binW_err 1 1
  go_enter Tryz.func20, Tryz.ntmps20
  go_wp2
  go_ret
  exact ⟨rfl, rfl⟩
theorem code20_2 (w : World) : Calls Tryz.prog 20 #[.iface 34 (.int .i64 2)] w fun e w' => e = .returned (.int .i64 2) ∧ w' = w := by
  have hee := binW_err 2 1
  have hef := binW_err 2 2
  go_enter Tryz.func20, Tryz.ntmps20
  go_wp2
  go_ret
  exact ⟨rfl, rfl⟩
section
variable {w : World}
set_option maxRecDepth 20000 in
set_option maxHeartbeats 4000000 in
/-- HttpWrites at every message. -/
theorem writes_law (me ta re : ByteArray) (st : Int) (hs : List (ByteArray × ByteArray)) (bo : List UInt8) (vh vb : Value) (h0 : me.size ≤ 1000000000) (h2 : ta.size ≤ 1000000000) (h3 : re.size ≤ 1000000000) (hst : -9223372036854775808 ≤ st ∧ st ≤ 9223372036854775807)
    (hl : hs.length ≤ 1000000000) (hz : ∀ p ∈ hs, p.1.size ≤ 1000000000 ∧ p.2.size ≤ 1000000000) (hbo : bo.length ≤ 1000000000) (hv : HdAt w vh hs) (hvb : SlM w vb bo) (hp : Pow w) :
    Calls Tryz.prog 4 #[.agg #[.string me, .string ta, .int .i64 st, .string re, vh, vb]] w fun e w' => e = .returned (.bool true) ∧ Below w.heap.size w w' := by
  have HV : Hid (HdAt w vh hs) := hv
  have HVB : Hid (SlM w vb bo) := hvb
  obtain ⟨va, vc, rfl, -⟩ := hv
  obtain ⟨a2, c2, rfl⟩ : ∃ a c, vb = .slice a bo.length c := by
    rcases hvb.cases with ⟨rfl, a, c, rfl⟩ | ⟨b, off, c, rfl, _⟩
    · exact ⟨_, _, rfl⟩
    · exact ⟨_, _, rfl⟩
  obtain ⟨w1, hw1⟩ : ∃ v, w.alloc (.cells #[.string me, .string ta, .int .i64 st, .string re, .slice va hs.length vc, .slice a2 bo.length c2] 42) = v := ⟨_, rfl⟩
  have hb1 : Below w.heap.size w w1 := by rw [← hw1]; exact allocB' _ _
  have hN : w1.heap[w.heap.size]? = some (.cells #[.string me, .string ta, .int .i64 st, .string re, .slice va hs.length vc, .slice a2 bo.length c2] 42 (0, 0)) := by rw [← hw1]; exact heap_alloc_new _ _
  have HS1 : Hid (w1.heap.size = w.heap.size + 1) := by show _ = _; rw [← hw1]; simp
  have HC : Hid (∀ W : World, Below w1.heap.size w1 W → W.cell? ⟨w.heap.size, 0, none⟩ = some (.string me) ∧ W.cell? ⟨w.heap.size, 1, none⟩ = some (.string ta) ∧ W.cell? ⟨w.heap.size, 2, none⟩ = some (.int .i64 st) ∧ W.cell? ⟨w.heap.size, 3, none⟩ = some (.string re) ∧ W.cell? ⟨w.heap.size, 4, none⟩ = some (.slice va hs.length vc) ∧ W.cell? ⟨w.heap.size, 5, none⟩ = some (.slice a2 bo.length c2)) := fun W hW => by
    have e := (hW.block w.heap.size (by rw [HS1.out]; omega)).trans hN
    simp only [World.cell?, e]
    exact ⟨rfl, rfl, rfl, rfl, rfl, rfl⟩
  have q9 := shown9 w1 (hp.below hb1 (Nat.le_refl _))
  have HW : Hid (∀ W : World, Below w1.heap.size w1 W → Below w.heap.size w W) := fun W hW => hb1.trans (hW.mono (by rw [HS1.out]; omega))
  have H18 : Hid (∀ W : World, Below w1.heap.size w1 W → Calls Tryz.prog 18 #[.agg #[.string me, .string ta, .int .i64 st, .string re, .slice va hs.length vc, .slice a2 bo.length c2]] W fun e w' => WrOut (wrM ⟨me, ta, st, re, hs, bo⟩) W e w') := fun W hW => write18 me ta re st hs bo _ _ h0 h2 h3 hst hl hz hbo (HV.out.below (HW.out W hW)) (HVB.out.below (HW.out W hW) (Nat.le_refl _)) (hp.of ((HW.out W hW).block 2 hp.lt))
  have H19 : Hid (∀ W : World, Below w1.heap.size w1 W → Calls Tryz.prog 19 #[.agg #[.string me, .string ta, .int .i64 st, .string re, .slice va hs.length vc, .slice a2 bo.length c2]] W fun e w' => RwOut (wrM ⟨me, ta, st, re, hs, bo⟩) W e w') := fun W hW => rwrite19 me ta re st hs bo _ _ h0 h2 h3 hst hl hz hbo (HV.out.below (HW.out W hW)) (HVB.out.below (HW.out W hW) (Nat.le_refl _))
  obtain ⟨R, hR⟩ : ∃ R, wrM ⟨me, ta, st, re, hs, bo⟩ = R := ⟨_, rfl⟩
  have hcode : ∀ c, R = .error c → c = 1 ∨ c = 2 := fun c h => wr_code (hR.trans h)
  rw [hR] at H18 H19
  clear hR hN hb1 hp hz hvb
  cases R with
  | ok b =>
    clear hcode
    go_enter Tryz.func4, Tryz.ntmps4
    go_wp2_with (first
      | (go_at_call 9; refine q9.mono ?_; rintro e w2 ⟨rfl, hb2⟩; have hz2 := hb2.size; have B2 : Hid (Below w1.heap.size w1 w2) := hb2; clear hb2; obtain ⟨d0, d1, d2, d3, d4, d5⟩ := HC.out w2 B2.out)
      | (go_at_call 18; refine (H18.out _ B2.out).mono ?_; rintro e w3 ⟨hb3, v3, rfl, hr3⟩; have hz3 := hb3.size; have B3 : Hid (Below w1.heap.size w1 w3) := B2.out.trans (hb3.mono hz2); have R3 : Hid (RowB w2.heap.size w3 v3 b) := hr3; clear hr3 hb3 d0 d1 d2 d3 d4 d5; obtain ⟨d0, d1, d2, d3, d4, d5⟩ := HC.out w3 B3.out)
      | (go_at_call 19; refine (H19.out _ B3.out).mono ?_; rintro e w4 ⟨hb4, v4, rfl, hr4⟩; have B4 : Hid (Below w1.heap.size w1 w4) := B3.out.trans (hb4.mono (by omega)); have r4 : RowB w3.heap.size w4 v4 b := hr4; have k3 := conv_sl (RowB.slm (RowB.kept R3.out hb4)); have k4 := conv_sl (RowB.slm r4); clear r4; have q20 := code20_0 w4; clear hr4 hb4 d0 d1 d2 d3 d4 d5)
      | (go_at_call 20; refine q20.mono ?_; rintro e w5 ⟨rfl, hw5⟩; obtain rfl := hw5.symm))
    go_ret
    exact ⟨by simp, HW.out _ B4.out⟩
  | error c =>
    have kn := fun W : World => Lib.run_convert_nil_bytes (P := Tryz.prog) W 29 9 5 0 Tryz.underlying29 Tryz.underlying5 Tryz.underlying9
    have q20 : ∀ W : World, Calls Tryz.prog 20 #[.iface 34 (.int .i64 c)] W fun e w' => e = .returned (.int .i64 c) ∧ w' = W := fun W => by
      rcases hcode c rfl with rfl | rfl
      · exact code20_1 W
      · exact code20_2 W
    clear hcode
    go_enter Tryz.func4, Tryz.ntmps4
    go_wp2_with (first
      | (go_at_call 9; refine q9.mono ?_; rintro e w2 ⟨rfl, hb2⟩; have hz2 := hb2.size; have B2 : Hid (Below w1.heap.size w1 w2) := hb2; clear hb2; obtain ⟨d0, d1, d2, d3, d4, d5⟩ := HC.out w2 B2.out)
      | (go_at_call 18; refine (H18.out _ B2.out).mono ?_; rintro e w3 ⟨hb3, he3⟩; obtain rfl := he3; have hz3 := hb3.size; have B3 : Hid (Below w1.heap.size w1 w3) := B2.out.trans (hb3.mono hz2); clear hb3 d0 d1 d2 d3 d4 d5; obtain ⟨d0, d1, d2, d3, d4, d5⟩ := HC.out w3 B3.out)
      | (go_at_call 19; refine (H19.out _ B3.out).mono ?_; rintro e w4 ⟨hb4, he4⟩; obtain rfl := he4; have B4 : Hid (Below w1.heap.size w1 w4) := B3.out.trans (hb4.mono (by omega)); clear hb4 d0 d1 d2 d3 d4 d5)
      | (go_at_call 20; refine (q20 _).mono ?_; rintro e w5 ⟨rfl, hw5⟩; obtain rfl := hw5.symm))
    go_ret
    exact ⟨by simp, HW.out _ B4.out⟩
end
end Ht
end Go.Proofs.YtngfoghnopnbmaaGreatDoor
