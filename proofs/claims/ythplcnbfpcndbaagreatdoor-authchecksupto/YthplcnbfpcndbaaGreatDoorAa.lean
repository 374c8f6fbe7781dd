/- Fields, words, numbers of a content; which pair an event stands for: contracts, by walking their text. -/
import Derived.Test.YthplcnbfpcndbaaGreatDoorMm
namespace Go.Proofs.YthplcnbfpcndbaaGreatDoor
open Go.RowKit

set_option maxRecDepth 100000 in
set_option maxHeartbeats 4000000 in
theorem isFor_any (e : EV) (C : Array Value) (ty key : ByteArray) (B w : World) (he : EC B e C) :
    Calls Tryz.prog 11 #[.agg C, .string ty, .string key] w fun r w' => r = .returned (.bool (isF e ty key)) ∧ Below w.heap.size w w' := by
  have hc0 := Ctx.start w
  have h1 := beq_bytes e.ty ty
  have h2 := beq_bytes e.key key
  have e1 := he.i1
  have e4 := he.i4
  have e5 := he.i5
  obtain ⟨R, hR⟩ : ∃ R, isF e ty key = R := ⟨_, rfl⟩
  have HR : Hid (isF e ty key = R) := hR
  rw [hR]
  unfold isF at hR
  generalize decide (e.ty = ty) = b1 at h1 hR
  generalize decide (e.key = key) = b2 at h2 hR
  generalize e.hk = b0 at e4 hR
  go_enter Tryz.func11, Tryz.ntmps11
  cases b0 <;> cases b1 <;> cases b2
  all_goals
    subst hR
    go_wp2_with (refine v_box rfl 28 (.tmp 0) rfl C rfl hc0 ?_; intro w1 N hc1 hb1; have c1 := hc1.cell 0 rfl 1 e1; have c4 := hc1.cell 0 rfl 4 e4; have c5 := hc1.cell 0 rfl 5 e5)
    go_ret
    exact ⟨rfl, hc1.bel⟩
/-- How a look for a field ends. -/
def FOut (v : GV) (nm : ByteArray) (B w : World) (e : Ending) (w' : World) : Prop := ∃ D, e = .returned (.tuple #[.agg D, .bool (fld v nm).isSome]) ∧ LaidV B (fldD v nm) D ∧ Below w.heap.size w w'
theorem fout_none {v : GV} {nm : ByteArray} {B w w' : World} (h : fld v nm = none) (hb : Below w.heap.size w w') : FOut v nm B w (.returned (.tuple #[.agg zV, .bool false])) w' := by
  refine ⟨zV, by rw [h]; rfl, ?_, hb⟩
  rw [fldD, h]
  exact laid_zero B
theorem fout_some {v x : GV} {nm : ByteArray} {B w w' : World} {D : Array Value} (h : fld v nm = some x) (hl : LaidV B x D) (hb : Below w.heap.size w w') : FOut v nm B w (.returned (.tuple #[.agg D, .bool true])) w' := by
  refine ⟨D, by rw [h]; rfl, ?_, hb⟩
  rw [fldD, h]
  exact hl

set_option maxRecDepth 100000 in
set_option maxHeartbeats 4000000 in
theorem field_any (v : GV) (D : Array Value) (nm : ByteArray) (B w : World) (hB : Below B.heap.size B w) (hv : LaidV B v D) : Calls Tryz.prog 61 #[.agg D, .string nm] w (FOut v nm B w) := by
  have hc0 := Ctx.start w
  obtain ⟨hsz, hone, i0, i2, i3, hwf, hts, hfs, a, c, i5, hfl⟩ := hv.vc
  have hFL : Hid (LaidF B a 0 v.f) := hfl
  clear hv hfl
  by_cases hk : v.k = 5
  · have HN : Hid (fld v nm = fldF nm v.f) := by show _ = _; rw [fld, if_pos hk]
    have hk' : (v.k != 5) = false := by simp [hk]
    clear hk
    generalize v.f = f at *
    go_enter Tryz.func61, Tryz.ntmps61
    go_wp2_with (first
      | (refine v_box rfl 26 (.tmp 0) rfl D rfl hc0 ?_; intro w1 N1 hc1 _; clear hc0)
      | (refine v_alloc rfl 26 rfl zV z26 hc1 ?_; intro w2 N2 hc2 _; have c0 := hc2.cell 1 rfl 0 i0; have c5 := hc2.cell 1 rfl 5 i5; clear hc1))
    clear c0 c5
    go_loopw [15] (fun u w' => ∃ i : Nat, u = .int .i64 (i : Int) ∧ i ≤ f.length ∧ Hid (fld v nm = fldF nm (f.drop i)) ∧ Ctx w w' [(N2, 26, zV), (N1, 26, D)]) (fun u _ => f.length - numOf u)
    case atStart => exact ⟨0, rfl, Nat.zero_le _, HN, hc2⟩
    case round =>
      obtain ⟨i, rfl, hil, HG, hc⟩ := hrel
      clear HN hc2
      by_cases hlt : i < f.length
      · have hlt' : (i : Int) < (f.length : Int) := by omega
        have hp := hFL.out.get i hlt
        have hdrop : Hid (f.drop i = f[i] :: f.drop (i + 1)) := List.drop_eq_getElem_cons hlt
        obtain ⟨⟨n0, x0⟩, hX⟩ : ∃ X, f[i] = X := ⟨_, rfl⟩
        rw [hX] at hp hdrop
        clear hX
        rw [Nat.zero_add] at hp
        unfold LaidP at hp
        obtain ⟨b, off, E, rfl, hE7, hE1, hrng, hE0, hns, D0, hD0, hin⟩ := hp
        have hD6 := hD0.vc.sz
        have hD1 := hD0.vc.one
        replace hrng := range_below (hB.trans (hc.bel.mono hB.size)) hrng
        have hD0' : Hid (LaidV B x0 D0) := hD0
        clear hD0
        have hq := beq_bytes n0 nm
        have hwr : IntKind.i64.wrap ((i : Int) + 1) = ((i + 1 : Nat) : Int) := by rw [wrap_small _ (by omega) (by omega)]; omega
        by_cases hnm : n0 = nm
        · have HE : Hid (fld v nm = some x0) := by show _ = _; rw [HG.out, hdrop.out, fldF, if_pos hnm]
          rw [decide_eq_true hnm] at hq
          clear HG hdrop hnm
          go_wp2_with (first
            | (refine wpList_load_mid rfl 49 (.tmp 17) rfl b (off + i * 7) rfl E.toList _ hrng Tryz.underlying49 rfl (by simpa using sz59 hE7) ?_)
            | (refine v_alloc rfl 49 rfl zF z59 hc ?_; intro w3 N3 hc3 hb3)
            | (refine v_store rfl 49 (.tmp 7) (.tmp 18) rfl 0 E rfl rfl hc3 rfl (by rw [hE7]; rfl) (sz59 hE7) hE1 ?_; intro w4 hc4; have c0 := hc4.cell 0 rfl 0 hE0)
            | (refine v_part rfl 26 (.tmp 23) rfl 0 D0 rfl hc4 rfl hin _ Tryz.underlying26 rfl (sz26 hD6) ?_)
            | (refine v_store rfl 26 (.tmp 4) (.tmp 24) rfl 1 D0 rfl rfl hc4 rfl (by rw [hD6]; rfl) (sz26 hD6) hD1 ?_; intro w5 hc5))
          exact bodyPost_ret (res_two rfl rfl rfl hc5 1 rfl _ Tryz.underlying26 rfl (sz26 hD6)) rfl (fout_some HE.out hD0'.out hc5.bel)
        · have HE : Hid (fld v nm = fldF nm (f.drop (i + 1))) := by show _ = _; rw [HG.out, hdrop.out, fldF, if_neg hnm]
          rw [decide_eq_false hnm] at hq
          clear HG hdrop hnm
          go_wp2_with (first
            | (refine wpList_load_mid rfl 49 (.tmp 17) rfl b (off + i * 7) rfl E.toList _ hrng Tryz.underlying49 rfl (by simpa using sz59 hE7) ?_)
            | (refine v_alloc rfl 49 rfl zF z59 hc ?_; intro w3 N3 hc3 hb3)
            | (refine v_store rfl 49 (.tmp 7) (.tmp 18) rfl 0 E rfl rfl hc3 rfl (by rw [hE7]; rfl) (sz59 hE7) hE1 ?_; intro w4 hc4; have c0 := hc4.cell 0 rfl 0 hE0))
          go_roundw
          case rel => exact ⟨i + 1, by simp, hlt, HE, hc4.sub (List.sublist_cons_self _ _)⟩
          case measure => simp [numOf]; omega
      · have hlt' : ¬ (i : Int) < (f.length : Int) := by omega
        have HE : Hid (fld v nm = none) := by show _ = _; rw [HG.out, List.drop_eq_nil_of_le (by omega)]; rfl
        clear HG
        go_wp2_with (refine v_store rfl 26 (.tmp 4) (.tmp 26) rfl 0 zV rfl rfl hc rfl rfl (sz26 rfl) (by kernel_rfl) ?_; intro w5 hc5)
        exact bodyPost_ret (res_two rfl rfl rfl hc5 0 rfl _ Tryz.underlying26 rfl (sz26 rfl)) rfl (fout_none HE.out hc5.bel)
  · have HN : Hid (fld v nm = none) := by show _ = _; rw [fld, if_neg hk]
    have hk' : (v.k != 5) = true := by simp [hk]
    clear hk
    go_enter Tryz.func61, Tryz.ntmps61
    go_wp2_with (first
      | (refine v_box rfl 26 (.tmp 0) rfl D rfl hc0 ?_; intro w1 N1 hc1 _; clear hc0)
      | (refine v_alloc rfl 26 rfl zV z26 hc1 ?_; intro w2 N2 hc2 _; have c0 := hc2.cell 1 rfl 0 i0; clear hc1)
      | (refine v_store rfl 26 (.tmp 4) (.tmp 11) rfl 0 zV rfl rfl hc2 rfl rfl (sz26 rfl) (by kernel_rfl) ?_; intro w5 hc5))
    exact bodyPost_ret (res_two rfl rfl rfl hc5 0 rfl _ Tryz.underlying26 rfl (sz26 rfl)) rfl (fout_none HN.out hc5.bel)
end Go.Proofs.YthplcnbfpcndbaaGreatDoor
