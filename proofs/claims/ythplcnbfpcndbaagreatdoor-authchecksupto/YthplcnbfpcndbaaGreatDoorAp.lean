/- The reference's field, word, number, the event for a pair, a user's level: contracts, by walking their text. -/
import Derived.Test.YthplcnbfpcndbaaGreatDoorAe
namespace Go.Proofs.YthplcnbfpcndbaaGreatDoor
open Go.RowKit

set_option maxRecDepth 100000 in
set_option maxHeartbeats 8000000 in
theorem rfield_any (v : GV) (D : Array Value) (nm : ByteArray) (B w : World) (hB : Below B.heap.size B w) (hv : LaidV B v D) : Calls Tryz.prog 53 #[.agg D, .string nm] w (FOut v nm B w) := by
  have hc0 := Ctx.start w
  obtain ⟨hsz, hone, i0, i2, i3, hwf, hts, hfs, a, c, i5, hfl⟩ := hv.vc
  have hFL : Hid (LaidF B a 0 v.f) := hfl
  clear hv hfl
  by_cases hk : v.k = 5
  · have HN : Hid (fld v nm = fldF nm v.f) := by show _ = _; rw [fld, if_pos hk]
    have hk' : (v.k != 5) = false := by simp [hk]
    clear hk
    generalize v.f = f at *
    go_enter Tryz.func53, Tryz.ntmps53
    go_wp2_with (first
      | (refine v_box rfl 26 (.tmp 0) rfl D rfl hc0 ?_; intro w1 N1 hc1 _; clear hc0)
      | (refine v_alloc rfl 26 rfl zV z26 hc1 ?_; intro w2 N2 hc2 _; have c0 := hc2.cell 1 rfl 0 i0; have c5 := hc2.cell 1 rfl 5 i5; clear hc1))
    clear c0 c5
    go_loopw [6] (fun u w' => ∃ i : Nat, u = .int .i64 (i : Int) ∧ i ≤ f.length ∧ Hid (fld v nm = fldF nm (f.drop i)) ∧ Ctx w w' [(N2, 26, zV), (N1, 26, D)]) (fun u _ => f.length - numOf u)
    case atStart => exact ⟨0, rfl, Nat.zero_le _, HN, hc2⟩
    case round =>
      obtain ⟨i, rfl, hil, HG, hc⟩ := hrel
      have c5 := hc.cell 1 rfl 5 i5
      clear HN hc2
      by_cases hlt : i < f.length
      · have hlt' : (i : Int) < (f.length : Int) := by omega
        have hp := hFL.out.get i hlt
        have hdrop : Hid (f.drop i = f[i] :: f.drop (i + 1)) := List.drop_eq_getElem_cons hlt
        obtain ⟨⟨n0, x0⟩, hX⟩ : ∃ X, f[i] = X := ⟨_, rfl⟩
        rw [hX] at hp hdrop
        clear hX
        rw [Nat.zero_add] at hp
        unfold LaidP at hp
        obtain ⟨b, off, E, rfl, hE7, hE1, hrng, hE0, hns, D0, hD0, hin⟩ := hp
        have hD6 := hD0.vc.sz
        have hD1 := hD0.vc.one
        replace hrng := range_below (hB.trans (hc.bel.mono hB.size)) hrng
        have y0 : wr.cell? ⟨b, off + i * 7, none⟩ = some (.string n0) := hrng 0 _ (by simpa using hE0)
        have hD0' : Hid (LaidV B x0 D0) := hD0
        have hpart : wr.rangeAt b (off + i * 7 + 1) D0.toList := fun j u hj => by
          have := hrng (1 + j) u (by simpa using hin j u (by simpa using hj))
          rw [Nat.add_assoc]
          exact this
        clear hD0
        have hq := beq_bytes n0 nm
        have hwr : IntKind.i64.wrap ((i : Int) + 1) = ((i + 1 : Nat) : Int) := by rw [wrap_small _ (by omega) (by omega)]; omega
        by_cases hnm : n0 = nm
        · have HE : Hid (fld v nm = some x0) := by show _ = _; rw [HG.out, hdrop.out, fldF, if_pos hnm]
          rw [decide_eq_true hnm] at hq
          clear HG hdrop hnm hrng
          go_wp2_with (first
            | (refine wpList_load_mid rfl 26 (.tmp 30) rfl b (off + i * 7 + 1) rfl D0.toList _ hpart Tryz.underlying26 rfl (by simpa using sz26 hD6) ?_)
            | (refine v_store rfl 26 (.tmp 4) (.tmp 31) rfl 0 D0 rfl (by simp [Act.put, Act.eval]) hc rfl (by rw [hD6]; rfl) (sz26 hD6) hD1 ?_; intro w5 hc5))
          exact bodyPost_ret (res_two rfl rfl rfl hc5 0 rfl _ Tryz.underlying26 rfl (sz26 hD6)) rfl (fout_some HE.out hD0'.out hc5.bel)
        · have HE : Hid (fld v nm = fldF nm (f.drop (i + 1))) := by show _ = _; rw [HG.out, hdrop.out, fldF, if_neg hnm]
          rw [decide_eq_false hnm] at hq
          clear HG hdrop hnm hrng
          go_wp2
          go_roundw
          case rel => exact ⟨i + 1, by simp, hlt, HE, hc⟩
          case measure => simp [numOf]; omega
      · have hlt' : ¬ (i : Int) < (f.length : Int) := by omega
        have HE : Hid (fld v nm = none) := by show _ = _; rw [HG.out, List.drop_eq_nil_of_le (by omega)]; rfl
        clear HG
        go_wp2_with (refine v_store rfl 26 (.tmp 4) (.tmp 32) rfl 0 zV rfl rfl hc rfl rfl (sz26 rfl) (by kernel_rfl) ?_; intro w5 hc5)
        exact bodyPost_ret (res_two rfl rfl rfl hc5 0 rfl _ Tryz.underlying26 rfl (sz26 rfl)) rfl (fout_none HE.out hc5.bel)
  · have HN : Hid (fld v nm = none) := by show _ = _; rw [fld, if_neg hk]
    have hk' : (v.k != 5) = true := by simp [hk]
    clear hk
    go_enter Tryz.func53, Tryz.ntmps53
    go_wp2_with (first
      | (refine v_box rfl 26 (.tmp 0) rfl D rfl hc0 ?_; intro w1 N1 hc1 _; clear hc0)
      | (refine v_alloc rfl 26 rfl zV z26 hc1 ?_; intro w2 N2 hc2 _; have c0 := hc2.cell 1 rfl 0 i0; clear hc1)
      | (refine v_store rfl 26 (.tmp 4) (.tmp 10) rfl 0 zV rfl rfl hc2 rfl rfl (sz26 rfl) (by kernel_rfl) ?_; intro w5 hc5))
    exact bodyPost_ret (res_two rfl rfl rfl hc5 0 rfl _ Tryz.underlying26 rfl (sz26 rfl)) rfl (fout_none HN.out hc5.bel)

set_option maxRecDepth 100000 in
set_option maxHeartbeats 8000000 in
theorem rnumber_any (v : GV) (D : Array Value) (nm : ByteArray) (B w : World) (hB : Below B.heap.size B w) (hv : LaidV B v D) :
    Calls Tryz.prog 54 #[.agg D, .string nm] w fun e w' => e = .returned (.tuple #[.int .i64 (num v nm).1, .bool (num v nm).2]) ∧ Below w.heap.size w w' := by
  have hc0 := Ctx.start w
  have hf : ∀ W, Below B.heap.size B W → Calls Tryz.prog 53 #[.agg D, .string nm] W fun e w' => ∃ E, e = .returned (.tuple #[.agg E, .bool (fld v nm).isSome]) ∧ LaidV B (fldD v nm) E ∧ Below W.heap.size W w' := fun W h => rfield_any v D nm B W h hv
  have d6 := hv.vc.sz
  have hz : (fld v nm).isSome = false → (fldD v nm).k = 0 := fun h => by
    have h' : fld v nm = none := by simpa using h
    rw [fldD, h']
    rfl
  unfold num numV
  clear hv
  generalize fldD v nm = x at *
  generalize (fld v nm).isSome = s at *
  cases s
  · rw [if_neg (by rw [hz rfl]; decide)]
    clear hz
    go_enter Tryz.func54, Tryz.ntmps54
    go_wp2_with (first
      | (refine v_box rfl 26 (.tmp 0) rfl D rfl hc0 ?_; intro w1 N1 hc1 _; clear hc0)
      | (refine v_load rfl 26 (.tmp 2) rfl 0 rfl hc1 rfl _ Tryz.underlying26 rfl (sz26 d6) ?_)
      | (go_at_call 53; refine (hf _ (hB.trans (hc1.bel.mono hB.size))).mono ?_; rintro e w2 ⟨E, rfl, hE, hb2⟩; replace hc1 := hc1.call hb2; have e6 := hE.vc.sz; have eo := hE.vc.one; have e0 := hE.vc.i0; have e2 := hE.vc.i2; clear hf)
      | (refine v_decl rfl rfl 26 rfl (.tmp 6) (.tmp 12) rfl zV E z26 (fun _ => rfl) (fun _ => rfl) (by rw [e6]; rfl) (sz26 e6) eo hc1 ?_; intro w4 N4 hc4 _; have c0 := hc4.cell 0 rfl 0 e0; have c2 := hc4.cell 0 rfl 2 e2))
    go_ret2
    exact ⟨rfl, hc4.bel⟩
  · by_cases hk : x.k = 2
    · rw [if_pos hk]
      have hk' : (x.k != 2) = false := by simp [hk]
      clear hk hz
      go_enter Tryz.func54, Tryz.ntmps54
      go_wp2_with (first
        | (refine v_box rfl 26 (.tmp 0) rfl D rfl hc0 ?_; intro w1 N1 hc1 _; clear hc0)
        | (refine v_load rfl 26 (.tmp 2) rfl 0 rfl hc1 rfl _ Tryz.underlying26 rfl (sz26 d6) ?_)
        | (go_at_call 53; refine (hf _ (hB.trans (hc1.bel.mono hB.size))).mono ?_; rintro e w2 ⟨E, rfl, hE, hb2⟩; replace hc1 := hc1.call hb2; have e6 := hE.vc.sz; have eo := hE.vc.one; have e0 := hE.vc.i0; have e2 := hE.vc.i2; clear hf)
        | (refine v_decl rfl rfl 26 rfl (.tmp 6) (.tmp 12) rfl zV E z26 (fun _ => rfl) (fun _ => rfl) (by rw [e6]; rfl) (sz26 e6) eo hc1 ?_; intro w4 N4 hc4 _; have c0 := hc4.cell 0 rfl 0 e0; have c2 := hc4.cell 0 rfl 2 e2))
      go_ret2
      exact ⟨rfl, hc4.bel⟩
    · rw [if_neg hk]
      have hk' : (x.k != 2) = true := by simp [hk]
      clear hk hz
      go_enter Tryz.func54, Tryz.ntmps54
      go_wp2_with (first
        | (refine v_box rfl 26 (.tmp 0) rfl D rfl hc0 ?_; intro w1 N1 hc1 _; clear hc0)
        | (refine v_load rfl 26 (.tmp 2) rfl 0 rfl hc1 rfl _ Tryz.underlying26 rfl (sz26 d6) ?_)
        | (go_at_call 53; refine (hf _ (hB.trans (hc1.bel.mono hB.size))).mono ?_; rintro e w2 ⟨E, rfl, hE, hb2⟩; replace hc1 := hc1.call hb2; have e6 := hE.vc.sz; have eo := hE.vc.one; have e0 := hE.vc.i0; have e2 := hE.vc.i2; clear hf)
        | (refine v_decl rfl rfl 26 rfl (.tmp 6) (.tmp 12) rfl zV E z26 (fun _ => rfl) (fun _ => rfl) (by rw [e6]; rfl) (sz26 e6) eo hc1 ?_; intro w4 N4 hc4 _; have c0 := hc4.cell 0 rfl 0 e0; have c2 := hc4.cell 0 rfl 2 e2))
      go_ret2
      exact ⟨rfl, hc4.bel⟩

/-- A word, or none. -/
def wordR (v : GV) (nm : ByteArray) : ByteArray × Bool := if (fldD v nm).k = 3 then ((fldD v nm).t, true) else (⟨#[]⟩, false)
set_option maxRecDepth 100000 in
set_option maxHeartbeats 8000000 in
theorem rword_any (v : GV) (D : Array Value) (nm : ByteArray) (B w : World) (hB : Below B.heap.size B w) (hv : LaidV B v D) :
    Calls Tryz.prog 49 #[.agg D, .string nm] w fun e w' => e = .returned (.tuple #[.string (wordR v nm).1, .bool (wordR v nm).2]) ∧ Below w.heap.size w w' := by
  have hc0 := Ctx.start w
  have hf : ∀ W, Below B.heap.size B W → Calls Tryz.prog 53 #[.agg D, .string nm] W fun e w' => ∃ E, e = .returned (.tuple #[.agg E, .bool (fld v nm).isSome]) ∧ LaidV B (fldD v nm) E ∧ Below W.heap.size W w' := fun W h => rfield_any v D nm B W h hv
  have d6 := hv.vc.sz
  have hz : (fld v nm).isSome = false → (fldD v nm).k = 0 := fun h => by
    have h' : fld v nm = none := by simpa using h
    rw [fldD, h']
    rfl
  unfold wordR
  clear hv
  generalize fldD v nm = x at *
  generalize (fld v nm).isSome = s at *
  cases s
  · rw [if_neg (by rw [hz rfl]; decide)]
    clear hz
    go_enter Tryz.func49, Tryz.ntmps49
    go_wp2_with (first
      | (refine v_box rfl 26 (.tmp 0) rfl D rfl hc0 ?_; intro w1 N1 hc1 _; clear hc0)
      | (refine v_load rfl 26 (.tmp 2) rfl 0 rfl hc1 rfl _ Tryz.underlying26 rfl (sz26 d6) ?_)
      | (go_at_call 53; refine (hf _ (hB.trans (hc1.bel.mono hB.size))).mono ?_; rintro e w2 ⟨E, rfl, hE, hb2⟩; replace hc1 := hc1.call hb2; have e6 := hE.vc.sz; have eo := hE.vc.one; have e0 := hE.vc.i0; have e3 := hE.vc.i3; clear hf)
      | (refine v_decl rfl rfl 26 rfl (.tmp 6) (.tmp 12) rfl zV E z26 (fun _ => rfl) (fun _ => rfl) (by rw [e6]; rfl) (sz26 e6) eo hc1 ?_; intro w4 N4 hc4 _; have c0 := hc4.cell 0 rfl 0 e0; have c3 := hc4.cell 0 rfl 3 e3))
    go_ret2
    exact ⟨rfl, hc4.bel⟩
  · by_cases hk : x.k = 3
    · rw [if_pos hk]
      have hk' : (x.k != 3) = false := by simp [hk]
      clear hk hz
      go_enter Tryz.func49, Tryz.ntmps49
      go_wp2_with (first
        | (refine v_box rfl 26 (.tmp 0) rfl D rfl hc0 ?_; intro w1 N1 hc1 _; clear hc0)
        | (refine v_load rfl 26 (.tmp 2) rfl 0 rfl hc1 rfl _ Tryz.underlying26 rfl (sz26 d6) ?_)
        | (go_at_call 53; refine (hf _ (hB.trans (hc1.bel.mono hB.size))).mono ?_; rintro e w2 ⟨E, rfl, hE, hb2⟩; replace hc1 := hc1.call hb2; have e6 := hE.vc.sz; have eo := hE.vc.one; have e0 := hE.vc.i0; have e3 := hE.vc.i3; clear hf)
        | (refine v_decl rfl rfl 26 rfl (.tmp 6) (.tmp 12) rfl zV E z26 (fun _ => rfl) (fun _ => rfl) (by rw [e6]; rfl) (sz26 e6) eo hc1 ?_; intro w4 N4 hc4 _; have c0 := hc4.cell 0 rfl 0 e0; have c3 := hc4.cell 0 rfl 3 e3))
      go_ret2
      exact ⟨rfl, hc4.bel⟩
    · rw [if_neg hk]
      have hk' : (x.k != 3) = true := by simp [hk]
      clear hk hz
      go_enter Tryz.func49, Tryz.ntmps49
      go_wp2_with (first
        | (refine v_box rfl 26 (.tmp 0) rfl D rfl hc0 ?_; intro w1 N1 hc1 _; clear hc0)
        | (refine v_load rfl 26 (.tmp 2) rfl 0 rfl hc1 rfl _ Tryz.underlying26 rfl (sz26 d6) ?_)
        | (go_at_call 53; refine (hf _ (hB.trans (hc1.bel.mono hB.size))).mono ?_; rintro e w2 ⟨E, rfl, hE, hb2⟩; replace hc1 := hc1.call hb2; have e6 := hE.vc.sz; have eo := hE.vc.one; have e0 := hE.vc.i0; have e3 := hE.vc.i3; clear hf)
        | (refine v_decl rfl rfl 26 rfl (.tmp 6) (.tmp 12) rfl zV E z26 (fun _ => rfl) (fun _ => rfl) (by rw [e6]; rfl) (sz26 e6) eo hc1 ?_; intro w4 N4 hc4 _; have c0 := hc4.cell 0 rfl 0 e0; have c3 := hc4.cell 0 rfl 3 e3))
      go_ret2
      exact ⟨rfl, hc4.bel⟩

set_option maxRecDepth 100000 in
set_option maxHeartbeats 8000000 in
theorem stands_any (l : List EV) (v : Value) (ty key : ByteArray) (B w : World) (hB : Below B.heap.size B w) (hl : EvsAt B v l) : Calls Tryz.prog 25 #[v, .string ty, .string key] w (SOut l ty key B w) := by
  have hc0 := Ctx.start w
  obtain ⟨hlen, a, c, rfl, hev⟩ := hl
  have HEV : Hid (∀ (i : Nat) (h : i < l.length), ∃ b off C, a = some ⟨b, off, none⟩ ∧ EC B l[i] C ∧ B.rangeAt b (off + i * 22) C.toList) := hev
  clear hev
  have HN : Hid (std ty key l = std ty key (l.drop 0)) := rfl
  go_enter Tryz.func25, Tryz.ntmps25
  go_wp2_with (refine v_alloc rfl 28 rfl zE z28 hc0 ?_; intro w2 N2 hc2 _; clear hc0)
  go_loopw [8] (fun u w' => ∃ i : Nat, u = .int .i64 (i : Int) ∧ i ≤ l.length ∧ Hid (std ty key l = std ty key (l.drop i)) ∧ Ctx w w' [(N2, 28, zE)]) (fun u _ => l.length - numOf u)
  case atStart => exact ⟨0, rfl, Nat.zero_le _, HN, hc2⟩
  case round =>
    obtain ⟨i, rfl, hil, HG, hc⟩ := hrel
    clear HN hc2
    by_cases hlt : i < l.length
    · have hlt' : (i : Int) < (l.length : Int) := by omega
      obtain ⟨b, off, E, rfl, he, hrng⟩ := HEV.out i hlt
      have hdrop : Hid (l.drop i = l[i] :: l.drop (i + 1)) := List.drop_eq_getElem_cons hlt
      generalize l[i] = x at he hdrop
      have hE := he.sz
      have hE1 := he.one
      replace hrng := range_below (hB.trans (hc.bel.mono hB.size)) hrng
      have c4 : wr.cell? ⟨b, off + i * 22 + 4, none⟩ = some (.bool x.hk) := hrng 4 _ (by simpa using he.i4)
      have c1 : wr.cell? ⟨b, off + i * 22 + 1, none⟩ = some (.string x.ty) := hrng 1 _ (by simpa using he.i1)
      have c5 : wr.cell? ⟨b, off + i * 22 + 5, none⟩ = some (.string x.key) := hrng 5 _ (by simpa using he.i5)
      have HEC : Hid (EC B x E) := he
      clear he
      have q1 := beq_bytes x.ty ty
      have q5 := beq_bytes x.key key
      have hwr : IntKind.i64.wrap ((i : Int) + 1) = ((i + 1 : Nat) : Int) := by rw [wrap_small _ (by omega) (by omega)]; omega
      obtain ⟨F, hF⟩ : ∃ F, isF x ty key = F := ⟨_, rfl⟩
      have HE : Hid (std ty key l = if F then some x else std ty key (l.drop (i + 1))) := by show _ = _; rw [HG.out, hdrop.out, std, hF]
      clear HG hdrop
      unfold isF at hF
      generalize x.ty = xt at *
      generalize x.key = xk at *
      generalize x.hk = xh at *
      generalize decide (xt = ty) = b1 at *
      generalize decide (xk = key) = b5 at *
      have hrng' := hrng
      cases xh
      · subst hF
        go_wp2
        go_roundw
        case rel => exact ⟨i + 1, by simp, hlt, HE, hc⟩
        case measure => simp [numOf]; omega
      · cases b1
        · subst hF
          go_wp2
          go_roundw
          case rel => exact ⟨i + 1, by simp, hlt, HE, hc⟩
          case measure => simp [numOf]; omega
        · cases b5
          · subst hF
            go_wp2
            go_roundw
            case rel => exact ⟨i + 1, by simp, hlt, HE, hc⟩
            case measure => simp [numOf]; omega
          · subst hF
            have HE' : Hid (std ty key l = some x) := HE.out
            clear HE
            go_wp2_with (first
              | (refine wpList_load_mid rfl 28 (.tmp 40) rfl b (off + i * 22) rfl E.toList _ hrng' Tryz.underlying28 rfl (by simpa using sz28 hE) ?_)
              | (refine v_store rfl 28 (.tmp 6) (.tmp 41) rfl 0 E rfl (by simp [Act.put, Act.eval]) hc rfl (by rw [hE]; rfl) (sz28 hE) hE1 ?_; intro w5 hc5))
            exact bodyPost_ret (res_two rfl rfl rfl hc5 0 rfl _ Tryz.underlying28 rfl (sz28 hE)) rfl (sout_some HE'.out HEC.out hc5.bel)
    · have hlt' : ¬ (i : Int) < (l.length : Int) := by omega
      have HE : Hid (std ty key l = none) := by show _ = _; rw [HG.out, List.drop_eq_nil_of_le (by omega)]; rfl
      clear HG
      go_wp2_with (first
        | (refine Go.Great.wpList_buildTo rfl 28 _ rfl (some 42) rfl zE (by kernel_rfl) ?_)
        | (refine v_store rfl 28 (.tmp 6) (.tmp 42) rfl 0 zE rfl rfl hc rfl rfl (sz28 rfl) (by kernel_rfl) ?_; intro w5 hc5))
      exact bodyPost_ret (res_two rfl rfl rfl hc5 0 rfl _ Tryz.underlying28 rfl (sz28 rfl)) rfl (sout_none HE.out hc5.bel)

end Go.Proofs.YthplcnbfpcndbaaGreatDoor
