/- Words and numbers of a content; the event for a pair: contracts, by walking their text. -/
import Derived.Test.YthplcnbfpcndbaaGreatDoorAa
namespace Go.Proofs.YthplcnbfpcndbaaGreatDoor
open Go.RowKit

/-- A number, or none, as a struct. -/
abbrev nC (p : Int × Bool) : Array Value := #[.int .i64 p.1, .bool p.2]
theorem nC_one (p : Int × Bool) : (nC p).all (·.oneCell') = true := all_oneCell_toArray (cs := [.int .i64 p.1, .bool p.2]) (fun v hv => by
  rcases List.mem_cons.1 hv with rfl | hv
  · rfl
  · rcases List.mem_cons.1 hv with rfl | hv
    · rfl
    · cases hv)
theorem sz63 (p : Int × Bool) : (Tryz.prog.info? 75).map (·.size) = some (nC p).size := n63

set_option maxRecDepth 100000 in
set_option maxHeartbeats 4000000 in
theorem asNumber_any (v : GV) (D : Array Value) (B w : World) (hv : LaidV B v D) :
    Calls Tryz.prog 90 #[.agg D] w fun e w' => e = .returned (.agg (nC (numV v))) ∧ Below w.heap.size w w' := by
  have hc0 := Ctx.start w
  have i0 := hv.vc.i0
  have i2 := hv.vc.i2
  unfold numV
  by_cases hk : v.k = 2
  · rw [if_pos hk]
    have hk' : (v.k != 2) = false := by simp [hk]
    clear hk
    go_enter Tryz.func90, Tryz.ntmps90
    go_wp2_with (first
      | (refine v_box rfl 26 (.tmp 0) rfl D rfl hc0 ?_; intro w1 N1 hc1 _; clear hc0)
      | (refine v_alloc rfl 75 rfl (nC (0, false)) z63 hc1 ?_; intro w2 N2 hc2 _; have c0 := hc2.cell 1 rfl 0 i0; have c2 := hc2.cell 1 rfl 2 i2; clear hc1)
      | (refine v_store rfl 75 (.tmp 2) (.tmp 9) rfl 0 (nC (v.n, true)) rfl rfl hc2 rfl rfl n63 (nC_one _) ?_; intro w3 hc3))
    exact bodyPost_ret (res_one rfl rfl hc3 0 rfl _ Tryz.underlying75 rfl n63) rfl ⟨rfl, hc3.bel⟩
  · rw [if_neg hk]
    have hk' : (v.k != 2) = true := by simp [hk]
    clear hk
    go_enter Tryz.func90, Tryz.ntmps90
    go_wp2_with (first
      | (refine v_box rfl 26 (.tmp 0) rfl D rfl hc0 ?_; intro w1 N1 hc1 _; clear hc0)
      | (refine v_alloc rfl 75 rfl (nC (0, false)) z63 hc1 ?_; intro w2 N2 hc2 _; have c0 := hc2.cell 1 rfl 0 i0; clear hc1)
      | (refine v_store rfl 75 (.tmp 2) (.tmp 6) rfl 0 (nC (0, false)) rfl rfl hc2 rfl rfl n63 (nC_one _) ?_; intro w3 hc3))
    exact bodyPost_ret (res_one rfl rfl hc3 0 rfl _ Tryz.underlying75 rfl n63) rfl ⟨rfl, hc3.bel⟩

set_option maxRecDepth 100000 in
set_option maxHeartbeats 4000000 in
theorem or_any (p : Int × Bool) (d : Int) (w : World) :
    Calls Tryz.prog 63 #[.agg (nC p), .int .i64 d] w fun e w' => e = .returned (.int .i64 (orN p d)) ∧ Below w.heap.size w w' := by
  have hc0 := Ctx.start w
  obtain ⟨n, b⟩ := p
  cases b
  all_goals
    go_enter Tryz.func63, Tryz.ntmps63
    go_wp2_with (refine v_box rfl 75 (.tmp 0) rfl _ rfl hc0 ?_; intro w1 N1 hc1 _; have c0 := hc1.cell 0 rfl 0 rfl; have c1 := hc1.cell 0 rfl 1 rfl)
    go_ret
    exact ⟨rfl, hc1.bel⟩

set_option maxRecDepth 100000 in
set_option maxHeartbeats 4000000 in
theorem word_any (v : GV) (D : Array Value) (nm ot : ByteArray) (B w : World) (hB : Below B.heap.size B w) (hv : LaidV B v D) :
    Calls Tryz.prog 28 #[.agg D, .string nm, .string ot] w fun e w' => e = .returned (.string (wrd v nm ot)) ∧ Below w.heap.size w w' := by
  have hc0 := Ctx.start w
  have hf := fun W (h : Below B.heap.size B W) => field_any v D nm B W h hv
  have d6 := hv.vc.sz
  unfold wrd
  by_cases hk : (fldD v nm).k = 3
  · rw [if_pos hk]
    have hk' : ((fldD v nm).k != 3) = false := by simp [hk]
    clear hk
    go_enter Tryz.func28, Tryz.ntmps28
    go_wp2_with (first
      | (refine v_box rfl 26 (.tmp 0) rfl D rfl hc0 ?_; intro w1 N1 hc1 _; clear hc0)
      | (refine v_load rfl 26 (.tmp 3) rfl 0 rfl hc1 rfl _ Tryz.underlying26 rfl (sz26 d6) ?_)
      | (go_at_call 61; refine (hf _ (hB.trans (hc1.bel.mono hB.size))).mono ?_; rintro e w2 ⟨E, rfl, hE, hb2⟩; replace hc1 := hc1.call hb2; have e6 := hE.vc.sz; have eo := hE.vc.one; have e0 := hE.vc.i0; have e3 := hE.vc.i3; clear hf)
      | (refine v_decl rfl rfl 26 rfl (.tmp 7) (.tmp 13) rfl zV E z26 (fun _ => rfl) (fun _ => rfl) (by rw [e6]; rfl) (sz26 e6) eo hc1 ?_; intro w4 N4 hc4 _; have c0 := hc4.cell 0 rfl 0 e0; have c3 := hc4.cell 0 rfl 3 e3))
    go_ret
    exact ⟨rfl, hc4.bel⟩
  · rw [if_neg hk]
    have hk' : ((fldD v nm).k != 3) = true := by simp [hk]
    clear hk
    go_enter Tryz.func28, Tryz.ntmps28
    go_wp2_with (first
      | (refine v_box rfl 26 (.tmp 0) rfl D rfl hc0 ?_; intro w1 N1 hc1 _; clear hc0)
      | (refine v_load rfl 26 (.tmp 3) rfl 0 rfl hc1 rfl _ Tryz.underlying26 rfl (sz26 d6) ?_)
      | (go_at_call 61; refine (hf _ (hB.trans (hc1.bel.mono hB.size))).mono ?_; rintro e w2 ⟨E, rfl, hE, hb2⟩; replace hc1 := hc1.call hb2; have e6 := hE.vc.sz; have eo := hE.vc.one; have e0 := hE.vc.i0; clear hf)
      | (refine v_decl rfl rfl 26 rfl (.tmp 7) (.tmp 13) rfl zV E z26 (fun _ => rfl) (fun _ => rfl) (by rw [e6]; rfl) (sz26 e6) eo hc1 ?_; intro w4 N4 hc4 _; have c0 := hc4.cell 0 rfl 0 e0))
    go_ret
    exact ⟨rfl, hc4.bel⟩

set_option maxRecDepth 100000 in
set_option maxHeartbeats 4000000 in
theorem numberOf_any (v : GV) (D : Array Value) (nm : ByteArray) (B w : World) (hB : Below B.heap.size B w) (hv : LaidV B v D) :
    Calls Tryz.prog 62 #[.agg D, .string nm] w fun e w' => e = .returned (.agg (nC (num v nm))) ∧ Below w.heap.size w w' := by
  have hc0 := Ctx.start w
  have hf := fun W (h : Below B.heap.size B W) => field_any v D nm B W h hv
  have hn := fun E (h : LaidV B (fldD v nm) E) W => asNumber_any (fldD v nm) E B W h
  have d6 := hv.vc.sz
  unfold num
  generalize numV (fldD v nm) = p at hn
  go_enter Tryz.func62, Tryz.ntmps62
  go_wp2_with (first
    | (refine v_box rfl 26 (.tmp 0) rfl D rfl hc0 ?_; intro w1 N1 hc1 _; clear hc0)
    | (refine v_alloc rfl 75 rfl (nC (0, false)) z63 hc1 ?_; intro w2 N2 hc2 _; clear hc1)
    | (refine v_load rfl 26 (.tmp 2) rfl 1 rfl hc2 rfl _ Tryz.underlying26 rfl (sz26 d6) ?_)
    | (go_at_call 61; refine (hf _ (hB.trans (hc2.bel.mono hB.size))).mono ?_; rintro e w2 ⟨E, rfl, hE, hb2⟩; replace hc2 := hc2.call hb2; have e6 := hE.vc.sz; have eo := hE.vc.one; replace hn := hn E hE; clear hE hf)
    | (refine v_decl rfl rfl 26 rfl (.tmp 5) (.tmp 11) rfl zV E z26 (fun _ => rfl) (fun _ => rfl) (by rw [e6]; rfl) (sz26 e6) eo hc2 ?_; intro w4 N4 hc4 _; clear hc2)
    | (refine v_load rfl 26 (.tmp 5) rfl 0 rfl hc4 rfl _ Tryz.underlying26 rfl (sz26 e6) ?_)
    | (go_at_call 90; refine (hn _).mono ?_; rintro e w5 ⟨rfl, hb5⟩; replace hc4 := hc4.call hb5)
    | (refine v_store rfl 75 (.tmp 4) (.tmp 14) rfl 1 (nC p) rfl rfl hc4 rfl rfl n63 (nC_one _) ?_; intro w6 hc6))
  exact bodyPost_ret (res_one rfl rfl hc6 1 rfl _ Tryz.underlying75 rfl n63) rfl ⟨rfl, hc6.bel⟩
end Go.Proofs.YthplcnbfpcndbaaGreatDoor
