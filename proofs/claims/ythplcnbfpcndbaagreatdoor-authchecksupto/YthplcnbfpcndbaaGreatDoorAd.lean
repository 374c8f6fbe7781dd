/- What hangs on the event for a pair: levels, creator, membership, join rule, a user's level: contracts, by walking their text. -/
import Derived.Test.YthplcnbfpcndbaaGreatDoorAc
namespace Go.Proofs.YthplcnbfpcndbaaGreatDoor
open Go.RowKit

set_option maxRecDepth 100000 in
set_option maxHeartbeats 4000000 in
theorem levels_any (l : List EV) (v : Value) (B w : World) (hB : Below B.heap.size B w) (hl : EvsAt B v l) :
    Calls Tryz.prog 59 #[v] w fun e w' => ∃ D, e = .returned (.tuple #[.agg D, .bool (hasL l)]) ∧ LaidV B (lvls l) D ∧ Below w.heap.size w w' := by
  have hc0 := Ctx.start w
  have hf := fun W (h : Below B.heap.size B W) => find_any l v tL s0 B W h hl
  clear hl
  go_enter Tryz.func59, Tryz.ntmps59
  go_wp2_with (first
    | (refine v_alloc rfl 26 rfl zV z26 hc0 ?_; intro w1 N1 hc1 _; clear hc0)
    | (go_at_call 71; refine (hf _ (hB.trans (hc1.bel.mono hB.size))).mono ?_; rintro e wf ⟨E, rfl, hE, hbf⟩; replace hc1 := hc1.call hbf; have e28 := hE.sz; have eo := hE.one; obtain ⟨D, hD, hin⟩ := hE.con; have d6 := hD.vc.sz; have d1 := hD.vc.one; have HD : Hid (LaidV B (lvls l) D) := hD; clear hD hE; clear hf)
    | (refine v_decl rfl rfl 28 rfl (.tmp 4) (.tmp 9) rfl zE E z28 (fun _ => rfl) (fun _ => rfl) (by rw [e28]; rfl) (sz28 e28) eo hc1 ?_; intro wd Nd hc2 _; clear hc1)
    | (refine v_part rfl 26 (.tmp 11) rfl 0 D rfl hc2 rfl hin _ Tryz.underlying26 rfl (sz26 d6) ?_)
    | (refine v_store rfl 26 (.tmp 2) (.tmp 12) rfl 1 D rfl rfl hc2 rfl (by rw [d6]; rfl) (sz26 d6) d1 ?_; intro w5 hc5))
  exact bodyPost_ret (res_two rfl rfl rfl hc5 1 rfl _ Tryz.underlying26 rfl (sz26 d6)) rfl ⟨D, rfl, HD.out, hc5.bel⟩

set_option maxRecDepth 100000 in
set_option maxHeartbeats 4000000 in
theorem isCreator_any (l : List EV) (v : Value) (u : ByteArray) (B w : World) (hB : Below B.heap.size B w) (hl : EvsAt B v l) :
    Calls Tryz.prog 60 #[v, .string u] w fun e w' => e = .returned (.bool (isCr l u)) ∧ Below w.heap.size w w' := by
  have hc0 := Ctx.start w
  have hf : ∀ W, Below B.heap.size B W → Calls Tryz.prog 71 #[v, .string tC, .string s0] W fun e w' => ∃ C, e = .returned (.tuple #[.agg C, .bool (std tC s0 l).isSome]) ∧ EC B (stdD l tC s0) C ∧ Below W.heap.size W w' := fun W h => find_any l v tC s0 B W h hl
  have hq := beq_bytes (stdD l tC s0).snd u
  unfold isCr
  generalize decide ((stdD l tC s0).snd = u) = b at hq
  generalize (std tC s0 l).isSome = s at hf
  clear hl
  cases s <;> cases b
  all_goals
    go_enter Tryz.func60, Tryz.ntmps60
    go_wp2_with (first
      | (go_at_call 71; refine (hf _ (hB.trans (hc0.bel.mono hB.size))).mono ?_; rintro e wf ⟨E, rfl, hE, hbf⟩; replace hc0 := hc0.call hbf; have e28 := hE.sz; have eo := hE.one; have e3 := hE.i3; clear hE; clear hf)
      | (refine v_decl rfl rfl 28 rfl (.tmp 5) (.tmp 10) rfl zE E z28 (fun _ => rfl) (fun _ => rfl) (by rw [e28]; rfl) (sz28 e28) eo hc0 ?_; intro wd Nd hc2 _; have c3 := hc2.cell 0 rfl 3 e3; clear hc0))
    go_ret
    exact ⟨rfl, hc2.bel⟩

set_option maxRecDepth 100000 in
set_option maxHeartbeats 4000000 in
theorem has_any (l : List EV) (v : Value) (ty : ByteArray) (B w : World) (hB : Below B.heap.size B w) (hl : EvsAt B v l) :
    Calls Tryz.prog 36 #[v, .string ty] w fun e w' => e = .returned (.bool (std ty s0 l).isSome) ∧ Below w.heap.size w w' := by
  have hc0 := Ctx.start w
  have hf := fun W (h : Below B.heap.size B W) => find_any l v ty s0 B W h hl
  clear hl
  go_enter Tryz.func36, Tryz.ntmps36
  go_wp2_with (first
    | (go_at_call 71; refine (hf _ (hB.trans (hc0.bel.mono hB.size))).mono ?_; rintro e wf ⟨E, rfl, hE, hbf⟩; replace hc0 := hc0.call hbf; have e28 := hE.sz; have eo := hE.one; clear hE; clear hf)
    | (refine v_decl rfl rfl 28 rfl (.tmp 5) (.tmp 11) rfl zE E z28 (fun _ => rfl) (fun _ => rfl) (by rw [e28]; rfl) (sz28 e28) eo hc0 ?_; intro wd Nd hc2 _; clear hc0))
  go_ret
  exact ⟨rfl, hc2.bel⟩

set_option maxRecDepth 100000 in
set_option maxHeartbeats 4000000 in
theorem membership_any (l : List EV) (v : Value) (u : ByteArray) (B w : World) (hB : Below B.heap.size B w) (hl : EvsAt B v l) :
    Calls Tryz.prog 42 #[v, .string u] w fun e w' => e = .returned (.string (memb l u)) ∧ Below w.heap.size w w' := by
  have hc0 := Ctx.start w
  have hf := fun W (h : Below B.heap.size B W) => find_any l v tM u B W h hl
  clear hl
  go_enter Tryz.func42, Tryz.ntmps42
  go_wp2_with (first
    | (go_at_call 71; refine (hf _ (hB.trans (hc0.bel.mono hB.size))).mono ?_; rintro e wf ⟨E, rfl, hE, hbf⟩; replace hc0 := hc0.call hbf; have e28 := hE.sz; have eo := hE.one; obtain ⟨D, hD, hin⟩ := hE.con; have d6 := hD.vc.sz; have hwd := fun W h => word_any (stdD l tM u).con D sMemb sLeave B W h hD; clear hD hE; clear hf)
    | (refine v_decl rfl rfl 28 rfl (.tmp 5) (.tmp 11) rfl zE E z28 (fun _ => rfl) (fun _ => rfl) (by rw [e28]; rfl) (sz28 e28) eo hc0 ?_; intro wd Nd hc2 _; clear hc0)
    | (refine v_part rfl 26 (.tmp 13) rfl 0 D rfl hc2 rfl hin _ Tryz.underlying26 rfl (sz26 d6) ?_)
    | (go_at_call 28; refine (hwd _ (hB.trans (hc2.bel.mono hB.size))).mono ?_; rintro e wg ⟨rfl, hbg⟩; replace hc2 := hc2.call hbg))
  go_ret
  exact ⟨rfl, hc2.bel⟩

set_option maxRecDepth 100000 in
set_option maxHeartbeats 4000000 in
theorem joinRule_any (l : List EV) (v : Value) (B w : World) (hB : Below B.heap.size B w) (hl : EvsAt B v l) :
    Calls Tryz.prog 74 #[v] w fun e w' => e = .returned (.string (jrule l)) ∧ Below w.heap.size w w' := by
  have hc0 := Ctx.start w
  have hf := fun W (h : Below B.heap.size B W) => find_any l v tJ s0 B W h hl
  clear hl
  go_enter Tryz.func74, Tryz.ntmps74
  go_wp2_with (first
    | (go_at_call 71; refine (hf _ (hB.trans (hc0.bel.mono hB.size))).mono ?_; rintro e wf ⟨E, rfl, hE, hbf⟩; replace hc0 := hc0.call hbf; have e28 := hE.sz; have eo := hE.one; obtain ⟨D, hD, hin⟩ := hE.con; have d6 := hD.vc.sz; have hwd := fun W h => word_any (stdD l tJ s0).con D sRule sInvite B W h hD; clear hD hE; clear hf)
    | (refine v_decl rfl rfl 28 rfl (.tmp 3) (.tmp 8) rfl zE E z28 (fun _ => rfl) (fun _ => rfl) (by rw [e28]; rfl) (sz28 e28) eo hc0 ?_; intro wd Nd hc2 _; clear hc0)
    | (refine v_part rfl 26 (.tmp 10) rfl 0 D rfl hc2 rfl hin _ Tryz.underlying26 rfl (sz26 d6) ?_)
    | (go_at_call 28; refine (hwd _ (hB.trans (hc2.bel.mono hB.size))).mono ?_; rintro e wg ⟨rfl, hbg⟩; replace hc2 := hc2.call hbg))
  go_ret
  exact ⟨rfl, hc2.bel⟩

end Go.Proofs.YthplcnbfpcndbaaGreatDoor
