/- What is amiss, what must stand, a byte of the body. -/
import Derived.Test.YtngfoghnopnbmaaGreatDoorFe
import Derived.Test.YtngfoghnopnbmaaGreatDoorRgp
namespace Go.Proofs.YtngfoghnopnbmaaGreatDoor
open Go.RowKit
namespace Ht
open Bw

/-- An error, or none. -/
def errV : Option Int → Value
  | none => .nilIface
  | some c => .iface 34 (.int .i64 c)
/-- How a step ends. -/
def Took (G : Nat → Prop) (base fb : Nat) (r : Option Int × FM) (w : World) (e : Ending) (w' : World) : Prop := e = .returned (errV r.1) ∧ FeedAt G base fb r.2 w' ∧ Frf G base fb w w'
def amissM (m : FM) : Option Int × FM := (some (if m.wt = 4 then 31 else if m.wt < 12 then 3 else 32), m)
def mustM (m : FM) (c o : UInt8) (n : Int) : Option Int × FM := if c = o then (none, { m with wt := n }) else amissM m
/-- append to a row of the call's own, as one step of a region that draws its order. -/
theorem step_append_own {P : Program} {ops : Array Oper} {o : Oper} {a : Act} {w : World} {K : Act → World → Prop} {Q : Exit → Act → World → Prop} {E : Prop}
    (hg : o.guard = none) (s x : Operand) (t : TypeId) (hop : o.op = Op.call { callee := Callee.builtin Builtin.append, args := #[s, x], argTypes := #[t, t] })
    (base : Nat) (e : TypeId) (i : TypeInfo) (z : Value) (size bytes : Nat) (h1 : P.underlying t = some (.slice e)) (h2 : P.info? e = some i) (h3 : i.zero = some z) (h4 : i.size = size) (h5 : i.bytes = bytes) (h6 : z.cells.size = size) (h7 : 0 < size)
    (v : Value) (n : Nat) (olds : List Value) (hs : a.eval s = v) (hown : w.ownsRow base e size v n olds)
    (ad : Addr) (m c : Nat) (news : List Value) (hx : a.eval x = .slice (some ad) m c) (hn : news.length = m * size) (hc : ∀ j u, news[j]? = some u → w.cell? (ad.add j) = some u) (h1c : ∀ u ∈ news, u.oneCell' = true)
    (b1 : n + m ≤ maxLen) (b2 : (n + m) * bytes ≤ 140737488355328) (hb : base ≤ w.heap.size)
    (hK : ∀ v' w', w'.ownsRow base e size v' (n + m) (olds ++ news) → w.grownBy w' v.ownBlock → (v'.ownBlock = v.ownBlock ∨ v'.ownBlock = some w.heap.size) → K (a.put o.dst v') w') :
    if Region.wanted o (yielded ops a.tmps) = true then Oper.wp P o a w K Q else E := by
  have hw : Region.wanted o (yielded ops a.tmps) = true := by simp [Region.wanted, hg]
  rw [if_pos hw]
  obtain ⟨v', w', hrun, r1, r2, _, r4⟩ := run_append_own_at (P := P) w base t o.type e i z size bytes h1 h2 h3 h4 h5 h6 h7 v n olds hown ad m c news hn hc h1c b1 b2 hb
  unfold Oper.wp
  simp [execOp, hop, resolve, invoke, builtin, hs, hx, hrun, Result.andThen]
  exact hK v' w' r1 r2 r4

theorem own_form {w : World} {base : Nat} {e : TypeId} {size : Nat} {v : Value} {n : Nat} {xs : List Value} (h : w.ownsRow base e size v n xs) : ∃ a c, v = .slice a n c := by
  rcases h.2 with ⟨rfl, h0⟩ | ⟨g, cap, cur, rfl, _⟩
  · rw [h0]; exact ⟨_, _, rfl⟩
  · exact ⟨_, _, rfl⟩
section
variable {G : Nat → Prop} {base fb : Nat} {m : FM} {vt vh vb vw : Value} {zs : List Value} {w : World}
set_option maxRecDepth 20000 in
set_option maxHeartbeats 1000000 in
theorem amiss132 (h : FA G base fb m vt vh vb vw zs w) : Calls Tryz.prog 132 #[.pointer (some ⟨fb, 0, none⟩)] w fun e w' => e = .returned (errV (amissM m).1) ∧ w' = w := by
  have c1 := h.at 1
  simp at c1
  unfold amissM
  obtain ⟨n, hn⟩ : ∃ n, m.wt = n := ⟨_, rfl⟩
  rw [hn] at c1 ⊢
  clear h hn
  by_cases h4 : n = 4
  · subst h4
    go_enter Tryz.func132, Tryz.ntmps132
    go_wp2
    go_ret
    exact ⟨rfl, rfl⟩
  · have h4' : (n == 4) = false := beq_eq_false_iff_ne.2 h4
    by_cases h12 : n < 12
    · go_enter Tryz.func132, Tryz.ntmps132
      go_wp2
      go_ret
      exact ⟨by simp [errV], rfl⟩
    · go_enter Tryz.func132, Tryz.ntmps132
      go_wp2
      go_ret
      exact ⟨by simp [errV], rfl⟩
theorem u8_ne {a b : UInt8} (h : a ≠ b) : ((a.toNat : Int) == (b.toNat : Int)) = false := beq_eq_false_iff_ne.2 (fun e => h (UInt8.toNat_inj.1 (by omega)))
set_option maxRecDepth 20000 in
set_option maxHeartbeats 1000000 in
theorem must133 (h : FA G base fb m vt vh vb vw zs w) (c o : UInt8) (n : Int) (h1 : 1 ≤ n) (h2 : n ≤ 19) : Calls Tryz.prog 133 #[.pointer (some ⟨fb, 0, none⟩), .int .u8 (c.toNat : Int), .int .u8 (o.toNat : Int), .int .i64 n] w fun e w' => Took G base fb (mustM m c o n) w e w' := by
  have qa := amiss132 h
  have qw := await31 h n h1 h2
  have HF : Hid (FeedAt G base fb m w) := ⟨_, _, _, _, _, h⟩
  unfold mustM
  clear h
  by_cases hc : c = o
  · subst hc
    rw [if_pos rfl]
    go_enter Tryz.func133, Tryz.ntmps133
    go_wp2_with (go_at_call 31; refine qw.mono ?_; rintro e w1 ⟨rfl, k1, k2⟩; have H : Hid (FeedAt G base fb { m with wt := n } w1 ∧ Frf G base fb w w1) := ⟨⟨_, _, _, _, _, k1⟩, k2⟩; clear k1 k2)
    go_ret
    exact ⟨rfl, H.out.1, H.out.2⟩
  · rw [if_neg hc]
    have hne := u8_ne hc
    obtain ⟨E, hE⟩ : ∃ E, errV (amissM m).1 = .iface 34 E := ⟨_, rfl⟩
    have HE : Hid (errV (amissM m).1 = .iface 34 E) := hE
    rw [hE] at qa
    clear hE
    go_enter Tryz.func133, Tryz.ntmps133
    go_wp2_with (go_at_call 132; refine qa.mono ?_; rintro e w1 ⟨rfl, rfl⟩)
    go_ret
    exact ⟨by rw [HE.out]; rfl, HF.out, Fr.refl _ _⟩
set_option maxRecDepth 20000 in
set_option maxHeartbeats 1000000 in
theorem add137 (h : FA G base fb m vt vh vb vw zs w) (c : UInt8) (hl : m.g.bo.length ≤ 1000000000) (hf : -1000000000000 ≤ m.lf ∧ m.lf ≤ 1000000000000) : Calls Tryz.prog 137 #[.pointer (some ⟨fb, 0, none⟩), .int .u8 (c.toNat : Int)] w fun e w' => e = .returned (.tuple #[]) ∧ (∃ vb', FA G base fb { m with g := { m.g with bo := m.g.bo ++ [c] }, lf := m.lf - 1 } vt vh vb' vw zs w') ∧ Frf G base fb w w' := by
  have c12 := h.at 12
  simp at c12
  have hs := h.s
  have ha := allocB' w (.cells #[.int .u8 (c.toNat : Int)] 5)
  obtain ⟨L, hL⟩ : ∃ L, m.lf = L := ⟨_, rfl⟩
  go_enter Tryz.func137, Tryz.ntmps137
  go_wp2_with (refine appb_at rfl (.tmp 9) (.tmp 11) rfl base vb m.g.bo rfl ((h.keep ha).b) (.slice (some ⟨w.heap.size, 0, none⟩) 1 1) [c] rfl (one_sl w c) (by simp; omega) (by simp; omega) ?_; intro v' w3 hr hg hloc; have H3 := h.body ha hg hr (hloc.imp id (fun e k hk => by rw [e] at hk; injection hk with hk; omega)); have hfb := h.own_b; have c12' := cell_grown h ha hg hfb 12; have z12' := fz_grown h ha hg hfb 12; have H2 : Hid (Frf G base fb w (w3.setCell ⟨fb, 12, none⟩ v')) := frf_grown h ha hg (fun _ hk => h.nb hk) 12 v'; obtain ⟨va, vl, vc, rfl⟩ : ∃ va vl vc, v' = .slice va vl vc := (by obtain ⟨a, c, e⟩ := hr.form; exact ⟨_, _, _, e⟩); have c6' := H3.at 6; have z6' := H3.fz 6; have H : Hid _ := H3; clear hr hg hloc H3; simp at c12' c6'; rw [hL] at c6' hf)
  go_end0
  refine ⟨rfl, ⟨_, H.out.upd (fr_set _ 6 _) (heap_set H.out.c 6 _) rfl rfl rfl rfl⟩, H2.out.trans (frf_of (fr_set _ 6 _))⟩
theorem set_fin {w3 : World} {fb : Nat} {a0 a1 a2 a3 a4 a5 a6 a7 a8 a9 a10 a11 a12 a13 v : Value} (h : w3.heap[fb]? = some (.cells #[a0, a1, a2, a3, a4, a5, a6, a7, a8, a9, a10, a11, a12, a13] 75 (0, 0))) : ((((((((w3.setCell ⟨fb, 13, none⟩ v).setCell ⟨fb, 7, none⟩ (.string ⟨#[]⟩)).setCell ⟨fb, 8, none⟩ (.string ⟨#[]⟩)).setCell ⟨fb, 9, none⟩ (.int .i64 0)).setCell ⟨fb, 10, none⟩ (.string ⟨#[]⟩)).setCell ⟨fb, 11, none⟩ (.slice none 0 0)).setCell ⟨fb, 12, none⟩ (.slice none 0 0)).setCell ⟨fb, 4, none⟩ (.int .i64 0)).heap[fb]? = some (.cells #[a0, a1, a2, a3, .int .i64 0, a5, a6, .string ⟨#[]⟩, .string ⟨#[]⟩, .int .i64 0, .string ⟨#[]⟩, .slice none 0 0, .slice none 0 0, v] 75 (0, 0)) := by
  have h1 := heap_set h 13 v
  simp only [List.setIfInBounds_toArray, List.set_cons_zero, List.set_cons_succ] at h1
  have h2 := heap_set h1 7 (.string ⟨#[]⟩)
  simp only [List.setIfInBounds_toArray, List.set_cons_zero, List.set_cons_succ] at h2
  have h3 := heap_set h2 8 (.string ⟨#[]⟩)
  simp only [List.setIfInBounds_toArray, List.set_cons_zero, List.set_cons_succ] at h3
  have h4 := heap_set h3 9 (.int .i64 0)
  simp only [List.setIfInBounds_toArray, List.set_cons_zero, List.set_cons_succ] at h4
  have h5 := heap_set h4 10 (.string ⟨#[]⟩)
  simp only [List.setIfInBounds_toArray, List.set_cons_zero, List.set_cons_succ] at h5
  have h6 := heap_set h5 11 (.slice none 0 0)
  simp only [List.setIfInBounds_toArray, List.set_cons_zero, List.set_cons_succ] at h6
  have h7 := heap_set h6 12 (.slice none 0 0)
  simp only [List.setIfInBounds_toArray, List.set_cons_zero, List.set_cons_succ] at h7
  have h8 := heap_set h7 4 (.int .i64 0)
  simp only [List.setIfInBounds_toArray, List.set_cons_zero, List.set_cons_succ] at h8
  exact h8
theorem sz42 : (Tryz.prog.info? 42).map (·.size) = some 6 := by kernel_rfl
theorem info42 : (Tryz.prog.info? 42).map (fun i => (i.zero, i.size, i.bytes)) = some (some (.agg #[.string ⟨#[]⟩, .string ⟨#[]⟩, .int .i64 0, .string ⟨#[]⟩, .slice none 0 0, .slice none 0 0]), 6, 104) := by kernel_rfl
def finM (m : FM) : FM := { m with g := Msg.zero, hd := 0, wh := m.wh ++ [m.g], wt := 1 }
set_option maxRecDepth 20000 in
set_option maxHeartbeats 2000000 in
theorem fin136 (h : FA G base fb m vt vh vb vw zs w) (hl : m.wh.length ≤ 1000000000) : Calls Tryz.prog 136 #[.pointer (some ⟨fb, 0, none⟩)] w fun e w' => e = .returned (.tuple #[]) ∧ FeedAt G base fb (finM m) w' ∧ Frf G base fb w w' := by
  obtain ⟨j0, hj, hj0, hj1, hj2⟩ := info_parts info42
  obtain ⟨h0, h1, h2, rfl⟩ : ∃ a b c, vh = .slice a b c := by obtain ⟨a, c, e⟩ := own_form h.h; exact ⟨_, _, _, e⟩
  obtain ⟨b0, b1, b2, rfl⟩ : ∃ a b c, vb = .slice a b c := by obtain ⟨a, c, e⟩ := h.b.form; exact ⟨_, _, _, e⟩
  have hs := h.s
  have HR : Hid (∀ wq : World, wq.heap[fb]? = w.heap[fb]? → wq.rangeAt fb 7 [.string m.g.me, .string m.g.ta, .int .i64 m.g.st, .string m.g.re, .slice h0 h1 h2, .slice b0 b1 b2]) := fun wq hq j u hu => by
    rw [World.cell?_of_block (a := ⟨fb, 7 + j, none⟩) hq, h.at]
    match j, hu with
    | 0, hu => exact hu
    | 1, hu => exact hu
    | 2, hu => exact hu
    | 3, hu => exact hu
    | 4, hu => exact hu
    | 5, hu => exact hu
    | j + 6, hu => simp at hu
  have H13 : Hid (∀ wq : World, wq.heap[fb]? = w.heap[fb]? → wq.cell? ⟨fb, 13, none⟩ = some vw) := fun wq hq => by
    rw [World.cell?_of_block (a := ⟨fb, 13, none⟩) hq, h.at]
    rfl
  have hfb : fb < w.heap.size := lt_of_block h.c
  have ha := (below_drewN (Below.refl w.heap.size w) 1).trans ((allocB' w.drew (.cells #[.string m.g.me, .string m.g.ta, .int .i64 m.g.st, .string m.g.re, .slice h0 h1 h2, .slice b0 b1 b2] 42)).mono (by simp))
  go_enter Tryz.func136, Tryz.ntmps136
  go_wp2
  apply Rg.region_held_last2 (S := fun w' => w'.heap[fb]? = w.heap[fb]?) (by kernel_rfl) rfl
  case hl => simp only [List.dropLast_cons_cons, List.dropLast_singleton]; rfl
  case ho => simp only [List.getLast?_cons_cons, List.getLast?_singleton]; rfl
  case hd => rfl
  case hg => rfl
  case hL => kernel_rfl
  case h =>
    intro hS
    simp only [List.cons_append, List.nil_append, Rg.idle]
    refine wpAnyH_take (i := 0) (v := .pointer (some ⟨fb, 0, none⟩)) rfl (by kernel_rfl) (by kernel_rfl) (by kernel_rfl) (fun _ _ _ h => absurd h.1 (by simp)) (Or.inl ⟨by kernel_rfl, fun wq hS => by clear hS; go_simp⟩) hS ?_
    try simp only [Act.put, List.getElem_toArray, List.getElem_cons_zero, List.setIfInBounds_toArray, List.set_cons_zero, List.set_cons_succ]
    refine wpAnyH_take (i := 1) (v := .pointer (some ⟨fb, 0, none⟩)) rfl (by kernel_rfl) (by kernel_rfl) (by kernel_rfl) (fun _ _ _ h => absurd h.1 (by simp)) (Or.inl ⟨by kernel_rfl, fun wq hS => by clear hS; go_simp⟩) hS ?_
    try simp only [Act.put, List.getElem_toArray, List.getElem_cons_succ, List.getElem_cons_zero, List.setIfInBounds_toArray, List.set_cons_zero, List.set_cons_succ]
    refine wpAnyH_take (i := 2) (v := .pointer (some ⟨fb, 0, none⟩)) rfl (by kernel_rfl) (by kernel_rfl) (by kernel_rfl) (fun _ _ _ h => absurd h.1 (by simp)) (Or.inl ⟨by kernel_rfl, fun wq hS => by clear hS; go_simp⟩) hS ?_
    try simp only [Act.put, List.getElem_toArray, List.getElem_cons_succ, List.getElem_cons_zero, List.setIfInBounds_toArray, List.set_cons_zero, List.set_cons_succ]
    refine wpAnyH_take (i := 3) (v := .pointer (some ⟨fb, 13, none⟩)) rfl (by kernel_rfl) (by kernel_rfl) (by kernel_rfl) (fun _ _ _ h => absurd h.1 (by simp)) (Or.inl ⟨by kernel_rfl, fun wq hS => by clear hS; go_simp⟩) hS ?_
    try simp only [Act.put, List.getElem_toArray, List.getElem_cons_succ, List.getElem_cons_zero, List.setIfInBounds_toArray, List.set_cons_zero, List.set_cons_succ]
    refine wpAnyH_take (i := 4) (v := vw) rfl (by kernel_rfl) (by kernel_rfl) (by kernel_rfl) (fun _ _ _ h => absurd h.1 (by simp)) (Or.inl ⟨by kernel_rfl, fun wq hS => by have g5 := H13.out wq hS; clear hS; go_simp⟩) hS ?_
    try simp only [Act.put, List.getElem_toArray, List.getElem_cons_succ, List.getElem_cons_zero, List.setIfInBounds_toArray, List.set_cons_zero, List.set_cons_succ]
    refine wpAnyH_take (i := 5) (v := .pointer (some ⟨fb, 0, none⟩)) rfl (by kernel_rfl) (by kernel_rfl) (by kernel_rfl) (fun _ _ _ h => absurd h.1 (by simp)) (Or.inl ⟨by kernel_rfl, fun wq hS => by clear hS; go_simp⟩) hS ?_
    try simp only [Act.put, List.getElem_toArray, List.getElem_cons_succ, List.getElem_cons_zero, List.setIfInBounds_toArray, List.set_cons_zero, List.set_cons_succ]
    refine wpAnyH_take (i := 6) (v := .pointer (some ⟨fb, 0, none⟩)) rfl (by kernel_rfl) (by kernel_rfl) (by kernel_rfl) (fun _ _ _ h => absurd h.1 (by simp)) (Or.inl ⟨by kernel_rfl, fun wq hS => by clear hS; go_simp⟩) hS ?_
    try simp only [Act.put, List.getElem_toArray, List.getElem_cons_succ, List.getElem_cons_zero, List.setIfInBounds_toArray, List.set_cons_zero, List.set_cons_succ]
    refine wpAnyH_take (i := 7) (v := .pointer (some ⟨fb, 7, none⟩)) rfl (by kernel_rfl) (by kernel_rfl) (by kernel_rfl) (fun _ _ _ h => absurd h.1 (by simp)) (Or.inl ⟨by kernel_rfl, fun wq hS => by clear hS; go_simp⟩) hS ?_
    try simp only [Act.put, List.getElem_toArray, List.getElem_cons_succ, List.getElem_cons_zero, List.setIfInBounds_toArray, List.set_cons_zero, List.set_cons_succ]
    refine wpAnyH_take (i := 8) (v := .agg #[.string m.g.me, .string m.g.ta, .int .i64 m.g.st, .string m.g.re, .slice h0 h1 h2, .slice b0 b1 b2]) rfl (by kernel_rfl) (by kernel_rfl) (by kernel_rfl) (fun _ _ _ h => absurd h.1 (by simp)) (yieldsIf_load_mid (by kernel_rfl) 42 (.tmp 9) rfl fb 7 rfl [.string m.g.me, .string m.g.ta, .int .i64 m.g.st, .string m.g.re, .slice h0 h1 h2, .slice b0 b1 b2] _ (fun wq hq => HR.out wq hq) Tryz.underlying42 rfl sz42) hS ?_
    try simp only [Act.put, List.getElem_toArray, List.getElem_cons_succ, List.getElem_cons_zero, List.setIfInBounds_toArray, List.set_cons_zero, List.set_cons_succ]
    refine wpAnyH_ready (rs := [9]) (by kernel_rfl) (by simp) ?_
    refine AllReadyH.cons rfl (fun K' hK' => ?_) AllReadyH.nil
    go_simp
    refine hK'.out _ _ (ha.block fb hfb) (fun hS => ?_)
    clear hK' K'
    try simp only [Act.put, List.getElem_toArray, List.getElem_cons_succ, List.getElem_cons_zero, List.setIfInBounds_toArray, List.set_cons_zero, List.set_cons_succ]
    refine wpAnyH_ready (rs := [10]) (by kernel_rfl) (by simp) ?_
    refine AllReadyH.cons rfl (fun K' hK' => ?_) AllReadyH.nil
    refine step_append_own rfl (.tmp 6) (.tmp 11) 28 rfl base 42 j0 _ 6 104 Tryz.underlying28 hj hj0 hj1 hj2 rfl (by decide) vw m.wh.length zs rfl (h.keep ha).o ⟨w.heap.size, 0, none⟩ 1 1 [.string m.g.me, .string m.g.ta, .int .i64 m.g.st, .string m.g.re, .slice h0 h1 h2, .slice b0 b1 b2] rfl rfl (cells_new w.drew [.string m.g.me, .string m.g.ta, .int .i64 m.g.st, .string m.g.re, .slice h0 h1 h2, .slice b0 b1 b2] 42) (by simp [Value.oneCell']) (by unfold maxLen; omega) (by omega) (by simp; omega) ?_
    intro v' w3 hown' hgrow hloc
    have hS3 := blk_grown h ha hgrow h.own_o
    refine hK'.out _ _ hS3 (fun hS => ?_)
    clear hK' K'
    try simp only [Act.put, List.getElem_toArray, List.getElem_cons_succ, List.getElem_cons_zero, List.setIfInBounds_toArray, List.set_cons_zero, List.set_cons_succ]
    refine wpAnyH_take (i := 11) (v := .pointer (some ⟨fb, 0, none⟩)) rfl (by kernel_rfl) (by kernel_rfl) (by kernel_rfl) (fun _ _ _ h => absurd h.1 (by simp)) (Or.inl ⟨by kernel_rfl, fun wq hS => by clear hS; go_simp⟩) hS ?_
    try simp only [Act.put, List.getElem_toArray, List.getElem_cons_succ, List.getElem_cons_zero, List.setIfInBounds_toArray, List.set_cons_zero, List.set_cons_succ]
    refine wpAnyH_take (i := 12) (v := .pointer (some ⟨fb, 13, none⟩)) rfl (by kernel_rfl) (by kernel_rfl) (by kernel_rfl) (fun _ _ _ h => absurd h.1 (by simp)) (Or.inl ⟨by kernel_rfl, fun wq hS => by clear hS; go_simp⟩) hS ?_
    try simp only [Act.put, List.getElem_toArray, List.getElem_cons_succ, List.getElem_cons_zero, List.setIfInBounds_toArray, List.set_cons_zero, List.set_cons_succ]
    refine wpAnyH_take (i := 13) (v := undef) rfl (by kernel_rfl) (by kernel_rfl) (by kernel_rfl) (fun _ _ _ h => absurd h.1 (by simp)) (Or.inl ⟨by kernel_rfl, fun wq hS => by clear hS; go_simp⟩) hS ?_
    try simp only [Act.put, List.getElem_toArray, List.getElem_cons_succ, List.getElem_cons_zero]
    refine wpAnyH_done (by kernel_rfl) ?_ _
    refine ⟨rfl, ?_⟩
    obtain ⟨fa, fl, fc, rfl⟩ : ∃ a b c, v' = .slice a b c := by obtain ⟨a, c, e⟩ := own_form hown'; exact ⟨_, _, _, e⟩
    have hl2 : (Value.slice fa fl fc).ownBlock = vw.ownBlock ∨ ∀ k, (Value.slice fa fl fc).ownBlock = some k → (w.drew.alloc (.cells #[.string m.g.me, .string m.g.ta, .int .i64 m.g.st, .string m.g.re, .slice h0 h1 h2, .slice b0 b1 b2] 42)).heap.size ≤ k := hloc.imp id (fun e k hk => Nat.le_of_eq (Option.some.inj (e.symm.trans hk)))
    have frs := ((((((((fr_set (fb := fb) w3 13 (.slice fa fl fc)).and (fr_set _ 7 (.string ⟨#[]⟩)) (fun _ _ x => x)).and (fr_set _ 8 (.string ⟨#[]⟩)) (fun _ _ x => x)).and (fr_set _ 9 (.int .i64 0)) (fun _ _ x => x)).and (fr_set _ 10 (.string ⟨#[]⟩)) (fun _ _ x => x)).and (fr_set _ 11 (.slice none 0 0)) (fun _ _ x => x)).and (fr_set _ 12 (.slice none 0 0)) (fun _ _ x => x)).and (fr_set _ 4 (.int .i64 0)) (fun _ _ x => x))
    have H4 : Hid _ := h.fin ha hgrow hown' hl2 (w4 := ((((((((w3.setCell ⟨fb, 13, none⟩ (.slice fa fl fc)).setCell ⟨fb, 7, none⟩ (.string ⟨#[]⟩)).setCell ⟨fb, 8, none⟩ (.string ⟨#[]⟩)).setCell ⟨fb, 9, none⟩ (.int .i64 0)).setCell ⟨fb, 10, none⟩ (.string ⟨#[]⟩)).setCell ⟨fb, 11, none⟩ (.slice none 0 0)).setCell ⟨fb, 12, none⟩ (.slice none 0 0)).setCell ⟨fb, 4, none⟩ (.int .i64 0))) frs (set_fin (hS3.trans h.c))
    have H5 : Hid (Frf G base fb w ((((((((w3.setCell ⟨fb, 13, none⟩ (.slice fa fl fc)).setCell ⟨fb, 7, none⟩ (.string ⟨#[]⟩)).setCell ⟨fb, 8, none⟩ (.string ⟨#[]⟩)).setCell ⟨fb, 9, none⟩ (.int .i64 0)).setCell ⟨fb, 10, none⟩ (.string ⟨#[]⟩)).setCell ⟨fb, 11, none⟩ (.slice none 0 0)).setCell ⟨fb, 12, none⟩ (.slice none 0 0)).setCell ⟨fb, 4, none⟩ (.int .i64 0))) := Frf.trans ((Fr.of_below ha : Frf G base fb w _).and (Fr.grown (S := fun k => k = fb ∨ (base ≤ k ∧ ¬ G k)) hgrow (fun _ hk _ => .inr (h.no hk))) (fun _ _ x => x)) (frf_of frs)
    have cw := fun i => cell_grown h ha hgrow h.own_o i
    have zw := fun i => fz_grown h ha hgrow h.own_o i
    have k4 := cw 4
    have z4 := zw 4
    have k7 := cw 7
    have z7 := zw 7
    have k8 := cw 8
    have z8 := zw 8
    have k9 := cw 9
    have z9 := zw 9
    have k10 := cw 10
    have z10 := zw 10
    have k11 := cw 11
    have z11 := zw 11
    have k12 := cw 12
    have z12 := zw 12
    have k13 := cw 13
    have z13 := zw 13
    simp at k4 k7 k8 k9 k10 k11 k12 k13
    clear cw zw hl2 frs hown' hgrow hloc hS hS3 HR H13 h ha
    go_simp
    go_wp2_with (go_at_call 31; refine (await31 H4.out 1 (by decide) (by decide)).mono ?_; rintro e w5 ⟨rfl, u1, u2⟩; have H6 : Hid _ := u1; have H7 : Hid _ := Frf.trans H5.out u2; clear u1 u2)
    go_end0
    exact ⟨rfl, ⟨_, _, _, _, _, H6.out⟩, H7.out⟩
end
end Ht
end Go.Proofs.YtngfoghnopnbmaaGreatDoor
