/- What the reference's Append does where there is room: contracts, by walking its text. -/
import Derived.Test.YtlnefgppenokkaaRfb
import Derived.Deep.RegionHeld
namespace Go.Proofs.Ytlnefgppenokkaa
open Go.RowKit
namespace Rf
open Bw Rg Dk

theorem layL_split (f : RF) : ∀ fs : List RF, ∃ l1 l2, layL f fs = l1 ++ f :: l2 ∧ fs = l1 ++ l2
  | [] => ⟨[], [], rfl, rfl⟩
  | x :: r => by
    obtain ⟨l1, l2, h1, h2⟩ := layL_split f r
    unfold layL
    split
    · exact ⟨[], x :: r, rfl, rfl⟩
    · exact ⟨x :: l1, l2, by rw [h1]; rfl, by rw [h2]; rfl⟩
/-- What is a disk's afterwards was so before, or is new. -/
def RGrew (r r' : Rs) (w : World) : Prop := ∀ k ∈ r'.foot, k ∈ r.foot ∨ w.heap.size ≤ k
/-- Bytes of a slice, put behind a row that the call owns: as a run. -/
theorem app_run {w : World} (base : Nat) (v : Value) (bs : List UInt8) (hrow : RowB base w v bs) (u : Value) (ns : List UInt8) (hu : SlM w u ns) (hlen : bs.length + ns.length ≤ 140737488355328) (hbase : base ≤ w.heap.size) (ty : TypeId) :
    ∃ a n c w', (Builtin.append_ #[35, 35] ty #[v, u]).run Try.prog w = .ok (.slice a n c) w' ∧ RowB base w' (.slice a n c) (bs ++ ns) ∧ Below base w w' := by
  obtain ⟨i0, hi, hz0, hz1, hz2⟩ := info_parts info5
  have fin : ∀ v' w', (Builtin.append_ #[35, 35] ty #[v, u]).run Try.prog w = .ok v' w' → RowB base w' v' (bs ++ ns) → Below base w w' → ∃ a n c w', (Builtin.append_ #[35, 35] ty #[v, u]).run Try.prog w = .ok (.slice a n c) w' ∧ RowB base w' (.slice a n c) (bs ++ ns) ∧ Below base w w' := fun v' w' h1 h2 h3 => by
    obtain ⟨a, c, rfl⟩ := h2.form
    exact ⟨a, _, c, w', h1, h2, h3⟩
  rcases hu with ⟨e, rfl | ⟨y, cap, rfl, _⟩⟩ | ⟨b, off, cap, rfl, h1, h2, hc⟩
  · exact fin v w (run_append_owned_none (P := Try.prog) (w := w) base 35 ty 5 i0 1 Try.underlying35 hi v _ _ hrow) (by rw [e, List.append_nil]; exact hrow) (Below.refl _ _)
  · obtain ⟨v', w', hr, ho, hg, _, _⟩ := run_append_own_at (P := Try.prog) w base 35 ty 5 i0 (.int .u8 0) 1 1 Try.underlying35 hi hz0 hz1 hz2 rfl (by decide) v _ _ hrow y 0 cap [] rfl (fun j u hj => by simp at hj) (by simp) (by unfold maxLen; omega) (by omega) hbase
    refine fin v' w' hr ?_ (RowB.grown hrow hg hbase)
    have := RowB.more (ns := []) ho rfl rfl
    rw [e]
    exact this
  · obtain ⟨v', w', hr, ho, hg, _, _⟩ := run_append_own_at (P := Try.prog) w base 35 ty 5 i0 (.int .u8 0) 1 1 Try.underlying35 hi hz0 hz1 hz2 rfl (by decide) v _ _ hrow ⟨b, off, none⟩ ns.length cap (Lib.byteCells ns) (by rw [Lib.byteCells_length]; omega) (fun j u hj => by
        have hj2 : j < ns.length := by
          rcases Nat.lt_or_ge j ns.length with h' | h'
          · exact h'
          · rw [List.getElem?_eq_none (by rw [Lib.byteCells_length]; exact h')] at hj; cases hj
        rw [addO, hc j hj2, ← hj]
        simp [Lib.byteCells, hj2]) (one_byte _) (by unfold maxLen; omega) (by omega) hbase
    exact fin v' w' hr (RowB.more ho rfl rfl) (RowB.grown hrow hg hbase)
/-- The same, as one step of a region that draws its order. -/
theorem step_app {ops : Array Oper} {o : Oper} {a : Act} {w : World} {K : Act → World → Prop} {Q : Exit → Act → World → Prop} {E : Prop}
    (hg : o.guard = none) (s x : Operand) (hop : o.op = Op.call { callee := Callee.builtin Builtin.append, args := #[s, x], argTypes := #[35, 35] }) (v u v' : Value) (w' : World) (hs : a.eval s = v) (hx : a.eval x = u)
    (hrun : (Builtin.append_ #[35, 35] o.type #[v, u]).run Try.prog w = .ok v' w') (hK : K (a.put o.dst v') w') :
    if Region.wanted o (yielded ops a.tmps) = true then Oper.wp Try.prog o a w K Q else E := by
  have hw : Region.wanted o (yielded ops a.tmps) = true := by simp [Region.wanted, hg]
  rw [if_pos hw]
  unfold Oper.wp
  simp [execOp, hop, resolve, invoke, builtin, hs, hx, hrun, Result.andThen]
  exact hK
theorem slm_lt' {w : World} {v : Value} {bs : List UInt8} (hv : SlM w v bs) : ∀ x l c, v = .slice (some x) l c → 0 < l → x.block < w.heap.size := by
  rintro x l c rfl hl
  rcases hv with ⟨rfl, h | ⟨y, cap, h, _⟩⟩ | ⟨g, off, cap, h, h1, h2, hc⟩
  · cases h
  · cases h
    omega
  · cases h
    exact cell_lt (hc 0 hl)
set_option maxHeartbeats 2000000 in
set_option maxRecDepth 4000 in
theorem rappend_hit (w : World) (r : Rs) (bb o1 : Bool) (b1 s1 : Int) (s : ByteArray) (b : Value) (ns : List UInt8) (l1 l2 : List RF) (f : RF) (e : r.fs = l1 ++ f :: l2) (hn1 : ∀ g ∈ l1, g.nm ≠ f.nm) (hs : f.nm = s) (h : RefAt w r) (hnm : isNm s = true) (ho : r.off = false) (hb : SlM w b ns)
    (hap : ∀ x l c, b = .slice (some x) l c → 0 < l → x.block ∉ r.foot) (hlen : r.fs.length ≤ 1099511627775)
    (hfull : (rused r.fs : Int) ≤ r.room) (hroom : r.room ≤ 9223372036854775807) (hyes : (ns.length : Int) ≤ r.room - (rused r.fs : Int)) (hbig : rused r.fs + ns.length ≤ 140737488355328)
    (hstep : ∀ W, RefAt W r → Calls Try.prog 44 #[.pointer (some ⟨r.rb, 0, none⟩)] W fun e w' => e = .returned (.bool bb) ∧ RefAt w' { r with off := o1, bud := b1, st := s1 } ∧ Fr (fun k => k = r.rb) W w') :
    Calls Try.prog 24 #[.pointer (some ⟨r.rb, 0, none⟩), .string s, b] w fun e w' => ∃ v, e = .returned (.int .i64 (if bb = true then 0 else 11)) ∧ RefAt w' { r with off := o1, bud := b1, st := s1, fs := l1 ++ { f with v := v, bs := f.bs ++ ns } :: l2 } ∧ (∀ k, v.ownBlock = some k → w.heap.size ≤ k) ∧ Fr (Own r) w w' := by
  have hsz := nm_size hnm
  have hc := fun W => named_any s W (by omega)
  rw [hnm] at hc
  have c2 := h.c2
  rw [ho] at c2
  have hdl := lt_of_block h.cells
  have k0 : ∀ x : Cl w.heap.size w, x.u.cell? ⟨r.rb, 0, none⟩ = some (.int .i64 r.room) := fun x => x.cell h.c0 hdl
  have hu := fun (x : Cl w.heap.size w) => (rused_any x.u r (h.below x.h) (by omega) (by omega)).mono (R' := fun e w' => e = .returned (.int .i64 (rused r.fs : Int)) ∧ Below x.u.heap.size x.u w') (fun e w' ⟨h1, h2⟩ => ⟨h1, by rw [h2]; exact Below.refl _ _⟩)
  have hne := Cl.ne w.heap.size w
  have hblt := slm_lt' hb
  have hfm : f ∈ r.fs := by rw [e]; simp
  have hflen : f.bs.length ≤ rused r.fs := by rw [e]; simp [rused]; omega
  have HFL : Hid (f.bs.length + ns.length ≤ 140737488355328) := by show _ ≤ _; omega
  have cfi := fun (W : World) (hW : RefAt W { r with off := o1, bud := b1, st := s1 }) => hs ▸ rfind_hit W { r with off := o1, bud := b1, st := s1 } l1 l2 f hW e hn1 (by show r.fs.length ≤ _; omega)
  obtain ⟨sa, sc, hbv⟩ := hb.sl.form
  have HBV : Hid (b = .slice sa ns.length sc) := hbv
  have HAP : Hid (∀ x l c, b = .slice (some x) l c → 0 < l → x.block ∉ r.foot) := hap
  have HBL : Hid (∀ x l c, b = .slice (some x) l c → 0 < l → x.block < w.heap.size) := hblt
  rw [hbv]
  obtain ⟨U, hU⟩ : ∃ U, rused r.fs = U := ⟨_, rfl⟩
  rw [hU] at hu hfull hyes hbig
  obtain ⟨L, hL⟩ : ∃ L, ns.length = L := ⟨_, rfl⟩
  have HL : Hid (ns.length = L) := hL
  rw [hL] at hyes hbig ⊢
  have hno' : ¬ r.room - (U : Int) < (L : Int) := by omega
  have HB0 : Hid (SlM w b ns) := hb
  have hfe := fun (W : World) (hW : RefAt W { r with off := o1, bud := b1, st := s1 }) => hW.at e
  obtain ⟨N, hN⟩ : ∃ N, r.fs.length = N := ⟨_, rfl⟩
  have HN : Hid (r.fs.length = N) := hN
  rw [hN] at hlen
  obtain ⟨K, hK⟩ : ∃ K, l1.length = K := ⟨_, rfl⟩
  have HK : Hid (l1.length = K) := hK
  rw [hK] at cfi
  have hK0 : ¬ (K : Int) < 0 := by omega
  have HKN : Hid ((K : Int) < (N : Int)) := by show _ < _; rw [← hK, ← hN, e]; simp; omega
  have HE : Hid (r.fs = l1 ++ f :: l2) := e
  have HS : Hid (f.nm = s) := hs
  clear e hs hN
  clear hU hL hbv hap hblt hb hK
  go_enter Try.func24, Try.ntmps24
  go_wp2_with (go_at_call 43; refine (hc _).mono ?_; rintro e w1 ⟨rfl, rfl⟩)
  refine region_cl (N := w1.heap.size) (W := w1) (by kernel_rfl) (by kernel_rfl) (Below.refl _ _) ?_
  repeat (go_big_quiet_step ((go_at_call 37; exact cl_of (hu _) (Nat.le_refl _))))
  refine wpQuiet_nil ?_
  rintro _ ⟨x, rfl⟩
  have hx := x.h
  obtain ⟨w2, hw2⟩ : ∃ v, x.u = v := ⟨_, rfl⟩
  rw [hw2] at hx ⊢
  clear hw2 x k0 hu hne c2
  have h2 : RefAt w2 r := h.below hx
  have HX : Hid (Below w1.heap.size w1 w2) := hx
  clear hx
  go_wp2_with (first
    | (go_at_call 44; refine (hstep _ h2).mono ?_; rintro e w3 ⟨rfl, h3, f3⟩; have HF3 : Hid (Fr (Own r) w1 w3) := (Fr.of_below HX.out).and f3 (fun _ _ e => .inl e); clear f3)
    | (go_at_call 45; refine (cfi _ h3).mono ?_; rintro e w4 ⟨rfl, rfl⟩; obtain ⟨g, c, va, vc, hlv, hv, hvc, hvc2, hat⟩ := hfe _ h3; obtain ⟨x0, -, x1, -, -⟩ := hat w4 b1 s1 h3; have HAT : Hid (∀ W, RefAt W { r with off := o1, bud := b1, st := s1 } → W.cell? ⟨r.rb, 1, none⟩ = some (.slice (some ⟨g, 0, none⟩) r.fs.length c) ∧ W.cell? ⟨g, l1.length * 3 + 1, none⟩ = some (.slice va f.bs.length vc) ∧ W.frozen? ⟨g, l1.length * 3 + 1, none⟩ = false) := (fun W hW => ⟨(hat W b1 s1 hW).1, (hat W b1 s1 hW).2.2.1, (hat W b1 s1 hW).2.2.2.2 _⟩); have HLV : Hid (r.lv = .slice (some ⟨g, 0, none⟩) r.fs.length c) := hlv; have SF : Hid (SlM w4 (.slice va f.bs.length vc) f.bs) := (by show SlM _ _ _; rw [← hv]; exact (h3.files f hfm).1.slm); have hKN : (K : Int) < (N : Int) := HKN.out; rw [HK.out] at x1; rw [HN.out] at x0; obtain ⟨FL, hFL⟩ : ∃ n, f.bs.length = n := ⟨_, rfl⟩; have HFN : Hid (f.bs.length = FL) := hFL; rw [hFL] at x1 SF; clear hFL; clear hlv hv hat hvc hvc2; have GO : True := trivial)
    | (have hq := GO; clear hq; at_builtin; refine app_any rfl _ _ rfl w4.heap.size (.slice none 0 0) [] rfl (RowB.nil _ _) (.slice va FL vc) f.bs rfl SF.out (by have := HFL.out; simp; omega) (Nat.le_refl _) ?_; intro v5 w5 hr5 hb5; have R5 : Hid (RowB w4.heap.size w5 v5 f.bs) := hr5; have HB5 : Hid (Below w4.heap.size w4 w5) := hb5; clear GO hr5 hb5))
  have H5 := h3.below HB5.out
  have SB : Hid (SlM w5 (.slice sa L sc) ns) := by
    have h1 := (HB0.out.fr HF3.out (fun x l c e hl hk => HAP.out x l c e hl (hk.elim (fun hk => by rw [hk]; exact mem_foot.2 (.inl rfl)) (fun hk => mem_foot.2 (.inr (.inl hk)))))).below HB5.out (Nat.le_refl _)
    rw [HBV.out, HL.out] at h1
    exact h1
  have hgr : g ≠ r.rb := H5.row_ne HLV.out
  have hrl5 : r.rb < w4.heap.size := lt_of_block (h3).cells
  have LD : Hid (∀ wq, Fr (fun k => k = g ∨ w4.heap.size ≤ k) w5 wq → wq.cell? ⟨r.rb, 1, none⟩ = some (.slice (some ⟨g, 0, none⟩) N c)) := fun wq hq => by
    have h1 := (HAT.out w5 H5).1
    rw [HN.out] at h1
    exact (World.cell?_of_block (a := ⟨r.rb, 1, none⟩) (hq.block r.rb (Nat.lt_of_lt_of_le hrl5 HB5.out.size) (fun e => e.elim (fun e => hgr e.symm) (fun e => by omega)))).trans h1
  clear x0 x1
  refine wp_region_held_drew (S := fun w' => Fr (fun k => k = g ∨ w4.heap.size ≤ k) w5 w') (by kernel_rfl) (Fr.of_below (drawn_below (Below.refl _ _))) ?_
  intro hS
  refine wpAnyH_take (i := 0) (v := .pointer (some ⟨r.rb, 0, none⟩)) rfl (by kernel_rfl) (by kernel_rfl) (by kernel_rfl) (fun _ _ _ h => h) (Or.inl ⟨by kernel_rfl, fun wq hS => by clear hS; go_simp⟩) hS ?_
  try simp only [Act.put, List.getElem_toArray, List.getElem_cons_zero, List.setIfInBounds_toArray, List.set_cons_zero, List.set_cons_succ]
  refine wpAnyH_take (i := 1) (v := .pointer (some ⟨r.rb, 0, none⟩)) rfl (by kernel_rfl) (by kernel_rfl) (by kernel_rfl) (fun _ _ _ h => h) (Or.inl ⟨by kernel_rfl, fun wq hS => by clear hS; go_simp⟩) hS ?_
  try simp only [Act.put, List.getElem_toArray, List.getElem_cons_succ, List.getElem_cons_zero, List.setIfInBounds_toArray, List.set_cons_zero, List.set_cons_succ]
  refine wpAnyH_take (i := 2) (v := .pointer (some ⟨r.rb, 1, none⟩)) rfl (by kernel_rfl) (by kernel_rfl) (by kernel_rfl) (fun _ _ _ h => h) (Or.inl ⟨by kernel_rfl, fun wq hS => by clear hS; go_simp⟩) hS ?_
  try simp only [Act.put, List.getElem_toArray, List.getElem_cons_succ, List.getElem_cons_zero, List.setIfInBounds_toArray, List.set_cons_zero, List.set_cons_succ]
  refine wpAnyH_take (i := 3) (v := .slice (some ⟨g, 0, none⟩) N c) rfl (by kernel_rfl) (by kernel_rfl) (by kernel_rfl) (fun _ _ _ h => h) (Or.inl ⟨by kernel_rfl, fun wq hS => by have h8 := LD.out wq hS; clear hS; go_simp⟩) hS ?_
  try simp only [Act.put, List.getElem_toArray, List.getElem_cons_succ, List.getElem_cons_zero, List.setIfInBounds_toArray, List.set_cons_zero, List.set_cons_succ]
  refine wpAnyH_take (i := 4) (v := .int .i64 (K : Int)) rfl (by kernel_rfl) (by kernel_rfl) (by kernel_rfl) (fun _ _ _ h => h) (Or.inl ⟨by kernel_rfl, fun wq hS => by clear hS; go_simp⟩) hS ?_
  try simp only [Act.put, List.getElem_toArray, List.getElem_cons_succ, List.getElem_cons_zero, List.setIfInBounds_toArray, List.set_cons_zero, List.set_cons_succ]
  refine wpAnyH_take (i := 5) (v := v5) rfl (by kernel_rfl) (by kernel_rfl) (by kernel_rfl) (fun _ _ _ h => h) (Or.inl ⟨by kernel_rfl, fun wq hS => by clear hS; go_simp⟩) hS ?_
  try simp only [Act.put, List.getElem_toArray, List.getElem_cons_succ, List.getElem_cons_zero, List.setIfInBounds_toArray, List.set_cons_zero, List.set_cons_succ]
  refine wpAnyH_take (i := 6) (v := .slice sa L sc) rfl (by kernel_rfl) (by kernel_rfl) (by kernel_rfl) (fun _ _ _ h => h) (Or.inl ⟨by kernel_rfl, fun wq hS => by clear hS; go_simp⟩) hS ?_
  try simp only [Act.put, List.getElem_toArray, List.getElem_cons_succ, List.getElem_cons_zero, List.setIfInBounds_toArray, List.set_cons_zero, List.set_cons_succ]
  have hbd : Below w5.heap.size w5 w5.drew := drawn_below (Below.refl _ _)
  obtain ⟨a9, n9, c9, w9, hr9, hR9, hb9⟩ := app_run w4.heap.size v5 f.bs (R5.out.kept hbd) (.slice sa L sc) ns (SB.out.below hbd (Nat.le_refl _)) HFL.out (Nat.le_trans HB5.out.size hbd.size) 35
  have HB9 : Hid (Below w4.heap.size w4 w9) := HB5.out.trans ((hbd.mono HB5.out.size).trans hb9)
  have R9 : Hid (RowB w4.heap.size w9 (.slice a9 n9 c9) (f.bs ++ ns)) := hR9
  have h9 := h3.below HB9.out
  obtain ⟨-, y1, y2⟩ := HAT.out w9 h9
  rw [HK.out] at y1 y2
  have hs59 : w5.heap.size ≤ w9.heap.size := hb9.size
  have S9 : Hid (Fr (fun k => k = g ∨ w4.heap.size ≤ k) w5 w9) := ⟨hb9.os, hb9.tape, hb9.output, hb9.size, fun k _ hk => hb9.block k (by omega)⟩
  refine wpAnyH_ready (rs := [7]) (by kernel_rfl) (by simp) ?_
  refine AllReadyH.cons rfl (fun K' hK' => ?_) AllReadyH.nil
  refine step_app rfl (.tmp 61) (.tmp 62) rfl v5 (.slice sa L sc) (.slice a9 n9 c9) w9 rfl rfl hr9 ?_
  refine hK'.out _ _ S9.out (fun hS => ?_)
  clear hK' K' hr9 hR9 hb9
  try simp only [Act.put, List.getElem_toArray, List.getElem_cons_succ, List.getElem_cons_zero, List.setIfInBounds_toArray, List.set_cons_zero, List.set_cons_succ]
  refine wpAnyH_take (i := 8) (v := .pointer (some ⟨g, K * 3, none⟩)) rfl (by kernel_rfl) (by kernel_rfl) (by kernel_rfl) (fun _ _ _ h => h) (Or.inl ⟨by kernel_rfl, fun wq hS => by clear hS; go_simp⟩) hS ?_
  try simp only [Act.put, List.getElem_toArray, List.getElem_cons_succ, List.getElem_cons_zero, List.setIfInBounds_toArray, List.set_cons_zero, List.set_cons_succ]
  refine wpAnyH_take (i := 9) (v := .pointer (some ⟨g, K * 3 + 1, none⟩)) rfl (by kernel_rfl) (by kernel_rfl) (by kernel_rfl) (fun _ _ _ h => h) (Or.inl ⟨by kernel_rfl, fun wq hS => by clear hS; go_simp⟩) hS ?_
  try simp only [Act.put, List.getElem_toArray, List.getElem_cons_succ, List.getElem_cons_zero, List.setIfInBounds_toArray, List.set_cons_zero, List.set_cons_succ]
  refine wpAnyH_ready (rs := [10]) (by kernel_rfl) (by simp) ?_
  refine AllReadyH.cons rfl (fun K' hK' => ?_) AllReadyH.nil
  go_simp
  refine hK'.out _ _ (S9.out.and (Fr.setCell (S := fun k => k = g) _ _ _ rfl) (fun _ _ e => .inl e)) (fun hS => ?_)
  clear hK' K' hS
  try simp only [Act.put, List.getElem_toArray, List.getElem_cons_succ, List.getElem_cons_zero, List.setIfInBounds_toArray, List.set_cons_zero, List.set_cons_succ]
  refine wpAnyH_done (by kernel_rfl) ?_ _
  cases bb
  all_goals
    go_wp2
    go_ret
    rw [← HK.out]
    have hge : ∀ k, (Value.slice a9 n9 c9).ownBlock = some k → w1.heap.size ≤ k := fun k hk => Nat.le_trans (HF3.out).size (R9.out.lt k hk)
    refine ⟨rfl, .slice a9 n9 c9, h9.setv (l1 := l1) (l2 := l2) (f := f) (c := c) HE.out HLV.out (R9.out.mono (Nat.zero_le _)) (by have := (h3.files f hfm).2.1; rw [List.length_append]; omega) rfl, hge, (HF3.out.and (Fr.of_below HB9.out) (fun _ _ (e : False) => e.elim)).and (Fr.setCell (S := Own r) _ _ _ (.inr (by rw [HLV.out]; rfl))) (fun _ _ e => e)⟩
set_option maxHeartbeats 2000000 in
set_option maxRecDepth 4000 in
theorem rappend_new (w : World) (r : Rs) (bb o1 : Bool) (b1 s1 : Int) (s : ByteArray) (b : Value) (ns : List UInt8) (hno : ∀ g ∈ r.fs, g.nm ≠ s) (h : RefAt w r) (hnm : isNm s = true) (ho : r.off = false) (hb : SlM w b ns)
    (hap : ∀ x l c, b = .slice (some x) l c → 0 < l → x.block ∉ r.foot) (hlen : r.fs.length ≤ 1099511627775)
    (hfull : (rused r.fs : Int) ≤ r.room) (hroom : r.room ≤ 9223372036854775807) (hyes : (ns.length : Int) ≤ r.room - (rused r.fs : Int)) (hbig : rused r.fs + ns.length ≤ 140737488355328)
    (hstep : ∀ W, RefAt W r → Calls Try.prog 44 #[.pointer (some ⟨r.rb, 0, none⟩)] W fun e w' => e = .returned (.bool bb) ∧ RefAt w' { r with off := o1, bud := b1, st := s1 } ∧ Fr (fun k => k = r.rb) W w') :
    Calls Try.prog 24 #[.pointer (some ⟨r.rb, 0, none⟩), .string s, b] w fun e w' => ∃ l1 l2 v lv, layL ⟨s, .slice none 0 0, [], 0⟩ r.fs = l1 ++ ⟨s, .slice none 0 0, [], 0⟩ :: l2 ∧ r.fs = l1 ++ l2 ∧ e = .returned (.int .i64 (if bb = true then 0 else 11)) ∧ RefAt w' { r with off := o1, bud := b1, st := s1, lv := lv, fs := l1 ++ ⟨s, v, ns, 0⟩ :: l2 } ∧ (∀ k, v.ownBlock = some k → w.heap.size ≤ k) ∧ (∀ k, lv.ownBlock = some k → w.heap.size ≤ k) ∧ Fr (Own r) w w' := by
  have hsz := nm_size hnm
  have hc := fun W => named_any s W (by omega)
  rw [hnm] at hc
  have c2 := h.c2
  rw [ho] at c2
  have hdl := lt_of_block h.cells
  have k0 : ∀ x : Cl w.heap.size w, x.u.cell? ⟨r.rb, 0, none⟩ = some (.int .i64 r.room) := fun x => x.cell h.c0 hdl
  have hu := fun (x : Cl w.heap.size w) => (rused_any x.u r (h.below x.h) (by omega) (by omega)).mono (R' := fun e w' => e = .returned (.int .i64 (rused r.fs : Int)) ∧ Below x.u.heap.size x.u w') (fun e w' ⟨h1, h2⟩ => ⟨h1, by rw [h2]; exact Below.refl _ _⟩)
  have hne := Cl.ne w.heap.size w
  have hblt := slm_lt' hb
  obtain ⟨l1, l2, hl1, hl2⟩ := layL_split ⟨s, .slice none 0 0, [], 0⟩ r.fs
  obtain ⟨f, hf0⟩ : ∃ f : RF, f = ⟨s, .slice none 0 0, [], 0⟩ := ⟨_, rfl⟩
  have hs : f.nm = s := by rw [hf0]
  have hfb0 : f.bs = [] := by rw [hf0]
  have hfv : f.v = .slice none 0 0 := by rw [hf0]
  have hfy : f.sy = 0 := by rw [hf0]
  have HFL : Hid (f.bs.length + ns.length ≤ 140737488355328) := by show _ ≤ _; rw [hfb0]; simp; omega
  have cno := fun (W : World) (hW : RefAt W { r with off := o1, bud := b1, st := s1 }) => rfind_none W { r with off := o1, bud := b1, st := s1 } s hW hno (by show r.fs.length ≤ _; omega)
  have clay := fun (W : World) (hW : RefAt W { r with off := o1, bud := b1, st := s1 }) => rlay_any W { r with off := o1, bud := b1, st := s1 } f hW ⟨by rw [hfv, hfb0]; exact RowB.nil _ _, by rw [hfy]; exact Nat.zero_le _, by rw [hfv]; rfl⟩ (by show r.fs.length ≤ _; omega)
  have e : ∀ lv, ({ r with off := o1, bud := b1, st := s1, lv := lv, fs := layL f r.fs } : Rs).fs = l1 ++ f :: l2 := fun lv => by rw [hf0]; exact hl1
  have hn1 : ∀ g ∈ l1, g.nm ≠ f.nm := fun g hg => by rw [hs]; exact hno g (by rw [hl2]; simp [hg])
  have cfi := fun (W : World) (lv : Value) (hW : RefAt W { r with off := o1, bud := b1, st := s1, lv := lv, fs := layL f r.fs }) => hs ▸ rfind_hit W { r with off := o1, bud := b1, st := s1, lv := lv, fs := layL f r.fs } l1 l2 f hW (e lv) hn1 (by show (layL f r.fs).length ≤ _; rw [layL_len]; omega)
  have clay' : ∀ W, RefAt W { r with off := o1, bud := b1, st := s1 } → Calls Try.prog 46 #[.pointer (some ⟨r.rb, 0, none⟩), .agg #[.string s, .slice none 0 0, .int .i64 0]] W fun e w' => ∃ lv, e = .returned (.tuple #[]) ∧ RefAt w' { r with off := o1, bud := b1, st := s1, lv := lv, fs := layL f r.fs } ∧ (∀ k, lv.ownBlock = some k → W.heap.size ≤ k) ∧ Fr (fun k => k = r.rb) W w' := fun W hW => by
    have := clay W hW
    rw [hs, hfv, hfy] at this
    exact this
  clear clay
  obtain ⟨sa, sc, hbv⟩ := hb.sl.form
  have HBV : Hid (b = .slice sa ns.length sc) := hbv
  have HAP : Hid (∀ x l c, b = .slice (some x) l c → 0 < l → x.block ∉ r.foot) := hap
  have HBL : Hid (∀ x l c, b = .slice (some x) l c → 0 < l → x.block < w.heap.size) := hblt
  rw [hbv]
  obtain ⟨U, hU⟩ : ∃ U, rused r.fs = U := ⟨_, rfl⟩
  rw [hU] at hu hfull hyes hbig
  obtain ⟨L, hL⟩ : ∃ L, ns.length = L := ⟨_, rfl⟩
  have HL : Hid (ns.length = L) := hL
  rw [hL] at hyes hbig ⊢
  have hno' : ¬ r.room - (U : Int) < (L : Int) := by omega
  have HB0 : Hid (SlM w b ns) := hb
  have hfe := fun (W : World) (lv : Value) (hW : RefAt W { r with off := o1, bud := b1, st := s1, lv := lv, fs := layL f r.fs }) => hW.at (e lv)
  obtain ⟨N, hN⟩ : ∃ N, (layL f r.fs).length = N := ⟨_, rfl⟩
  have HN : Hid ((layL f r.fs).length = N) := hN
  have hNl : N ≤ 1099511627776 := by rw [← hN, layL_len]; omega
  obtain ⟨K, hK⟩ : ∃ K, l1.length = K := ⟨_, rfl⟩
  have HK : Hid (l1.length = K) := hK
  rw [hK] at cfi
  have hK0 : ¬ (K : Int) < 0 := by omega
  have hl1' : layL f r.fs = l1 ++ f :: l2 := by rw [hf0]; exact hl1
  have HKN : Hid ((K : Int) < (N : Int)) := by show _ < _; rw [← hK, ← hN, hl1']; simp; omega
  have HE : Hid (layL f r.fs = l1 ++ f :: l2) := hl1'
  have HF0 : Hid (f = ⟨s, .slice none 0 0, [], 0⟩) := hf0
  have HL12 : Hid (layL ⟨s, .slice none 0 0, [], 0⟩ r.fs = l1 ++ ⟨s, .slice none 0 0, [], 0⟩ :: l2 ∧ r.fs = l1 ++ l2) := ⟨hl1, hl2⟩
  clear e hs hN hl1' hl1 hl2 hf0 hfb0 hfv hfy
  clear hU hL hbv hap hblt hb hK
  go_enter Try.func24, Try.ntmps24
  go_wp2_with (go_at_call 43; refine (hc _).mono ?_; rintro e w1 ⟨rfl, rfl⟩)
  refine region_cl (N := w1.heap.size) (W := w1) (by kernel_rfl) (by kernel_rfl) (Below.refl _ _) ?_
  repeat (go_big_quiet_step ((go_at_call 37; exact cl_of (hu _) (Nat.le_refl _))))
  refine wpQuiet_nil ?_
  rintro _ ⟨x, rfl⟩
  have hx := x.h
  obtain ⟨w2, hw2⟩ : ∃ v, x.u = v := ⟨_, rfl⟩
  rw [hw2] at hx ⊢
  clear hw2 x k0 hu hne c2
  have h2 : RefAt w2 r := h.below hx
  have HX : Hid (Below w1.heap.size w1 w2) := hx
  clear hx
  go_wp2_with (first
    | (go_at_call 44; refine (hstep _ h2).mono ?_; rintro e w3 ⟨rfl, h3, f3⟩; have HF3 : Hid (Fr (Own r) w1 w3) := (Fr.of_below HX.out).and f3 (fun _ _ e => .inl e); clear f3)
    | (have hq := H4; clear hq; go_at_call 45; refine (cfi _ lv H4.out).mono ?_; rintro e w6 ⟨rfl, rfl⟩; obtain ⟨g, c, va, vc, hlv, hv, hvc, hvc2, hat⟩ := hfe _ lv H4.out; obtain ⟨x0, -, x1, -, -⟩ := hat w6 b1 s1 H4.out; have HAT : Hid (∀ W, RefAt W { r with off := o1, bud := b1, st := s1, lv := lv, fs := layL f r.fs } → W.cell? ⟨r.rb, 1, none⟩ = some (.slice (some ⟨g, 0, none⟩) (layL f r.fs).length c) ∧ W.cell? ⟨g, l1.length * 3 + 1, none⟩ = some (.slice va f.bs.length vc) ∧ W.frozen? ⟨g, l1.length * 3 + 1, none⟩ = false) := (fun W hW => ⟨(hat W b1 s1 hW).1, (hat W b1 s1 hW).2.2.1, (hat W b1 s1 hW).2.2.2.2 _⟩); have HLV : Hid (lv = .slice (some ⟨g, 0, none⟩) (layL f r.fs).length c) := hlv; have SF : Hid (SlM w6 (.slice va f.bs.length vc) f.bs) := (by show SlM _ _ _; rw [← hv]; exact (H4.out.files f (by show f ∈ layL f r.fs; rw [HE.out]; simp)).1.slm); have hKN : (K : Int) < (N : Int) := HKN.out; rw [HK.out] at x1; rw [show List.length _ = N from HN.out] at x0; obtain ⟨FL, hFL⟩ : ∃ n, f.bs.length = n := ⟨_, rfl⟩; have HFN : Hid (f.bs.length = FL) := hFL; rw [hFL] at x1 SF; clear hFL; have H4b := H4; clear H4 hlv hv hat hvc hvc2; have GO : True := trivial)
    | (have hq := h3; clear hq; go_at_call 45; refine (cno _ h3).mono ?_; rintro e w4 ⟨rfl, rfl⟩)
    | (go_at_call 46; refine (clay' _ h3).mono ?_; rintro e w5 ⟨lv, rfl, h5, hl5, f5⟩; have H4 : Hid (RefAt w5 { r with off := o1, bud := b1, st := s1, lv := lv, fs := layL f r.fs }) := h5; have HL5 : Hid (∀ k, lv.ownBlock = some k → w4.heap.size ≤ k) := hl5; have HF5 : Hid (Fr (Own r) w1 w5) := HF3.out.and f5 (fun _ _ e => .inl e); have hs45 : w4.heap.size ≤ w5.heap.size := f5.size; clear h5 hl5 f5 h3)
    | (have hq := GO; clear hq; at_builtin; refine app_any rfl _ _ rfl w6.heap.size (.slice none 0 0) [] rfl (RowB.nil _ _) (.slice va FL vc) f.bs rfl SF.out (by have := HFL.out; simp; omega) (Nat.le_refl _) ?_; intro v5 w7 hr5 hb5; have R5 : Hid (RowB w6.heap.size w7 v5 f.bs) := hr5; have HB5 : Hid (Below w6.heap.size w6 w7) := hb5; clear GO hr5 hb5))
  have H5 := H4b.out.below HB5.out
  have SB : Hid (SlM w7 (.slice sa L sc) ns) := by
    have h1 := (HB0.out.fr HF5.out (fun x l c e hl hk => HAP.out x l c e hl (hk.elim (fun hk => by rw [hk]; exact mem_foot.2 (.inl rfl)) (fun hk => mem_foot.2 (.inr (.inl hk)))))).below HB5.out (Nat.le_refl _)
    rw [HBV.out, HL.out] at h1
    exact h1
  have hgr : g ≠ r.rb := H5.row_ne HLV.out
  have hrl5 : r.rb < w6.heap.size := lt_of_block (H4b.out).cells
  have LD : Hid (∀ wq, Fr (fun k => k = g ∨ w6.heap.size ≤ k) w7 wq → wq.cell? ⟨r.rb, 1, none⟩ = some (.slice (some ⟨g, 0, none⟩) N c)) := fun wq hq => by
    have h1 := (HAT.out w7 H5).1
    rw [HN.out] at h1
    exact (World.cell?_of_block (a := ⟨r.rb, 1, none⟩) (hq.block r.rb (Nat.lt_of_lt_of_le hrl5 HB5.out.size) (fun e => e.elim (fun e => hgr e.symm) (fun e => by omega)))).trans h1
  clear x0 x1
  refine wp_region_held_drew (S := fun w' => Fr (fun k => k = g ∨ w6.heap.size ≤ k) w7 w') (by kernel_rfl) (Fr.of_below (drawn_below (Below.refl _ _))) ?_
  intro hS
  refine wpAnyH_take (i := 0) (v := .pointer (some ⟨r.rb, 0, none⟩)) rfl (by kernel_rfl) (by kernel_rfl) (by kernel_rfl) (fun _ _ _ h => h) (Or.inl ⟨by kernel_rfl, fun wq hS => by clear hS; go_simp⟩) hS ?_
  try simp only [Act.put, List.getElem_toArray, List.getElem_cons_zero, List.setIfInBounds_toArray, List.set_cons_zero, List.set_cons_succ]
  refine wpAnyH_take (i := 1) (v := .pointer (some ⟨r.rb, 0, none⟩)) rfl (by kernel_rfl) (by kernel_rfl) (by kernel_rfl) (fun _ _ _ h => h) (Or.inl ⟨by kernel_rfl, fun wq hS => by clear hS; go_simp⟩) hS ?_
  try simp only [Act.put, List.getElem_toArray, List.getElem_cons_succ, List.getElem_cons_zero, List.setIfInBounds_toArray, List.set_cons_zero, List.set_cons_succ]
  refine wpAnyH_take (i := 2) (v := .pointer (some ⟨r.rb, 1, none⟩)) rfl (by kernel_rfl) (by kernel_rfl) (by kernel_rfl) (fun _ _ _ h => h) (Or.inl ⟨by kernel_rfl, fun wq hS => by clear hS; go_simp⟩) hS ?_
  try simp only [Act.put, List.getElem_toArray, List.getElem_cons_succ, List.getElem_cons_zero, List.setIfInBounds_toArray, List.set_cons_zero, List.set_cons_succ]
  refine wpAnyH_take (i := 3) (v := .slice (some ⟨g, 0, none⟩) N c) rfl (by kernel_rfl) (by kernel_rfl) (by kernel_rfl) (fun _ _ _ h => h) (Or.inl ⟨by kernel_rfl, fun wq hS => by have h8 := LD.out wq hS; clear hS; go_simp⟩) hS ?_
  try simp only [Act.put, List.getElem_toArray, List.getElem_cons_succ, List.getElem_cons_zero, List.setIfInBounds_toArray, List.set_cons_zero, List.set_cons_succ]
  refine wpAnyH_take (i := 4) (v := .int .i64 (K : Int)) rfl (by kernel_rfl) (by kernel_rfl) (by kernel_rfl) (fun _ _ _ h => h) (Or.inl ⟨by kernel_rfl, fun wq hS => by clear hS; go_simp⟩) hS ?_
  try simp only [Act.put, List.getElem_toArray, List.getElem_cons_succ, List.getElem_cons_zero, List.setIfInBounds_toArray, List.set_cons_zero, List.set_cons_succ]
  refine wpAnyH_take (i := 5) (v := v5) rfl (by kernel_rfl) (by kernel_rfl) (by kernel_rfl) (fun _ _ _ h => h) (Or.inl ⟨by kernel_rfl, fun wq hS => by clear hS; go_simp⟩) hS ?_
  try simp only [Act.put, List.getElem_toArray, List.getElem_cons_succ, List.getElem_cons_zero, List.setIfInBounds_toArray, List.set_cons_zero, List.set_cons_succ]
  refine wpAnyH_take (i := 6) (v := .slice sa L sc) rfl (by kernel_rfl) (by kernel_rfl) (by kernel_rfl) (fun _ _ _ h => h) (Or.inl ⟨by kernel_rfl, fun wq hS => by clear hS; go_simp⟩) hS ?_
  try simp only [Act.put, List.getElem_toArray, List.getElem_cons_succ, List.getElem_cons_zero, List.setIfInBounds_toArray, List.set_cons_zero, List.set_cons_succ]
  have hbd : Below w7.heap.size w7 w7.drew := drawn_below (Below.refl _ _)
  obtain ⟨a9, n9, c9, w9, hr9, hR9, hb9⟩ := app_run w6.heap.size v5 f.bs (R5.out.kept hbd) (.slice sa L sc) ns (SB.out.below hbd (Nat.le_refl _)) HFL.out (Nat.le_trans HB5.out.size hbd.size) 35
  have HB9 : Hid (Below w6.heap.size w6 w9) := HB5.out.trans ((hbd.mono HB5.out.size).trans hb9)
  have R9 : Hid (RowB w6.heap.size w9 (.slice a9 n9 c9) (f.bs ++ ns)) := hR9
  have h9 := H4b.out.below HB9.out
  obtain ⟨-, y1, y2⟩ := HAT.out w9 h9
  rw [HK.out] at y1 y2
  have hs59 : w7.heap.size ≤ w9.heap.size := hb9.size
  have S9 : Hid (Fr (fun k => k = g ∨ w6.heap.size ≤ k) w7 w9) := ⟨hb9.os, hb9.tape, hb9.output, hb9.size, fun k _ hk => hb9.block k (by omega)⟩
  refine wpAnyH_ready (rs := [7]) (by kernel_rfl) (by simp) ?_
  refine AllReadyH.cons rfl (fun K' hK' => ?_) AllReadyH.nil
  refine step_app rfl (.tmp 61) (.tmp 62) rfl v5 (.slice sa L sc) (.slice a9 n9 c9) w9 rfl rfl hr9 ?_
  refine hK'.out _ _ S9.out (fun hS => ?_)
  clear hK' K' hr9 hR9 hb9
  try simp only [Act.put, List.getElem_toArray, List.getElem_cons_succ, List.getElem_cons_zero, List.setIfInBounds_toArray, List.set_cons_zero, List.set_cons_succ]
  refine wpAnyH_take (i := 8) (v := .pointer (some ⟨g, K * 3, none⟩)) rfl (by kernel_rfl) (by kernel_rfl) (by kernel_rfl) (fun _ _ _ h => h) (Or.inl ⟨by kernel_rfl, fun wq hS => by clear hS; go_simp⟩) hS ?_
  try simp only [Act.put, List.getElem_toArray, List.getElem_cons_succ, List.getElem_cons_zero, List.setIfInBounds_toArray, List.set_cons_zero, List.set_cons_succ]
  refine wpAnyH_take (i := 9) (v := .pointer (some ⟨g, K * 3 + 1, none⟩)) rfl (by kernel_rfl) (by kernel_rfl) (by kernel_rfl) (fun _ _ _ h => h) (Or.inl ⟨by kernel_rfl, fun wq hS => by clear hS; go_simp⟩) hS ?_
  try simp only [Act.put, List.getElem_toArray, List.getElem_cons_succ, List.getElem_cons_zero, List.setIfInBounds_toArray, List.set_cons_zero, List.set_cons_succ]
  refine wpAnyH_ready (rs := [10]) (by kernel_rfl) (by simp) ?_
  refine AllReadyH.cons rfl (fun K' hK' => ?_) AllReadyH.nil
  go_simp
  refine hK'.out _ _ (S9.out.and (Fr.setCell (S := fun k => k = g) _ _ _ rfl) (fun _ _ e => .inl e)) (fun hS => ?_)
  clear hK' K' hS
  try simp only [Act.put, List.getElem_toArray, List.getElem_cons_succ, List.getElem_cons_zero, List.setIfInBounds_toArray, List.set_cons_zero, List.set_cons_succ]
  refine wpAnyH_done (by kernel_rfl) ?_ _
  cases bb
  all_goals
    go_wp2
    go_ret
    rw [← HK.out]
    have hge : ∀ k, (Value.slice a9 n9 c9).ownBlock = some k → w1.heap.size ≤ k := fun k hk => Nat.le_trans (HF5.out).size (R9.out.lt k hk)
    have hh := h9.setv (l1 := l1) (l2 := l2) (f := f) (c := c) HE.out HLV.out (R9.out.mono (Nat.zero_le _)) (by rw [HF0.out]; exact Nat.zero_le _) rfl
    have e9 : ({ f with v := .slice a9 n9 c9, bs := f.bs ++ ns } : RF) = ⟨s, .slice a9 n9 c9, ns, 0⟩ := by rw [HF0.out]; rfl
    rw [e9] at hh
    refine ⟨l1, l2, HL12.out.1, HL12.out.2, rfl, .slice a9 n9 c9, lv, hh, hge, fun k hk => Nat.le_trans (HF3.out).size (HL5.out k hk), (HF5.out.and (Fr.of_below HB9.out) (fun _ _ (e : False) => e.elim)).and (Fr.setCell (S := fun k => w1.heap.size ≤ k) _ _ _ (by have := HL5.out g (by rw [HLV.out]; rfl); have := (HF3.out).size; show w1.heap.size ≤ g; omega)) (fun k hk e => by omega)⟩
end Rf
end Go.Proofs.Ytlnefgppenokkaa
