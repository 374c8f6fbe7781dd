/- What Append does: contracts, by walking its text. -/
import Derived.Test.YtcinjdaanhpbjaaGreatXab
namespace Go.Proofs.YtcinjdaanhpbjaaGreat
open Go.RowKit
namespace Dk
open Bw Rg

theorem append_bad (w : World) (d : Ds) (s : ByteArray) (b : Value) (hs : s.size ≤ 140737488355328) (hn : isNm s = false) : Calls Tryz.prog 27 #[.pointer (some ⟨d.db, 0, none⟩), .string s, b] w fun e w' => e = .returned (code 1) ∧ w' = w := by
  have hc := fun W => isName_any s W hs
  rw [hn] at hc
  go_enter Tryz.func27, Tryz.ntmps27
  go_wp2_with (go_at_call 62; refine (hc _).mono ?_; rintro e w1 ⟨rfl, rfl⟩)
  go_ret
  exact ⟨rfl, rfl⟩
theorem append_off (w : World) (d : Ds) (s : ByteArray) (b : Value) (h : DiskAt w d) (hs : s.size ≤ 140737488355328) (hn : isNm s = true) (ho : d.on = false) : Calls Tryz.prog 27 #[.pointer (some ⟨d.db, 0, none⟩), .string s, b] w fun e w' => e = .returned (code 11) ∧ w' = w := by
  have hc := fun W => isName_any s W hs
  rw [hn] at hc
  have c2 := h.c2
  rw [ho] at c2
  go_enter Tryz.func27, Tryz.ntmps27
  go_wp2_with (go_at_call 62; refine (hc _).mono ?_; rintro e w1 ⟨rfl, rfl⟩)
  go_ret
  exact ⟨rfl, rfl⟩
theorem append_full (w : World) (d : Ds) (s : ByteArray) (b : Value) (ns : List UInt8) (h : DiskAt w d) (hs : s.size ≤ 140737488355328) (hn : isNm s = true) (ho : d.on = true) (hb : SlM w b ns)
    (hfull : (used d.fs : Int) ≤ d.room) (hroom : d.room ≤ 9223372036854775807) (hno : d.room - (used d.fs : Int) < (ns.length : Int)) (_hlen : ns.length ≤ 140737488355328) :
    Calls Tryz.prog 27 #[.pointer (some ⟨d.db, 0, none⟩), .string s, b] w fun e w' => e = .returned (code 12) ∧ Below w.heap.size w w' := by
  have hc := fun W => isName_any s W hs
  rw [hn] at hc
  have c2 := h.c2
  rw [ho] at c2
  have hdl := lt_of_block h.cells
  have k0 : ∀ x : Cl w.heap.size w, x.u.cell? ⟨d.db, 0, none⟩ = some (.int .i64 d.room) := fun x => x.cell h.c0 hdl
  have hu := fun (x : Cl w.heap.size w) => used_any x.u d (h.below x.h) (by omega)
  have hne := Cl.ne w.heap.size w
  obtain ⟨sa, sc, rfl⟩ := hb.sl.form
  obtain ⟨U, hU⟩ : ∃ U, used d.fs = U := ⟨_, rfl⟩
  obtain ⟨L, hL⟩ : ∃ L, ns.length = L := ⟨_, rfl⟩
  rw [hU] at hu hfull hno
  rw [hL] at hno ⊢
  clear hU hL
  go_enter Tryz.func27, Tryz.ntmps27
  go_wp2_with (go_at_call 62; refine (hc _).mono ?_; rintro e w1 ⟨rfl, rfl⟩)
  refine region_cl (N := w1.heap.size) (W := w1) (by kernel_rfl) (by kernel_rfl) (Below.refl _ _) ?_
  repeat (go_big_quiet_step ((go_at_call 31; exact cl_of (hu _) (Nat.le_refl _))))
  refine wpQuiet_nil ?_
  rintro _ ⟨x, rfl⟩
  have hx := x.h
  clear k0 hu hne
  go_wp2
  go_ret
  exact ⟨rfl, hx⟩
theorem used_mid (l1 l2 : List FR) (f : FR) : used (l1 ++ f :: l2) = used l1 + f.bs.length + used l2 := by
  simp [used]
  omega
theorem Has.len {s : ByteArray} {fs l1 l2 : List FR} {f : FR} (h : Has s fs l1 f l2) : f.bs.length ≤ used fs := by
  rcases h.2 with e | ⟨_, _, _, e, _⟩
  · rw [e, used_mid]
    omega
  · rw [e]
    simp
theorem DiskAt.row_ne {w : World} {d : Ds} {f : FR} (h : DiskAt w d) (hf : f ∈ d.fs) : some f.fb ≠ f.v.ownBlock := by
  intro e
  have h1 : f.bl.Nodup := by
    have := (List.nodup_cons.1 (List.nodup_cons.1 h.apart).2).2
    obtain ⟨l1, l2, e2⟩ := List.append_of_mem hf
    rw [e2, List.flatMap_append, List.flatMap_cons, List.nodup_append, List.nodup_append] at this
    exact this.2.1.1
  unfold FR.bl at h1
  rw [← e] at h1
  simp at h1
theorem foot_swap {d : Ds} {l1 l2 : List FR} {f f' : FR} {n : Nat} (hfb : f'.fb = f.fb) (hrow : ∀ k, f'.v.ownBlock = some k → f.v.ownBlock = some k ∨ n ≤ k) : ∀ k ∈ ({ d with fs := l1 ++ f' :: l2 } : Ds).foot, k ∈ ({ d with fs := l1 ++ f :: l2 } : Ds).foot ∨ n ≤ k := by
  intro k hk
  rcases mem_foot.1 hk with rfl | rfl | ⟨g, hg, hk⟩
  · exact .inl (mem_foot.2 (.inl rfl))
  · exact .inl (mem_foot.2 (.inr (.inl rfl)))
  · rcases List.mem_append.1 hg with hg | hg
    · exact .inl (mem_foot.2 (.inr (.inr ⟨g, by simp [hg], hk⟩)))
    · rcases List.mem_cons.1 hg with e | hg
      · rw [e] at hk
        have hk2 : k = f'.fb ∨ f'.v.ownBlock = some k := by simpa [FR.bl] using hk
        rcases hk2 with rfl | hk2
        · exact .inl (mem_foot.2 (.inr (.inr ⟨f, by simp, by simp [FR.bl, hfb]⟩)))
        · rcases hrow k hk2 with h1 | h1
          · exact .inl (mem_foot.2 (.inr (.inr ⟨f, by simp, by simp [FR.bl, h1]⟩)))
          · exact .inr h1
      · exact .inl (mem_foot.2 (.inr (.inr ⟨g, by simp [hg], hk⟩)))
theorem FileAt.set0 {w : World} {f : FR} {v : Value} {bs : List UInt8} (hc : w.heap[f.fb]? = some (.cells #[f.v, .int .i64 (f.sy : Int)] 100 (0, 0))) (hr : RowB 0 w v bs) (hne : some f.fb ≠ v.ownBlock) (hs : f.sy ≤ bs.length) : FileAt (w.setCell ⟨f.fb, 0, none⟩ v) { f with v := v, bs := bs } := by
  refine ⟨?_, hr.other (fun k hk => Below.heap_setCell _ _ _ _ (fun e => hne (by rw [hk, e]))), hs⟩
  show (w.setCell ⟨f.fb, 0, none⟩ v).heap[f.fb]? = _
  simp [World.setCell, Array.getElem?_modify, hc]
/-- A file with more bytes. -/
def FR.more (f : FR) (v : Value) (ns : List UInt8) : FR := { f with v := v, bs := f.bs ++ ns }
set_option maxHeartbeats 1000000 in
/-- Append where there is room; what its step does is handed in. -/
theorem append_ok (w : World) (d : Ds) (o1 : Bool) (bu1 st1 : Int) (s : ByteArray) (b r : Value) (ns : List UInt8) (h : DiskAt w d) (hn : isNm s = true) (ho : d.on = true) (hb : SlM w b ns)
    (hap : ∀ x l c, b = .slice (some x) l c → 0 < l → x.block ∉ d.foot) (hlen : d.fs.length < 9223372036854775807)
    (hfull : (used d.fs : Int) ≤ d.room) (hroom : d.room ≤ 9223372036854775807) (hyes : (ns.length : Int) ≤ d.room - (used d.fs : Int)) (hbig : used d.fs + ns.length ≤ 140737488355328)
    (hstep : ∀ W, DiskAt W d → Calls Tryz.prog 63 #[.pointer (some ⟨d.db, 0, none⟩)] W fun e w' => e = .returned r ∧ DiskAt w' { d with on := o1, bud := bu1, st := st1 } ∧ Fr (fun k => k = d.db) W w') :
    Calls Tryz.prog 27 #[.pointer (some ⟨d.db, 0, none⟩), .string s, b] w fun e w' => ∃ l1 f l2 v', e = .returned r ∧ DiskAt w' { d with on := o1, bud := bu1, st := st1, fs := l1 ++ f.more v' ns :: l2 } ∧ Has s d.fs l1 f l2 ∧ Fr (Of d) w w' ∧ Grew d { d with on := o1, bud := bu1, st := st1, fs := l1 ++ f.more v' ns :: l2 } w := by
  have hsz : 1 ≤ s.size ∧ s.size ≤ 32 := by
    have := hn
    simp only [isNm, Bool.and_eq_true, decide_eq_true_eq] at this
    exact this.1
  have hc := fun W => isName_any s W (by omega)
  rw [hn] at hc
  have c2 := h.c2
  rw [ho] at c2
  have hdl := lt_of_block h.cells
  have k0 : ∀ x : Cl w.heap.size w, x.u.cell? ⟨d.db, 0, none⟩ = some (.int .i64 d.room) := fun x => x.cell h.c0 hdl
  have hu := fun (x : Cl w.heap.size w) => used_any x.u d (h.below x.h) (by omega)
  have hne := Cl.ne w.heap.size w
  obtain ⟨sa, sc, hbv⟩ := hb.sl.form
  have HBV : Hid (b = .slice sa ns.length sc) := hbv
  have HAP : Hid (∀ x l c, b = .slice (some x) l c → 0 < l → x.block ∉ d.foot) := hap
  rw [hbv]
  obtain ⟨U, hU⟩ : ∃ U, used d.fs = U := ⟨_, rfl⟩
  have HU : Hid (used d.fs = U) := hU
  obtain ⟨L, hL⟩ : ∃ L, ns.length = L := ⟨_, rfl⟩
  have HL : Hid (ns.length = L) := hL
  rw [hU] at hu hfull hyes hbig
  rw [hL] at hyes hbig ⊢
  have hno : ¬ d.room - (U : Int) < (L : Int) := by omega
  clear hU hL hbv hap
  go_enter Tryz.func27, Tryz.ntmps27
  go_wp2_with (go_at_call 62; refine (hc _).mono ?_; rintro e w1 ⟨rfl, rfl⟩)
  refine region_cl (N := w1.heap.size) (W := w1) (by kernel_rfl) (by kernel_rfl) (Below.refl _ _) ?_
  repeat (go_big_quiet_step ((go_at_call 31; exact cl_of (hu _) (Nat.le_refl _))))
  refine wpQuiet_nil ?_
  rintro _ ⟨x, rfl⟩
  have hx := x.h
  obtain ⟨w2, hw2⟩ : ∃ v, x.u = v := ⟨_, rfl⟩
  rw [hw2] at hx ⊢
  clear hw2 x k0 hu hne c2
  have h2 : DiskAt w2 d := h.below hx
  have hb2 : SlM w2 b ns := hb.below hx (Nat.le_refl _)
  have HB2 : Hid (SlM w2 b ns) := hb2
  clear hb2 hb
  go_wp2_with (first
    | (go_at_call 63; refine (hstep _ h2).mono ?_; rintro e w3 ⟨rfl, h3, f3⟩)
    | (go_at_call 64; refine (obtain_any _ { d with on := o1, bud := bu1, st := st1 } s h3 (by omega) hlen).mono ?_; rintro e w4 ⟨l1, f, l2, rfl, h4, H4, f4, G4⟩; have hf4 := h4.files f (by simp); have c40 := hf4.c0; have z40 := hf4.fz 0; have hr4 := hf4.row; obtain ⟨sv, hsv⟩ : ∃ v, f.v = v := ⟨_, rfl⟩; rw [hsv] at c40 hr4; have HSV : Hid (f.v = sv) := hsv; clear hsv; obtain ⟨F, hF⟩ : ∃ F, f.fb = F := ⟨_, rfl⟩; rw [hF] at c40 z40 ⊢; have HF : Hid (f.fb = F) := hF; have HNE : Hid (some F ≠ sv.ownBlock) := (by rw [← HF.out, ← HSV.out]; exact h4.row_ne (by simp)); have hFl : F < w4.heap.size := cell_lt c40; clear hF hf4; have HB4 : Hid (SlM w4 (.slice sa L sc) ns) := (by have h1 := (HB2.out.fr f3 (fun x l c e hl hk => HAP.out x l c e hl (hk ▸ mem_foot.2 (.inl rfl)))).fr f4 (fun x l c e hl hk => HAP.out x l c e hl hk); rw [HBV.out, HL.out] at h1; exact h1))
    | (at_builtin; refine appb_at rfl _ _ rfl 0 sv f.bs rfl hr4 (.slice sa L sc) ns rfl HB4.out (by have h1 := H4.len; rw [show used _ = U from HU.out] at h1; rw [HL.out]; omega) (Nat.zero_le _) ?_; intro v5 w5 hr5 g5 hat5; obtain ⟨a5, k5, hv5⟩ := hr5.form; have HR5 : Hid (RowB 0 w5 v5 (f.bs ++ ns)) := hr5; have HAT : Hid (v5.ownBlock = sv.ownBlock ∨ v5.ownBlock = some w4.heap.size) := hat5; have HG5 : Hid (w4.grownBy w5 sv.ownBlock) := g5; have hbk := g5.block F hFl HNE.out; have c50 : w5.cell? ⟨F, 0, none⟩ = some sv := (World.cell?_of_block (a := ⟨F, 0, none⟩) hbk).trans c40; have z50 : w5.frozen? ⟨F, 0, none⟩ = false := (World.frozen?_of_block (a := ⟨F, 0, none⟩) hbk).trans z40; have HV5 : Hid (v5 = .slice a5 (f.bs ++ ns).length k5) := hv5; rw [hv5]; obtain ⟨L5, hL5⟩ : ∃ n, (f.bs ++ ns).length = n := ⟨_, rfl⟩; have HL5 : Hid ((f.bs ++ ns).length = L5) := hL5; rw [hL5]; clear hr5 hat5 g5 hbk hv5 hL5))
  go_ret
  have hv5 : Value.slice a5 L5 k5 = v5 := by rw [HV5.out, HL5.out]
  rw [hv5]
  have hrow : ∀ k, v5.ownBlock = some k → f.v.ownBlock = some k ∨ w4.heap.size ≤ k := fun k hk => by
    rcases HAT.out with e | e
    · exact .inl (by rw [HSV.out, ← e]; exact hk)
    · rw [hk] at e
      exact .inr (by cases e; exact Nat.le_refl _)
  have hne5 : some f.fb ≠ v5.ownBlock := fun e => by
    rcases hrow f.fb e.symm with h1 | h1
    · exact HNE.out (by rw [← HF.out, ← HSV.out]; exact h1.symm)
    · rw [HF.out] at h1
      omega
  have hc5 : w5.heap[f.fb]? = some (.cells #[f.v, .int .i64 (f.sy : Int)] 100 (0, 0)) := by
    rw [HF.out, HG5.out.block F hFl HNE.out, ← HF.out]
    exact (h4.files f (by simp)).cells
  have hF5 : FileAt (w5.setCell ⟨F, 0, none⟩ v5) (f.more v5 ns) := by
    rw [← HF.out]
    refine FileAt.set0 hc5 HR5.out hne5 ?_
    have := (h4.files f (by simp)).sync
    rw [List.length_append]
    omega
  have fr5 : Fr (fun k => k ∈ f.bl) w4 (w5.setCell ⟨F, 0, none⟩ v5) :=
    (Fr.grown (S := fun k => k ∈ f.bl) HG5.out (fun k e _ => by simp [FR.bl, HSV.out, e])).and (Fr.setCell (S := fun k => k ∈ f.bl) _ _ _ (by simp [FR.bl, HF.out])) (fun _ _ h => h)
  have s2 := hx.size
  have s3 := f3.size
  have s4 := f4.size
  refine ⟨l1, f, l2, v5, rfl, h4.swap rfl rfl rfl hF5 hrow fr5, H4, ?_, fun k hk => ?_⟩
  · refine (((Fr.of_below hx).and f3 (fun k _ e => e ▸ mem_foot.2 (.inl rfl))).and f4 (fun k _ e => e)).and fr5 (fun k hk e => ?_)
    rcases G4 k (mem_foot.2 (.inr (.inr ⟨f, by simp, e⟩))) with h1 | h1
    · exact h1
    · omega
  · rcases foot_swap (d := { d with on := o1, bud := bu1, st := st1 }) (f := f) (f' := f.more v5 ns) rfl hrow k hk with h1 | h1
    · rcases G4 k h1 with h2 | h2
      · exact .inl h2
      · exact .inr (by omega)
    · exact .inr (by omega)
end Dk
end Go.Proofs.YtcinjdaanhpbjaaGreat
