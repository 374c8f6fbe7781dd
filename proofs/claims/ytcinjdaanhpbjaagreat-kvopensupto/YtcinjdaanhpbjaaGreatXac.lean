/- What shorten, tear, Sync and Read do: contracts, by walking their text. What Power does: contracts, by walking its text: each file is torn, in whatever order. -/
import Derived.Test.YtcinjdaanhpbjaaGreatDf
namespace Go.Proofs.YtcinjdaanhpbjaaGreat
open Go.RowKit
namespace Dk
open Bw Rg

theorem SlM.take {w : World} {a : Option Addr} {n c : Nat} {bs : List UInt8} (h : SlM w (.slice a n c) bs) (m : Nat) (hm : m ≤ bs.length) : SlM w (.slice a m c) (bs.take m) := by
  rcases Nat.eq_zero_or_pos m with rfl | hp
  · left
    refine ⟨by simp, ?_⟩
    rcases h with ⟨_, h1 | ⟨x, cap, h1, h2⟩⟩ | ⟨b, off, cap, h1, _, h2, _⟩
    · left
      cases h1
      rfl
    · cases h1
      exact .inr ⟨_, _, rfl, h2⟩
    · cases h1
      exact .inr ⟨_, _, rfl, h2⟩
  · rcases h with ⟨rfl, _⟩ | ⟨b, off, cap, h1, h2, h3, hc⟩
    · simp at hm
      omega
    · cases h1
      refine .inr ⟨b, off, c, by rw [List.length_take_of_le hm], by rw [List.length_take_of_le hm]; omega, h3, fun j hj => ?_⟩
      rw [List.length_take_of_le hm] at hj
      rw [hc j (by omega), List.getElem_take]
theorem RowB.spread {base : Nat} {w : World} {v : Value} {bs : List UInt8} (h : RowB base w v bs) : ∃ a c, v = .slice a bs.length c ∧ bs.length ≤ c ∧ c ≤ 9223372036854775807 := by
  rcases h.2 with ⟨rfl, h0⟩ | ⟨g, cap, cur, rfl, _, _, hn, hm, _⟩
  · exact ⟨none, 0, by rw [h0], by omega, by omega⟩
  · exact ⟨_, cap, rfl, hn, by unfold maxLen at hm; omega⟩
/-- A file cut short. -/
def FR.cut (f : FR) (v : Value) (n : Nat) : FR := { f with v := v, bs := f.bs.take n, sy := n }
theorem FileAt.set01 {w : World} {f : FR} {v : Value} {n : Nat} (hc : w.heap[f.fb]? = some (.cells #[f.v, .int .i64 (f.sy : Int)] 100 (0, 0))) (hr : RowB 0 w v (f.bs.take n)) (hne : some f.fb ≠ v.ownBlock) (hn : n ≤ f.bs.length) : FileAt ((w.setCell ⟨f.fb, 0, none⟩ v).setCell ⟨f.fb, 1, none⟩ (.int .i64 (n : Int))) (f.cut v n) := by
  refine ⟨?_, hr.other (fun k hk => ?_), ?_⟩
  · show ((w.setCell ⟨f.fb, 0, none⟩ v).setCell ⟨f.fb, 1, none⟩ (.int .i64 (n : Int))).heap[f.fb]? = _
    simp [World.setCell, Array.getElem?_modify, hc, FR.cut]
  · have hk' : v.ownBlock = some k := hk
    have : k ≠ f.fb := fun e => hne (by rw [hk', e])
    rw [Below.heap_setCell _ _ _ _ this, Below.heap_setCell _ _ _ _ this]
  · show n ≤ (f.bs.take n).length
    rw [List.length_take_of_le hn]
    exact Nat.le_refl _
theorem FileAt.below {w w' : World} {f : FR} (h : FileAt w f) (hb : Below w.heap.size w w') : FileAt w' f := h.kept (fun k hk => hb.block k (h.lt k hk))
theorem shorten_any (w : World) (f : FR) (n : Nat) (h : FileAt w f) (hn : n ≤ f.bs.length) (hlen : f.bs.length ≤ 140737488355328) :
    Calls Tryz.prog 90 #[.pointer (some ⟨f.fb, 0, none⟩), .int .i64 (n : Int)] w fun e w' => ∃ v', e = .returned (.tuple #[]) ∧ FileAt w' (f.cut v' n) ∧ (∀ k, v'.ownBlock = some k → w.heap.size ≤ k) ∧ Fr (fun k => k = f.fb) w w' := by
  have c0 := h.c0
  obtain ⟨sa, sc, hv, hsc, hsc2⟩ := RowB.spread h.row
  have hsl : SlM w (.slice sa n sc) (f.bs.take n) := by
    have := h.row.slm
    rw [hv] at this
    exact SlM.take this n hn
  rw [hv] at c0
  have HC := (show Hid (w.heap[f.fb]? = some (.cells #[f.v, .int .i64 (f.sy : Int)] 100 (0, 0))) from h.cells)
  have hfl := lt_of_block h.cells
  obtain ⟨F, hF⟩ : ∃ F, f.fb = F := ⟨_, rfl⟩
  have HF : Hid (f.fb = F) := hF
  rw [hF] at c0 hfl ⊢
  obtain ⟨L, hL⟩ : ∃ L, f.bs.length = L := ⟨_, rfl⟩
  have HL : Hid (f.bs.length = L) := hL
  rw [hL] at c0 hn hlen hsc
  clear hv hF hL
  have hi1 : (n : Int) ≤ (sc : Int) := by omega
  go_enter Tryz.func90, Tryz.ntmps90
  go_wp2_with (go_at_call 52; refine (clone_any (.slice sa n sc) (f.bs.take n) _ hsl (by rw [List.length_take, HL.out]; omega)).mono ?_; rintro e w1 ⟨v1, rfl, hr1, hb1⟩; have hbk := hb1.block F hfl; have c10 : w1.cell? ⟨F, 0, none⟩ = _ := (World.cell?_of_block (a := ⟨F, 0, none⟩) hbk).trans c0; have z10 : w1.frozen? ⟨F, 0, none⟩ = false := (World.frozen?_of_block (a := ⟨F, 0, none⟩) hbk).trans (HF.out ▸ h.fz 0); have c11 : w1.cell? ⟨F, 1, none⟩ = _ := (World.cell?_of_block (a := ⟨F, 1, none⟩) hbk).trans (HF.out ▸ h.c1); have z11 : w1.frozen? ⟨F, 1, none⟩ = false := (World.frozen?_of_block (a := ⟨F, 1, none⟩) hbk).trans (HF.out ▸ h.fz 1); obtain ⟨a5, k5, hv5⟩ := hr1.form; have HR : Hid (RowB w.heap.size w1 v1 (f.bs.take n)) := hr1; have HV : Hid (v1 = .slice a5 (f.bs.take n).length k5) := hv5; rw [hv5]; obtain ⟨L5, hL5⟩ : ∃ m, (f.bs.take n).length = m := ⟨_, rfl⟩; have HL5 : Hid ((f.bs.take n).length = L5) := hL5; rw [hL5]; have HB : Hid (Below w.heap.size w w1) := hb1; clear hr1 hv5 hL5 hbk hb1)
  go_end0
  have hv5 : Value.slice a5 L5 k5 = v1 := by rw [HV.out, HL5.out]
  rw [hv5]
  have hown := HR.out.lt
  have hc1 : w1.heap[f.fb]? = some (.cells #[f.v, .int .i64 (f.sy : Int)] 100 (0, 0)) := (HB.out.block f.fb (by rw [HF.out]; exact hfl)).trans HC.out
  refine ⟨v1, rfl, ?_, hown, (Fr.of_below HB.out).and ((Fr.setCell (S := fun k => k = F) _ _ _ rfl).and (Fr.setCell (S := fun k => k = F) _ _ _ rfl) (fun _ _ e => e)) (fun _ _ e => e)⟩
  rw [← HF.out]
  refine FileAt.set01 hc1 (HR.out.mono (Nat.zero_le _)) (fun e => ?_) (by rw [HL.out]; exact hn)
  have := hown f.fb e.symm
  rw [HF.out] at this
  omega
/-- How many bytes a file keeps when the power comes back. -/
def kept (f : FR) (keep : Int) : Nat := f.sy + (max keep 0).toNat % (f.bs.length - f.sy + 1)
theorem kept_le {f : FR} (h : f.sy ≤ f.bs.length) (keep : Int) : f.sy ≤ kept f keep ∧ kept f keep ≤ f.bs.length := by
  unfold kept
  have := Nat.mod_lt (max keep 0).toNat (show 0 < f.bs.length - f.sy + 1 by omega)
  omega
theorem tear_any (w : World) (f : FR) (keep : Int) (h : FileAt w f) (hlen : f.bs.length ≤ 140737488355328) (_hk1 : -9223372036854775808 ≤ keep) (hk2 : keep ≤ 9223372036854775807) :
    Calls Tryz.prog 65 #[.pointer (some ⟨f.fb, 0, none⟩), .int .i64 keep] w fun e w' => ∃ v', e = .returned (.tuple #[]) ∧ FileAt w' (f.cut v' (kept f keep)) ∧ (∀ k, v'.ownBlock = some k → w.heap.size ≤ k) ∧ Fr (fun k => k = f.fb) w w' := by
  have c0 := h.c0
  have c1 := h.c1
  have hsy := h.sync
  obtain ⟨hk0, hk3⟩ := kept_le hsy keep
  obtain ⟨sa, sc, hv, hsc, hsc2⟩ := RowB.spread h.row
  rw [hv] at c0
  have hfl := lt_of_block h.cells
  have HE : Hid (kept f keep = f.sy + (max keep 0).toNat % (f.bs.length - f.sy + 1)) := rfl
  obtain ⟨T, hT⟩ : ∃ T, kept f keep = T := ⟨_, rfl⟩
  rw [hT] at hk0 hk3 HE ⊢
  have csh := fun (W : World) (hW : FileAt W f) => shorten_any W f T hW hk3 hlen
  obtain ⟨F, hF⟩ : ∃ F, f.fb = F := ⟨_, rfl⟩
  have HF : Hid (f.fb = F) := hF
  rw [hF] at c0 c1 hfl csh ⊢
  obtain ⟨L, hL⟩ : ∃ L, f.bs.length = L := ⟨_, rfl⟩
  have HL : Hid (f.bs.length = L) := hL
  rw [hL] at c0 hsy hlen hk3 HE
  obtain ⟨S, hS⟩ : ∃ S, f.sy = S := ⟨_, rfl⟩
  rw [hS] at c1 hsy hk0 HE
  obtain ⟨K, hK⟩ : ∃ K : Nat, max keep 0 = (K : Int) := ⟨(max keep 0).toNat, by omega⟩
  rw [hK] at HE
  have hKb : K ≤ 9223372036854775807 := by omega
  obtain ⟨M, hM⟩ : ∃ M, L - S = M := ⟨_, rfl⟩
  have hsub : (L : Int) - (S : Int) = (M : Int) := by omega
  rw [hM] at HE
  obtain ⟨R, hR⟩ : ∃ R, K % (M + 1) = R := ⟨_, rfl⟩
  have hmod : Int.tmod (K : Int) ((M : Int) + 1) = (R : Int) := by rw [← hR]; rfl
  have hTR : S + R = T := by rw [← hR]; exact HE.out.symm
  have hadd : (S : Int) + (R : Int) = (T : Int) := by omega
  have hz : ((M : Int) + 1 == 0) = false := by simp; omega
  clear hv hF hL hS hM hR hT HE
  have k1 : ∀ x : Cl w.heap.size w, x.u.cell? ⟨F, 1, none⟩ = some (.int .i64 (S : Int)) := fun x => x.cell c1 hfl
  have hne := Cl.ne w.heap.size w
  go_enter Tryz.func65, Tryz.ntmps65
  go_wp2
  go_quiet (fail)
  go_wp2
  apply region_cl_tail (N := w.heap.size) (W := w) 11 12 (by kernel_rfl) (below_drewN (Below.refl _ _) _)
  case hl => simp only [List.take_succ_cons, List.take_zero]; rfl
  case ht => simp only [List.drop_succ_cons, List.drop_zero]; rfl
  case hB => kernel_rfl
  case hT => kernel_rfl
  case h =>
    repeat (go_big_quiet_step (fail))
    refine wpQuiet_nil ?_
    rintro _ ⟨x, rfl⟩
    have hx := x.h
    obtain ⟨w2, hw2⟩ : ∃ v, x.u = v := ⟨_, rfl⟩
    rw [hw2] at hx ⊢
    clear hw2 x k1 hne
    have h2 : FileAt w2 f := h.below hx
    go_wp2_with (go_at_call 90; refine (csh _ h2).mono ?_; rintro e w3 ⟨v3, rfl, h3, ho3, f3⟩)
    go_end0
    exact ⟨v3, rfl, h3, fun k hk => Nat.le_trans hx.size (ho3 k hk), (Fr.of_below hx).and f3 (fun _ _ e => e)⟩
/-- Sync: its step is handed in. -/
theorem sync_off (w : World) (d : Ds) (s : ByteArray) (h : DiskAt w d) (ho : d.on = false) : Calls Tryz.prog 45 #[.pointer (some ⟨d.db, 0, none⟩), .string s] w fun e w' => e = .returned (code 11) ∧ w' = w := by
  go_enter Tryz.func45, Tryz.ntmps45
  go_wp2_with (go_at_call 51; refine (find_off _ d s h ho).mono ?_; rintro e w1 ⟨rfl, rfl⟩)
  go_ret
  exact ⟨rfl, rfl⟩
theorem sync_none (w : World) (d : Ds) (s : ByteArray) (h : DiskAt w d) (ho : d.on = true) (hn : ∀ f ∈ d.fs, f.nm ≠ s) (hs : s.size ≤ 140737488355328) : Calls Tryz.prog 45 #[.pointer (some ⟨d.db, 0, none⟩), .string s] w fun e w' => e = .returned (code 9) ∧ w' = w := by
  go_enter Tryz.func45, Tryz.ntmps45
  go_wp2_with (go_at_call 51; refine (find_none _ d s h ho hn hs).mono ?_; rintro e w1 ⟨rfl, rfl⟩)
  go_ret
  exact ⟨rfl, rfl⟩
theorem sync_cut (w : World) (d : Ds) (f : FR) (h : DiskAt w d) (ho : d.on = true) (hf : f ∈ d.fs) (hb : d.bud = 0) : Calls Tryz.prog 45 #[.pointer (some ⟨d.db, 0, none⟩), .string f.nm] w fun e w' => e = .returned (code 11) ∧ DiskAt w' { d with on := false } ∧ Fr (Of d) w w' := by
  go_enter Tryz.func45, Tryz.ntmps45
  go_wp2_with (first
    | (go_at_call 51; refine (find_hit _ d f h ho hf).mono ?_; rintro e w1 ⟨rfl, rfl⟩)
    | (go_at_call 63; refine (step_cut _ d h hb).mono ?_; rintro e w2 ⟨rfl, h2, f2⟩))
  go_ret
  exact ⟨rfl, h2, f2.mono (fun k _ e => e ▸ of_db d)⟩
/-- A file with all its bytes synced. -/
def FR.synced (f : FR) : FR := { f with sy := f.bs.length }
theorem FileAt.set1 {w : World} {f : FR} (h : FileAt w f) (hne : some f.fb ≠ f.v.ownBlock) : FileAt (w.setCell ⟨f.fb, 1, none⟩ (.int .i64 (f.bs.length : Int))) f.synced := by
  refine ⟨?_, h.row.other (fun k hk => Below.heap_setCell _ _ _ _ (fun e => hne (by rw [hk, e]))), Nat.le_refl _⟩
  show (w.setCell ⟨f.fb, 1, none⟩ (.int .i64 (f.bs.length : Int))).heap[f.fb]? = _
  simp [World.setCell, Array.getElem?_modify, h.cells, FR.synced]
theorem sync_done (w : World) (d : Ds) (l1 l2 : List FR) (f : FR) (h : DiskAt w d) (ho : d.on = true) (hf : d.fs = l1 ++ f :: l2) (hb : d.bud ≠ 0) (hl : -1 ≤ d.bud) (hu : d.bud ≤ 9223372036854775807) :
    Calls Tryz.prog 45 #[.pointer (some ⟨d.db, 0, none⟩), .string f.nm] w fun e w' => e = .returned .nilIface ∧ DiskAt w' { d with bud := less d.bud, st := wrap64 (d.st + 1), fs := l1 ++ f.synced :: l2 } ∧ Fr (Of d) w w' := by
  have hm : f ∈ d.fs := by rw [hf]; simp
  have hne := h.row_ne hm
  obtain ⟨sa, sc, hv⟩ := (h.files f hm).row.form
  have HV : Hid (f.v = .slice sa f.bs.length sc) := hv
  obtain ⟨F, hF⟩ : ∃ F, f.fb = F := ⟨_, rfl⟩
  have HF : Hid (f.fb = F) := hF
  obtain ⟨L, hL⟩ : ∃ L, f.bs.length = L := ⟨_, rfl⟩
  have HL : Hid (f.bs.length = L) := hL
  have cf : ∀ W, DiskAt W { d with bud := less d.bud, st := wrap64 (d.st + 1) } → W.cell? ⟨F, 0, none⟩ = some (.slice sa L sc) ∧ W.cell? ⟨F, 1, none⟩ = some (.int .i64 (f.sy : Int)) ∧ W.frozen? ⟨F, 1, none⟩ = false := fun W hW => by
    have hx := hW.files f hm
    rw [← hF, ← hL, ← hv]
    exact ⟨hx.c0, hx.c1, hx.fz 1⟩
  clear hv hF hL
  have cfi := (show Calls Tryz.prog 51 #[.pointer (some ⟨d.db, 0, none⟩), .string f.nm] w (fun e w' => e = .returned (.tuple #[.pointer (some ⟨F, 0, none⟩), .nilIface]) ∧ w' = w) from HF.out ▸ find_hit w d f h ho hm)
  go_enter Tryz.func45, Tryz.ntmps45
  go_wp2_with (first
    | (go_at_call 51; refine cfi.mono ?_; rintro e w1 ⟨rfl, rfl⟩)
    | (go_at_call 63; refine (step_done _ d h hb hl hu).mono ?_; rintro e w2 ⟨rfl, h2, f2⟩; obtain ⟨c20, c21, z21⟩ := cf _ h2))
  go_ret
  rw [← HF.out, ← HL.out]
  have fr2 : Fr (fun k => k ∈ f.bl) w2 (w2.setCell ⟨f.fb, 1, none⟩ (.int .i64 (f.bs.length : Int))) := Fr.setCell (S := fun k => k ∈ f.bl) _ _ _ (by simp [FR.bl])
  refine ⟨rfl, h2.swap hf rfl rfl ((h2.files f hm).set1 hne) (fun k hk => .inl hk) fr2, (f2.mono (fun k _ e => e ▸ of_db d)).and fr2 (fun k _ e => mem_foot.2 (.inr (.inr ⟨f, hm, e⟩)))⟩
theorem read_off (w : World) (d : Ds) (s : ByteArray) (h : DiskAt w d) (ho : d.on = false) : Calls Tryz.prog 18 #[.pointer (some ⟨d.db, 0, none⟩), .string s] w fun e w' => e = .returned (.tuple #[.slice none 0 0, code 11]) ∧ w' = w := by
  go_enter Tryz.func18, Tryz.ntmps18
  go_wp2_with (go_at_call 51; refine (find_off _ d s h ho).mono ?_; rintro e w1 ⟨rfl, rfl⟩)
  go_ret2
  exact ⟨rfl, rfl⟩
theorem read_none (w : World) (d : Ds) (s : ByteArray) (h : DiskAt w d) (ho : d.on = true) (hn : ∀ f ∈ d.fs, f.nm ≠ s) (hs : s.size ≤ 140737488355328) : Calls Tryz.prog 18 #[.pointer (some ⟨d.db, 0, none⟩), .string s] w fun e w' => e = .returned (.tuple #[.slice none 0 0, code 9]) ∧ w' = w := by
  go_enter Tryz.func18, Tryz.ntmps18
  go_wp2_with (go_at_call 51; refine (find_none _ d s h ho hn hs).mono ?_; rintro e w1 ⟨rfl, rfl⟩)
  go_ret2
  exact ⟨rfl, rfl⟩
theorem read_hit (w : World) (d : Ds) (f : FR) (h : DiskAt w d) (ho : d.on = true) (hf : f ∈ d.fs) (hlen : f.bs.length ≤ 140737488355328) : Calls Tryz.prog 18 #[.pointer (some ⟨d.db, 0, none⟩), .string f.nm] w fun e w' => ∃ v', e = .returned (.tuple #[v', .nilIface]) ∧ RowB w.heap.size w' v' f.bs ∧ Below w.heap.size w w' := by
  have c0 := (h.files f hf).c0
  have hsl := (h.files f hf).row.slm
  have cfi := find_hit w d f h ho hf
  obtain ⟨F, hF⟩ : ∃ F, f.fb = F := ⟨_, rfl⟩
  obtain ⟨V, hV⟩ : ∃ V, f.v = V := ⟨_, rfl⟩
  rw [hF] at c0 cfi
  rw [hV] at c0 hsl
  clear hF hV
  go_enter Tryz.func18, Tryz.ntmps18
  go_wp2_with (first
    | (go_at_call 51; refine cfi.mono ?_; rintro e w1 ⟨rfl, rfl⟩)
    | (go_at_call 52; refine (clone_any V f.bs _ hsl hlen).mono ?_; rintro e w2 ⟨v2, rfl, hr2, hb2⟩))
  go_ret2
  exact ⟨_, rfl, hr2, hb2⟩
end Dk
end Go.Proofs.YtcinjdaanhpbjaaGreat

namespace Go.Proofs.YtcinjdaanhpbjaaGreat
open Go.RowKit
namespace Dk
open Bw Rg

/-- The files that are still to come are as they were, the others are torn. -/
def Torn (keep : Int) (left : Lit → Bool) : List FR → List FR → Prop
  | [], [] => True
  | f :: fs, g :: gs => (if left (key f.nm) = true then g = f else ∃ v', g = f.cut v' (kept f keep)) ∧ Torn keep left fs gs
  | _, _ => False
theorem torn_refl {keep : Int} {left : Lit → Bool} : ∀ {fs : List FR}, (∀ f ∈ fs, left (key f.nm) = true) → Torn keep left fs fs
  | [], _ => trivial
  | f :: fs, h => ⟨by rw [if_pos (h f (by simp))], torn_refl (fun g hg => h g (List.mem_cons_of_mem _ hg))⟩
theorem torn_names {keep : Int} {left : Lit → Bool} : ∀ {fs gs : List FR}, Torn keep left fs gs → gs.map (fun f => (f.nm, f.fb)) = fs.map fun f => (f.nm, f.fb)
  | [], [], _ => rfl
  | f :: fs, g :: gs, h => by
    rw [List.map_cons, List.map_cons, torn_names h.2]
    have h1 := h.1
    split at h1
    · rw [h1]
    · obtain ⟨v', rfl⟩ := h1
      rfl
  | [], _ :: _, h => h.elim
  | _ :: _, [], h => h.elim
theorem torn_other {keep : Int} {left : Lit → Bool} {s : ByteArray} : ∀ {fs gs : List FR}, (∀ f ∈ fs, f.nm ≠ s) → Torn keep left fs gs → Torn keep (fun z => left z && !z.sameKey (key s)) fs gs
  | [], [], _, _ => trivial
  | f :: fs, g :: gs, hn, h => by
    refine ⟨?_, torn_other (fun x hx => hn x (List.mem_cons_of_mem _ hx)) h.2⟩
    have e := Maps.sameKey_ne (fun e => hn f (by simp) (key_inj e))
    have h1 := h.1
    simpa [e] using h1
  | [], _ :: _, _, h => h.elim
  | _ :: _, [], _, h => h.elim
theorem torn_step {keep : Int} {left : Lit → Bool} {f : FR} : ∀ {fs gs : List FR}, (fs.map FR.nm).Nodup → f ∈ fs → left (key f.nm) = true → Torn keep left fs gs → ∃ l1 l2, gs = l1 ++ f :: l2 ∧ ∀ v', Torn keep (fun z => left z && !z.sameKey (key f.nm)) fs (l1 ++ f.cut v' (kept f keep) :: l2)
  | [], _, _, hf, _, _ => by simp at hf
  | x :: fs, [], _, _, _, h => h.elim
  | x :: fs, g :: gs, hnd, hf, hl, h => by
    rw [List.map_cons, List.nodup_cons] at hnd
    rcases List.mem_cons.1 hf with e | hf'
    · subst e
      have h1 := h.1
      rw [if_pos hl] at h1
      subst h1
      refine ⟨[], gs, rfl, fun v' => ⟨?_, torn_other (fun y hy e => hnd.1 (e ▸ List.mem_map_of_mem hy)) h.2⟩⟩
      have e := WideAt.sameKey_self (key_is g.nm)
      rw [if_neg (by simp [e])]
      exact ⟨v', rfl⟩
    · obtain ⟨l1, l2, e, h2⟩ := torn_step (keep := keep) hnd.2 hf' hl h.2
      refine ⟨g :: l1, l2, by rw [e]; rfl, fun v' => ⟨?_, h2 v'⟩⟩
      have hne : x.nm ≠ f.nm := fun e => hnd.1 (e ▸ List.mem_map_of_mem hf')
      have e := Maps.sameKey_ne (fun e => hne (key_inj e))
      have h1 := h.1
      simpa [e] using h1
theorem torn_end {keep : Int} {left : Lit → Bool} (hl : ∀ kl, left kl = false) : ∀ {fs gs : List FR}, Torn keep left fs gs → Torn keep (fun _ => false) fs gs
  | [], [], _ => trivial
  | f :: fs, g :: gs, h => ⟨by have h1 := h.1; rw [hl] at h1; exact h1, torn_end hl h.2⟩
  | [], _ :: _, h => h.elim
  | _ :: _, [], h => h.elim
theorem len_used {f : FR} {fs : List FR} (h : f ∈ fs) : f.bs.length ≤ used fs := by
  obtain ⟨l1, l2, rfl⟩ := List.append_of_mem h
  rw [used_mid]
  omega
theorem fr_grown {w w' : World} {b : Nat} (h : Fr (fun k => k = b) w w') : w.grownBy w' (some b) := ⟨h.os, h.tape, h.output, h.size, fun k hk hn => h.block k hk (fun e => hn (by rw [e]))⟩
theorem power_on (w : World) (d : Ds) (keep : Int) (h : DiskAt w d) (ho : d.on = true) : Calls Tryz.prog 30 #[.pointer (some ⟨d.db, 0, none⟩), .int .i64 keep] w fun e w' => e = .returned (.tuple #[]) ∧ DiskAt w' { d with on := true, bud := -1 } ∧ Fr (Of d) w w' := by
  have c2 := h.c2
  have c3 := h.c3
  have z2 := h.fz 2
  have z3 := h.fz 3
  rw [ho] at c2
  go_enter Tryz.func30, Tryz.ntmps30
  go_wp2
  go_end0
  exact ⟨rfl, (h.set2 true).set3 (-1), (Fr.setCell (S := Of d) _ _ _ (of_db d)).and (Fr.setCell (S := Of d) _ _ _ (of_db d)) (fun _ _ e => e)⟩
set_option maxHeartbeats 1000000 in
theorem power_off (w : World) (d : Ds) (keep : Int) (h : DiskAt w d) (ho : d.on = false) (hbig : used d.fs ≤ 140737488355328) (hk1 : -9223372036854775808 ≤ keep) (hk2 : keep ≤ 9223372036854775807) :
    Calls Tryz.prog 30 #[.pointer (some ⟨d.db, 0, none⟩), .int .i64 keep] w fun e w' => ∃ fs1, e = .returned (.tuple #[]) ∧ DiskAt w' { d with on := true, bud := -1, fs := fs1 } ∧ Torn keep (fun _ => false) d.fs fs1 ∧ Fr (Of d) w w' ∧ Grew d { d with on := true, bud := -1, fs := fs1 } w := by
  have c1 := h.c1
  have c2 := h.c2
  rw [ho] at c2
  have hlt := h.lt
  have hap := h.apart
  obtain ⟨D, hown, _, hhas, hat⟩ := h.map
  have HH : Hid (∀ s : ByteArray, Maps.has D (key s) = d.fs.any fun f => decide (f.nm = s)) := hhas
  have HA : Hid (∀ f ∈ d.fs, ∀ z, D.atKey (key f.nm) z = .lit (.int .i64 (f.fb : Int))) := hat
  have HLT : Hid (∀ k ∈ d.foot, k < w.heap.size) := hlt
  clear hhas hat hlt
  go_enter Tryz.func30, Tryz.ntmps30
  go_wp2_with (first
    | (at_range; refine wpList_range_own _ rfl _ 114 rfl 9 95 law9 Tryz.underlying114 _ d.mb d.fs.length D rfl hown ?_; intro w0 hrg0 hg0 hs0)
    | go_in)
  go_frame
  go_loopw [5] (fun _ wr => ∃ (left : Lit → Bool) (cnt : Nat) (fs1 : List FR), wr.ranges Tryz.prog 9 ptrElem d.mb w.heap.size d.fs.length D left cnt ∧ Hid (∀ kl, left kl = true → Maps.has D kl = true) ∧ DiskAt wr { d with fs := fs1 } ∧ Torn keep left d.fs fs1 ∧ Fr (Of d) w wr ∧ Hid (∀ k ∈ ({ d with fs := fs1 } : Ds).foot, k ∈ d.foot ∨ w.heap.size < k))
    (fun _ wr => wr.rangeLeft d.mb w.heap.size)
  case atStart =>
    refine ⟨_, _, d.fs, hrg0, fun kl e => e, h.kept (fun k hk => hg0.block k (HLT.out k hk) (by simp)), torn_refl (fun f hf => ?_), Fr.grown hg0 (fun k e => by cases e), fun k hk => .inl hk⟩
    rw [HH.out f.nm, List.any_eq_true]
    exact ⟨f, hf, by simp⟩
  case round =>
    obtain ⟨left, cnt, fs1, hrg, HL, hd, ht, hfr, HG⟩ := hrel
    clear hrg0 hg0 hs0
    go_wp2_with (first
      | (at_next; refine next_file rfl _ rfl d.mb w.heap.size d.fs.length d.fs D left cnt rfl hrg HL.out HH.out HA.out ?_ ?_)
      | go_in)
    · intro _ hl0
      have c2' := hd.c2
      have c3' := hd.c3
      have z2 := hd.fz 2
      have z3 := hd.fz 3
      rw [ho] at c2'
      go_wp2
      go_end0
      refine ⟨rfl, fs1, (hd.set2 true).set3 (-1), torn_end hl0 ht, (hfr.and (Fr.setCell (S := Of d) _ _ _ (of_db d)) (fun _ _ e => e)).and (Fr.setCell (S := Of d) _ _ _ (of_db d)) (fun _ _ e => e), fun k hk => ?_⟩
      rcases HG.out k hk with h1 | h1
      · exact .inl h1
      · exact .inr (by omega)
    · intro f w1 cnt1 hf hl hrg1 hlt hg1 hs1 hen
      obtain ⟨l1, l2, e1, hstep⟩ := torn_step (keep := keep) h.names hf hl ht
      have hd1 : DiskAt w1 { d with fs := fs1 } := hd.kept (fun k hk => hg1.block k (hd.lt k hk) (fun e => by
        rcases HG.out k hk with h1 | h1
        · have := HLT.out k h1
          cases e
          omega
        · cases e
          omega))
      have hf1 : FileAt w1 f := hd1.files f (by show f ∈ fs1; rw [e1]; simp)
      have hsz : w.heap.size < w1.heap.size := by rw [hs1]; exact hrg.lt
      have hfl : f.fb < w.heap.size := lt_of_block (h.files f hf).cells
      have hfm : f.fb ≠ d.mb := fun e => by
        have := (List.nodup_cons.1 (List.nodup_cons.1 hap).2).1
        exact this (List.mem_flatMap.2 ⟨f, hf, by simp [FR.bl, e]⟩)
      have ct := tear_any w1 f keep hf1 (Nat.le_trans (len_used hf) hbig) hk1 hk2
      obtain ⟨F, hF⟩ : ∃ F, f.fb = F := ⟨_, rfl⟩
      have HF : Hid (f.fb = F) := hF
      rw [hF] at hen ct hfl hfm ⊢
      clear hF
      go_wp2_with (go_at_call 65; refine ct.mono ?_; rintro e w2 ⟨v2, rfl, hf2, ho2, f2⟩; go_frame)
      have hrg2 := hrg1.kept (fr_grown f2) (fun e => hfm (Option.some.inj e).symm) (fun e => by have := Option.some.inj e; omega)
      go_roundw
      case rel =>
        refine ⟨_, cnt1, _, hrg2, fun kl e => HL.out kl (by simp at e; exact e.1), hd1.swap (f' := f.cut v2 (kept f keep)) e1 rfl rfl hf2 (fun k hk => .inr (ho2 k hk)) (f2.mono (fun k _ e => by rw [e, ← HF.out]; simp [FR.bl])), hstep v2, (hfr.and (Fr.grown (S := fun k => k = w.heap.size) hg1 (fun k e _ => by simpa using e.symm)) (fun k hk e => by omega)).and f2 (fun k hk e => mem_foot.2 (.inr (.inr ⟨f, hf, by rw [e, ← HF.out]; simp [FR.bl]⟩))), fun k hk => ?_⟩
        rcases foot_swap (d := d) (f := f) (f' := f.cut v2 (kept f keep)) (n := w1.heap.size) rfl (fun k hk => .inr (ho2 k hk)) k hk with h1 | h1
        · rw [← e1] at h1
          exact HG.out k h1
        · exact .inr (by omega)
      case measure => rw [hrg2.left_eq, hrg.left_eq]; exact hlt
end Dk
end Go.Proofs.YtcinjdaanhpbjaaGreat
