/- What shorten, tear, Sync and Read do: contracts, by walking their text. -/
import Derived.Test.YtamddicoancdhaaDf
namespace Go.Proofs.Ytamddicoancdhaa
open Go.RowKit
namespace Dk
open Bw Rg

theorem SlM.take {w : World} {a : Option Addr} {n c : Nat} {bs : List UInt8} (h : SlM w (.slice a n c) bs) (m : Nat) (hm : m ≤ bs.length) : SlM w (.slice a m c) (bs.take m) := by
  rcases Nat.eq_zero_or_pos m with rfl | hp
  · left
    refine ⟨by simp, ?_⟩
    rcases h with ⟨_, h1 | ⟨x, cap, h1, h2⟩⟩ | ⟨b, off, cap, h1, _, h2, _⟩
    · left
      cases h1
      rfl
    · cases h1
      exact .inr ⟨_, _, rfl, h2⟩
    · cases h1
      exact .inr ⟨_, _, rfl, h2⟩
  · rcases h with ⟨rfl, _⟩ | ⟨b, off, cap, h1, h2, h3, hc⟩
    · simp at hm
      omega
    · cases h1
      refine .inr ⟨b, off, c, by rw [List.length_take_of_le hm], by rw [List.length_take_of_le hm]; omega, h3, fun j hj => ?_⟩
      rw [List.length_take_of_le hm] at hj
      rw [hc j (by omega), List.getElem_take]
theorem RowB.spread {base : Nat} {w : World} {v : Value} {bs : List UInt8} (h : RowB base w v bs) : ∃ a c, v = .slice a bs.length c ∧ bs.length ≤ c ∧ c ≤ 9223372036854775807 := by
  rcases h.2 with ⟨rfl, h0⟩ | ⟨g, cap, cur, rfl, _, _, hn, hm, _⟩
  · exact ⟨none, 0, by rw [h0], by omega, by omega⟩
  · exact ⟨_, cap, rfl, hn, by unfold maxLen at hm; omega⟩
/-- A file cut short. -/
def FR.cut (f : FR) (v : Value) (n : Nat) : FR := { f with v := v, bs := f.bs.take n, sy := n }
theorem FileAt.set01 {w : World} {f : FR} {v : Value} {n : Nat} (hc : w.heap[f.fb]? = some (.cells #[f.v, .int .i64 (f.sy : Int)] 75 (0, 0))) (hr : RowB 0 w v (f.bs.take n)) (hne : some f.fb ≠ v.ownBlock) (hn : n ≤ f.bs.length) : FileAt ((w.setCell ⟨f.fb, 0, none⟩ v).setCell ⟨f.fb, 1, none⟩ (.int .i64 (n : Int))) (f.cut v n) := by
  refine ⟨?_, hr.other (fun k hk => ?_), ?_⟩
  · show ((w.setCell ⟨f.fb, 0, none⟩ v).setCell ⟨f.fb, 1, none⟩ (.int .i64 (n : Int))).heap[f.fb]? = _
    simp [World.setCell, Array.getElem?_modify, hc, FR.cut]
  · have hk' : v.ownBlock = some k := hk
    have : k ≠ f.fb := fun e => hne (by rw [hk', e])
    rw [Below.heap_setCell _ _ _ _ this, Below.heap_setCell _ _ _ _ this]
  · show n ≤ (f.bs.take n).length
    rw [List.length_take_of_le hn]
    exact Nat.le_refl _
theorem FileAt.below {w w' : World} {f : FR} (h : FileAt w f) (hb : Below w.heap.size w w') : FileAt w' f := h.kept (fun k hk => hb.block k (h.lt k hk))
theorem shorten_any (w : World) (f : FR) (n : Nat) (h : FileAt w f) (hn : n ≤ f.bs.length) (hlen : f.bs.length ≤ 140737488355328) :
    Calls Try.prog 45 #[.pointer (some ⟨f.fb, 0, none⟩), .int .i64 (n : Int)] w fun e w' => ∃ v', e = .returned (.tuple #[]) ∧ FileAt w' (f.cut v' n) ∧ (∀ k, v'.ownBlock = some k → w.heap.size ≤ k) ∧ Fr (fun k => k = f.fb) w w' := by
  have c0 := h.c0
  obtain ⟨sa, sc, hv, hsc, hsc2⟩ := RowB.spread h.row
  have hsl : SlM w (.slice sa n sc) (f.bs.take n) := by
    have := h.row.slm
    rw [hv] at this
    exact SlM.take this n hn
  rw [hv] at c0
  have HC := (show Hid (w.heap[f.fb]? = some (.cells #[f.v, .int .i64 (f.sy : Int)] 75 (0, 0))) from h.cells)
  have hfl := lt_of_block h.cells
  obtain ⟨F, hF⟩ : ∃ F, f.fb = F := ⟨_, rfl⟩
  have HF : Hid (f.fb = F) := hF
  rw [hF] at c0 hfl ⊢
  obtain ⟨L, hL⟩ : ∃ L, f.bs.length = L := ⟨_, rfl⟩
  have HL : Hid (f.bs.length = L) := hL
  rw [hL] at c0 hn hlen hsc
  clear hv hF hL
  have hi1 : (n : Int) ≤ (sc : Int) := by omega
  go_enter Try.func45, Try.ntmps45
  go_wp2_with (go_at_call 32; refine (clone_any (.slice sa n sc) (f.bs.take n) _ hsl (by rw [List.length_take, HL.out]; omega)).mono ?_; rintro e w1 ⟨v1, rfl, hr1, hb1⟩; have hbk := hb1.block F hfl; have c10 : w1.cell? ⟨F, 0, none⟩ = _ := (World.cell?_of_block (a := ⟨F, 0, none⟩) hbk).trans c0; have z10 : w1.frozen? ⟨F, 0, none⟩ = false := (World.frozen?_of_block (a := ⟨F, 0, none⟩) hbk).trans (HF.out ▸ h.fz 0); have c11 : w1.cell? ⟨F, 1, none⟩ = _ := (World.cell?_of_block (a := ⟨F, 1, none⟩) hbk).trans (HF.out ▸ h.c1); have z11 : w1.frozen? ⟨F, 1, none⟩ = false := (World.frozen?_of_block (a := ⟨F, 1, none⟩) hbk).trans (HF.out ▸ h.fz 1); obtain ⟨a5, k5, hv5⟩ := hr1.form; have HR : Hid (RowB w.heap.size w1 v1 (f.bs.take n)) := hr1; have HV : Hid (v1 = .slice a5 (f.bs.take n).length k5) := hv5; rw [hv5]; obtain ⟨L5, hL5⟩ : ∃ m, (f.bs.take n).length = m := ⟨_, rfl⟩; have HL5 : Hid ((f.bs.take n).length = L5) := hL5; rw [hL5]; have HB : Hid (Below w.heap.size w w1) := hb1; clear hr1 hv5 hL5 hbk hb1)
  go_end0
  have hv5 : Value.slice a5 L5 k5 = v1 := by rw [HV.out, HL5.out]
  rw [hv5]
  have hown := HR.out.lt
  have hc1 : w1.heap[f.fb]? = some (.cells #[f.v, .int .i64 (f.sy : Int)] 75 (0, 0)) := (HB.out.block f.fb (by rw [HF.out]; exact hfl)).trans HC.out
  refine ⟨v1, rfl, ?_, hown, (Fr.of_below HB.out).and ((Fr.setCell (S := fun k => k = F) _ _ _ rfl).and (Fr.setCell (S := fun k => k = F) _ _ _ rfl) (fun _ _ e => e)) (fun _ _ e => e)⟩
  rw [← HF.out]
  refine FileAt.set01 hc1 (HR.out.mono (Nat.zero_le _)) (fun e => ?_) (by rw [HL.out]; exact hn)
  have := hown f.fb e.symm
  rw [HF.out] at this
  omega
/-- How many bytes a file keeps when the power comes back. -/
def kept (f : FR) (keep : Int) : Nat := f.sy + (max keep 0).toNat % (f.bs.length - f.sy + 1)
theorem kept_le {f : FR} (h : f.sy ≤ f.bs.length) (keep : Int) : f.sy ≤ kept f keep ∧ kept f keep ≤ f.bs.length := by
  unfold kept
  have := Nat.mod_lt (max keep 0).toNat (show 0 < f.bs.length - f.sy + 1 by omega)
  omega
theorem tear_any (w : World) (f : FR) (keep : Int) (h : FileAt w f) (hlen : f.bs.length ≤ 140737488355328) (_hk1 : -9223372036854775808 ≤ keep) (hk2 : keep ≤ 9223372036854775807) :
    Calls Try.prog 43 #[.pointer (some ⟨f.fb, 0, none⟩), .int .i64 keep] w fun e w' => ∃ v', e = .returned (.tuple #[]) ∧ FileAt w' (f.cut v' (kept f keep)) ∧ (∀ k, v'.ownBlock = some k → w.heap.size ≤ k) ∧ Fr (fun k => k = f.fb) w w' := by
  have c0 := h.c0
  have c1 := h.c1
  have hsy := h.sync
  obtain ⟨hk0, hk3⟩ := kept_le hsy keep
  obtain ⟨sa, sc, hv, hsc, hsc2⟩ := RowB.spread h.row
  rw [hv] at c0
  have hfl := lt_of_block h.cells
  have HE : Hid (kept f keep = f.sy + (max keep 0).toNat % (f.bs.length - f.sy + 1)) := rfl
  obtain ⟨T, hT⟩ : ∃ T, kept f keep = T := ⟨_, rfl⟩
  rw [hT] at hk0 hk3 HE ⊢
  have csh := fun (W : World) (hW : FileAt W f) => shorten_any W f T hW hk3 hlen
  obtain ⟨F, hF⟩ : ∃ F, f.fb = F := ⟨_, rfl⟩
  have HF : Hid (f.fb = F) := hF
  rw [hF] at c0 c1 hfl csh ⊢
  obtain ⟨L, hL⟩ : ∃ L, f.bs.length = L := ⟨_, rfl⟩
  have HL : Hid (f.bs.length = L) := hL
  rw [hL] at c0 hsy hlen hk3 HE
  obtain ⟨S, hS⟩ : ∃ S, f.sy = S := ⟨_, rfl⟩
  rw [hS] at c1 hsy hk0 HE
  obtain ⟨K, hK⟩ : ∃ K : Nat, max keep 0 = (K : Int) := ⟨(max keep 0).toNat, by omega⟩
  rw [hK] at HE
  have hKb : K ≤ 9223372036854775807 := by omega
  obtain ⟨M, hM⟩ : ∃ M, L - S = M := ⟨_, rfl⟩
  have hsub : (L : Int) - (S : Int) = (M : Int) := by omega
  rw [hM] at HE
  obtain ⟨R, hR⟩ : ∃ R, K % (M + 1) = R := ⟨_, rfl⟩
  have hmod : Int.tmod (K : Int) ((M : Int) + 1) = (R : Int) := by rw [← hR]; rfl
  have hTR : S + R = T := by rw [← hR]; exact HE.out.symm
  have hadd : (S : Int) + (R : Int) = (T : Int) := by omega
  have hz : ((M : Int) + 1 == 0) = false := by simp; omega
  clear hv hF hL hS hM hR hT HE
  have k1 : ∀ x : Cl w.heap.size w, x.u.cell? ⟨F, 1, none⟩ = some (.int .i64 (S : Int)) := fun x => x.cell c1 hfl
  have hne := Cl.ne w.heap.size w
  go_enter Try.func43, Try.ntmps43
  go_wp2
  go_quiet (fail)
  go_wp2
  apply region_cl_tail (N := w.heap.size) (W := w) 11 12 (by kernel_rfl) (below_drewN (Below.refl _ _) _)
  case hl => simp only [List.take_succ_cons, List.take_zero]; rfl
  case ht => simp only [List.drop_succ_cons, List.drop_zero]; rfl
  case hB => kernel_rfl
  case hT => kernel_rfl
  case h =>
    repeat (go_big_quiet_step (fail))
    refine wpQuiet_nil ?_
    rintro _ ⟨x, rfl⟩
    have hx := x.h
    obtain ⟨w2, hw2⟩ : ∃ v, x.u = v := ⟨_, rfl⟩
    rw [hw2] at hx ⊢
    clear hw2 x k1 hne
    have h2 : FileAt w2 f := h.below hx
    go_wp2_with (go_at_call 45; refine (csh _ h2).mono ?_; rintro e w3 ⟨v3, rfl, h3, ho3, f3⟩)
    go_end0
    exact ⟨v3, rfl, h3, fun k hk => Nat.le_trans hx.size (ho3 k hk), (Fr.of_below hx).and f3 (fun _ _ e => e)⟩
/-- Sync: its step is handed in. -/
theorem sync_off (w : World) (d : Ds) (s : ByteArray) (h : DiskAt w d) (ho : d.on = false) : Calls Try.prog 42 #[.pointer (some ⟨d.db, 0, none⟩), .string s] w fun e w' => e = .returned (code 11) ∧ w' = w := by
  go_enter Try.func42, Try.ntmps42
  go_wp2_with (go_at_call 41; refine (find_off _ d s h ho).mono ?_; rintro e w1 ⟨rfl, rfl⟩)
  go_ret
  exact ⟨rfl, rfl⟩
theorem sync_none (w : World) (d : Ds) (s : ByteArray) (h : DiskAt w d) (ho : d.on = true) (hn : ∀ f ∈ d.fs, f.nm ≠ s) (hs : s.size ≤ 140737488355328) : Calls Try.prog 42 #[.pointer (some ⟨d.db, 0, none⟩), .string s] w fun e w' => e = .returned (code 9) ∧ w' = w := by
  go_enter Try.func42, Try.ntmps42
  go_wp2_with (go_at_call 41; refine (find_none _ d s h ho hn hs).mono ?_; rintro e w1 ⟨rfl, rfl⟩)
  go_ret
  exact ⟨rfl, rfl⟩
theorem sync_cut (w : World) (d : Ds) (f : FR) (h : DiskAt w d) (ho : d.on = true) (hf : f ∈ d.fs) (hb : d.bud = 0) : Calls Try.prog 42 #[.pointer (some ⟨d.db, 0, none⟩), .string f.nm] w fun e w' => e = .returned (code 11) ∧ DiskAt w' { d with on := false } ∧ Fr (Of d) w w' := by
  go_enter Try.func42, Try.ntmps42
  go_wp2_with (first
    | (go_at_call 41; refine (find_hit _ d f h ho hf).mono ?_; rintro e w1 ⟨rfl, rfl⟩)
    | (go_at_call 39; refine (step_cut _ d h hb).mono ?_; rintro e w2 ⟨rfl, h2, f2⟩))
  go_ret
  exact ⟨rfl, h2, f2.mono (fun k _ e => e ▸ of_db d)⟩
/-- A file with all its bytes synced. -/
def FR.synced (f : FR) : FR := { f with sy := f.bs.length }
theorem FileAt.set1 {w : World} {f : FR} (h : FileAt w f) (hne : some f.fb ≠ f.v.ownBlock) : FileAt (w.setCell ⟨f.fb, 1, none⟩ (.int .i64 (f.bs.length : Int))) f.synced := by
  refine ⟨?_, h.row.other (fun k hk => Below.heap_setCell _ _ _ _ (fun e => hne (by rw [hk, e]))), Nat.le_refl _⟩
  show (w.setCell ⟨f.fb, 1, none⟩ (.int .i64 (f.bs.length : Int))).heap[f.fb]? = _
  simp [World.setCell, Array.getElem?_modify, h.cells, FR.synced]
theorem sync_done (w : World) (d : Ds) (l1 l2 : List FR) (f : FR) (h : DiskAt w d) (ho : d.on = true) (hf : d.fs = l1 ++ f :: l2) (hb : d.bud ≠ 0) (hl : -1 ≤ d.bud) (hu : d.bud ≤ 9223372036854775807) :
    Calls Try.prog 42 #[.pointer (some ⟨d.db, 0, none⟩), .string f.nm] w fun e w' => e = .returned .nilIface ∧ DiskAt w' { d with bud := less d.bud, st := wrap64 (d.st + 1), fs := l1 ++ f.synced :: l2 } ∧ Fr (Of d) w w' := by
  have hm : f ∈ d.fs := by rw [hf]; simp
  have hne := h.row_ne hm
  obtain ⟨sa, sc, hv⟩ := (h.files f hm).row.form
  have HV : Hid (f.v = .slice sa f.bs.length sc) := hv
  obtain ⟨F, hF⟩ : ∃ F, f.fb = F := ⟨_, rfl⟩
  have HF : Hid (f.fb = F) := hF
  obtain ⟨L, hL⟩ : ∃ L, f.bs.length = L := ⟨_, rfl⟩
  have HL : Hid (f.bs.length = L) := hL
  have cf : ∀ W, DiskAt W { d with bud := less d.bud, st := wrap64 (d.st + 1) } → W.cell? ⟨F, 0, none⟩ = some (.slice sa L sc) ∧ W.cell? ⟨F, 1, none⟩ = some (.int .i64 (f.sy : Int)) ∧ W.frozen? ⟨F, 1, none⟩ = false := fun W hW => by
    have hx := hW.files f hm
    rw [← hF, ← hL, ← hv]
    exact ⟨hx.c0, hx.c1, hx.fz 1⟩
  clear hv hF hL
  have cfi := (show Calls Try.prog 41 #[.pointer (some ⟨d.db, 0, none⟩), .string f.nm] w (fun e w' => e = .returned (.tuple #[.pointer (some ⟨F, 0, none⟩), .nilIface]) ∧ w' = w) from HF.out ▸ find_hit w d f h ho hm)
  go_enter Try.func42, Try.ntmps42
  go_wp2_with (first
    | (go_at_call 41; refine cfi.mono ?_; rintro e w1 ⟨rfl, rfl⟩)
    | (go_at_call 39; refine (step_done _ d h hb hl hu).mono ?_; rintro e w2 ⟨rfl, h2, f2⟩; obtain ⟨c20, c21, z21⟩ := cf _ h2))
  go_ret
  rw [← HF.out, ← HL.out]
  have fr2 : Fr (fun k => k ∈ f.bl) w2 (w2.setCell ⟨f.fb, 1, none⟩ (.int .i64 (f.bs.length : Int))) := Fr.setCell (S := fun k => k ∈ f.bl) _ _ _ (by simp [FR.bl])
  refine ⟨rfl, h2.swap hf rfl rfl ((h2.files f hm).set1 hne) (fun k hk => .inl hk) fr2, (f2.mono (fun k _ e => e ▸ of_db d)).and fr2 (fun k _ e => mem_foot.2 (.inr (.inr ⟨f, hm, e⟩)))⟩
theorem read_off (w : World) (d : Ds) (s : ByteArray) (h : DiskAt w d) (ho : d.on = false) : Calls Try.prog 21 #[.pointer (some ⟨d.db, 0, none⟩), .string s] w fun e w' => e = .returned (.tuple #[.slice none 0 0, code 11]) ∧ w' = w := by
  go_enter Try.func21, Try.ntmps21
  go_wp2_with (go_at_call 41; refine (find_off _ d s h ho).mono ?_; rintro e w1 ⟨rfl, rfl⟩)
  go_ret2
  exact ⟨rfl, rfl⟩
theorem read_none (w : World) (d : Ds) (s : ByteArray) (h : DiskAt w d) (ho : d.on = true) (hn : ∀ f ∈ d.fs, f.nm ≠ s) (hs : s.size ≤ 140737488355328) : Calls Try.prog 21 #[.pointer (some ⟨d.db, 0, none⟩), .string s] w fun e w' => e = .returned (.tuple #[.slice none 0 0, code 9]) ∧ w' = w := by
  go_enter Try.func21, Try.ntmps21
  go_wp2_with (go_at_call 41; refine (find_none _ d s h ho hn hs).mono ?_; rintro e w1 ⟨rfl, rfl⟩)
  go_ret2
  exact ⟨rfl, rfl⟩
theorem read_hit (w : World) (d : Ds) (f : FR) (h : DiskAt w d) (ho : d.on = true) (hf : f ∈ d.fs) (hlen : f.bs.length ≤ 140737488355328) : Calls Try.prog 21 #[.pointer (some ⟨d.db, 0, none⟩), .string f.nm] w fun e w' => ∃ v', e = .returned (.tuple #[v', .nilIface]) ∧ RowB w.heap.size w' v' f.bs ∧ Below w.heap.size w w' := by
  have c0 := (h.files f hf).c0
  have hsl := (h.files f hf).row.slm
  have cfi := find_hit w d f h ho hf
  obtain ⟨F, hF⟩ : ∃ F, f.fb = F := ⟨_, rfl⟩
  obtain ⟨V, hV⟩ : ∃ V, f.v = V := ⟨_, rfl⟩
  rw [hF] at c0 cfi
  rw [hV] at c0 hsl
  clear hF hV
  go_enter Try.func21, Try.ntmps21
  go_wp2_with (first
    | (go_at_call 41; refine cfi.mono ?_; rintro e w1 ⟨rfl, rfl⟩)
    | (go_at_call 32; refine (clone_any V f.bs _ hsl hlen).mono ?_; rintro e w2 ⟨v2, rfl, hr2, hb2⟩))
  go_ret2
  exact ⟨_, rfl, hr2, hb2⟩
end Dk
end Go.Proofs.Ytamddicoancdhaa
