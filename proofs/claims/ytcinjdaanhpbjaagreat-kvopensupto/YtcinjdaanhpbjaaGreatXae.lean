/- What Truncate, Remove and Rename do: contracts, by walking their text. The model by which the disk and the reference are held together: files in the order of their names. -/
import Derived.Test.YtcinjdaanhpbjaaGreatXac
import Derived.Test.YtcinjdaanhpbjaaGreatXad
import Derived.Sort.KeysCollected
import Derived.Sort.Walk0
namespace Go.Proofs.YtcinjdaanhpbjaaGreat
open Go.RowKit
namespace Dk
open Bw Rg

theorem trunc_off (w : World) (d : Ds) (s : ByteArray) (n : Int) (h : DiskAt w d) (ho : d.on = false) : Calls Tryz.prog 66 #[.pointer (some ⟨d.db, 0, none⟩), .string s, .int .i64 n] w fun e w' => e = .returned (code 11) ∧ w' = w := by
  go_enter Tryz.func66, Tryz.ntmps66
  go_wp2_with (go_at_call 51; refine (find_off _ d s h ho).mono ?_; rintro e w1 ⟨rfl, rfl⟩)
  go_ret
  exact ⟨rfl, rfl⟩
theorem trunc_none (w : World) (d : Ds) (s : ByteArray) (n : Int) (h : DiskAt w d) (ho : d.on = true) (hn : ∀ f ∈ d.fs, f.nm ≠ s) (hs : s.size ≤ 140737488355328) : Calls Tryz.prog 66 #[.pointer (some ⟨d.db, 0, none⟩), .string s, .int .i64 n] w fun e w' => e = .returned (code 9) ∧ w' = w := by
  go_enter Tryz.func66, Tryz.ntmps66
  go_wp2_with (go_at_call 51; refine (find_none _ d s h ho hn hs).mono ?_; rintro e w1 ⟨rfl, rfl⟩)
  go_ret
  exact ⟨rfl, rfl⟩
theorem trunc_bad (w : World) (d : Ds) (f : FR) (n : Int) (h : DiskAt w d) (ho : d.on = true) (hf : f ∈ d.fs) (hn : n < 0 ∨ (f.bs.length : Int) < n) : Calls Tryz.prog 66 #[.pointer (some ⟨d.db, 0, none⟩), .string f.nm, .int .i64 n] w fun e w' => e = .returned (code 1) ∧ w' = w := by
  have c0 := (h.files f hf).c0
  obtain ⟨sa, sc, hv⟩ := (h.files f hf).row.form
  rw [hv] at c0
  have cfi := find_hit w d f h ho hf
  obtain ⟨F, hF⟩ : ∃ F, f.fb = F := ⟨_, rfl⟩
  obtain ⟨L, hL⟩ : ∃ L, f.bs.length = L := ⟨_, rfl⟩
  rw [hF] at c0 cfi
  rw [hL] at c0 hn
  clear hF hL hv
  by_cases h0 : n < 0
  · go_enter Tryz.func66, Tryz.ntmps66
    go_wp2_with (go_at_call 51; refine cfi.mono ?_; rintro e w1 ⟨rfl, rfl⟩)
    go_ret
    exact ⟨rfl, rfl⟩
  · have h1 : (L : Int) < n := by omega
    go_enter Tryz.func66, Tryz.ntmps66
    go_wp2_with (go_at_call 51; refine cfi.mono ?_; rintro e w1 ⟨rfl, rfl⟩)
    go_ret
    exact ⟨rfl, rfl⟩
theorem trunc_cut (w : World) (d : Ds) (f : FR) (n : Nat) (h : DiskAt w d) (ho : d.on = true) (hf : f ∈ d.fs) (hn : n ≤ f.bs.length) (hb : d.bud = 0) : Calls Tryz.prog 66 #[.pointer (some ⟨d.db, 0, none⟩), .string f.nm, .int .i64 (n : Int)] w fun e w' => e = .returned (code 11) ∧ DiskAt w' { d with on := false } ∧ Fr (Of d) w w' := by
  have c0 := (h.files f hf).c0
  obtain ⟨sa, sc, hv⟩ := (h.files f hf).row.form
  rw [hv] at c0
  have cfi := find_hit w d f h ho hf
  obtain ⟨F, hF⟩ : ∃ F, f.fb = F := ⟨_, rfl⟩
  obtain ⟨L, hL⟩ : ∃ L, f.bs.length = L := ⟨_, rfl⟩
  rw [hF] at c0 cfi
  rw [hL] at c0 hn
  clear hF hL hv
  have h0 : ¬ (n : Int) < 0 := by omega
  have h1 : ¬ (L : Int) < (n : Int) := by omega
  go_enter Tryz.func66, Tryz.ntmps66
  go_wp2_with (first
    | (go_at_call 51; refine cfi.mono ?_; rintro e w1 ⟨rfl, rfl⟩)
    | (go_at_call 63; refine (step_cut _ d h hb).mono ?_; rintro e w2 ⟨rfl, h2, f2⟩))
  go_ret
  exact ⟨rfl, h2, f2.mono (fun k _ e => e ▸ of_db d)⟩
theorem trunc_done (w : World) (d : Ds) (l1 l2 : List FR) (f : FR) (n : Nat) (h : DiskAt w d) (ho : d.on = true) (hf : d.fs = l1 ++ f :: l2) (hn : n ≤ f.bs.length) (hlen : f.bs.length ≤ 140737488355328) (hb : d.bud ≠ 0) (hl : -1 ≤ d.bud) (hu : d.bud ≤ 9223372036854775807) :
    Calls Tryz.prog 66 #[.pointer (some ⟨d.db, 0, none⟩), .string f.nm, .int .i64 (n : Int)] w fun e w' => ∃ v', e = .returned .nilIface ∧ DiskAt w' { d with bud := less d.bud, st := wrap64 (d.st + 1), fs := l1 ++ f.cut v' n :: l2 } ∧ Fr (Of d) w w' ∧ Grew d { d with bud := less d.bud, st := wrap64 (d.st + 1), fs := l1 ++ f.cut v' n :: l2 } w := by
  have hm : f ∈ d.fs := by rw [hf]; simp
  have c0 := (h.files f hm).c0
  obtain ⟨sa, sc, hv⟩ := (h.files f hm).row.form
  rw [hv] at c0
  have cfi := find_hit w d f h ho hm
  have csh := fun (W : World) (hW : FileAt W f) => shorten_any W f n hW hn hlen
  obtain ⟨F, hF⟩ : ∃ F, f.fb = F := ⟨_, rfl⟩
  have HF : Hid (f.fb = F) := hF
  obtain ⟨L, hL⟩ : ∃ L, f.bs.length = L := ⟨_, rfl⟩
  rw [hF] at c0 cfi csh
  rw [hL] at c0 hn
  clear hF hL hv
  have h0 : ¬ (n : Int) < 0 := by omega
  have h1 : ¬ (L : Int) < (n : Int) := by omega
  go_enter Tryz.func66, Tryz.ntmps66
  go_wp2_with (first
    | (go_at_call 51; refine cfi.mono ?_; rintro e w1 ⟨rfl, rfl⟩)
    | (go_at_call 63; refine (step_done _ d h hb hl hu).mono ?_; rintro e w2 ⟨rfl, h2, f2⟩)
    | (go_at_call 90; refine (csh _ (h2.files f hm)).mono ?_; rintro e w3 ⟨v3, rfl, h3, ho3, f3⟩))
  go_ret
  have fr3 : Fr (fun k => k ∈ f.bl) w2 w3 := f3.mono (fun k _ e => by rw [e, ← HF.out]; simp [FR.bl])
  refine ⟨v3, rfl, h2.swap (f' := f.cut v3 n) hf rfl rfl h3 (fun k hk => .inr (ho3 k hk)) fr3, (f2.mono (fun k _ e => e ▸ of_db d)).and fr3 (fun k _ e => mem_foot.2 (.inr (.inr ⟨f, hm, e⟩))), fun k hk => ?_⟩
  rcases foot_swap (d := { d with bud := less d.bud, st := wrap64 (d.st + 1) }) (f := f) (f' := f.cut v3 n) (n := w2.heap.size) rfl (fun k hk => .inr (ho3 k hk)) k hk with h8 | h8
  · rw [← hf] at h8
    exact .inl h8
  · exact .inr (Nat.le_trans f2.size h8)
theorem but_sub (s : ByteArray) (fs : List FR) : (but s fs).Sublist fs := List.filter_sublist
theorem flat_sub : ∀ {l1 l2 : List FR}, l1.Sublist l2 → (l1.flatMap FR.bl).Sublist (l2.flatMap FR.bl) := fun h => by
  induction h with
  | slnil => exact List.Sublist.refl _
  | cons a _ ih => rw [List.flatMap_cons]; exact ih.trans (List.sublist_append_right _ _)
  | cons_cons a _ ih => rw [List.flatMap_cons, List.flatMap_cons]; exact (List.Sublist.refl _).append ih
/-- The files become some of these and one more, which was among them under another name; the map turns alone. -/
theorem DiskAt.fewer {w w' : World} {d : Ds} {gs : List FR} (h : DiskAt w d) (hs : gs.Sublist d.fs) (hm : MapAt w' d.mb gs) (fr : Fr (fun k => k = d.mb) w w') : DiskAt w' { d with fs := gs } := by
  have hap := h.apart
  unfold Ds.foot at hap
  have n2 := (List.nodup_cons.1 (List.nodup_cons.1 hap).2).1
  have n1 := (List.nodup_cons.1 hap).1
  refine ⟨(fr.block _ (lt_of_block h.cells) (fun e => n1 (by rw [e]; simp))).trans h.cells, hm, fun f hf => ?_, ?_, (hs.map FR.nm).nodup h.names, fun f hf => h.short f (hs.subset hf)⟩
  · have hf' := hs.subset hf
    exact (h.files f hf').kept (fun k hk => fr.block k ((h.files f hf').lt k hk) (fun e => n2 (e ▸ List.mem_flatMap.2 ⟨f, hf', hk⟩)))
  · exact (((flat_sub hs).cons_cons d.mb).cons_cons d.db).nodup h.apart
theorem grew_sub {d d' : Ds} {w : World} (h1 : d'.db = d.db) (h2 : d'.mb = d.mb) (hs : d'.fs.Sublist d.fs) : Grew d d' w := fun k hk => by
  rcases mem_foot.1 hk with e | e | ⟨f, hf, hk⟩
  · exact .inl (mem_foot.2 (.inl (e.trans h1)))
  · exact .inl (mem_foot.2 (.inr (.inl (e.trans h2))))
  · exact .inl (mem_foot.2 (.inr (.inr ⟨f, hs.subset hf, hk⟩)))
theorem remove_off (w : World) (d : Ds) (s : ByteArray) (h : DiskAt w d) (ho : d.on = false) : Calls Tryz.prog 74 #[.pointer (some ⟨d.db, 0, none⟩), .string s] w fun e w' => e = .returned (code 11) ∧ w' = w := by
  go_enter Tryz.func74, Tryz.ntmps74
  go_wp2_with (go_at_call 51; refine (find_off _ d s h ho).mono ?_; rintro e w1 ⟨rfl, rfl⟩)
  go_ret
  exact ⟨rfl, rfl⟩
theorem remove_none (w : World) (d : Ds) (s : ByteArray) (h : DiskAt w d) (ho : d.on = true) (hn : ∀ f ∈ d.fs, f.nm ≠ s) (hs : s.size ≤ 140737488355328) : Calls Tryz.prog 74 #[.pointer (some ⟨d.db, 0, none⟩), .string s] w fun e w' => e = .returned (code 9) ∧ w' = w := by
  go_enter Tryz.func74, Tryz.ntmps74
  go_wp2_with (go_at_call 51; refine (find_none _ d s h ho hn hs).mono ?_; rintro e w1 ⟨rfl, rfl⟩)
  go_ret
  exact ⟨rfl, rfl⟩
theorem remove_cut (w : World) (d : Ds) (f : FR) (h : DiskAt w d) (ho : d.on = true) (hf : f ∈ d.fs) (hb : d.bud = 0) : Calls Tryz.prog 74 #[.pointer (some ⟨d.db, 0, none⟩), .string f.nm] w fun e w' => e = .returned (code 11) ∧ DiskAt w' { d with on := false } ∧ Fr (Of d) w w' := by
  go_enter Tryz.func74, Tryz.ntmps74
  go_wp2_with (first
    | (go_at_call 51; refine (find_hit _ d f h ho hf).mono ?_; rintro e w1 ⟨rfl, rfl⟩)
    | (go_at_call 63; refine (step_cut _ d h hb).mono ?_; rintro e w2 ⟨rfl, h2, f2⟩))
  go_ret
  exact ⟨rfl, h2, f2.mono (fun k _ e => e ▸ of_db d)⟩
theorem remove_done (w : World) (d : Ds) (f : FR) (h : DiskAt w d) (ho : d.on = true) (hf : f ∈ d.fs) (hb : d.bud ≠ 0) (hl : -1 ≤ d.bud) (hu : d.bud ≤ 9223372036854775807) :
    Calls Tryz.prog 74 #[.pointer (some ⟨d.db, 0, none⟩), .string f.nm] w fun e w' => e = .returned .nilIface ∧ DiskAt w' { d with bud := less d.bud, st := wrap64 (d.st + 1), fs := but f.nm d.fs } ∧ Fr (Of d) w w' := by
  have hsz := h.short f hf
  go_enter Tryz.func74, Tryz.ntmps74
  go_wp2_with (first
    | (go_at_call 51; refine (find_hit _ d f h ho hf).mono ?_; rintro e w1 ⟨rfl, rfl⟩)
    | (go_at_call 63; refine (step_done _ d h hb hl hu).mono ?_; rintro e w2 ⟨rfl, h2, f2⟩; have c21 := h2.c1; obtain ⟨w3, hr3, hm3, g3⟩ := h2.map.drop h2.names (s := f.nm) (by omega) 0))
  go_ret
  have fr3 : Fr (fun k => k = d.mb) w2 w3 := Fr.grown g3 (fun k e _ => by simpa using e.symm)
  exact ⟨rfl, h2.fewer (but_sub _ _) hm3 fr3, (f2.mono (fun k _ e => e ▸ of_db d)).and fr3 (fun k _ e => mem_foot.2 (.inr (.inl e)))⟩
theorem nm_size {s : ByteArray} (h : isNm s = true) : 1 ≤ s.size ∧ s.size ≤ 32 := by
  simp only [isNm, Bool.and_eq_true, decide_eq_true_eq] at h
  exact h.1
theorem rename_bad (w : World) (d : Ds) (s t : ByteArray) (ht : t.size ≤ 140737488355328) (hn : isNm t = false) : Calls Tryz.prog 46 #[.pointer (some ⟨d.db, 0, none⟩), .string s, .string t] w fun e w' => e = .returned (code 1) ∧ w' = w := by
  have hc := fun W => isName_any t W ht
  rw [hn] at hc
  go_enter Tryz.func46, Tryz.ntmps46
  go_wp2_with (go_at_call 62; refine (hc _).mono ?_; rintro e w1 ⟨rfl, rfl⟩)
  go_ret
  exact ⟨rfl, rfl⟩
theorem rename_off (w : World) (d : Ds) (s t : ByteArray) (h : DiskAt w d) (hn : isNm t = true) (ho : d.on = false) : Calls Tryz.prog 46 #[.pointer (some ⟨d.db, 0, none⟩), .string s, .string t] w fun e w' => e = .returned (code 11) ∧ w' = w := by
  have hc := fun W => isName_any t W (by have := nm_size hn; omega)
  rw [hn] at hc
  go_enter Tryz.func46, Tryz.ntmps46
  go_wp2_with (first
    | (go_at_call 62; refine (hc _).mono ?_; rintro e w1 ⟨rfl, rfl⟩)
    | (go_at_call 51; refine (find_off _ d s h ho).mono ?_; rintro e w1 ⟨rfl, rfl⟩))
  go_ret
  exact ⟨rfl, rfl⟩
theorem rename_none (w : World) (d : Ds) (s t : ByteArray) (h : DiskAt w d) (hn : isNm t = true) (ho : d.on = true) (hno : ∀ f ∈ d.fs, f.nm ≠ s) (hs : s.size ≤ 140737488355328) : Calls Tryz.prog 46 #[.pointer (some ⟨d.db, 0, none⟩), .string s, .string t] w fun e w' => e = .returned (code 9) ∧ w' = w := by
  have hc := fun W => isName_any t W (by have := nm_size hn; omega)
  rw [hn] at hc
  go_enter Tryz.func46, Tryz.ntmps46
  go_wp2_with (first
    | (go_at_call 62; refine (hc _).mono ?_; rintro e w1 ⟨rfl, rfl⟩)
    | (go_at_call 51; refine (find_none _ d s h ho hno hs).mono ?_; rintro e w1 ⟨rfl, rfl⟩))
  go_ret
  exact ⟨rfl, rfl⟩
theorem rename_cut (w : World) (d : Ds) (f : FR) (t : ByteArray) (h : DiskAt w d) (hn : isNm t = true) (ho : d.on = true) (hf : f ∈ d.fs) (hb : d.bud = 0) : Calls Tryz.prog 46 #[.pointer (some ⟨d.db, 0, none⟩), .string f.nm, .string t] w fun e w' => e = .returned (code 11) ∧ DiskAt w' { d with on := false } ∧ Fr (Of d) w w' := by
  have hc := fun W => isName_any t W (by have := nm_size hn; omega)
  rw [hn] at hc
  go_enter Tryz.func46, Tryz.ntmps46
  go_wp2_with (first
    | (go_at_call 62; refine (hc _).mono ?_; rintro e w1 ⟨rfl, rfl⟩)
    | (go_at_call 51; refine (find_hit _ d f h ho hf).mono ?_; rintro e w1 ⟨rfl, rfl⟩)
    | (go_at_call 63; refine (step_cut _ d h hb).mono ?_; rintro e w2 ⟨rfl, h2, f2⟩))
  go_ret
  exact ⟨rfl, h2, f2.mono (fun k _ e => e ▸ of_db d)⟩
/-- The files behind a renaming. -/
def moved (f : FR) (t : ByteArray) (fs : List FR) : List FR := but t (but f.nm fs) ++ [{ f with nm := t }]
theorem but_mid {l1 l2 : List FR} {f : FR} (h : ((l1 ++ f :: l2).map FR.nm).Nodup) : but f.nm (l1 ++ f :: l2) = l1 ++ l2 := by
  rw [List.map_append, List.map_cons, List.nodup_append, List.nodup_cons] at h
  obtain ⟨_, ⟨h1, _⟩, h2⟩ := h
  have e1 : but f.nm l1 = l1 := but_none (fun g hg e => h2 g.nm (List.mem_map_of_mem hg) f.nm (by simp) e)
  have e2 : but f.nm l2 = l2 := but_none (fun g hg e => h1 (e ▸ List.mem_map_of_mem hg))
  unfold but at e1 e2 ⊢
  rw [List.filter_append, List.filter_cons, e1]
  simp only [ne_eq, not_true, decide_false, Bool.false_eq_true, if_false]
  rw [e2]
theorem DiskAt.moved {w w' : World} {d : Ds} {f : FR} {t : ByteArray} (h : DiskAt w d) (hf : f ∈ d.fs) (ht : t.size ≤ 32) (hm : MapAt w' d.mb (moved f t d.fs)) (fr : Fr (fun k => k = d.mb) w w') : DiskAt w' { d with fs := Dk.moved f t d.fs } := by
  have hap := h.apart
  unfold Ds.foot at hap
  have n2 := (List.nodup_cons.1 (List.nodup_cons.1 hap).2).1
  have n1 := (List.nodup_cons.1 hap).1
  have keep : ∀ g ∈ d.fs, FileAt w' g := fun g hg => (h.files g hg).kept (fun k hk => fr.block k ((h.files g hg).lt k hk) (fun e => n2 (e ▸ List.mem_flatMap.2 ⟨g, hg, hk⟩)))
  have hsub : (but t (but f.nm d.fs)).Sublist d.fs := (but_sub _ _).trans (but_sub _ _)
  refine ⟨(fr.block _ (lt_of_block h.cells) (fun e => n1 (by rw [e]; simp))).trans h.cells, hm, fun g hg => ?_, ?_, ?_, fun g hg => ?_⟩
  · rcases List.mem_append.1 hg with hg | hg
    · exact keep g (hsub.subset hg)
    · rw [List.mem_singleton.1 hg]
      have := keep f hf
      exact ⟨this.cells, this.row, this.sync⟩
  · obtain ⟨l1, l2, e⟩ := List.append_of_mem hf
    have hnm := h.names
    rw [e] at hnm
    have e2 : but f.nm d.fs = l1 ++ l2 := by rw [e]; exact but_mid hnm
    show (d.db :: d.mb :: (Dk.moved f t d.fs).flatMap FR.bl).Nodup
    have e3 : (Dk.moved f t d.fs).flatMap FR.bl = (but t (l1 ++ l2) ++ [f]).flatMap FR.bl := by
      unfold Dk.moved
      rw [e2, List.flatMap_append, List.flatMap_append]
      rfl
    rw [e3]
    have hs2 : (but t (l1 ++ l2) ++ [f]).Sublist (l1 ++ l2 ++ [f]) := (but_sub _ _).append (List.Sublist.refl _)
    have hp : (l1 ++ l2 ++ [f]).Perm d.fs := by
      rw [e, List.append_assoc]
      exact List.Perm.append_left l1 (List.perm_append_comm)
    have hn2 : (d.db :: d.mb :: (l1 ++ l2 ++ [f]).flatMap FR.bl).Nodup := (((hp.flatMap_right FR.bl).cons d.mb).cons d.db).nodup_iff.2 hap
    exact (((flat_sub hs2).cons_cons d.mb).cons_cons d.db).nodup hn2
  · unfold Dk.moved
    rw [List.map_append, List.nodup_append]
    refine ⟨(hsub.map FR.nm).nodup h.names, by simp, fun a ha b hb => ?_⟩
    rintro rfl
    obtain ⟨g, hg, rfl⟩ := List.mem_map.1 ha
    simp at hb
    exact (mem_but.1 hg).2 hb
  · rcases List.mem_append.1 hg with hg | hg
    · exact h.short g (hsub.subset hg)
    · rw [List.mem_singleton.1 hg]
      exact ht
theorem DiskAt.c1_kept {w w' : World} {d : Ds} (h : DiskAt w d) (g : w.grownBy w' (some d.mb)) : w'.cell? ⟨d.db, 1, none⟩ = some (.map (some d.mb)) := by
  have hh := (List.nodup_cons.1 h.apart).1
  have hbk := g.block d.db (lt_of_block h.cells) (fun e => hh (by rw [Option.some.inj e]; simp))
  exact (World.cell?_of_block (a := ⟨d.db, 1, none⟩) hbk).trans h.c1
theorem rename_done (w : World) (d : Ds) (f : FR) (t : ByteArray) (h : DiskAt w d) (hn : isNm t = true) (ho : d.on = true) (hf : f ∈ d.fs) (hlen : d.fs.length < 9223372036854775807) (hb : d.bud ≠ 0) (hl : -1 ≤ d.bud) (hu : d.bud ≤ 9223372036854775807) :
    Calls Tryz.prog 46 #[.pointer (some ⟨d.db, 0, none⟩), .string f.nm, .string t] w fun e w' => e = .returned .nilIface ∧ DiskAt w' { d with bud := less d.bud, st := wrap64 (d.st + 1), fs := moved f t d.fs } ∧ Fr (Of d) w w' := by
  have hsz := h.short f hf
  have hts := nm_size hn
  have hc := fun W => isName_any t W (by omega)
  rw [hn] at hc
  have hl2 : (but f.nm d.fs).length < 9223372036854775807 := Nat.lt_of_le_of_lt (but_sub _ _).length_le hlen
  have hnd2 : ((but f.nm d.fs).map FR.nm).Nodup := ((but_sub _ _).map FR.nm).nodup h.names
  have hap := h.apart
  have cpu := fun (W : World) (hcc : W.cell? ⟨d.db, 1, none⟩ = some (.map (some d.mb))) (hmm : MapAt W d.mb (but f.nm d.fs)) => put_any W d.db d.mb (but f.nm d.fs) { f with nm := t } hcc hmm hnd2 hl2 hts.2
  go_enter Tryz.func46, Tryz.ntmps46
  go_wp2_with (first
    | (go_at_call 62; refine (hc _).mono ?_; rintro e w1 ⟨rfl, rfl⟩)
    | (go_at_call 51; refine (find_hit _ d f h ho hf).mono ?_; rintro e w1 ⟨rfl, rfl⟩)
    | (go_at_call 63; refine (step_done _ d h hb hl hu).mono ?_; rintro e w2 ⟨rfl, h2, f2⟩; have c21 := h2.c1; obtain ⟨w3, hr3, hm3, g3⟩ := h2.map.drop h2.names (s := f.nm) (by omega) 0; have hc3 := h2.c1_kept g3)
    | (go_at_call 75; refine (cpu _ hc3 hm3).mono ?_; rintro e w4 ⟨rfl, hm4, f4⟩))
  go_ret
  have fr3 : Fr (fun k => k = d.mb) w2 w3 := Fr.grown g3 (fun k e _ => by simpa using e.symm)
  have fr4 : Fr (fun k => k = d.mb) w2 w4 := fr3.and f4 (fun _ _ e => e)
  exact ⟨rfl, h2.moved hf hts.2 hm4 fr4, (f2.mono (fun k _ e => e ▸ of_db d)).and fr4 (fun k _ e => mem_foot.2 (.inr (.inl e)))⟩
end Dk
end Go.Proofs.YtcinjdaanhpbjaaGreat

namespace Go.Proofs.YtcinjdaanhpbjaaGreat
open Go.RowKit
namespace Rf
open Bw Rg Dk

def lt (a b : ByteArray) : Bool := Op.bytesLess a.toList b.toList
theorem lt_iff (a b : ByteArray) : lt a b = true ↔ a.data.toList < b.data.toList := by
  unfold lt
  rw [bytesLess_eq, Lib.toList_data, Lib.toList_data]
  simp
theorem lt_irr (a : ByteArray) : ¬ lt a a = true := by
  rw [lt_iff]
  exact List.lt_irrefl _
theorem lt_tr {a b c : ByteArray} (h1 : lt a b = true) (h2 : lt b c = true) : lt a c = true := by
  rw [lt_iff] at h1 h2 ⊢
  exact List.lt_trans h1 h2
theorem lt_tot {a b : ByteArray} (h : ¬ lt a b = true) (hne : a ≠ b) : lt b a = true := by
  rw [lt_iff] at h ⊢
  have h1 : b.data.toList ≤ a.data.toList := h
  rcases List.le_iff_lt_or_eq.1 h1 with h2 | h2
  · exact h2
  · exact absurd (ByteArray.ext (Array.ext' h2)).symm hne
/-- The files of one name are turned by g. -/
def upd (s : ByteArray) (g : Fl → Fl) (L : List Fl) : List Fl := L.map fun x => if x.1 = s then g x else x
/-- Without those of that name. -/
def rm (s : ByteArray) (L : List Fl) : List Fl := L.filter fun x => decide (x.1 ≠ s)
/-- A file, by its name. -/
def ins (x : Fl) : List Fl → List Fl
  | [] => [x]
  | y :: r => if lt x.1 y.1 = true then x :: y :: r else y :: ins x r
def Up (L : List Fl) : Prop := L.Pairwise fun x y => lt x.1 y.1 = true
theorem Up.nodup {L : List Fl} (h : Up L) : (L.map Prod.fst).Nodup := by
  rw [List.nodup_iff_pairwise_ne, List.pairwise_map]
  refine List.Pairwise.imp ?_ h
  intro x y h1 e
  rw [e] at h1
  exact lt_irr _ h1
theorem ins_perm (x : Fl) : ∀ L, (ins x L).Perm (x :: L)
  | [] => List.Perm.refl _
  | y :: r => by
    unfold ins
    split
    · exact List.Perm.refl _
    · exact ((ins_perm x r).cons y).trans (List.Perm.swap x y r)
theorem ins_up {x : Fl} : ∀ {L : List Fl}, Up L → (∀ y ∈ L, y.1 ≠ x.1) → Up (ins x L)
  | [], _, _ => List.pairwise_singleton _ _
  | y :: r, h, hn => by
    obtain ⟨h1, h2⟩ := List.pairwise_cons.1 h
    unfold ins
    split
    · rename_i hlt
      refine List.pairwise_cons.2 ⟨fun z hz => ?_, h⟩
      rcases List.mem_cons.1 hz with rfl | hz
      · exact hlt
      · exact lt_tr hlt (h1 z hz)
    · rename_i hlt
      refine List.pairwise_cons.2 ⟨fun z hz => ?_, ins_up h2 (fun z hz => hn z (List.mem_cons_of_mem _ hz))⟩
      rcases List.mem_cons.1 ((ins_perm x r).mem_iff.1 hz) with rfl | hz
      · exact lt_tot hlt (fun e => hn y (by simp) e.symm)
      · exact h1 z hz
theorem upd_up {s : ByteArray} {g : Fl → Fl} (hg : ∀ x, (g x).1 = x.1) {L : List Fl} (h : Up L) : Up (upd s g L) := by
  unfold upd Up
  rw [List.pairwise_map]
  refine h.imp (fun {x y} h => ?_)
  have e : ∀ x : Fl, (if x.1 = s then g x else x).1 = x.1 := fun x => by split <;> simp [hg]
  rw [e, e]
  exact h
theorem rm_up {s : ByteArray} {L : List Fl} (h : Up L) : Up (rm s L) := h.sublist List.filter_sublist
theorem upd_none {s : ByteArray} {g : Fl → Fl} {L : List Fl} (h : ∀ x ∈ L, x.1 ≠ s) : upd s g L = L := by
  unfold upd
  conv => rhs; rw [← List.map_id L]
  exact List.map_congr_left (fun x hx => by rw [if_neg (h x hx)]; rfl)
theorem rm_none {s : ByteArray} {L : List Fl} (h : ∀ x ∈ L, x.1 ≠ s) : rm s L = L := by
  unfold rm
  rw [List.filter_eq_self]
  intro x hx
  simp [h x hx]
theorem mid_ne {L1 L2 : List Fl} {x : Fl} (h : ((L1 ++ x :: L2).map Prod.fst).Nodup) : (∀ y ∈ L1, y.1 ≠ x.1) ∧ ∀ y ∈ L2, y.1 ≠ x.1 := by
  rw [List.map_append, List.map_cons, List.nodup_append, List.nodup_cons] at h
  obtain ⟨_, ⟨h1, _⟩, h2⟩ := h
  exact ⟨fun g hg e => h2 g.1 (List.mem_map_of_mem hg) x.1 (by simp) e, fun g hg e => h1 (e ▸ List.mem_map_of_mem hg)⟩
theorem upd_mid {g : Fl → Fl} {L1 L2 : List Fl} {x : Fl} (h : ((L1 ++ x :: L2).map Prod.fst).Nodup) : upd x.1 g (L1 ++ x :: L2) = L1 ++ g x :: L2 := by
  obtain ⟨h1, h2⟩ := mid_ne h
  have e1 := upd_none (g := g) h1
  have e2 := upd_none (g := g) h2
  unfold upd at e1 e2 ⊢
  rw [List.map_append, List.map_cons, e1, e2, if_pos rfl]
theorem rm_mid {L1 L2 : List Fl} {x : Fl} (h : ((L1 ++ x :: L2).map Prod.fst).Nodup) : rm x.1 (L1 ++ x :: L2) = L1 ++ L2 := by
  obtain ⟨h1, h2⟩ := mid_ne h
  have e1 := rm_none h1
  have e2 := rm_none h2
  unfold rm at e1 e2 ⊢
  rw [List.filter_append, List.filter_cons, e1, e2, if_neg (by simp)]
theorem upd_perm {s : ByteArray} {g : Fl → Fl} {L L' : List Fl} (h : L.Perm L') : (upd s g L).Perm (upd s g L') := h.map _
theorem rm_perm {s : ByteArray} {L L' : List Fl} (h : L.Perm L') : (rm s L).Perm (rm s L') := h.filter _
/-- What is found. -/
theorem find_some {s : ByteArray} {L : List Fl} {x : Fl} (h : findA s L = some x) : x ∈ L ∧ x.1 = s := by
  refine ⟨List.mem_of_find?_eq_some h, ?_⟩
  have := List.find?_some h
  simpa using this
theorem find_no {s : ByteArray} {L : List Fl} (h : findA s L = none) : ∀ x ∈ L, x.1 ≠ s := fun x hx => by
  have := List.find?_eq_none.1 h x hx
  simpa using this
theorem find_of {L : List Fl} (hn : (L.map Prod.fst).Nodup) {x : Fl} (hx : x ∈ L) : findA x.1 L = some x := by
  cases h : findA x.1 L with
  | none => exact absurd rfl (find_no h x hx)
  | some y =>
    obtain ⟨h1, h2⟩ := find_some h
    obtain ⟨L1, L2, rfl⟩ := List.append_of_mem hx
    obtain ⟨n1, n2⟩ := mid_ne hn
    rcases List.mem_append.1 h1 with h1 | h1
    · exact absurd h2 (n1 y h1)
    · rcases List.mem_cons.1 h1 with h1 | h1
      · rw [h1]
      · exact absurd h2 (n2 y h1)
theorem usedA_perm {L L' : List Fl} (h : L.Perm L') : usedA L = usedA L' := (h.map _).sum_nat
theorem usedA_ins (x : Fl) (L : List Fl) : usedA (ins x L) = x.2.1.length + usedA L := by
  rw [usedA_perm (ins_perm x L)]
  rfl
/-- Bytes put behind a file's, or a new file. -/
def putM (s : ByteArray) (ns : List UInt8) (L : List Fl) : List Fl := if (findA s L).isNone then ins (s, ns, 0) L else upd s (fun x => (x.1, x.2.1 ++ ns, x.2.2)) L
theorem putM_none {s : ByteArray} {ns : List UInt8} {L : List Fl} (h : findA s L = none) : putM s ns L = ins (s, ns, 0) L := by simp [putM, h]
theorem putM_some {s : ByteArray} {ns : List UInt8} {L : List Fl} {x : Fl} (h : findA s L = some x) : putM s ns L = upd s (fun x => (x.1, x.2.1 ++ ns, x.2.2)) L := by simp [putM, h]
/-- Append, Sync and so on, of files in their order: an error's number, and what stands then. -/
def appendM (a : Ab) (s : ByteArray) (ns : List UInt8) : Int × Ab :=
  if isNm s = false then (1, a) else if a.on = false then (11, a) else if a.room - (usedA a.L : Int) < (ns.length : Int) then (12, a)
  else ((stepA a).1, { (stepA a).2 with L := putM s ns a.L })
/-- A call at a file that is there; what it does where the step is done. -/
def atM (a : Ab) (s : ByteArray) (pre : Fl → Bool) (g : Fl → List Fl → List Fl) : Int × Ab :=
  if a.on = false then (11, a) else match findA s a.L with
    | none => (9, a)
    | some x => if pre x = true then (1, a) else if a.bud = 0 then (11, { a with on := false }) else (0, { a with bud := less a.bud, st := wrap64 (a.st + 1), L := g x a.L })
def syncM (a : Ab) (s : ByteArray) : Int × Ab := atM a s (fun _ => false) (fun _ L => upd s (fun x => (x.1, x.2.1, x.2.1.length)) L)
def truncM (a : Ab) (s : ByteArray) (n : Int) : Int × Ab := atM a s (fun x => decide (n < 0 ∨ (x.2.1.length : Int) < n)) (fun _ L => upd s (fun x => (x.1, x.2.1.take n.toNat, n.toNat)) L)
def removeM (a : Ab) (s : ByteArray) : Int × Ab := atM a s (fun _ => false) (fun _ L => rm s L)
def renameM (a : Ab) (s t : ByteArray) : Int × Ab := if isNm t = false then (1, a) else atM a s (fun _ => false) (fun x L => ins (t, x.2.1, x.2.2) (rm t (rm s L)))
def cutM (a : Ab) (n : Int) : Int × Ab := if n < 0 then (1, a) else (0, { a with bud := if a.on then n else a.bud })
/-- A disk's numbers, and files in their order. -/
structure Good (a : Ab) : Prop where
  ok : Ok a
  few : a.L.length ≤ 1099511627775
  up : Up a.L
  sync : ∀ x ∈ a.L, x.2.2 ≤ x.2.1.length
end Rf
end Go.Proofs.YtcinjdaanhpbjaaGreat
