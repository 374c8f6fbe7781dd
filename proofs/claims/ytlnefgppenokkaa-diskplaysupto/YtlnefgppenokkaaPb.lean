/- The disk's calls, told by the model. -/
import Derived.Test.YtlnefgppenokkaaPa
import Derived.Test.YtlnefgppenokkaaEc
namespace Go.Proofs.Ytlnefgppenokkaa
open Go.RowKit
namespace Rf
open Bw Rg Dk

/-- The disk d holds what a says. -/
structure DP (w : World) (d : Ds) (a : Ab) : Prop where
  at' : DiskAt w d
  room : d.room = a.room
  on : d.on = a.on
  bud : d.bud = a.bud
  st : d.st = a.st
  fs : (d.fs.map FR.ab).Perm a.L
/-- What a call of the disk ends in. -/
def DOut (w : World) (d : Ds) (res : Int × Ab) (e : Ending) (w' : World) : Prop := ∃ d', d'.db = d.db ∧ e = .returned (codeV res.1) ∧ DP w' d' res.2 ∧ Fr (Of d) w w' ∧ Grew d d' w
section
variable {w w' : World} {d : Ds} {a : Ab}
theorem DP.used (h : DP w d a) : Dk.used d.fs = usedA a.L := by rw [← used_ab, usedA_perm h.fs]
theorem DP.len (h : DP w d a) : d.fs.length = a.L.length := by rw [← h.fs.length_eq, List.length_map]
theorem DP.below (h : DP w d a) (hb : Below w.heap.size w w') : DP w' d a := ⟨h.at'.below hb, h.room, h.on, h.bud, h.st, h.fs⟩
theorem DP.fr {S : Nat → Prop} (h : DP w d a) (f : Fr S w w') (hn : ∀ k ∈ d.foot, ¬ S k) : DP w' d a := ⟨h.at'.kept (fun k hk => f.block k (h.at'.lt k hk) (hn k hk)), h.room, h.on, h.bud, h.st, h.fs⟩
theorem DP.none (h : DP w d a) {s : ByteArray} (hf : findA s a.L = .none) : ∀ f ∈ d.fs, f.nm ≠ s := fun f hf' e => find_no hf f.ab (h.fs.mem_iff.1 (List.mem_map_of_mem hf')) e
theorem DP.some (h : DP w d a) {s : ByteArray} {x : Fl} (hf : findA s a.L = .some x) : ∃ l1 f l2, d.fs = l1 ++ f :: l2 ∧ f.nm = s ∧ f.ab = x := by
  obtain ⟨h1, h2⟩ := find_some hf
  obtain ⟨f, hf, e⟩ := List.mem_map.1 (h.fs.mem_iff.2 h1)
  obtain ⟨l1, l2, e2⟩ := List.append_of_mem hf
  exact ⟨l1, f, l2, e2, by rw [← h2, ← e]; rfl, e⟩
theorem DOut.same (h : DP w d a) (n : Int) : DOut w d (n, a) (.returned (codeV n)) w := ⟨d, rfl, rfl, h, Fr.refl _ _, Grew.refl _ _⟩
theorem at_disk (h : DP w d a) (hg : Good a) (s : ByteArray) (pre : Fl → Bool) (g : Fl → List Fl → List Fl) (fn : Nat) (args : Array Value)
    (hoff : d.on = false → Calls Try.prog fn args w fun e w' => e = .returned (code 11) ∧ w' = w)
    (hnone : d.on = true → (∀ f ∈ d.fs, f.nm ≠ s) → Calls Try.prog fn args w fun e w' => e = .returned (code 9) ∧ w' = w)
    (hpre : d.on = true → ∀ f ∈ d.fs, f.nm = s → pre f.ab = true → Calls Try.prog fn args w fun e w' => e = .returned (code 1) ∧ w' = w)
    (hcut : d.on = true → ∀ f ∈ d.fs, f.nm = s → pre f.ab = false → d.bud = 0 → Calls Try.prog fn args w fun e w' => e = .returned (code 11) ∧ DiskAt w' { d with on := false } ∧ Fr (Of d) w w')
    (hdone : d.on = true → ∀ l1 f l2, d.fs = l1 ++ f :: l2 → f.nm = s → pre f.ab = false → d.bud ≠ 0 → -1 ≤ d.bud → d.bud ≤ 9223372036854775807 → Calls Try.prog fn args w fun e w' => ∃ fs', e = .returned .nilIface ∧ DiskAt w' { d with bud := less d.bud, st := wrap64 (d.st + 1), fs := fs' } ∧ (fs'.map FR.ab).Perm (g f.ab (d.fs.map FR.ab)) ∧ Fr (Of d) w w' ∧ Grew d { d with bud := less d.bud, st := wrap64 (d.st + 1), fs := fs' } w)
    (hgp : ∀ x L L', L.Perm L' → (g x L).Perm (g x L')) :
    Calls Try.prog fn args w (DOut w d (atM a s pre g)) := by
  by_cases ho : a.on = true
  · have hd := h.on.trans ho
    cases hf : findA s a.L with
    | none =>
      have e : atM a s pre g = (9, a) := by simp [atM, ho, hf]
      rw [e]
      refine (hnone hd (h.none hf)).mono ?_
      rintro e w' ⟨rfl, rfl⟩
      exact DOut.same h 9
    | some x =>
      obtain ⟨l1, f, l2, e1, e2, e3⟩ := h.some hf
      have hm : f ∈ d.fs := by rw [e1]; simp
      by_cases hp : pre x = true
      · have e : atM a s pre g = (1, a) := by simp [atM, ho, hf, hp]
        rw [e]
        refine (hpre hd f hm e2 (e3 ▸ hp)).mono ?_
        rintro e w' ⟨rfl, rfl⟩
        exact DOut.same h 1
      · have hp' : pre f.ab = false := by rw [e3]; simpa using hp
        by_cases hb : a.bud = 0
        · have e : atM a s pre g = (11, { a with on := false }) := by simp [atM, ho, hf, hp, hb]
          rw [e]
          refine (hcut hd f hm e2 hp' (h.bud.trans hb)).mono ?_
          rintro e w' ⟨rfl, h1, h2⟩
          exact ⟨{ d with on := false }, rfl, rfl, ⟨h1, h.room, rfl, h.bud, h.st, h.fs⟩, h2, fun k hk => .inl hk⟩
        · have e : atM a s pre g = (0, { a with bud := less a.bud, st := wrap64 (a.st + 1), L := g x a.L }) := by simp [atM, ho, hf, hp, hb]
          rw [e]
          refine (hdone hd l1 f l2 e1 e2 hp' (h.bud ▸ hb) (h.bud ▸ hg.ok.lo) (h.bud ▸ hg.ok.hi)).mono ?_
          rintro e w' ⟨fs', rfl, h1, h2, h3, h4⟩
          exact ⟨{ d with bud := less d.bud, st := wrap64 (d.st + 1), fs := fs' }, rfl, rfl, ⟨h1, h.room, h.on, by show less d.bud = _; rw [h.bud], by show wrap64 (d.st + 1) = _; rw [h.st], by rw [← e3]; exact h2.trans (hgp _ _ _ h.fs)⟩, h3, h4⟩
  · have ho' : a.on = false := by simpa using ho
    have e : atM a s pre g = (11, a) := by simp [atM, ho']
    rw [e]
    refine (hoff (h.on.trans ho')).mono ?_
    rintro e w' ⟨rfl, rfl⟩
    exact DOut.same h 11
theorem ab_nodup {fs : List FR} (h : (fs.map FR.nm).Nodup) : ((fs.map FR.ab).map Prod.fst).Nodup := by
  rw [List.map_map]
  exact h
theorem ab_upd {l1 l2 : List FR} {f f' : FR} {s : ByteArray} {g : Fl → Fl} (h : ((l1 ++ f :: l2).map FR.nm).Nodup) (hs : f.nm = s) (hf : f'.ab = g f.ab) : (l1 ++ f' :: l2).map FR.ab = upd s g ((l1 ++ f :: l2).map FR.ab) := by
  have h1 := ab_nodup h
  rw [List.map_append, List.map_cons] at h1
  rw [List.map_append, List.map_cons, List.map_append, List.map_cons, ← hs, show f.nm = f.ab.1 from rfl, upd_mid h1, hf]
theorem ab_but {fs : List FR} {s : ByteArray} : (but s fs).map FR.ab = rm s (fs.map FR.ab) := by
  unfold but rm
  rw [List.filter_map]
  rfl
theorem len_of {l1 l2 : List FR} {f : FR} (h : DP w d a) (hg : Good a) (e : d.fs = l1 ++ f :: l2) : f.bs.length ≤ 140737488355328 := by
  have h1 := hg.ok.big
  have h2 := len_used (f := f) (fs := d.fs) (by rw [e]; simp)
  have h3 := h.used
  omega
theorem dsync (h : DP w d a) (hg : Good a) (s : ByteArray) (hs : s.size ≤ 140737488355328) : Calls Try.prog 13 #[.pointer (some ⟨d.db, 0, none⟩), .string s] w (DOut w d (syncM a s)) := by
  refine at_disk h hg s _ _ 13 _ (sync_off w d s h.at') (fun ho hn => sync_none w d s h.at' ho hn hs) (fun _ _ _ _ hp => by cases hp) (fun ho f hf e _ hb => ?_) (fun ho l1 f l2 e1 e2 _ hb hl hu => ?_) (fun x L L' hp => upd_perm hp)
  · rw [← e]
    exact sync_cut w d f h.at' ho hf hb
  · have hnd := h.at'.names
    rw [e1] at hnd
    have e3 := ab_upd (f' := f.synced) (g := fun x => (x.1, x.2.1, x.2.1.length)) hnd e2 rfl
    rw [← e1] at e3
    rw [← e2]
    refine (sync_done w d l1 l2 f h.at' ho e1 hb hl hu).mono ?_
    rintro e w' ⟨rfl, h1, h2⟩
    refine ⟨_, rfl, h1, by rw [e3, e2], h2, fun k hk => ?_⟩
    rcases foot_swap (d := d) (f := f) (f' := f.synced) (n := w.heap.size) rfl (fun k hk => .inl hk) k hk with h8 | h8
    · have ed : ({ d with fs := l1 ++ f :: l2 } : Ds) = d := by rw [← e1]
      rw [ed] at h8
      exact .inl h8
    · exact .inr h8
theorem dtrunc (h : DP w d a) (hg : Good a) (s : ByteArray) (n : Int) (hs : s.size ≤ 140737488355328) : Calls Try.prog 27 #[.pointer (some ⟨d.db, 0, none⟩), .string s, .int .i64 n] w (DOut w d (truncM a s n)) := by
  refine at_disk h hg s _ _ 27 _ (trunc_off w d s n h.at') (fun ho hn => trunc_none w d s n h.at' ho hn hs) (fun ho f hf e hp => ?_) (fun ho f hf e hp hb => ?_) (fun ho l1 f l2 e1 e2 hp hb hl hu => ?_) (fun x L L' hp => upd_perm hp)
  · rw [← e]
    exact trunc_bad w d f n h.at' ho hf (by have := of_decide_eq_true hp; exact this)
  · have hp2 : ¬ (n < 0 ∨ (f.bs.length : Int) < n) := of_decide_eq_false hp
    obtain ⟨m, rfl⟩ : ∃ m : Nat, n = (m : Int) := ⟨n.toNat, by omega⟩
    rw [← e]
    exact trunc_cut w d f m h.at' ho hf (by omega) hb
  · have hp2 : ¬ (n < 0 ∨ (f.bs.length : Int) < n) := of_decide_eq_false hp
    obtain ⟨m, rfl⟩ : ∃ m : Nat, n = (m : Int) := ⟨n.toNat, by omega⟩
    have hnd := h.at'.names
    rw [e1] at hnd
    have e3 := fun v' => ab_upd (f' := f.cut v' m) (g := fun x => (x.1, x.2.1.take (m : Int).toNat, (m : Int).toNat)) hnd e2 rfl
    rw [← e1] at e3
    rw [← e2]
    refine (trunc_done w d l1 l2 f m h.at' ho e1 (by omega) (len_of h hg e1) hb hl hu).mono ?_
    rintro e w' ⟨v', rfl, h1, h2, h3⟩
    exact ⟨_, rfl, h1, by rw [e3, e2], h2, h3⟩
theorem dremove (h : DP w d a) (hg : Good a) (s : ByteArray) (hs : s.size ≤ 140737488355328) : Calls Try.prog 31 #[.pointer (some ⟨d.db, 0, none⟩), .string s] w (DOut w d (removeM a s)) := by
  refine at_disk h hg s _ _ 31 _ (remove_off w d s h.at') (fun ho hn => remove_none w d s h.at' ho hn hs) (fun _ _ _ _ hp => by cases hp) (fun ho f hf e _ hb => ?_) (fun ho l1 f l2 e1 e2 _ hb hl hu => ?_) (fun x L L' hp => rm_perm hp)
  · rw [← e]
    exact remove_cut w d f h.at' ho hf hb
  · rw [← e2]
    refine (remove_done w d f h.at' ho (by rw [e1]; simp) hb hl hu).mono ?_
    rintro e w' ⟨rfl, h1, h2⟩
    exact ⟨_, rfl, h1, by rw [ab_but, e2], h2, grew_sub rfl rfl List.filter_sublist⟩
theorem drename (h : DP w d a) (hg : Good a) (s t : ByteArray) (hs : s.size ≤ 140737488355328) (ht : t.size ≤ 140737488355328) : Calls Try.prog 29 #[.pointer (some ⟨d.db, 0, none⟩), .string s, .string t] w (DOut w d (renameM a s t)) := by
  by_cases hn : isNm t = true
  · have e : renameM a s t = atM a s (fun _ => false) (fun x L => ins (t, x.2.1, x.2.2) (rm t (rm s L))) := by simp [renameM, hn]
    rw [e]
    refine at_disk h hg s _ _ 29 _ (rename_off w d s t h.at' hn) (fun ho hno => rename_none w d s t h.at' hn ho hno hs) (fun _ _ _ _ hp => by cases hp) (fun ho f hf e _ hb => ?_) (fun ho l1 f l2 e1 e2 _ hb hl hu => ?_) (fun x L L' hp => ((ins_perm _ _).trans ((rm_perm (rm_perm hp)).cons _)).trans (ins_perm _ _).symm)
    · rw [← e]
      exact rename_cut w d f t h.at' hn ho hf hb
    · have hm : f ∈ d.fs := by rw [e1]; simp
      rw [← e2]
      refine (rename_done w d f t h.at' hn ho hm (by rw [h.len]; exact hg.ok.many) hb hl hu).mono ?_
      rintro e w' ⟨rfl, h1, h2⟩
      refine ⟨_, rfl, h1, ?_, h2, fun k hk => ?_⟩
      · unfold moved
        rw [List.map_append, ab_but, ab_but, e2]
        exact List.perm_append_comm.trans (ins_perm _ _).symm
      · rcases Dk.mem_foot.1 hk with e | e | ⟨x, hx, hk⟩
        · exact .inl (Dk.mem_foot.2 (.inl e))
        · exact .inl (Dk.mem_foot.2 (.inr (.inl e)))
        · rcases List.mem_append.1 hx with hx | hx
          · exact .inl (Dk.mem_foot.2 (.inr (.inr ⟨x, (List.mem_filter.1 (List.mem_filter.1 hx).1).1, hk⟩)))
          · rw [List.mem_singleton] at hx
            rw [hx] at hk
            exact .inl (Dk.mem_foot.2 (.inr (.inr ⟨f, hm, hk⟩)))
  · have hn' : isNm t = false := by simpa using hn
    have e : renameM a s t = (1, a) := by simp [renameM, hn']
    rw [e]
    refine (rename_bad w d s t ht hn').mono ?_
    rintro e w' ⟨rfl, rfl⟩
    exact DOut.same h 1
theorem dcut (h : DP w d a) (n : Int) : Calls Try.prog 14 #[.pointer (some ⟨d.db, 0, none⟩), .int .i64 n] w (DOut w d (cutM a n)) := by
  by_cases hn : n < 0
  · have e : cutM a n = (1, a) := by simp [cutM, hn]
    rw [e]
    refine (cut_neg w d n hn).mono ?_
    rintro e w' ⟨rfl, rfl⟩
    exact DOut.same h 1
  · have e : cutM a n = (0, { a with bud := if a.on then n else a.bud }) := by simp [cutM, hn]
    rw [e]
    refine (cut_ok w d n h.at' (by omega)).mono ?_
    rintro e w' ⟨rfl, h1, h2⟩
    exact ⟨{ d with bud := if d.on then n else d.bud }, rfl, rfl, ⟨h1, h.room, h.on, by show (if d.on = true then n else d.bud) = _; rw [h.on, h.bud], h.st, h.fs⟩, h2, fun k hk => .inl hk⟩
end
end Rf
end Go.Proofs.Ytlnefgppenokkaa
