/- The reference's calls, told by the model. -/
import Derived.Test.YtlnefgppenokkaaRgb
import Derived.Test.YtlnefgppenokkaaPc
namespace Go.Proofs.Ytlnefgppenokkaa
open Go.RowKit
namespace Rf
open Bw Rg Dk

/-- The reference r holds what a says. -/
structure RP (w : World) (r : Rs) (a : Ab) : Prop where
  at' : RefAt w r
  room : r.room = a.room
  off : r.off = !a.on
  bud : (r.has = false ∧ a.bud = -1) ∨ (r.has = true ∧ r.bud = a.bud ∧ 0 ≤ a.bud)
  st : r.st = a.st
  fs : r.fs.map RF.ab = a.L
abbrev OfR (r : Rs) : Nat → Prop := fun k => k ∈ r.foot
/-- What a call of the reference ends in. -/
def ROut (w : World) (r : Rs) (res : Int × Ab) (e : Ending) (w' : World) : Prop := ∃ r', r'.rb = r.rb ∧ e = .returned (.int .i64 res.1) ∧ RP w' r' res.2 ∧ Fr (OfR r) w w' ∧ RGrew r r' w
theorem RGrew.refl (r : Rs) (w : World) : RGrew r r w := fun _ h => .inl h
theorem rb_mem (r : Rs) : r.rb ∈ r.foot := mem_foot.2 (.inl rfl)
theorem own_mem (r : Rs) (k : Nat) (h : Own r k) : k ∈ r.foot := h.elim (fun e => mem_foot.2 (.inl e)) (fun e => mem_foot.2 (.inr (.inl e)))
section
variable {w w' : World} {r : Rs} {a : Ab}
theorem RP.used (h : RP w r a) : rused r.fs = usedA a.L := by rw [← rused_ab, h.fs]
theorem RP.len (h : RP w r a) : r.fs.length = a.L.length := by rw [← h.fs, List.length_map]
theorem RP.below (h : RP w r a) (hb : Below w.heap.size w w') : RP w' r a := ⟨h.at'.below hb, h.room, h.off, h.bud, h.st, h.fs⟩
theorem RP.fr {S : Nat → Prop} (h : RP w r a) (f : Fr S w w') (hn : ∀ k ∈ r.foot, ¬ S k) : RP w' r a := ⟨h.at'.fr f hn, h.room, h.off, h.bud, h.st, h.fs⟩
theorem RP.none (h : RP w r a) {s : ByteArray} (hf : findA s a.L = .none) : ∀ f ∈ r.fs, f.nm ≠ s := fun f hf' e => find_no hf f.ab (by rw [← h.fs]; exact List.mem_map_of_mem hf') e
theorem rab_nodup (h : RP w r a) (hg : Good a) : ((r.fs.map RF.ab).map Prod.fst).Nodup := by rw [h.fs]; exact hg.up.nodup
theorem RP.some (h : RP w r a) (hg : Good a) {s : ByteArray} {x : Fl} (hf : findA s a.L = .some x) : ∃ l1 f l2, r.fs = l1 ++ f :: l2 ∧ f.nm = s ∧ f.ab = x ∧ (∀ y ∈ l1, y.nm ≠ f.nm) ∧ ∀ y ∈ l2, y.nm ≠ f.nm := by
  obtain ⟨h1, h2⟩ := find_some hf
  rw [← h.fs] at h1
  obtain ⟨f, hf, e⟩ := List.mem_map.1 h1
  obtain ⟨l1, l2, e2⟩ := List.append_of_mem hf
  have hn := rab_nodup h hg
  rw [e2, List.map_append, List.map_cons] at hn
  obtain ⟨n1, n2⟩ := mid_ne hn
  exact ⟨l1, f, l2, e2, by rw [← h2, ← e]; rfl, e, fun y hy => n1 y.ab (List.mem_map_of_mem hy), fun y hy => n2 y.ab (List.mem_map_of_mem hy)⟩
theorem ROut.same (h : RP w r a) (n : Int) : ROut w r (n, a) (.returned (.int .i64 n)) w := ⟨r, rfl, rfl, h, Fr.refl _ _, RGrew.refl _ _⟩
theorem RP.finds (h : RP w r a) (hg : Good a) (s : ByteArray) : ∃ i, Finds r s i w := by
  have hl : r.fs.length ≤ 4611686018427387904 := by rw [h.len]; have := hg.few; omega
  cases hf : findA s a.L with
  | none => exact ⟨-1, rfind_none w r s h.at' (h.none hf) hl⟩
  | some x =>
    obtain ⟨l1, f, l2, e1, e2, _, n1, _⟩ := h.some hg hf
    exact ⟨l1.length, e2 ▸ rfind_hit w r l1 l2 f h.at' e1 n1 hl⟩
/-- What its step does. -/
theorem rstep_any (h : RP w r a) (hg : Good a) (ho : a.on = true) : ∃ b1, ((r.has = false ∧ (stepA a).2.bud = -1) ∨ (r.has = true ∧ b1 = (stepA a).2.bud ∧ 0 ≤ (stepA a).2.bud)) ∧ ∀ W, RefAt W r → Calls Try.prog 44 #[.pointer (some ⟨r.rb, 0, none⟩)] W fun e w' => e = .returned (.bool (decide ((stepA a).1 = 0))) ∧ RefAt w' { r with off := !(stepA a).2.on, bud := b1, st := (stepA a).2.st } ∧ Fr (fun k => k = r.rb) W w' := by
  have hoff : r.off = false := by rw [h.off, ho]; rfl
  rcases h.bud with ⟨hh, hb⟩ | ⟨hh, hb, hb2⟩
  · have e : stepA a = (0, { a with bud := less a.bud, st := wrap64 (a.st + 1) }) := if_neg (by omega)
    rw [e]
    refine ⟨r.bud, .inl ⟨hh, by show less a.bud = -1; rw [hb]; rfl⟩, fun W hW => ?_⟩
    refine (rstep_free W r hW hh).mono ?_
    rintro e w' ⟨rfl, h1, h2⟩
    refine ⟨rfl, ?_, h2⟩
    show RefAt w' { r with off := !a.on, bud := r.bud, st := wrap64 (a.st + 1) }
    rw [← h.off, ← h.st]
    exact h1
  · by_cases hz : a.bud = 0
    · have e : stepA a = (11, { a with on := false }) := if_pos hz
      rw [e]
      refine ⟨r.bud, .inr ⟨hh, hb, hb2⟩, fun W hW => ?_⟩
      refine (rstep_cut W r hW hh (hb.trans hz)).mono ?_
      rintro e w' ⟨rfl, h1, h2⟩
      refine ⟨rfl, ?_, h2⟩
      show RefAt w' { r with off := true, bud := r.bud, st := a.st }
      rw [← h.st]
      exact h1
    · have e : stepA a = (0, { a with bud := less a.bud, st := wrap64 (a.st + 1) }) := if_neg hz
      rw [e]
      have hl : less a.bud = a.bud - 1 := if_neg (by omega)
      refine ⟨r.bud - 1, .inr ⟨hh, by show r.bud - 1 = less a.bud; rw [hl, hb], by show 0 ≤ less a.bud; rw [hl]; omega⟩, fun W hW => ?_⟩
      refine (rstep_done W r hW hh (by omega) (by rw [hb]; exact hg.ok.hi)).mono ?_
      rintro e w' ⟨rfl, h1, h2⟩
      refine ⟨rfl, ?_, h2⟩
      show RefAt w' { r with off := !a.on, bud := r.bud - 1, st := wrap64 (a.st + 1) }
      rw [← h.off, ← h.st]
      exact h1
theorem at_ref (h : RP w r a) (hg : Good a) (s : ByteArray) (pre : Fl → Bool) (g : Fl → List Fl → List Fl) (fn : Nat) (args : Array Value)
    (hoff : ∀ i, r.off = true → Finds r s i w → Calls Try.prog fn args w fun e w' => e = .returned (.int .i64 11) ∧ w' = w)
    (hnone : r.off = false → Finds r s (-1) w → Calls Try.prog fn args w fun e w' => e = .returned (.int .i64 9) ∧ w' = w)
    (hpre : ∀ l1 f l2, r.fs = l1 ++ f :: l2 → f.nm = s → r.off = false → Finds r f.nm (l1.length : Int) w → pre f.ab = true → Calls Try.prog fn args w fun e w' => e = .returned (.int .i64 1) ∧ w' = w)
    (hcut : ∀ l1 f l2 r1, r.fs = l1 ++ f :: l2 → f.nm = s → r.off = false → Finds r f.nm (l1.length : Int) w → pre f.ab = false → (Calls Try.prog 44 #[.pointer (some ⟨r.rb, 0, none⟩)] w fun e w' => e = .returned (.bool false) ∧ RefAt w' r1 ∧ Fr (fun k => k = r.rb) w w') → Calls Try.prog fn args w fun e w' => e = .returned (.int .i64 11) ∧ RefAt w' r1 ∧ Fr (fun k => k = r.rb) w w')
    (hdone : ∀ l1 f l2 b1 s1, r.fs = l1 ++ f :: l2 → f.nm = s → (∀ y ∈ l1, y.nm ≠ f.nm) → (∀ y ∈ l2, y.nm ≠ f.nm) → r.off = false → Finds r f.nm (l1.length : Int) w → pre f.ab = false → (Calls Try.prog 44 #[.pointer (some ⟨r.rb, 0, none⟩)] w fun e w' => e = .returned (.bool true) ∧ RefAt w' { r with bud := b1, st := s1 } ∧ Fr (fun k => k = r.rb) w w') →
      Calls Try.prog fn args w fun e w' => ∃ lv fs', e = .returned (.int .i64 0) ∧ RefAt w' { r with bud := b1, st := s1, lv := lv, fs := fs' } ∧ fs'.map RF.ab = g f.ab (r.fs.map RF.ab) ∧ Fr (OfR r) w w' ∧ RGrew r { r with bud := b1, st := s1, lv := lv, fs := fs' } w) :
    Calls Try.prog fn args w (ROut w r (atM a s pre g)) := by
  have hl : r.fs.length ≤ 4611686018427387904 := by rw [h.len]; have := hg.few; omega
  by_cases ho : a.on = true
  · have hd : r.off = false := by rw [h.off, ho]; rfl
    cases hf : findA s a.L with
    | none =>
      have e : atM a s pre g = (9, a) := by simp [atM, ho, hf]
      rw [e]
      refine (hnone hd (rfind_none w r s h.at' (h.none hf) hl)).mono ?_
      rintro e w' ⟨rfl, rfl⟩
      exact ROut.same h 9
    | some x =>
      obtain ⟨l1, f, l2, e1, e2, e3, n1, n2⟩ := h.some hg hf
      have hfi := rfind_hit w r l1 l2 f h.at' e1 n1 hl
      by_cases hp : pre x = true
      · have e : atM a s pre g = (1, a) := by simp [atM, ho, hf, hp]
        rw [e]
        refine (hpre l1 f l2 e1 e2 hd hfi (e3 ▸ hp)).mono ?_
        rintro e w' ⟨rfl, rfl⟩
        exact ROut.same h 1
      · have hp' : pre f.ab = false := by rw [e3]; simpa using hp
        obtain ⟨b1, hb1, hst⟩ := rstep_any h hg ho
        have hst := hst w h.at'
        by_cases hb : a.bud = 0
        · have e : atM a s pre g = (11, { a with on := false }) := by simp [atM, ho, hf, hp, hb]
          have es : stepA a = (11, { a with on := false }) := if_pos hb
          rw [e]
          rw [es] at hst hb1
          refine (hcut l1 f l2 _ e1 e2 hd hfi hp' hst).mono ?_
          rintro e w' ⟨rfl, h1, h2⟩
          exact ⟨{ r with off := true, bud := b1, st := a.st }, rfl, rfl, ⟨h1, h.room, rfl, hb1, rfl, h.fs⟩, h2.mono (fun k _ e => mem_foot.2 (.inl e)), fun k hk => .inl hk⟩
        · have e : atM a s pre g = (0, { a with bud := less a.bud, st := wrap64 (a.st + 1), L := g x a.L }) := by simp [atM, ho, hf, hp, hb]
          have es : stepA a = (0, { a with bud := less a.bud, st := wrap64 (a.st + 1) }) := if_neg hb
          rw [e]
          rw [es] at hst hb1
          have hst2 : Calls Try.prog 44 #[.pointer (some ⟨r.rb, 0, none⟩)] w fun e w' => e = .returned (.bool true) ∧ RefAt w' { r with bud := b1, st := wrap64 (a.st + 1) } ∧ Fr (fun k => k = r.rb) w w' := by
            refine hst.mono ?_
            rintro e w' ⟨rfl, h1, h2⟩
            refine ⟨rfl, ?_, h2⟩
            have h1 : RefAt w' { r with off := !a.on, bud := b1, st := wrap64 (a.st + 1) } := h1
            rw [← h.off] at h1
            exact h1
          refine (hdone l1 f l2 b1 _ e1 e2 n1 n2 hd hfi hp' hst2).mono ?_
          rintro e w' ⟨lv, fs', rfl, h1, h2, h3, h4⟩
          exact ⟨{ r with bud := b1, st := wrap64 (a.st + 1), lv := lv, fs := fs' }, rfl, rfl, ⟨h1, h.room, h.off, hb1, rfl, by rw [← e3, ← h.fs]; exact h2⟩, h3, h4⟩
  · have ho' : a.on = false := by simpa using ho
    have e : atM a s pre g = (11, a) := by simp [atM, ho']
    obtain ⟨i, hi⟩ := h.finds hg s
    rw [e]
    refine (hoff i (by rw [h.off, ho']; rfl) hi).mono ?_
    rintro e w' ⟨rfl, rfl⟩
    exact ROut.same h 11
theorem rab_upd {l1 l2 : List RF} {f f' : RF} {s : ByteArray} {g : Fl → Fl} (h : (((l1 ++ f :: l2).map RF.ab).map Prod.fst).Nodup) (hs : f.nm = s) (hf : f'.ab = g f.ab) : (l1 ++ f' :: l2).map RF.ab = upd s g ((l1 ++ f :: l2).map RF.ab) := by
  rw [List.map_append, List.map_cons] at h
  rw [List.map_append, List.map_cons, List.map_append, List.map_cons, ← hs, show f.nm = f.ab.1 from rfl, upd_mid h, hf]
theorem rab_rm {l1 l2 : List RF} {f : RF} {s : ByteArray} (h : (((l1 ++ f :: l2).map RF.ab).map Prod.fst).Nodup) (hs : f.nm = s) : (l1 ++ l2).map RF.ab = rm s ((l1 ++ f :: l2).map RF.ab) := by
  rw [List.map_append, List.map_cons] at h
  rw [List.map_append, List.map_append, List.map_cons, ← hs, show f.nm = f.ab.1 from rfl, rm_mid h]
theorem own_fr (f : Fr (Own r) w w') : Fr (OfR r) w w' := f.mono (fun k _ e => own_mem r k e)
theorem rb_fr (f : Fr (fun k => k = r.rb) w w') : Fr (OfR r) w w' := f.mono (fun _ _ e => mem_foot.2 (.inl e))
theorem rsyncP (h : RP w r a) (hg : Good a) (s : ByteArray) : Calls Try.prog 26 #[.pointer (some ⟨r.rb, 0, none⟩), .string s] w (ROut w r (syncM a s)) := by
  have hl : r.fs.length ≤ 1099511627776 := by rw [h.len]; have := hg.few; omega
  refine at_ref h hg s _ _ 26 _ (fun i ho hf => rsync_off w r s i h.at' ho hf) (fun ho hf => rsync_none w r s h.at' ho hf) (fun _ _ _ _ _ _ _ hp => by cases hp) (fun l1 f l2 r1 e1 e2 ho hf _ hst => ?_) (fun l1 f l2 b1 s1 e1 e2 n1 n2 ho hf _ hst => ?_)
  · rw [← e2]
    exact rsync_cut w r r1 f.nm l1.length h.at' ho hf hst
  · have hb : f.bs.length ≤ 140737488355328 := by
      have h1 := hg.ok.big
      rw [← h.used, e1] at h1
      simp [rused] at h1
      omega
    have hn := rab_nodup h hg
    rw [e1] at hn
    rw [← e2]
    refine (rsync_done w r b1 s1 l1 l2 f h.at' e1 hl hb ho hf hst).mono ?_
    rintro e w' ⟨rfl, h1, h2⟩
    refine ⟨r.lv, _, rfl, h1, by rw [e1]; exact rab_upd (f' := { f with sy := f.bs.length }) (g := fun x => (x.1, x.2.1, x.2.1.length)) hn rfl rfl, own_fr h2, fun k hk => .inl ?_⟩
    rcases mem_foot.1 hk with e | e | ⟨y, hy, e⟩
    · exact mem_foot.2 (.inl e)
    · exact mem_foot.2 (.inr (.inl e))
    · refine mem_foot.2 (.inr (.inr ?_))
      rcases List.mem_append.1 hy with hy | hy
      · exact ⟨y, by rw [e1]; simp [hy], e⟩
      · rcases List.mem_cons.1 hy with rfl | hy
        · exact ⟨f, by rw [e1]; simp, e⟩
        · exact ⟨y, by rw [e1]; simp [hy], e⟩
end
end Rf
end Go.Proofs.Ytlnefgppenokkaa
