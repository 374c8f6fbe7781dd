/- The disk's calls, told by the model: Append, Power, Read, Clone, Names. -/
import Derived.Test.YtlnefgppenokkaaPb
namespace Go.Proofs.Ytlnefgppenokkaa
open Go.RowKit
namespace Rf
open Bw Rg Dk

section
variable {w w' : World} {d : Ds} {a : Ab}
theorem dstep (h : DP w d a) (hg : Good a) : ∀ W, DiskAt W d → Calls Try.prog 21 #[.pointer (some ⟨d.db, 0, none⟩)] W fun e w' => e = .returned (codeV (stepA a).1) ∧ DiskAt w' { d with on := (stepA a).2.on, bud := (stepA a).2.bud, st := (stepA a).2.st } ∧ Fr (fun k => k = d.db) W w' := by
  intro W hW
  by_cases hb : a.bud = 0
  · have e : stepA a = (11, { a with on := false }) := if_pos hb
    rw [e]
    refine (step_cut W d hW (h.bud.trans hb)).mono ?_
    rintro e w' ⟨rfl, hx, hf⟩
    refine ⟨rfl, ?_, hf⟩
    rw [← h.bud, ← h.st]
    exact hx
  · have e : stepA a = (0, { a with bud := less a.bud, st := wrap64 (a.st + 1) }) := if_neg hb
    rw [e]
    refine (step_done W d hW (h.bud ▸ hb) (h.bud ▸ hg.ok.lo) (h.bud ▸ hg.ok.hi)).mono ?_
    rintro e w' ⟨rfl, hx, hf⟩
    refine ⟨rfl, ?_, hf⟩
    rw [← h.bud, ← h.st, ← h.on]
    exact hx
theorem step_room (a : Ab) : (stepA a).2.room = a.room := by unfold stepA; split <;> rfl
theorem has_ins {s : ByteArray} {fs l1 l2 : List FR} {f : FR} {v : Value} {ns : List UInt8} {L : List Fl} (h : Has s fs l1 f l2) (hn : (fs.map FR.nm).Nodup) (hp : (fs.map FR.ab).Perm L) :
    ((l1 ++ f.more v ns :: l2).map FR.ab).Perm (putM s ns L) := by
  obtain ⟨hs, rfl | ⟨h1, rfl, rfl, h4, h5⟩⟩ := h
  · have hm : f.ab ∈ L := hp.mem_iff.1 (by simp)
    cases hf : findA s L with
    | none => exact absurd hs (find_no hf _ hm)
    | some x =>
      rw [putM_some hf, ab_upd (f' := f.more v ns) (g := fun x => (x.1, x.2.1 ++ ns, x.2.2)) hn hs rfl]
      exact upd_perm hp
  · cases hf : findA s L with
    | some x =>
      obtain ⟨h2, h3⟩ := find_some hf
      obtain ⟨g, hg, e⟩ := List.mem_map.1 (hp.mem_iff.2 h2)
      exact absurd (by rw [← h3, ← e]; rfl) (h1 g hg)
    | none =>
      rw [putM_none hf, List.map_append]
      refine (List.perm_append_comm.trans ?_).trans (ins_perm _ _).symm
      have e : [f.more v ns].map FR.ab = [(s, ns, 0)] := by simp [FR.ab, FR.more, h4, h5, hs]
      rw [e]
      exact hp.cons _
theorem dappend (h : DP w d a) (hg : Good a) (s : ByteArray) (b : Value) (ns : List UInt8) (hs : s.size ≤ 140737488355328) (hb : SlM w b ns) (hap : ∀ x l c, b = .slice (some x) l c → 0 < l → x.block ∉ d.foot) (hbig : usedA a.L + ns.length ≤ 140737488355328) :
    Calls Try.prog 9 #[.pointer (some ⟨d.db, 0, none⟩), .string s, b] w (DOut w d (appendM a s ns)) := by
  have hu := h.used
  by_cases hn : isNm s = true
  · by_cases ho : a.on = true
    · by_cases hr : a.room - (usedA a.L : Int) < (ns.length : Int)
      · have e : appendM a s ns = (12, a) := by simp [appendM, hn, ho, hr]
        rw [e]
        refine (append_full w d s b ns h.at' hs hn (h.on.trans ho) hb (by rw [hu, h.room]; exact hg.ok.full) (h.room ▸ hg.ok.room) (by rw [hu, h.room]; exact hr) (by omega)).mono ?_
        rintro e w' ⟨rfl, hb'⟩
        exact ⟨d, rfl, rfl, h.below hb', Fr.of_below hb', Grew.refl _ _⟩
      · have e : appendM a s ns = ((stepA a).1, { (stepA a).2 with L := putM s ns a.L }) := by simp [appendM, hn, ho, hr]
        rw [e]
        refine (append_ok w d (stepA a).2.on (stepA a).2.bud (stepA a).2.st s b (codeV (stepA a).1) ns h.at' hn (h.on.trans ho) hb hap (by rw [h.len]; exact hg.ok.many) (by rw [hu, h.room]; exact hg.ok.full) (h.room ▸ hg.ok.room) (by rw [hu, h.room]; omega) (by rw [hu]; exact hbig) (dstep h hg)).mono ?_
        rintro e w' ⟨l1, f, l2, v', rfl, hd, hh, hf, hgr⟩
        exact ⟨{ d with on := (stepA a).2.on, bud := (stepA a).2.bud, st := (stepA a).2.st, fs := l1 ++ f.more v' ns :: l2 }, rfl, rfl, ⟨hd, h.room.trans (step_room a).symm, rfl, rfl, rfl, has_ins hh h.at'.names h.fs⟩, hf, hgr⟩
    · have ho' : a.on = false := by simpa using ho
      have e : appendM a s ns = (11, a) := by simp [appendM, hn, ho']
      rw [e]
      refine (append_off w d s b h.at' hs hn (h.on.trans ho')).mono ?_
      rintro e w' ⟨rfl, rfl⟩
      exact DOut.same h 11
  · have hn' : isNm s = false := by simpa using hn
    have e : appendM a s ns = (1, a) := by simp [appendM, hn']
    rw [e]
    refine (append_bad w d s b hs hn').mono ?_
    rintro e w' ⟨rfl, rfl⟩
    exact DOut.same h 1
theorem dpower (h : DP w d a) (hg : Good a) (keep : Int) (hk1 : -9223372036854775808 ≤ keep) (hk2 : keep ≤ 9223372036854775807) :
    Calls Try.prog 10 #[.pointer (some ⟨d.db, 0, none⟩), .int .i64 keep] w fun e w' => ∃ d', d'.db = d.db ∧ e = .returned (.tuple #[]) ∧ DP w' d' (powerA a keep) ∧ Fr (Of d) w w' ∧ Grew d d' w := by
  cases ho : a.on with
  | true =>
    refine (power_on w d keep h.at' (h.on.trans ho)).mono ?_
    rintro e w' ⟨rfl, hd, hf⟩
    exact ⟨{ d with on := true, bud := -1 }, rfl, rfl, ⟨hd, h.room, rfl, rfl, h.st, by show List.Perm _ (if a.on = true then _ else _); rw [if_pos ho]; exact h.fs⟩, hf, fun k hk => .inl hk⟩
  | false =>
    refine (power_off w d keep h.at' (h.on.trans ho) (by rw [h.used]; exact hg.ok.big) hk1 hk2).mono ?_
    rintro e w' ⟨fs1, rfl, hd, ht, hf, hgr⟩
    exact ⟨{ d with on := true, bud := -1, fs := fs1 }, rfl, rfl, ⟨hd, h.room, rfl, rfl, h.st, by show List.Perm _ (if a.on = true then _ else _); rw [if_neg (by simp [ho]), tornL_of ht]; exact h.fs.map _⟩, hf, hgr⟩
/-- What Read answers: the bytes, an error's number. -/
def readM (a : Ab) (s : ByteArray) : List UInt8 × Int := if a.on = false then ([], 11) else match findA s a.L with | none => ([], 9) | some x => (x.2.1, 0)
theorem dread (h : DP w d a) (hg : Good a) (s : ByteArray) (hs : s.size ≤ 140737488355328) :
    Calls Try.prog 15 #[.pointer (some ⟨d.db, 0, none⟩), .string s] w fun e w' => ∃ v, e = .returned (.tuple #[v, codeV (readM a s).2]) ∧ RowB w.heap.size w' v (readM a s).1 ∧ Below w.heap.size w w' := by
  cases ho : a.on with
  | false =>
    have e : readM a s = ([], 11) := by simp [readM, ho]
    rw [e]
    refine (read_off w d s h.at' (h.on.trans ho)).mono ?_
    rintro e w' ⟨rfl, rfl⟩
    exact ⟨_, rfl, RowB.nil _ _, Below.refl _ _⟩
  | true =>
    cases hf : findA s a.L with
    | none =>
      have e : readM a s = ([], 9) := by simp [readM, ho, hf]
      rw [e]
      refine (read_none w d s h.at' (h.on.trans ho) (h.none hf) hs).mono ?_
      rintro e w' ⟨rfl, rfl⟩
      exact ⟨_, rfl, RowB.nil _ _, Below.refl _ _⟩
    | some x =>
      obtain ⟨l1, f, l2, e1, e2, e3⟩ := h.some hf
      have e : readM a s = (f.bs, 0) := by simp only [readM, ho, hf]; rw [← e3]; rfl
      rw [e, ← e2]
      refine (read_hit w d f h.at' (h.on.trans ho) (by rw [e1]; simp) (len_of h hg e1)).mono ?_
      rintro e w' ⟨v', rfl, h1, h2⟩
      exact ⟨v', rfl, h1, h2⟩
theorem dclone (h : DP w d a) (hg : Good a) :
    Calls Try.prog 8 #[.pointer (some ⟨d.db, 0, none⟩)] w fun e w' => ∃ d', d'.db = w.heap.size ∧ e = .returned (.pointer (some ⟨w.heap.size, 0, none⟩)) ∧ DP w' d' a ∧ (∀ k ∈ d'.foot, w.heap.size ≤ k) ∧ Below w.heap.size w w' := by
  refine (clone_disk w d h.at' (by rw [h.used]; exact hg.ok.big) (by rw [h.len]; have := hg.few; omega)).mono ?_
  rintro e w' ⟨fs2, rfl, h1, h2, h3, h4⟩
  exact ⟨{ d with db := w.heap.size, mb := w.heap.size + 1, fs := fs2 }, rfl, rfl, ⟨h1, h.room, h.on, h.bud, h.st, h2.trans h.fs⟩, h3, h4⟩
theorem rising_up {L : List Fl} (h : Up L) : rising (L.map fun x => bl x.1) = L.map fun x => bl x.1 := by
  unfold rising
  apply List.mergeSort_of_pairwise
  rw [List.pairwise_map]
  refine List.Pairwise.imp ?_ h
  intro x y h1
  have h2 := (lt_iff _ _).1 h1
  rw [decide_eq_true_eq]
  exact List.le_of_lt h2
theorem dnames (h : DP w d a) (hg : Good a) : Calls Try.prog 36 #[.pointer (some ⟨d.db, 0, none⟩)] w fun e w' => ∃ v, e = .returned v ∧ w'.ownsRow w.heap.size 9 1 v a.L.length ((a.L.map fun x => bl x.1).map encStr) ∧ Below w.heap.size w w' := by
  refine (names_any w d h.at' (by rw [h.len]; have := hg.few; omega)).mono ?_
  rintro e w' ⟨v, rfl, h1, h2⟩
  refine ⟨v, rfl, ?_, h2⟩
  have e : rising (d.fs.map fun f => bl f.nm) = a.L.map fun x => bl x.1 := by
    rw [← rising_up hg.up]
    have hp : (d.fs.map fun f => bl f.nm).Perm (a.L.map fun x => bl x.1) := by
      have := h.fs.map (fun x : Fl => bl x.1)
      rw [List.map_map] at this
      exact this
    exact mergeSort_of_perm hp
  rw [e, h.len] at h1
  exact h1
end
end Rf
end Go.Proofs.Ytlnefgppenokkaa
