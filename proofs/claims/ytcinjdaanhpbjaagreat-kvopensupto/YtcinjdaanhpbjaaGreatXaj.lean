/- The disk's calls, told by the model: Append, Power, Read, Clone, Names. What each call leaves is such as a disk's is. -/
import Derived.Test.YtcinjdaanhpbjaaGreatXai
namespace Go.Proofs.YtcinjdaanhpbjaaGreat
open Go.RowKit
namespace Rf
open Bw Rg Dk

section
variable {w w' : World} {d : Ds} {a : Ab}
theorem dstep (h : DP w d a) (hg : Good a) : ∀ W, DiskAt W d → Calls Tryz.prog 63 #[.pointer (some ⟨d.db, 0, none⟩)] W fun e w' => e = .returned (codeV (stepA a).1) ∧ DiskAt w' { d with on := (stepA a).2.on, bud := (stepA a).2.bud, st := (stepA a).2.st } ∧ Fr (fun k => k = d.db) W w' := by
  intro W hW
  by_cases hb : a.bud = 0
  · have e : stepA a = (11, { a with on := false }) := if_pos hb
    rw [e]
    refine (step_cut W d hW (h.bud.trans hb)).mono ?_
    rintro e w' ⟨rfl, hx, hf⟩
    refine ⟨rfl, ?_, hf⟩
    rw [← h.bud, ← h.st]
    exact hx
  · have e : stepA a = (0, { a with bud := less a.bud, st := wrap64 (a.st + 1) }) := if_neg hb
    rw [e]
    refine (step_done W d hW (h.bud ▸ hb) (h.bud ▸ hg.ok.lo) (h.bud ▸ hg.ok.hi)).mono ?_
    rintro e w' ⟨rfl, hx, hf⟩
    refine ⟨rfl, ?_, hf⟩
    rw [← h.bud, ← h.st, ← h.on]
    exact hx
theorem step_room (a : Ab) : (stepA a).2.room = a.room := by unfold stepA; split <;> rfl
theorem has_ins {s : ByteArray} {fs l1 l2 : List FR} {f : FR} {v : Value} {ns : List UInt8} {L : List Fl} (h : Has s fs l1 f l2) (hn : (fs.map FR.nm).Nodup) (hp : (fs.map FR.ab).Perm L) :
    ((l1 ++ f.more v ns :: l2).map FR.ab).Perm (putM s ns L) := by
  obtain ⟨hs, rfl | ⟨h1, rfl, rfl, h4, h5⟩⟩ := h
  · have hm : f.ab ∈ L := hp.mem_iff.1 (by simp)
    cases hf : findA s L with
    | none => exact absurd hs (find_no hf _ hm)
    | some x =>
      rw [putM_some hf, ab_upd (f' := f.more v ns) (g := fun x => (x.1, x.2.1 ++ ns, x.2.2)) hn hs rfl]
      exact upd_perm hp
  · cases hf : findA s L with
    | some x =>
      obtain ⟨h2, h3⟩ := find_some hf
      obtain ⟨g, hg, e⟩ := List.mem_map.1 (hp.mem_iff.2 h2)
      exact absurd (by rw [← h3, ← e]; rfl) (h1 g hg)
    | none =>
      rw [putM_none hf, List.map_append]
      refine (List.perm_append_comm.trans ?_).trans (ins_perm _ _).symm
      have e : [f.more v ns].map FR.ab = [(s, ns, 0)] := by simp [FR.ab, FR.more, h4, h5, hs]
      rw [e]
      exact hp.cons _
theorem dappend (h : DP w d a) (hg : Good a) (s : ByteArray) (b : Value) (ns : List UInt8) (hs : s.size ≤ 140737488355328) (hb : SlM w b ns) (hap : ∀ x l c, b = .slice (some x) l c → 0 < l → x.block ∉ d.foot) (hbig : usedA a.L + ns.length ≤ 140737488355328) :
    Calls Tryz.prog 27 #[.pointer (some ⟨d.db, 0, none⟩), .string s, b] w (DOut w d (appendM a s ns)) := by
  have hu := h.used
  by_cases hn : isNm s = true
  · by_cases ho : a.on = true
    · by_cases hr : a.room - (usedA a.L : Int) < (ns.length : Int)
      · have e : appendM a s ns = (12, a) := by simp [appendM, hn, ho, hr]
        rw [e]
        refine (append_full w d s b ns h.at' hs hn (h.on.trans ho) hb (by rw [hu, h.room]; exact hg.ok.full) (h.room ▸ hg.ok.room) (by rw [hu, h.room]; exact hr) (by omega)).mono ?_
        rintro e w' ⟨rfl, hb'⟩
        exact ⟨d, rfl, rfl, h.below hb', Fr.of_below hb', Grew.refl _ _⟩
      · have e : appendM a s ns = ((stepA a).1, { (stepA a).2 with L := putM s ns a.L }) := by simp [appendM, hn, ho, hr]
        rw [e]
        refine (append_ok w d (stepA a).2.on (stepA a).2.bud (stepA a).2.st s b (codeV (stepA a).1) ns h.at' hn (h.on.trans ho) hb hap (by rw [h.len]; exact hg.ok.many) (by rw [hu, h.room]; exact hg.ok.full) (h.room ▸ hg.ok.room) (by rw [hu, h.room]; omega) (by rw [hu]; exact hbig) (dstep h hg)).mono ?_
        rintro e w' ⟨l1, f, l2, v', rfl, hd, hh, hf, hgr⟩
        exact ⟨{ d with on := (stepA a).2.on, bud := (stepA a).2.bud, st := (stepA a).2.st, fs := l1 ++ f.more v' ns :: l2 }, rfl, rfl, ⟨hd, h.room.trans (step_room a).symm, rfl, rfl, rfl, has_ins hh h.at'.names h.fs⟩, hf, hgr⟩
    · have ho' : a.on = false := by simpa using ho
      have e : appendM a s ns = (11, a) := by simp [appendM, hn, ho']
      rw [e]
      refine (append_off w d s b h.at' hs hn (h.on.trans ho')).mono ?_
      rintro e w' ⟨rfl, rfl⟩
      exact DOut.same h 11
  · have hn' : isNm s = false := by simpa using hn
    have e : appendM a s ns = (1, a) := by simp [appendM, hn']
    rw [e]
    refine (append_bad w d s b hs hn').mono ?_
    rintro e w' ⟨rfl, rfl⟩
    exact DOut.same h 1
theorem dpower (h : DP w d a) (hg : Good a) (keep : Int) (hk1 : -9223372036854775808 ≤ keep) (hk2 : keep ≤ 9223372036854775807) :
    Calls Tryz.prog 30 #[.pointer (some ⟨d.db, 0, none⟩), .int .i64 keep] w fun e w' => ∃ d', d'.db = d.db ∧ e = .returned (.tuple #[]) ∧ DP w' d' (powerA a keep) ∧ Fr (Of d) w w' ∧ Grew d d' w := by
  cases ho : a.on with
  | true =>
    refine (power_on w d keep h.at' (h.on.trans ho)).mono ?_
    rintro e w' ⟨rfl, hd, hf⟩
    exact ⟨{ d with on := true, bud := -1 }, rfl, rfl, ⟨hd, h.room, rfl, rfl, h.st, by show List.Perm _ (if a.on = true then _ else _); rw [if_pos ho]; exact h.fs⟩, hf, fun k hk => .inl hk⟩
  | false =>
    refine (power_off w d keep h.at' (h.on.trans ho) (by rw [h.used]; exact hg.ok.big) hk1 hk2).mono ?_
    rintro e w' ⟨fs1, rfl, hd, ht, hf, hgr⟩
    exact ⟨{ d with on := true, bud := -1, fs := fs1 }, rfl, rfl, ⟨hd, h.room, rfl, rfl, h.st, by show List.Perm _ (if a.on = true then _ else _); rw [if_neg (by simp [ho]), tornL_of ht]; exact h.fs.map _⟩, hf, hgr⟩
/-- What Read answers: the bytes, an error's number. -/
def readM (a : Ab) (s : ByteArray) : List UInt8 × Int := if a.on = false then ([], 11) else match findA s a.L with | none => ([], 9) | some x => (x.2.1, 0)
theorem dread (h : DP w d a) (hg : Good a) (s : ByteArray) (hs : s.size ≤ 140737488355328) :
    Calls Tryz.prog 18 #[.pointer (some ⟨d.db, 0, none⟩), .string s] w fun e w' => ∃ v, e = .returned (.tuple #[v, codeV (readM a s).2]) ∧ RowB w.heap.size w' v (readM a s).1 ∧ Below w.heap.size w w' := by
  cases ho : a.on with
  | false =>
    have e : readM a s = ([], 11) := by simp [readM, ho]
    rw [e]
    refine (read_off w d s h.at' (h.on.trans ho)).mono ?_
    rintro e w' ⟨rfl, rfl⟩
    exact ⟨_, rfl, RowB.nil _ _, Below.refl _ _⟩
  | true =>
    cases hf : findA s a.L with
    | none =>
      have e : readM a s = ([], 9) := by simp [readM, ho, hf]
      rw [e]
      refine (read_none w d s h.at' (h.on.trans ho) (h.none hf) hs).mono ?_
      rintro e w' ⟨rfl, rfl⟩
      exact ⟨_, rfl, RowB.nil _ _, Below.refl _ _⟩
    | some x =>
      obtain ⟨l1, f, l2, e1, e2, e3⟩ := h.some hf
      have e : readM a s = (f.bs, 0) := by simp only [readM, ho, hf]; rw [← e3]; rfl
      rw [e, ← e2]
      refine (read_hit w d f h.at' (h.on.trans ho) (by rw [e1]; simp) (len_of h hg e1)).mono ?_
      rintro e w' ⟨v', rfl, h1, h2⟩
      exact ⟨v', rfl, h1, h2⟩
end
end Rf
end Go.Proofs.YtcinjdaanhpbjaaGreat

namespace Go.Proofs.YtcinjdaanhpbjaaGreat
open Go.RowKit
namespace Rf
open Bw Rg Dk

/-- What a call leaves, that puts n bytes at most. -/
structure Next (a a' : Ab) (n : Nat) : Prop where
  good : Good a'
  used : usedA a'.L ≤ usedA a.L + n
  len : a'.L.length ≤ a.L.length + 1
  room : a'.room = a.room
section
variable {a : Ab}
theorem Next.same (h : Good a) (n : Nat) : Next a a n := ⟨h, by omega, by omega, rfl⟩
theorem less_lo {b : Int} (h : -1 ≤ b) (_hz : b ≠ 0) : -1 ≤ less b := by unfold less; split <;> omega
theorem less_hi {b : Int} (h : b ≤ 9223372036854775807) : less b ≤ 9223372036854775807 := by unfold less; split <;> omega
theorem good_of {a' : Ab} (h : Good a) (hroom : a'.room = a.room) (hlo : -1 ≤ a'.bud) (hhi : a'.bud ≤ 9223372036854775807) (hfull : (usedA a'.L : Int) ≤ a.room) (hbig : usedA a'.L ≤ 140737488355328) (hfew : a'.L.length ≤ 1099511627775) (hup : Up a'.L) (hsync : ∀ x ∈ a'.L, x.2.2 ≤ x.2.1.length) : Good a' :=
  ⟨⟨by rw [hroom]; exact hfull, by rw [hroom]; exact h.ok.room, hlo, hhi, by omega, hbig⟩, hfew, hup, hsync⟩
theorem next_less {a' : Ab} (h : Good a) (hroom : a'.room = a.room) (hlo : -1 ≤ a'.bud) (hhi : a'.bud ≤ 9223372036854775807) (hu : usedA a'.L ≤ usedA a.L) (hl : a'.L.length ≤ a.L.length) (hup : Up a'.L) (hsync : ∀ x ∈ a'.L, x.2.2 ≤ x.2.1.length) (n : Nat) : Next a a' n :=
  ⟨good_of h hroom hlo hhi (by have := h.ok.full; omega) (Nat.le_trans hu h.ok.big) (Nat.le_trans hl h.few) hup hsync, by omega, by omega, hroom⟩
theorem atM_next (h : Good a) {s : ByteArray} {pre : Fl → Bool} {g : Fl → List Fl → List Fl} (hgL : ∀ x, findA s a.L = some x → pre x = false → Up (g x a.L) ∧ (∀ y ∈ g x a.L, y.2.2 ≤ y.2.1.length) ∧ usedA (g x a.L) ≤ usedA a.L ∧ (g x a.L).length ≤ a.L.length) : Next a (atM a s pre g).2 0 := by
  unfold atM
  split
  · exact Next.same h 0
  · split
    · exact Next.same h 0
    · rename_i x hf
      split
      · exact Next.same h 0
      · rename_i hp
        obtain ⟨h1, h2, h3, h4⟩ := hgL x hf (by simpa using hp)
        split
        · exact next_less (a' := { a with on := false }) h rfl h.ok.lo h.ok.hi (Nat.le_refl _) (Nat.le_refl _) h.up h.sync 0
        · rename_i hb
          exact next_less h (by rfl) (less_lo h.ok.lo hb) (less_hi h.ok.hi) h3 h4 h1 h2 0
theorem usedA_upd {s : ByteArray} {g : Fl → Fl} : ∀ {L : List Fl}, (∀ x ∈ L, x.1 = s → (g x).2.1.length ≤ x.2.1.length) → usedA (upd s g L) ≤ usedA L
  | [], _ => Nat.le_refl _
  | y :: L, h => by
    have h1 := usedA_upd (L := L) (fun x hx => h x (List.mem_cons_of_mem _ hx))
    have h2 : (if y.1 = s then g y else y).2.1.length ≤ y.2.1.length := by
      split
      · exact h y (by simp) (by assumption)
      · exact Nat.le_refl _
    unfold usedA upd at h1 ⊢
    simp only [List.map_cons, List.sum_cons]
    omega
theorem upd_len (s : ByteArray) (g : Fl → Fl) (L : List Fl) : (upd s g L).length = L.length := List.length_map _
theorem upd_sync {s : ByteArray} {g : Fl → Fl} {L : List Fl} (h : ∀ x ∈ L, x.2.2 ≤ x.2.1.length) (hg : ∀ x ∈ L, x.1 = s → (g x).2.2 ≤ (g x).2.1.length) : ∀ y ∈ upd s g L, y.2.2 ≤ y.2.1.length := fun y hy => by
  obtain ⟨x, hx, rfl⟩ := List.mem_map.1 hy
  split
  · exact hg x hx (by assumption)
  · exact h x hx
theorem usedA_rm (s : ByteArray) : ∀ L : List Fl, usedA (rm s L) ≤ usedA L
  | [] => Nat.le_refl _
  | y :: L => by
    have h1 := usedA_rm s L
    unfold usedA rm at h1 ⊢
    rw [List.filter_cons]
    split <;> simp only [List.map_cons, List.sum_cons] <;> omega
theorem syncM_next (h : Good a) (s : ByteArray) : Next a (syncM a s).2 0 := by
  refine atM_next h (fun x hf _ => ⟨upd_up (by intro x; rfl) h.up, upd_sync h.sync (fun x _ _ => Nat.le_refl _), usedA_upd (fun x _ _ => Nat.le_refl _), by rw [upd_len]; exact Nat.le_refl _⟩)
theorem truncM_next (h : Good a) (s : ByteArray) (n : Int) : Next a (truncM a s n).2 0 := by
  refine atM_next h (fun x hf hp => ?_)
  have hp2 : ¬ (n < 0 ∨ (x.2.1.length : Int) < n) := of_decide_eq_false hp
  refine ⟨upd_up (by intro x; rfl) h.up, upd_sync h.sync (fun y hy e => ?_), usedA_upd (fun x _ _ => ?_), by rw [upd_len]; exact Nat.le_refl _⟩
  · have h1 := find_of h.up.nodup hy
    rw [e, hf] at h1
    cases h1
    show n.toNat ≤ (x.2.1.take n.toNat).length
    rw [List.length_take]
    omega
  · show (x.2.1.take n.toNat).length ≤ _
    rw [List.length_take]
    omega
theorem removeM_next (h : Good a) (s : ByteArray) : Next a (removeM a s).2 0 :=
  atM_next h (fun _ _ _ => ⟨rm_up h.up, fun y hy => h.sync y (List.mem_filter.1 hy).1, usedA_rm _ _, List.length_filter_le _ _⟩)
theorem renameM_next (h : Good a) (s t : ByteArray) : Next a (renameM a s t).2 0 := by
  unfold renameM
  split
  · exact Next.same h 0
  · refine atM_next h (fun x hf _ => ?_)
    obtain ⟨hx, hxs⟩ := find_some hf
    have hne : ∀ y ∈ rm t (rm s a.L), y.1 ≠ t := fun y hy => by
      have := (List.mem_filter.1 hy).2
      simpa using this
    have hsub : ∀ y ∈ rm t (rm s a.L), y ∈ a.L := fun y hy => (List.mem_filter.1 (List.mem_filter.1 hy).1).1
    obtain ⟨L1, L2, e⟩ := List.append_of_mem hx
    have hnd := h.up.nodup
    rw [e] at hnd
    have e2 : rm s a.L = L1 ++ L2 := by rw [e, ← hxs]; exact rm_mid hnd
    have hu : usedA a.L = x.2.1.length + usedA (L1 ++ L2) := by
      rw [e]
      simp [usedA]
      omega
    have hl : a.L.length = (L1 ++ L2).length + 1 := by
      rw [e]
      simp
      omega
    refine ⟨ins_up (rm_up (rm_up h.up)) hne, fun y hy => ?_, ?_, ?_⟩
    · rcases List.mem_cons.1 ((ins_perm _ _).mem_iff.1 hy) with rfl | hy
      · exact h.sync x hx
      · exact h.sync y (hsub y hy)
    · rw [usedA_ins, e2, hu]
      have := usedA_rm t (L1 ++ L2)
      show x.2.1.length + _ ≤ _
      omega
    · rw [(ins_perm _ _).length_eq, List.length_cons, e2, hl]
      have : (rm t (L1 ++ L2)).length ≤ (L1 ++ L2).length := List.length_filter_le _ _
      omega
theorem cutM_next (h : Good a) (n : Int) (hn : n ≤ 9223372036854775807) : Next a (cutM a n).2 0 := by
  unfold cutM
  split
  · exact Next.same h 0
  · refine next_less (a' := { a with bud := if a.on then n else a.bud }) h rfl ?_ ?_ (Nat.le_refl _) (Nat.le_refl _) h.up h.sync 0
    · show -1 ≤ if a.on = true then n else a.bud
      split
      · omega
      · exact h.ok.lo
    · show (if a.on = true then n else a.bud) ≤ _
      split
      · exact hn
      · exact h.ok.hi
theorem usedA_map {g : Fl → Fl} : ∀ {L : List Fl}, (∀ x ∈ L, (g x).2.1.length ≤ x.2.1.length) → usedA (L.map g) ≤ usedA L
  | [], _ => Nat.le_refl _
  | y :: L, h => by
    have h1 := usedA_map (L := L) (fun x hx => h x (List.mem_cons_of_mem _ hx))
    have h2 := h y (by simp)
    unfold usedA at h1 ⊢
    simp only [List.map_cons, List.sum_cons]
    omega
theorem keptA_le {x : Fl} (h : x.2.2 ≤ x.2.1.length) (keep : Int) : x.2.2 ≤ keptA keep x ∧ keptA keep x ≤ x.2.1.length := by
  have := Nat.mod_lt (max keep 0).toNat (Nat.succ_pos (x.2.1.length - x.2.2))
  unfold keptA
  simp only [Nat.succ_eq_add_one] at this
  omega
theorem powerA_next (h : Good a) (keep : Int) : Next a (powerA a keep) 0 := by
  cases ho : a.on with
  | true =>
    have e : powerA a keep = { a with on := true, bud := -1 } := by simp [powerA, ho]
    rw [e]
    exact next_less (a' := { a with on := true, bud := -1 }) h rfl (by show (-1 : Int) ≤ -1; omega) (by show (-1 : Int) ≤ 9223372036854775807; omega) (Nat.le_refl _) (Nat.le_refl _) h.up h.sync 0
  | false =>
    have e : powerA a keep = { a with on := true, bud := -1, L := tornL keep a.L } := by simp [powerA, ho]
    rw [e]
    refine next_less h (by rfl) (by show (-1 : Int) ≤ -1; omega) (by show (-1 : Int) ≤ 9223372036854775807; omega) (usedA_map (fun x hx => ?_)) (by show (List.map _ _).length ≤ _; rw [List.length_map]; exact Nat.le_refl _) ?_ (fun y hy => ?_) 0
    · show (x.2.1.take _).length ≤ _
      rw [List.length_take]
      omega
    · show Up (List.map _ _)
      unfold Up
      rw [List.pairwise_map]
      exact h.up
    · obtain ⟨x, hx, rfl⟩ := List.mem_map.1 hy
      show keptA keep x ≤ (x.2.1.take _).length
      rw [List.length_take]
      have := (keptA_le (h.sync x hx) keep).2
      omega
theorem usedA_more {s : ByteArray} {ns : List UInt8} : ∀ {L : List Fl}, (L.map Prod.fst).Nodup → usedA (upd s (fun x => (x.1, x.2.1 ++ ns, x.2.2)) L) ≤ usedA L + ns.length
  | [], _ => Nat.zero_le _
  | y :: L, h => by
    rw [List.map_cons, List.nodup_cons] at h
    by_cases e : y.1 = s
    · have h2 := upd_none (g := fun x : Fl => (x.1, x.2.1 ++ ns, x.2.2)) (s := s) (L := L) (fun x hx e2 => h.1 (by rw [e, ← e2]; exact List.mem_map_of_mem hx))
      unfold upd at h2 ⊢
      rw [List.map_cons, h2, if_pos e]
      simp [usedA]
      omega
    · have h1 := usedA_more (s := s) (ns := ns) h.2
      unfold upd at h1 ⊢
      rw [List.map_cons, if_neg e]
      simp only [usedA, List.map_cons, List.sum_cons] at h1 ⊢
      omega
theorem appendM_next (h : Good a) (s : ByteArray) (ns : List UInt8) (hbig : usedA a.L + ns.length ≤ 140737488355328) (hfew : a.L.length + 1 ≤ 1099511627775) : Next a (appendM a s ns).2 ns.length := by
  unfold appendM
  split
  · exact Next.same h _
  · split
    · exact Next.same h _
    · split
      · exact Next.same h _
      · rename_i hr
        have hput : usedA (putM s ns a.L) ≤ usedA a.L + ns.length ∧ (putM s ns a.L).length ≤ a.L.length + 1 ∧ Up (putM s ns a.L) ∧ ∀ x ∈ putM s ns a.L, x.2.2 ≤ x.2.1.length := by
          cases hf : findA s a.L with
          | none =>
            rw [putM_none hf]
            refine ⟨by rw [usedA_ins]; show ns.length + _ ≤ _; omega, by rw [(ins_perm _ _).length_eq]; exact Nat.le_refl _, ins_up h.up (find_no hf), fun y hy => ?_⟩
            rcases List.mem_cons.1 ((ins_perm _ _).mem_iff.1 hy) with rfl | hy
            · exact Nat.zero_le _
            · exact h.sync y hy
          | some x =>
            rw [putM_some hf]
            refine ⟨usedA_more h.up.nodup, by rw [upd_len]; omega, upd_up (by intro x; rfl) h.up, upd_sync h.sync (fun y hy _ => ?_)⟩
            have := h.sync y hy
            show y.2.2 ≤ (y.2.1 ++ ns).length
            rw [List.length_append]
            omega
        obtain ⟨h1, h2, h3, h4⟩ := hput
        have hb : -1 ≤ (stepA a).2.bud ∧ (stepA a).2.bud ≤ 9223372036854775807 := by
          unfold stepA
          split
          · exact ⟨h.ok.lo, h.ok.hi⟩
          · rename_i hz
            exact ⟨less_lo h.ok.lo hz, less_hi h.ok.hi⟩
        exact ⟨good_of h (step_room a) hb.1 hb.2 (by show (usedA (putM s ns a.L) : Int) ≤ _; omega) (Nat.le_trans h1 hbig) (Nat.le_trans h2 hfew) h3 h4, h1, h2, step_room a⟩
end
end Rf
end Go.Proofs.YtcinjdaanhpbjaaGreat
