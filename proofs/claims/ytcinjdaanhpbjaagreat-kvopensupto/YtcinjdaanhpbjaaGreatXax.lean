/- A disk without a cut: what its calls leave in its files, and what Open finds there: plain mathematics. The disk that KvOpens lays; bounds of what is read; what Open leaves: plain mathematics. -/
import Derived.Test.YtcinjdaanhpbjaaGreatXav
import Derived.Test.YtcinjdaanhpbjaaGreatXaw
namespace Go.Proofs.YtcinjdaanhpbjaaGreat
open Go.RowKit
namespace Kv
open Bw Rg Dk Rf Wl

/-- What a file holds. -/
def fileB (s : ByteArray) (L : List Fl) : Option (List UInt8) := (findA s L).map fun x => x.2.1
/-- On, and no cut is asked for. -/
structure FreeA (a : Ab) : Prop where
  on : a.on = true
  bud : a.bud = -1
section
variable {a : Ab} {s t : ByteArray} {L : List Fl} {ns : List UInt8}
theorem find_ins_ne {x : Fl} (h : x.1 ≠ s) : ∀ L, findA s (ins x L) = findA s L
  | [] => by
    unfold findA ins
    rw [List.find?_cons, decide_eq_false h]
  | y :: L => by
    unfold ins
    split
    · unfold findA
      rw [List.find?_cons, decide_eq_false h]
    · have ih := find_ins_ne h L
      unfold findA at ih ⊢
      rw [List.find?_cons, List.find?_cons, ih]
theorem find_ins_eq {x : Fl} (h : x.1 = s) : ∀ L, findA s L = none → findA s (ins x L) = some x
  | [], _ => by
    unfold findA ins
    rw [List.find?_cons, decide_eq_true h]
  | y :: L, hn => by
    have hy : ¬ y.1 = s := fun e => by
      unfold findA at hn
      rw [List.find?_cons, decide_eq_true e] at hn
      cases hn
    unfold ins
    split
    · unfold findA
      rw [List.find?_cons, decide_eq_true h]
    · have hn2 : findA s L = none := by
        unfold findA at hn ⊢
        rw [List.find?_cons, decide_eq_false hy] at hn
        exact hn
      have ih := find_ins_eq h L hn2
      unfold findA at ih ⊢
      rw [List.find?_cons, decide_eq_false hy, ih]
theorem find_upd {g : Fl → Fl} (hg : ∀ x, (g x).1 = x.1) (s t : ByteArray) : ∀ L, findA t (upd s g L) = (findA t L).map fun x => if x.1 = s then g x else x
  | [] => rfl
  | y :: L => by
    have ih := find_upd hg s t L
    unfold findA upd at ih ⊢
    rw [List.map_cons, List.find?_cons, List.find?_cons]
    have e : (if y.1 = s then g y else y).1 = y.1 := by
      split
      · exact hg y
      · rfl
    rw [e]
    by_cases h : y.1 = t
    · rw [decide_eq_true h]
      rfl
    · rw [decide_eq_false h]
      exact ih
theorem find_rm_ne (h : t ≠ s) : ∀ L, findA t (rm s L) = findA t L
  | [] => rfl
  | y :: L => by
    have ih := find_rm_ne h L
    unfold findA rm at ih ⊢
    rw [List.filter_cons, List.find?_cons]
    by_cases e : y.1 = s
    · have e2 : ¬ y.1 = t := fun e2 => h (e2.symm.trans e)
      rw [if_neg (by simp [e]), decide_eq_false e2]
      exact ih
    · rw [if_pos (by simp [e]), List.find?_cons, ih]
theorem find_rm_eq (s : ByteArray) (L : List Fl) : findA s (rm s L) = none := by
  unfold findA rm
  rw [List.find?_eq_none]
  intro x hx
  have := (List.mem_filter.1 hx).2
  simpa using this
theorem file_rm_ne (h : t ≠ s) : fileB t (rm s L) = fileB t L := by unfold fileB; rw [find_rm_ne h]
theorem file_rm_eq : fileB s (rm s L) = none := by unfold fileB; rw [find_rm_eq]; rfl
theorem file_upd_ne {g : Fl → Fl} (hg : ∀ x, (g x).1 = x.1) (h : t ≠ s) : fileB t (upd s g L) = fileB t L := by
  unfold fileB
  rw [find_upd hg]
  cases hf : findA t L with
  | none => rfl
  | some x =>
    have := (find_some hf).2
    simp only [Option.map_some]
    rw [if_neg (by rw [this]; exact h)]
theorem file_upd_eq {g : Fl → Fl} {f : List UInt8 → List UInt8} (hg : ∀ x, (g x).1 = x.1) (hf : ∀ x, (g x).2.1 = f x.2.1) : fileB s (upd s g L) = (fileB s L).map f := by
  unfold fileB
  rw [find_upd hg]
  cases h : findA s L with
  | none => rfl
  | some x =>
    have := (find_some h).2
    simp only [Option.map_some]
    rw [if_pos this, hf]
theorem file_put_eq : fileB s (putM s ns L) = some ((fileB s L).getD [] ++ ns) := by
  cases h : findA s L with
  | none =>
    rw [putM_none h]
    unfold fileB
    rw [find_ins_eq (x := (s, ns, 0)) rfl L h, h]
    rfl
  | some x =>
    rw [putM_some h, file_upd_eq (g := fun x : Fl => (x.1, x.2.1 ++ ns, x.2.2)) (f := fun l => l ++ ns) (fun _ => rfl) (fun _ => rfl)]
    unfold fileB
    rw [h]
    rfl
theorem file_put_ne (h : t ≠ s) : fileB t (putM s ns L) = fileB t L := by
  cases hf : findA s L with
  | none =>
    rw [putM_none hf]
    unfold fileB
    rw [find_ins_ne (fun e => h e.symm)]
  | some x =>
    rw [putM_some hf]
    exact file_upd_ne (fun _ => rfl) h
theorem file_none : fileB s L = none ↔ findA s L = none := by
  unfold fileB
  cases findA s L <;> simp
theorem append_free (hf : FreeA a) (hn : isNm s = true) (hr : (ns.length : Int) ≤ a.room - (usedA a.L : Int)) : (appendM a s ns).1 = 0 ∧ (appendM a s ns).2.L = putM s ns a.L ∧ FreeA (appendM a s ns).2 := by
  have hb : ¬ a.bud = 0 := by rw [hf.bud]; decide
  unfold appendM
  rw [if_neg (by rw [hn]; simp), if_neg (by rw [hf.on]; simp), if_neg (by omega)]
  unfold stepA
  rw [if_neg hb]
  exact ⟨rfl, rfl, hf.on, by show less a.bud = -1; rw [hf.bud]; rfl⟩
theorem at_free {pre : Fl → Bool} {g : Fl → List Fl → List Fl} {x : Fl} (hf : FreeA a) (h : findA s a.L = some x) (hp : pre x = false) : (atM a s pre g).1 = 0 ∧ (atM a s pre g).2.L = g x a.L ∧ FreeA (atM a s pre g).2 := by
  have hb : ¬ a.bud = 0 := by rw [hf.bud]; decide
  unfold atM
  rw [if_neg (by rw [hf.on]; simp), h]
  simp only
  rw [if_neg (by rw [hp]; simp), if_neg hb]
  exact ⟨rfl, rfl, hf.on, by show less a.bud = -1; rw [hf.bud]; rfl⟩
theorem at_none {pre : Fl → Bool} {g : Fl → List Fl → List Fl} (hf : FreeA a) (h : findA s a.L = none) : atM a s pre g = (9, a) := by
  unfold atM
  rw [if_neg (by rw [hf.on]; simp), h]
theorem rem_free (hf : FreeA a) (s : ByteArray) : (remA a s).1 = 0 ∧ (remA a s).2.L = rm s a.L ∧ FreeA (remA a s).2 := by
  cases h : findA s a.L with
  | none =>
    have e : removeM a s = (9, a) := at_none hf h
    unfold remA
    rw [e, if_pos rfl]
    exact ⟨rfl, (rm_none (find_no h)).symm, hf⟩
  | some x =>
    have e := at_free (pre := fun _ => false) (g := fun _ L => rm s L) hf h rfl
    unfold remA
    rw [if_neg (by show ¬ (removeM a s).1 = 9; rw [show (removeM a s).1 = 0 from e.1]; decide)]
    exact e
theorem trunc_free {n : Nat} (hf : FreeA a) (hn : n ≤ ((fileB s a.L).getD []).length) : (fileB s a.L = none → truncM a s n = (9, a)) ∧ ((truncM a s n).1 = 0 ∨ (truncM a s n).1 = 9) ∧ (∀ t, t ≠ s → fileB t (truncM a s n).2.L = fileB t a.L) ∧ fileB s (truncM a s n).2.L = (fileB s a.L).map (fun l => l.take n) ∧ FreeA (truncM a s n).2 := by
  cases h : findA s a.L with
  | none =>
    have e : truncM a s n = (9, a) := at_none hf h
    rw [e]
    refine ⟨fun _ => rfl, .inr rfl, fun _ _ => rfl, ?_, hf⟩
    rw [file_none.2 h]
    rfl
  | some x =>
    have hx : fileB s a.L = some x.2.1 := by unfold fileB; rw [h]; rfl
    rw [hx] at hn
    simp only [Option.getD_some] at hn
    have e := at_free (pre := fun x => decide ((n : Int) < 0 ∨ (x.2.1.length : Int) < n)) (g := fun _ L => upd s (fun x => (x.1, x.2.1.take (n : Int).toNat, (n : Int).toNat)) L) hf h (decide_eq_false (by omega))
    refine ⟨fun h0 => (by rw [hx] at h0; cases h0), .inl e.1, fun t ht => ?_, ?_, e.2.2⟩
    · rw [show (truncM a s n).2.L = _ from e.2.1]
      exact file_upd_ne (fun _ => rfl) ht
    · rw [show (truncM a s n).2.L = _ from e.2.1]
      exact file_upd_eq (f := fun l => l.take n) (fun _ => rfl) (fun _ => rfl)
theorem read_file (ho : a.on = true) : (readM a s).1 = (fileB s a.L).getD [] := by
  unfold readM fileB
  rw [if_neg (by rw [ho]; simp)]
  cases findA s a.L <;> rfl
theorem opn_free (hf : FreeA a) (s : ByteArray) : (opnA a s).1 = 0 ∧ (∀ t, t ≠ s → fileB t (opnA a s).2.L = fileB t a.L) ∧ fileB s (opnA a s).2.L = (fileB s a.L).map (fun l => l.take (scan l).2) ∧ FreeA (opnA a s).2 := by
  unfold opnA
  rw [if_neg (by rw [hf.on]; simp), read_file hf.on]
  have hle := (scan_le _ ((fileB s a.L).getD []) (Nat.le_refl _)).1
  obtain ⟨t0, t1, t2, t3, t4⟩ := trunc_free (s := s) (n := (scan ((fileB s a.L).getD [])).2) hf hle
  split
  · rename_i hlt
    have hs : ∃ l, fileB s a.L = some l := by
      cases h : fileB s a.L with
      | none => rw [h] at hlt; simp at hlt
      | some l => exact ⟨l, rfl⟩
    obtain ⟨l, hl⟩ := hs
    rw [hl] at t1 t2 t3 t4 ⊢
    simp only [Option.getD_some] at t1 t2 t3 t4 ⊢
    refine ⟨?_, t2, t3, t4⟩
    cases h : findA s a.L with
    | none => rw [file_none.2 h] at hl; cases hl
    | some x =>
      have hx : fileB s a.L = some x.2.1 := by unfold fileB; rw [h]; rfl
      rw [hl] at hx
      have hx2 := Option.some.inj hx
      rw [hl] at hle
      simp only [Option.getD_some] at hle
      exact (at_free (pre := fun x => decide (((scan l).2 : Int) < 0 ∨ (x.2.1.length : Int) < ((scan l).2 : Int))) (g := fun _ L => upd s (fun x => (x.1, x.2.1.take ((scan l).2 : Int).toNat, ((scan l).2 : Int).toNat)) L) hf h (decide_eq_false (by rw [← hx2]; omega))).1
  · rename_i hlt
    refine ⟨rfl, fun _ _ => rfl, ?_, hf⟩
    cases h : fileB s a.L with
    | none => rfl
    | some l =>
      rw [h] at hlt
      simp only [Option.getD_some] at hlt
      simp only [Option.map_some]
      rw [List.take_of_length_le (by omega)]
theorem clr_free (hf : FreeA a) (s : ByteArray) : (clrA a s).1 = 0 ∧ (∀ t, t ≠ s → fileB t (clrA a s).2.L = fileB t a.L) ∧ fileB s (clrA a s).2.L = (fileB s a.L).map (fun _ => []) ∧ FreeA (clrA a s).2 := by
  obtain ⟨t0, t1, t2, t3, t4⟩ := trunc_free (s := s) (n := 0) hf (Nat.zero_le _)
  have t1 : (truncM a s 0).1 = 0 ∨ (truncM a s 0).1 = 9 := t1
  have t3 : fileB s (truncM a s 0).2.L = (fileB s a.L).map (fun l => l.take 0) := t3
  rw [clr_snd]
  refine ⟨?_, t2, t3, t4⟩
  unfold clrA
  rcases t1 with e | e
  · rw [if_neg (by rw [e]; decide)]
    exact e
  · rw [if_pos e]
end
theorem nln : slog ≠ snew := by decide +kernel
theorem nsn : ssnap ≠ snew := by decide +kernel
theorem nsl : ssnap ≠ slog := by decide +kernel
/-- What tidying leaves. -/
theorem tid_free {a : Ab} (hf : FreeA a) (m : KM) (stale : Bool) : (tidK m a stale).1 = 0 ∧ (tidK m a stale).2.1.L = m.L ∧ (tidK m a stale).2.1.n = m.n ∧ (tidK m a stale).2.1.torn = (if stale = true then false else m.torn) ∧ (tidK m a stale).2.1.size = (if stale = true then 0 else m.size) ∧ fileB snew (tidK m a stale).2.2.L = none ∧ fileB ssnap (tidK m a stale).2.2.L = fileB ssnap a.L ∧ fileB slog (tidK m a stale).2.2.L = (fileB slog a.L).map (fun l => if stale = true then [] else l.take (scan l).2) ∧ FreeA (tidK m a stale).2.2 := by
  obtain ⟨r1, r2, r3⟩ := rem_free hf snew
  obtain ⟨o1, o2, o3, o4⟩ := opn_free r3 slog
  unfold tidK
  rw [if_neg (by rw [r1]; simp), if_neg (by rw [o1]; simp)]
  have hl : fileB slog (remA a snew).2.L = fileB slog a.L := by rw [r2]; exact file_rm_ne nln
  have hs : fileB ssnap (remA a snew).2.L = fileB ssnap a.L := by rw [r2]; exact file_rm_ne nsn
  have hn : fileB snew (remA a snew).2.L = none := by rw [r2]; exact file_rm_eq
  cases stale with
  | false =>
    rw [if_neg (by simp)]
    exact ⟨rfl, rfl, rfl, rfl, rfl, by rw [o2 _ nln.symm]; exact hn, by rw [o2 _ nsl]; exact hs, by rw [o3, hl]; rfl, o4⟩
  | true =>
    obtain ⟨c1, c2, c3, c4⟩ := clr_free o4 slog
    rw [if_pos rfl]
    unfold clrK
    rw [if_pos c1]
    exact ⟨rfl, rfl, rfl, rfl, rfl, by rw [c2 _ nln.symm, o2 _ nln.symm]; exact hn, by rw [c2 _ nsl, o2 _ nsl]; exact hs, by rw [c3, o3, hl]; cases fileB slog a.L <;> rfl, c4⟩
/-- What the two files say. -/
def filesQ (a : Ab) : Option (Nat × List Fl) := restQ ((fileB slog a.L).getD []) (match fileB ssnap a.L with | none => some (0, []) | some bs => oneM bs)
theorem snapO_file (a : Ab) : snapO a = match fileB ssnap a.L with | none => some (0, []) | some bs => oneM bs := by
  unfold snapO fileB
  cases findA ssnap a.L <;> rfl
theorem logB_file (a : Ab) : logB a = (fileB slog a.L).getD [] := by
  unfold logB fileB
  cases findA slog a.L <;> rfl
theorem oneM_ok {bs : List UInt8} {c : Nat} {L : List Fl} (h : oneM bs = some (c, L)) : c ≤ 4611686018427387904 ∧ L.length ≤ 4294967296 ∧ Up L := by
  unfold oneM at h
  split at h
  · split at h
    · cases h
    · exact ⟨(snapM_ok h).1, (snapM_ok h).2, snapM_up h⟩
  · cases h
theorem snapO_up {a : Ab} {c : Nat} {L : List Fl} (h : snapO a = some (c, L)) : c ≤ 4611686018427387904 ∧ L.length ≤ 4294967296 ∧ Up L := by
  unfold snapO at h
  split at h
  · injection h with h
    injection h with h1 h2
    subst h1 h2
    exact ⟨by omega, by simp, List.Pairwise.nil⟩
  · exact oneM_ok h
theorem playM_up : ∀ (rs : List (List UInt8)) (n : Nat) (L : List Fl) (last : Nat) (first : Bool) (r : Nat × List Fl × Nat), playM rs n L last first = some r → Up L → Up r.2.1 ∧ r.1 ≤ n + rs.length
  | [], n, L, last, first, r, h, hu => by
    unfold playM at h
    rw [← Option.some.inj h]
    exact ⟨hu, Nat.le_add_right _ _⟩
  | b :: rs, n, L, last, first, r, h, hu => by
    unfold playM at h
    split at h
    · cases h
    · split at h
      · cases h
      · obtain ⟨h1, h2⟩ := playM_up rs _ _ _ _ r h (by split; exact doAll_up _ hu; exact hu)
        refine ⟨h1, ?_⟩
        rw [List.length_cons]
        split at h2 <;> omega
/-- What Open answers, by what the two files say. -/
theorem opnK_files {a : Ab} (hf : FreeA a) (_hu : usedA a.L ≤ 1099511627776) (hl : ((fileB slog a.L).getD []).length ≤ 1099511627776) : (filesQ a = none → (opnK a).1 = 13) ∧ ∀ n L, filesQ a = some (n, L) → (opnK a).1 = 0 ∧ (opnK a).2.1.L = L ∧ (opnK a).2.1.n = n ∧ fileB snew (opnK a).2.2.L = none ∧ FreeA (opnK a).2.2 ∧ Up L ∧ n ≤ 4611686018427387904 + 1099511627776 := by
  unfold filesQ opnK
  rw [if_neg (by rw [hf.on]; simp), ← snapO_file, ← logB_file]
  rw [← logB_file] at hl
  cases hs : snapO a with
  | none => exact ⟨fun _ => rfl, fun n L h => by cases h⟩
  | some p =>
    obtain ⟨c, L0⟩ := p
    obtain ⟨b1, b2, b3⟩ := snapO_up hs
    have hsc := (scan_le _ (logB a) (Nat.le_refl _)).2
    have he := playQ_eq (scan (logB a)).1 c L0 0 true (by omega) (by omega)
    show (restQ (logB a) (some (c, L0)) = none → _) ∧ ∀ n L, restQ (logB a) (some (c, L0)) = some (n, L) → _
    unfold restQ
    simp only
    rw [he]
    cases hp : playM (scan (logB a)).1 c L0 0 true with
    | none => exact ⟨fun _ => rfl, fun n L h => by cases h⟩
    | some r =>
      obtain ⟨n, L', last⟩ := r
      refine ⟨fun h => (by cases h), fun n2 L2 h => ?_⟩
      simp only [Option.map_some, Option.some.injEq, Prod.mk.injEq] at h
      obtain ⟨rfl, rfl⟩ := h
      obtain ⟨p1, p2⟩ := playM_up _ _ _ _ _ _ hp b3
      obtain ⟨t1, t2, t3, -, -, t4, -, -, t5⟩ := tid_free hf ⟨L', n, (scan (logB a)).2, false⟩ (!(scan (logB a)).1.isEmpty && decide (last < n))
      exact ⟨t1, t2, t3, t4, t5, p1, by simp only at p2; omega⟩
end Kv
end Go.Proofs.YtcinjdaanhpbjaaGreat

namespace Go.Proofs.YtcinjdaanhpbjaaGreat
open Go.RowKit
namespace Kv
open Bw Rg Dk Rf Wl

/-- A disk of 2 to the 40 bytes, so many of them used, without a cut. -/
structure SetA (a : Ab) (n : Nat) : Prop where
  free : FreeA a
  good : Rf.Good a
  used : usedA a.L ≤ n
  room : a.room = 1099511627776
  few : a.L.length ≤ 1073741824
theorem set0 : SetA ua0 0 := ⟨⟨rfl, rfl⟩, ug0, by decide, rfl, by decide⟩
theorem SetA.append {a : Ab} {n : Nat} (h : SetA a n) {s : ByteArray} {ns : List UInt8} (hn : isNm s = true) (hl : n + ns.length ≤ 549755813888) (hf : a.L.length + 1 ≤ 1073741824) : (appendM a s ns).1 = 0 ∧ SetA (appendM a s ns).2 (n + ns.length) ∧ (appendM a s ns).2.L = putM s ns a.L ∧ (appendM a s ns).2.L.length ≤ a.L.length + 1 := by
  have hu := h.used
  obtain ⟨h1, h2, h3⟩ := append_free (ns := ns) h.free hn (by rw [h.room]; omega)
  have hx := appendM_next h.good s ns (by omega) (by omega)
  exact ⟨h1, ⟨h3, hx.good, by have := hx.used; omega, hx.room.trans h.room, by have := hx.len; omega⟩, h2, hx.len⟩
/-- The disk that KvOpens lays. -/
def sA1 (snap : List UInt8) (has : Bool) : Ab := if has = true then (appendM ua0 ssnap snap).2 else ua0
def sA2 (snap : List UInt8) (has : Bool) (log : List UInt8) : Ab := (appendM (sA1 snap has) slog log).2
def sA3 (snap : List UInt8) (has : Bool) (log : List UInt8) : Ab := (appendM (sA2 snap has log) snew [1, 2, 3]).2
theorem sA1_set {snap : List UInt8} (has : Bool) (hl : snap.length ≤ 1048576) : SetA (sA1 snap has) 1048576 ∧ (sA1 snap has).L.length ≤ 1 ∧ fileB ssnap (sA1 snap has).L = (if has = true then some snap else none) ∧ fileB slog (sA1 snap has).L = none := by
  unfold sA1
  cases has with
  | false =>
    exact ⟨⟨set0.free, set0.good, by have := set0.used; simp only [Bool.false_eq_true, if_false]; omega, rfl, by show ua0.L.length ≤ _; decide⟩, by show ua0.L.length ≤ _; decide, rfl, rfl⟩
  | true =>
    obtain ⟨-, h2, h3, h4⟩ := set0.append (s := ssnap) (ns := snap) nm_snap (by omega) (by decide)
    simp only [if_true]
    refine ⟨⟨h2.free, h2.good, by have := h2.used; omega, h2.room, h2.few⟩, h4, ?_, ?_⟩
    · rw [h3, file_put_eq]
      rfl
    · rw [h3, file_put_ne nsl.symm]
      rfl
theorem sA3_set {snap log : List UInt8} (has : Bool) (hl : snap.length ≤ 1048576) (hl2 : log.length ≤ 1048576) : SetA (sA2 snap has log) 2097152 ∧ SetA (sA3 snap has log) 2097155 ∧ filesQ (sA3 snap has log) = opnQ snap has log ∧ fileB slog (sA3 snap has log).L = some log := by
  obtain ⟨h1, h2, h3, h4⟩ := sA1_set has hl
  obtain ⟨-, g1, g2, g3⟩ := h1.append (s := slog) (ns := log) nm_log (by omega) (by omega)
  have g1' : SetA (sA2 snap has log) 2097152 := ⟨g1.free, g1.good, by have := g1.used; show usedA (appendM (sA1 snap has) slog log).2.L ≤ _; omega, g1.room, g1.few⟩
  have g3' : (sA2 snap has log).L.length ≤ 2 := by show (appendM (sA1 snap has) slog log).2.L.length ≤ _; omega
  obtain ⟨-, k1, k2, k3⟩ := g1'.append (s := snew) (ns := [1, 2, 3]) nm_new (by simp) (by omega)
  have e1 : fileB ssnap (sA3 snap has log).L = if has = true then some snap else none := by
    show fileB ssnap (appendM (sA2 snap has log) snew [1, 2, 3]).2.L = _
    rw [k2, file_put_ne nsn]
    show fileB ssnap (appendM (sA1 snap has) slog log).2.L = _
    rw [g2, file_put_ne nsl, h3]
  have e2 : fileB slog (sA3 snap has log).L = some log := by
    show fileB slog (appendM (sA2 snap has log) snew [1, 2, 3]).2.L = _
    rw [k2, file_put_ne nln]
    show fileB slog (appendM (sA1 snap has) slog log).2.L = _
    rw [g2, file_put_eq, h4]
    rfl
  refine ⟨g1', k1, ?_, e2⟩
  unfold filesQ
  rw [e1, e2, opnQ_rest]
  cases has <;> rfl
/-- Pairs that are not too long. -/
def PrB (x : Fl) : Prop := x.1.size ≤ 255 ∧ x.2.1.length ≤ 140737488355328
theorem doAll_b : ∀ (l : List Wrt), (∀ x ∈ l, x.key.size ≤ 255 ∧ x.val.length ≤ 140737488355328) → ∀ {L : List Fl}, (∀ y ∈ L, PrB y) → ∀ y ∈ doAll l L, PrB y
  | [], _, _, h => h
  | x :: l, hl, L, h => by
    refine doAll_b l (fun z hz => hl z (List.mem_cons_of_mem _ hz)) (L := doK x L) (fun y hy => ?_)
    unfold doK at hy
    split at hy
    · exact h y (List.mem_filter.1 hy).1
    · rcases mem_setK hy with rfl | hy
      · exact hl x (by simp)
      · exact h y hy
theorem batchM_b {bs : List UInt8} {m : Nat} {l : List Wrt} (h : batchM bs = some (m, l)) : ∀ x ∈ l, x.key.size ≤ 255 ∧ x.val.length ≤ 140737488355328 := by
  unfold batchM at h
  simp only at h
  split at h
  · cases h
  · split at h
    · injection h with h
      injection h with _ h
      rw [← h]
      exact wrsM_ok _ _
    · cases h
theorem prsM_b : ∀ n last s r, prsM n last s = some r → ∀ x ∈ r.1, PrB x
  | 0, _, s, r, h => by
    rw [← Option.some.inj h]
    intro x hx
    cases hx
  | n + 1, last, s, r, h => by
    unfold prsM at h
    simp only at h
    split at h
    · cases h
    · split at h
      · cases h
      · rename_i r' hr
        rw [← Option.some.inj h]
        intro x hx
        rcases List.mem_cons.1 hx with rfl | hx
        · have hk : (keyM s).1.length < 256 := Nat.lt_of_le_of_lt (takeM_le _ _) (numM_lt 1 s)
          have hv : (valM (keyM s).2).1.length < 4294967296 := Nat.lt_of_le_of_lt (takeM_le _ _) (numM_lt 4 (keyM s).2)
          refine ⟨?_, ?_⟩
          · show (baK (keyM s).1).size ≤ 255
            rw [baK_size]
            omega
          · show (valM (keyM s).2).1.length ≤ _
            omega
        · exact prsM_b n _ _ _ hr x hx
theorem oneM_b {bs : List UInt8} {c : Nat} {L : List Fl} (h : oneM bs = some (c, L)) : ∀ x ∈ L, PrB x := by
  unfold oneM at h
  split at h
  · split at h
    · cases h
    · unfold snapM at h
      simp only at h
      split at h
      · cases h
      · split at h
        · cases h
        · rename_i r hr
          split at h
          · injection h with h
            injection h with _ h
            rw [← h]
            exact prsM_b _ _ _ _ hr
          · cases h
  · cases h
theorem playM_b : ∀ (rs : List (List UInt8)) (n : Nat) (L : List Fl) (last : Nat) (first : Bool) (r : Nat × List Fl × Nat), playM rs n L last first = some r → (∀ x ∈ L, PrB x) → (∀ x ∈ r.2.1, PrB x) ∧ r.2.1.length ≤ L.length + 4096 * rs.length
  | [], n, L, last, first, r, h, hu => by
    unfold playM at h
    rw [← Option.some.inj h]
    exact ⟨hu, Nat.le_add_right _ _⟩
  | b :: rs, n, L, last, first, r, h, hu => by
    unfold playM at h
    split at h
    · cases h
    · rename_i m l hb
      split at h
      · cases h
      · have hlen : l.length ≤ 4096 := by
          unfold batchM at hb
          simp only at hb
          split at hb
          · cases hb
          · split at hb
            · injection hb with hb
              injection hb with _ hb
              rw [← hb, wrsM_len]
              omega
            · cases hb
        have h2 := playM_b rs _ _ _ _ r h (by split; exact doAll_b l (batchM_b hb) hu; exact hu)
        refine ⟨h2.1, ?_⟩
        have h3 := h2.2
        have h4 := doAll_len l L
        rw [List.length_cons]
        split at h3 <;> omega
theorem opnQ_b {snap log : List UInt8} {has : Bool} {n : Nat} {L : List Fl} (h : opnQ snap has log = some (n, L)) (hl : log.length ≤ 268435456) : (∀ x ∈ L, PrB x) ∧ L.length ≤ 549755813888 := by
  rw [opnQ_rest] at h
  have key : ∀ c L0, (∀ x ∈ L0, PrB x) → L0.length ≤ 4294967296 → c ≤ 4611686018427387904 → playQ (scan log).1 c L0 0 true = some (n, L) → (∀ x ∈ L, PrB x) ∧ L.length ≤ 549755813888 := fun c L0 h1 h2 h3 h4 => by
    have hsc := (scan_le _ log (Nat.le_refl _)).2
    rw [playQ_eq _ _ _ _ _ (by omega) (by omega)] at h4
    cases hp : playM (scan log).1 c L0 0 true with
    | none => rw [hp] at h4; cases h4
    | some r =>
      rw [hp] at h4
      simp only [Option.map_some, Option.some.injEq, Prod.mk.injEq] at h4
      obtain ⟨g1, g2⟩ := playM_b _ _ _ _ _ _ hp h1
      rw [h4.2] at g1 g2
      exact ⟨g1, by omega⟩
  cases has with
  | false => exact key 0 [] (fun x hx => by cases hx) (by simp) (by simp) h
  | true =>
    simp only [if_true] at h
    cases hm : oneM snap with
    | none => rw [hm] at h; cases h
    | some p =>
      obtain ⟨c, L0⟩ := p
      rw [hm] at h
      obtain ⟨o1, o2, -⟩ := oneM_ok hm
      exact key c L0 (oneM_b hm) o2 o1 h
theorem tid_good {a : Ab} (hg : Rf.Good a) (m : KM) (stale : Bool) : Rf.Good (tidK m a stale).2.2 := by
  have h1 := (rem_next hg snew).good
  have h2 := (opn_next h1 slog).good
  unfold tidK
  split
  · exact h1
  · split
    · exact h2
    · split
      · unfold clrK
        split
        · exact clr_good h2 slog
        · exact clr_good h2 slog
      · exact h2
theorem opnK_good {a : Ab} (hg : Rf.Good a) : Rf.Good (opnK a).2.2 := by
  unfold opnK
  split
  · exact hg
  · split
    · exact hg
    · split
      · exact hg
      · exact tid_good hg _ _
end Kv
end Go.Proofs.YtcinjdaanhpbjaaGreat
