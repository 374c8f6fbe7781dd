/- The model by which the disk and the reference are held together: files in the order of their names. -/
import Derived.Test.YtlnefgppenokkaaRc
import Derived.Test.YtlnefgppenokkaaEb
import Derived.Sort.Walk0
namespace Go.Proofs.Ytlnefgppenokkaa
open Go.RowKit
namespace Rf
open Bw Rg Dk

theorem lt_iff (a b : ByteArray) : lt a b = true ↔ a.data.toList < b.data.toList := by
  unfold lt
  rw [bytesLess_eq, Lib.toList_data, Lib.toList_data]
  simp
theorem lt_irr (a : ByteArray) : ¬ lt a a = true := by
  rw [lt_iff]
  exact List.lt_irrefl _
theorem lt_tr {a b c : ByteArray} (h1 : lt a b = true) (h2 : lt b c = true) : lt a c = true := by
  rw [lt_iff] at h1 h2 ⊢
  exact List.lt_trans h1 h2
theorem lt_tot {a b : ByteArray} (h : ¬ lt a b = true) (hne : a ≠ b) : lt b a = true := by
  rw [lt_iff] at h ⊢
  have h1 : b.data.toList ≤ a.data.toList := h
  rcases List.le_iff_lt_or_eq.1 h1 with h2 | h2
  · exact h2
  · exact absurd (ByteArray.ext (Array.ext' h2)).symm hne
/-- The files of one name are turned by g. -/
def upd (s : ByteArray) (g : Fl → Fl) (L : List Fl) : List Fl := L.map fun x => if x.1 = s then g x else x
/-- Without those of that name. -/
def rm (s : ByteArray) (L : List Fl) : List Fl := L.filter fun x => decide (x.1 ≠ s)
/-- A file, by its name. -/
def ins (x : Fl) : List Fl → List Fl
  | [] => [x]
  | y :: r => if lt x.1 y.1 = true then x :: y :: r else y :: ins x r
def Up (L : List Fl) : Prop := L.Pairwise fun x y => lt x.1 y.1 = true
theorem Up.nodup {L : List Fl} (h : Up L) : (L.map Prod.fst).Nodup := by
  rw [List.nodup_iff_pairwise_ne, List.pairwise_map]
  refine List.Pairwise.imp ?_ h
  intro x y h1 e
  rw [e] at h1
  exact lt_irr _ h1
theorem ins_perm (x : Fl) : ∀ L, (ins x L).Perm (x :: L)
  | [] => List.Perm.refl _
  | y :: r => by
    unfold ins
    split
    · exact List.Perm.refl _
    · exact ((ins_perm x r).cons y).trans (List.Perm.swap x y r)
theorem ins_up {x : Fl} : ∀ {L : List Fl}, Up L → (∀ y ∈ L, y.1 ≠ x.1) → Up (ins x L)
  | [], _, _ => List.pairwise_singleton _ _
  | y :: r, h, hn => by
    obtain ⟨h1, h2⟩ := List.pairwise_cons.1 h
    unfold ins
    split
    · rename_i hlt
      refine List.pairwise_cons.2 ⟨fun z hz => ?_, h⟩
      rcases List.mem_cons.1 hz with rfl | hz
      · exact hlt
      · exact lt_tr hlt (h1 z hz)
    · rename_i hlt
      refine List.pairwise_cons.2 ⟨fun z hz => ?_, ins_up h2 (fun z hz => hn z (List.mem_cons_of_mem _ hz))⟩
      rcases List.mem_cons.1 ((ins_perm x r).mem_iff.1 hz) with rfl | hz
      · exact lt_tot hlt (fun e => hn y (by simp) e.symm)
      · exact h1 z hz
theorem upd_up {s : ByteArray} {g : Fl → Fl} (hg : ∀ x, (g x).1 = x.1) {L : List Fl} (h : Up L) : Up (upd s g L) := by
  unfold upd Up
  rw [List.pairwise_map]
  refine h.imp (fun {x y} h => ?_)
  have e : ∀ x : Fl, (if x.1 = s then g x else x).1 = x.1 := fun x => by split <;> simp [hg]
  rw [e, e]
  exact h
theorem rm_up {s : ByteArray} {L : List Fl} (h : Up L) : Up (rm s L) := h.sublist List.filter_sublist
theorem upd_none {s : ByteArray} {g : Fl → Fl} {L : List Fl} (h : ∀ x ∈ L, x.1 ≠ s) : upd s g L = L := by
  unfold upd
  conv => rhs; rw [← List.map_id L]
  exact List.map_congr_left (fun x hx => by rw [if_neg (h x hx)]; rfl)
theorem rm_none {s : ByteArray} {L : List Fl} (h : ∀ x ∈ L, x.1 ≠ s) : rm s L = L := by
  unfold rm
  rw [List.filter_eq_self]
  intro x hx
  simp [h x hx]
theorem mid_ne {L1 L2 : List Fl} {x : Fl} (h : ((L1 ++ x :: L2).map Prod.fst).Nodup) : (∀ y ∈ L1, y.1 ≠ x.1) ∧ ∀ y ∈ L2, y.1 ≠ x.1 := by
  rw [List.map_append, List.map_cons, List.nodup_append, List.nodup_cons] at h
  obtain ⟨_, ⟨h1, _⟩, h2⟩ := h
  exact ⟨fun g hg e => h2 g.1 (List.mem_map_of_mem hg) x.1 (by simp) e, fun g hg e => h1 (e ▸ List.mem_map_of_mem hg)⟩
theorem upd_mid {g : Fl → Fl} {L1 L2 : List Fl} {x : Fl} (h : ((L1 ++ x :: L2).map Prod.fst).Nodup) : upd x.1 g (L1 ++ x :: L2) = L1 ++ g x :: L2 := by
  obtain ⟨h1, h2⟩ := mid_ne h
  have e1 := upd_none (g := g) h1
  have e2 := upd_none (g := g) h2
  unfold upd at e1 e2 ⊢
  rw [List.map_append, List.map_cons, e1, e2, if_pos rfl]
theorem rm_mid {L1 L2 : List Fl} {x : Fl} (h : ((L1 ++ x :: L2).map Prod.fst).Nodup) : rm x.1 (L1 ++ x :: L2) = L1 ++ L2 := by
  obtain ⟨h1, h2⟩ := mid_ne h
  have e1 := rm_none h1
  have e2 := rm_none h2
  unfold rm at e1 e2 ⊢
  rw [List.filter_append, List.filter_cons, e1, e2, if_neg (by simp)]
theorem upd_perm {s : ByteArray} {g : Fl → Fl} {L L' : List Fl} (h : L.Perm L') : (upd s g L).Perm (upd s g L') := h.map _
theorem rm_perm {s : ByteArray} {L L' : List Fl} (h : L.Perm L') : (rm s L).Perm (rm s L') := h.filter _
/-- What is found. -/
theorem find_some {s : ByteArray} {L : List Fl} {x : Fl} (h : findA s L = some x) : x ∈ L ∧ x.1 = s := by
  refine ⟨List.mem_of_find?_eq_some h, ?_⟩
  have := List.find?_some h
  simpa using this
theorem find_no {s : ByteArray} {L : List Fl} (h : findA s L = none) : ∀ x ∈ L, x.1 ≠ s := fun x hx => by
  have := List.find?_eq_none.1 h x hx
  simpa using this
theorem find_of {L : List Fl} (hn : (L.map Prod.fst).Nodup) {x : Fl} (hx : x ∈ L) : findA x.1 L = some x := by
  cases h : findA x.1 L with
  | none => exact absurd rfl (find_no h x hx)
  | some y =>
    obtain ⟨h1, h2⟩ := find_some h
    obtain ⟨L1, L2, rfl⟩ := List.append_of_mem hx
    obtain ⟨n1, n2⟩ := mid_ne hn
    rcases List.mem_append.1 h1 with h1 | h1
    · exact absurd h2 (n1 y h1)
    · rcases List.mem_cons.1 h1 with h1 | h1
      · rw [h1]
      · exact absurd h2 (n2 y h1)
theorem lay_ins (f : RF) : ∀ fs : List RF, (layL f fs).map RF.ab = ins f.ab (fs.map RF.ab)
  | [] => rfl
  | x :: r => by
    unfold layL
    rw [List.map_cons]
    unfold ins
    by_cases h : lt f.nm x.nm = true
    · rw [if_pos h, if_pos (show lt f.ab.1 x.ab.1 = true from h)]
      rfl
    · rw [if_neg h, if_neg (show ¬ lt f.ab.1 x.ab.1 = true from h), List.map_cons, lay_ins f r]
theorem usedA_perm {L L' : List Fl} (h : L.Perm L') : usedA L = usedA L' := (h.map _).sum_nat
theorem usedA_ins (x : Fl) (L : List Fl) : usedA (ins x L) = x.2.1.length + usedA L := by
  rw [usedA_perm (ins_perm x L)]
  rfl
theorem rused_ab (fs : List RF) : usedA (fs.map RF.ab) = rused fs := by
  unfold usedA rused
  rw [List.map_map]
  rfl
/-- Bytes put behind a file's, or a new file. -/
def putM (s : ByteArray) (ns : List UInt8) (L : List Fl) : List Fl := if (findA s L).isNone then ins (s, ns, 0) L else upd s (fun x => (x.1, x.2.1 ++ ns, x.2.2)) L
theorem putM_none {s : ByteArray} {ns : List UInt8} {L : List Fl} (h : findA s L = none) : putM s ns L = ins (s, ns, 0) L := by simp [putM, h]
theorem putM_some {s : ByteArray} {ns : List UInt8} {L : List Fl} {x : Fl} (h : findA s L = some x) : putM s ns L = upd s (fun x => (x.1, x.2.1 ++ ns, x.2.2)) L := by simp [putM, h]
/-- Append, Sync and so on, of files in their order: an error's number, and what stands then. -/
def appendM (a : Ab) (s : ByteArray) (ns : List UInt8) : Int × Ab :=
  if isNm s = false then (1, a) else if a.on = false then (11, a) else if a.room - (usedA a.L : Int) < (ns.length : Int) then (12, a)
  else ((stepA a).1, { (stepA a).2 with L := putM s ns a.L })
/-- A call at a file that is there; what it does where the step is done. -/
def atM (a : Ab) (s : ByteArray) (pre : Fl → Bool) (g : Fl → List Fl → List Fl) : Int × Ab :=
  if a.on = false then (11, a) else match findA s a.L with
    | none => (9, a)
    | some x => if pre x = true then (1, a) else if a.bud = 0 then (11, { a with on := false }) else (0, { a with bud := less a.bud, st := wrap64 (a.st + 1), L := g x a.L })
def syncM (a : Ab) (s : ByteArray) : Int × Ab := atM a s (fun _ => false) (fun _ L => upd s (fun x => (x.1, x.2.1, x.2.1.length)) L)
def truncM (a : Ab) (s : ByteArray) (n : Int) : Int × Ab := atM a s (fun x => decide (n < 0 ∨ (x.2.1.length : Int) < n)) (fun _ L => upd s (fun x => (x.1, x.2.1.take n.toNat, n.toNat)) L)
def removeM (a : Ab) (s : ByteArray) : Int × Ab := atM a s (fun _ => false) (fun _ L => rm s L)
def renameM (a : Ab) (s t : ByteArray) : Int × Ab := if isNm t = false then (1, a) else atM a s (fun _ => false) (fun x L => ins (t, x.2.1, x.2.2) (rm t (rm s L)))
def cutM (a : Ab) (n : Int) : Int × Ab := if n < 0 then (1, a) else (0, { a with bud := if a.on then n else a.bud })
/-- A disk's numbers, and files in their order. -/
structure Good (a : Ab) : Prop where
  ok : Ok a
  few : a.L.length ≤ 1099511627775
  up : Up a.L
  sync : ∀ x ∈ a.L, x.2.2 ≤ x.2.1.length
end Rf
end Go.Proofs.Ytlnefgppenokkaa
