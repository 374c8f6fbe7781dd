/- Insertion keeps the order of names; there is one order of fields whose names are sound and apart. Nothing of the program. A row of fields of one's own, one field of which is written. -/
import Derived.Test.YtiakidomcjpdhaaGreatDoorG28
import Derived.Deep.MidRow
namespace Go.Proofs.YtiakidomcjpdhaaGreatDoor
open Go.RowKit
namespace Dc
open Pu

/-- The order of two fields, by their names. -/
def leN (a b : ByteArray × GV) : Bool := decide (cmpL (ptsAt a.1 0) (ptsAt b.1 0) ≤ 0)
theorem leN_trans (a b c : ByteArray × GV) (h1 : leN a b = true) (h2 : leN b c = true) : leN a c = true := by
  unfold leN at *
  rw [decide_eq_true_eq] at *
  exact (cmpL_trans _ _ _ h1 h2).1
theorem leN_total (a b : ByteArray × GV) : (leN a b || leN b a) = true := by
  unfold leN
  have := cmpL_neg (ptsAt a.1 0) (ptsAt b.1 0)
  rw [Bool.or_eq_true, decide_eq_true_eq, decide_eq_true_eq]
  omega
/-- So the list is in order. -/
def Ordd (L : List (ByteArray × GV)) : Prop := L.Pairwise (fun a b => leN a b = true)
/-- A list that is cut in two, between which one more may come, all of the second ahead of which it may stand. -/
def InsAt (A B : List (ByteArray × GV)) (x : ByteArray × GV) : Prop := Ordd (A ++ B) ∧ ∀ b ∈ B, leN x b = true
theorem InsAt.start {A : List (ByteArray × GV)} {x : ByteArray × GV} (h : Ordd A) : InsAt A [] x := ⟨by rw [List.append_nil]; exact h, fun b hb => by cases hb⟩
theorem InsAt.step {A B : List (ByteArray × GV)} {x y : ByteArray × GV} (h : InsAt (A ++ [y]) B x) (hg : 0 < cmpL (ptsAt y.1 0) (ptsAt x.1 0)) : InsAt A (y :: B) x := by
  refine ⟨?_, fun b hb => ?_⟩
  · have h1 := h.1
    rw [List.append_assoc] at h1
    exact h1
  · rcases List.mem_cons.1 hb with rfl | hb
    · unfold leN
      have := cmpL_neg (ptsAt x.1 0) (ptsAt b.1 0)
      rw [decide_eq_true_eq]
      omega
    · exact h.2 b hb
theorem InsAt.done {A B : List (ByteArray × GV)} {x : ByteArray × GV} (h : InsAt A B x) (hA : ∀ A' z, A = A' ++ [z] → cmpL (ptsAt z.1 0) (ptsAt x.1 0) ≤ 0) : Ordd (A ++ x :: B) := by
  obtain ⟨h1, h2⟩ := h
  unfold Ordd at *
  rw [List.pairwise_append] at h1 ⊢
  obtain ⟨hp, hq, hc⟩ := h1
  refine ⟨hp, List.pairwise_cons.2 ⟨h2, hq⟩, ?_⟩
  intro a ha b hb
  rcases List.mem_cons.1 hb with rfl | hb
  · rcases List.eq_nil_or_concat A with rfl | ⟨A', z, rfl⟩
    · cases ha
    · have hz : leN z b = true := by
        unfold leN
        rw [decide_eq_true_eq]
        exact hA A' z (by simp)
      rw [List.concat_eq_append, List.pairwise_append] at hp
      rw [List.concat_eq_append, List.mem_append] at ha
      rcases ha with ha | ha
      · exact leN_trans _ _ _ (hp.2.2 a ha z (by simp)) hz
      · simp at ha
        rw [ha]
        exact hz
  · exact hc a ha b hb
theorem srt_ordd (F : List (ByteArray × GV)) : Ordd (srt F) := List.pairwise_mergeSort leN_trans leN_total F
theorem ordd_one {L F : List (ByteArray × GV)} (hp : L.Perm F) (hs : Ordd L) (hN : NamesOK F) : L = srt F := by
  refine List.Perm.eq_of_pairwise (le := fun a b => leN a b = true) ?_ hs (srt_ordd F) (hp.trans (srt_perm F).symm)
  intro a b ha hb h1 h2
  unfold leN at h1 h2
  rw [decide_eq_true_eq] at h1 h2
  have h3 := cmpL_neg (ptsAt a.1 0) (ptsAt b.1 0)
  obtain ⟨i, hi, ei⟩ := List.mem_iff_getElem.1 (hp.subset ha)
  obtain ⟨j, hj, ej⟩ := List.mem_iff_getElem.1 ((srt_perm F).subset hb)
  have bi := (hN i hi).1
  have bj := (hN j hj).1
  rw [ei] at bi
  rw [ej] at bj
  have ba := (badAt_bd a.1).1
  have bb := (badAt_bd b.1).1
  have en : a.1 = b.1 := pts_inj (by omega) (by omega) (cmpL_zero _ _ (by omega))
  rcases Nat.lt_trichotomy i j with h | h | h
  · exact absurd (by rw [ei, ej, en]) ((hN j hj).2 i hi h)
  · subst h
    rw [← ei, ← ej]
  · exact absurd (by rw [ei, ej, en]) ((hN i hi).2 j hj h)
end Dc
end Go.Proofs.YtiakidomcjpdhaaGreatDoor

namespace Go.Proofs.YtiakidomcjpdhaaGreatDoor
open Go.RowKit
namespace Dc
open Pu

theorem own_set {w : World} {B e s g c n : Nat} {xs : List Value} {i : Nat} {u : Value} (h : w.ownsRow B e s (.slice (some ⟨g, 0, none⟩) n c) n xs) : (w.setCell ⟨g, i, none⟩ u).ownsRow B e s (.slice (some ⟨g, 0, none⟩) n c) n (xs.set i u) := by
  obtain ⟨h1, h2⟩ := h
  refine ⟨by rw [List.length_set]; exact h1, ?_⟩
  rcases h2 with ⟨e, _⟩ | ⟨g', cap, cur, e, hg, hc, hn, hm, hz, ht⟩
  · cases e
  · cases e
    refine .inr ⟨g, c, cur.setIfInBounds i u, rfl, hg, ?_, hn, hm, by simpa using hz, ?_⟩
    · simp [World.setCell, Array.getElem?_modify, hc]
    · rw [← ht, Array.toList_setIfInBounds, List.take_set]
/-- Cells laid over those from a place on. -/
def putL : List Value → Nat → List Value → List Value
  | xs, _, [] => xs
  | xs, o, v :: r => putL (xs.set o v) (o + 1) r
theorem own_sets {B e s g c n : Nat} : ∀ (vs : List Value) (o : Nat) (w : World) (xs : List Value), w.ownsRow B e s (.slice (some ⟨g, 0, none⟩) n c) n xs → (w.setCells g o vs).ownsRow B e s (.slice (some ⟨g, 0, none⟩) n c) n (putL xs o vs)
  | [], _, _, _, h => h
  | v :: r, o, w, xs, h => own_sets r (o + 1) (w.setCell ⟨g, o, none⟩ v) (xs.set o v) (own_set h)
theorem putL_mid : ∀ (vs bs us cs : List Value), bs.length = vs.length → putL (us ++ bs ++ cs) us.length vs = us ++ vs ++ cs
  | [], bs, us, cs, h => by
    obtain rfl : bs = [] := List.length_eq_zero_iff.1 h
    rfl
  | v :: r, [], us, cs, h => by simp at h
  | v :: r, b :: bs, us, cs, h => by
    unfold putL
    have e : (us ++ b :: bs ++ cs).set us.length v = (us ++ [v]) ++ bs ++ cs := by
      rw [List.append_assoc, List.set_append_right _ _ (Nat.le_refl _), Nat.sub_self]
      simp
    rw [e, show us.length + 1 = (us ++ [v]).length by simp, putL_mid r bs (us ++ [v]) cs (by simpa using h)]
    simp
/-- A row of fields. -/
def RowD (B : Nat) (w : World) (g c : Nat) (D : List FdC) : Prop := w.ownsRow B 54 7 (.slice (some ⟨g, 0, none⟩) D.length c) D.length (D.flatMap FdC.cells)
theorem cells_len7 (p : FdC) : p.cells.length = 7 := rfl
theorem RowD.put {B : Nat} {w : World} {g c : Nat} {D1 D2 : List FdC} {p : FdC} (h : RowD B w g c (D1 ++ p :: D2)) (q : FdC) : RowD B (w.setCells g (D1.length * 7) q.cells) g c (D1 ++ q :: D2) := by
  unfold RowD at h ⊢
  have h1 := own_sets q.cells (D1.length * 7) w _ h
  rw [List.flatMap_append, List.flatMap_cons, ← flat_len D1, ← List.append_assoc, putL_mid q.cells p.cells _ _ rfl, flat_len] at h1
  rw [List.flatMap_append, List.flatMap_cons, ← List.append_assoc, List.length_append, List.length_cons]
  rw [List.length_append, List.length_cons] at h1
  exact h1
theorem RowD.at {B : Nat} {w : World} {g c : Nat} {D1 D2 : List FdC} {p : FdC} (h : RowD B w g c (D1 ++ p :: D2)) : w.rangeAt g (D1.length * 7) p.cells ∧ w.there g (D1.length * 7) 7 ∧ g < w.heap.size ∧ B ≤ g := by
  rcases h.2 with ⟨e, _⟩ | ⟨g', cap, cur, e, hg, hc, hn, hm, hz, ht⟩
  · cases e
  · cases e
    have hin : ∀ j v, p.cells[j]? = some v → cur[D1.length * 7 + j]? = some v := fun j v hv => by
      have hj : j < 7 := (List.getElem?_eq_some_iff.1 hv).1
      have e2 : (cur.toList.take ((D1 ++ p :: D2).length * 7))[D1.length * 7 + j]? = some v := by
        rw [ht, List.flatMap_append, List.flatMap_cons, List.getElem?_append_right (by rw [flat_len]; omega), flat_len, Nat.add_sub_cancel_left, List.getElem?_append_left (by rw [cells_len7]; exact hj)]
        exact hv
      rw [List.getElem?_take_of_lt (by simp; omega)] at e2
      simpa using e2
    refine ⟨fun j v hv => by simp [World.cell?, hc, hin j v hv], fun j hj => ⟨?_, by simp [World.frozen?, hc]⟩, lt_of_block hc, hg⟩
    obtain ⟨v, hv⟩ : ∃ v, p.cells[j]? = some v := ⟨_, List.getElem?_eq_getElem (by rw [cells_len7]; exact hj)⟩
    simp [World.cell?, hc, hin j v hv]
theorem setCells_fr (g : Nat) : ∀ (vs : List Value) (o : Nat) (w : World), Fr (fun k => k = g) w (w.setCells g o vs)
  | [], _, _ => Fr.refl _ _
  | v :: r, o, w => (Fr.setCell (S := fun k => k = g) w ⟨g, o, none⟩ v rfl).trans (setCells_fr g r (o + 1) (w.setCell ⟨g, o, none⟩ v))
end Dc
end Go.Proofs.YtiakidomcjpdhaaGreatDoor
