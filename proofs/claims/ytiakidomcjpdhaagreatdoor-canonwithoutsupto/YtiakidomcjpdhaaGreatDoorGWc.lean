/- What canon.Write answers at every value. Insertion keeps the order of names; there is one order of fields whose names are sound and apart. Nothing of the program. A row of fields of one's own, one field of which is written. What canon.Same answers at every two values. -/
import Derived.Test.YtiakidomcjpdhaaGreatDoorGSrb
import Derived.Test.YtiakidomcjpdhaaGreatDoorGBu
import Derived.Deep.MidRow
namespace Go.Proofs.YtiakidomcjpdhaaGreatDoor
open Go.RowKit
namespace Dc
open Pu Pt Es

theorem szF_sum : ∀ F : List (ByteArray × GV), szF F = (F.map fun p => p.1.size + p.2.sz).sum
  | [] => by rw [szF]; rfl
  | (nm, x) :: F => by rw [szF, szP, szF_sum F]; rfl
theorem szL_sum : ∀ F : List GV, szL F = (F.map GV.sz).sum
  | [] => by rw [szL]; rfl
  | x :: F => by rw [szL, szL_sum F]; rfl
theorem okF_all : ∀ {F : List (ByteArray × GV)}, okF F ↔ ∀ p ∈ F, okV p.2
  | [] => by simp [okF]
  | (nm, x) :: F => by
    rw [okF, okP, okF_all (F := F)]
    simp
theorem okL_all : ∀ {F : List GV}, okL F ↔ ∀ p ∈ F, okV p
  | [] => by simp [okL]
  | x :: F => by
    rw [okL, okL_all (F := F)]
    simp
theorem srt_perm (F : List (ByteArray × GV)) : (srt F).Perm F := List.mergeSort_perm _ _
theorem sum_le {α : Type} (g h : α → Nat) : ∀ l : List α, (∀ x ∈ l, g x ≤ h x) → (l.map g).sum ≤ (l.map h).sum
  | [], _ => Nat.le_refl _
  | x :: l, hl => by
    have h1 := hl x (List.mem_cons_self ..)
    have h2 := sum_le g h l (fun y hy => hl y (List.mem_cons_of_mem _ hy))
    simp only [List.map_cons, List.sum_cons]
    omega
theorem nf_sz : ∀ (m : Nat) (x : GV), x.sz ≤ m → (nfV x).sz ≤ x.sz
  | 0, x, h => by have := GV.sz_pos x; omega
  | m + 1, .mk k b n t l f, h => by
    have hs : 1 + t.size + szL l + szF f ≤ m + 1 := by simpa [GV.sz] using h
    have e : (GV.mk k b n t l f).sz = 1 + t.size + szL l + szF f := by unfold GV.sz; rfl
    have hl : szL (nfL l) ≤ szL l := by
      rw [nfL_map, szL_sum, szL_sum, List.map_map]
      refine sum_le _ _ l (fun x hx => ?_)
      obtain ⟨i, hi, rfl⟩ := List.mem_iff_getElem.1 hx
      exact nf_sz m _ (by have := szL_get l i hi; omega)
    have hf : szF (srt (nfF f)) ≤ szF f := by
      rw [szF_sum, ((srt_perm (nfF f)).map _).sum_nat, nfF_map, szF_sum, List.map_map]
      refine sum_le _ _ f (fun x hx => ?_)
      obtain ⟨i, hi, rfl⟩ := List.mem_iff_getElem.1 hx
      have := nf_sz m (f[i]).2 (by have := szF_get f i hi; omega)
      show (f[i]).1.size + (nfV (f[i]).2).sz ≤ _
      omega
    have he : (⟨#[]⟩ : ByteArray).size = 0 := rfl
    rw [nfV, e]
    unfold GV.sz
    have h0 : szL [] = 0 := by rw [szL]
    have h1 : szF [] = 0 := by rw [szF]
    repeat' split
    all_goals omega
theorem nf_ok : ∀ (m : Nat) (x : GV), x.sz ≤ m → okV x → okV (nfV x)
  | 0, x, h, _ => by have := GV.sz_pos x; omega
  | m + 1, .mk k b n t l f, h, ho => by
    have hs : 1 + t.size + szL l + szF f ≤ m + 1 := by simpa [GV.sz] using h
    have ho' : (k = 2 → -9223372036854775808 ≤ n ∧ n ≤ 9223372036854775807) ∧ okL l ∧ okF f := by have h := ho; unfold okV at h; exact h
    obtain ⟨o1, o2, o3⟩ := ho'
    have hl : okL (nfL l) := by
      rw [nfL_map, okL_all]
      intro p hp
      obtain ⟨x, hx, rfl⟩ := List.mem_map.1 hp
      obtain ⟨i, hi, rfl⟩ := List.mem_iff_getElem.1 hx
      exact nf_ok m _ (by have := szL_get l i hi; omega) (okL_all.1 o2 _ hx)
    have hf : okF (srt (nfF f)) := by
      rw [okF_all]
      intro p hp
      have hp' := (srt_perm (nfF f)).subset hp
      rw [nfF_map] at hp'
      obtain ⟨x, hx, rfl⟩ := List.mem_map.1 hp'
      obtain ⟨i, hi, rfl⟩ := List.mem_iff_getElem.1 hx
      exact nf_ok m _ (by have := szF_get f i hi; omega) (okF_all.1 o3 _ hx)
    have h0 : okL [] := by unfold okL; trivial
    have h1 : okF [] := by unfold okF; trivial
    rw [nfV]
    unfold okV
    refine ⟨fun hk => ?_, ?_, ?_⟩
    · rw [if_pos hk]
      exact o1 hk
    · split
      · exact hl
      · exact h0
    · split
      · exact hf
      · exact h1
theorem good_bad {x : GV} {c : Int} (h : Good x) (g : Bad x c) : False := by
  obtain ⟨h1, h2, h3⟩ := h
  rcases g with ⟨g1, _⟩ | ⟨_, g2, _⟩ | ⟨_, _, g3, _⟩
  · omega
  · exact g2 h2
  · omega
/-- What Write answers: a fault, or the text of the one form. -/
def WrOut (x : GV) (e : Ending) : Prop := (∃ c, Bad x c ∧ e = .returned (.tuple #[.string ⟨#[]⟩, .iface 31 (.int .i64 c)])) ∨ (Good x ∧ e = .returned (.tuple #[.string ⟨(txV (nfV x)).toArray⟩, .nilIface]))
set_option maxRecDepth 20000 in
set_option maxHeartbeats 4000000 in
theorem write_any (x : GV) (hsz : x.sz ≤ 2000000) (hok : okV x) (w : World) (ok : Nat → Prop) (cs : Array Value) (h5 : 5 ≤ w.heap.size) (hP : Pow10 w) (hT : Tabs w) (hx : LaidV w ok x cs.toList) : Calls Tryz.prog 11 #[.agg cs] w fun e w' => WrOut x e ∧ Below w.heap.size w w' := by
  have k16 := fun (W : World) (hW : Below w.heap.size w W) => norm_any x hsz hok W ok cs (Nat.le_trans h5 hW.size) (hP.of (hW.block 0 (by omega)) (hW.block 4 (by omega))) (hT.of (hW.block 1 (by omega)) (hW.block 2 (by omega))) (hx.conv (fun k hk hl => ⟨hk, hW.block k hl⟩))
  have HX : Hid (∃ k b n t s1 s2, cs = #[.int .i64 k, .bool b, .int .i64 n, .string t, s1, s2]) := by
    cases x with
    | mk k b n t l f =>
    obtain ⟨a1, c1, a2, c2, xs, ys, hcs, -, -, -, -⟩ := hx.form
    exact ⟨k, b, n, t, .slice a1 l.length c1, .slice a2 f.length c2, by cases cs; simpa using hcs⟩
  obtain ⟨k, b, n, t, s1, s2, rfl⟩ := HX.out
  have hz := nf_sz _ x (Nat.le_refl _)
  have hk := nf_ok _ x (Nat.le_refl _) hok
  have htl := txV_len _ (nfV x) (Nat.le_refl _) hk
  by_cases hG : Good x
  · refine (write_ok escAt (nfV x) (by omega) hk (by omega) w k b n t s1 s2 h5 hP (fun W hW => (k16 W hW).mono ?_)).mono ?_
    · rintro e w' ⟨h1 | ⟨_, cs', h2, h3⟩, h4⟩
      · obtain ⟨c, h1, _⟩ := h1
        exact absurd h1 (fun g => good_bad hG g)
      · exact ⟨cs', h2, h3.conv (fun b _ _ => ⟨trivial, rfl⟩), h4⟩
    · rintro e w' ⟨h1, h2⟩
      exact ⟨.inr ⟨hG, h1⟩, h2⟩
  · have hab : Below w.heap.size w (w.alloc (.cells #[.int .i64 k, .bool b, .int .i64 n, .string t, s1, s2] 25)) := (Below.refl _ _).alloc (Nat.le_refl _) _
    have q16 : Calls Tryz.prog 16 #[.agg #[.int .i64 k, .bool b, .int .i64 n, .string t, s1, s2]] (w.alloc (.cells #[.int .i64 k, .bool b, .int .i64 n, .string t, s1, s2] 25)) fun e w' => ∃ c, Hid (Bad x c) ∧ e = .returned (.tuple #[.agg #[.int .i64 0, .bool false, .int .i64 0, .string ⟨#[]⟩, .slice none 0 0, .slice none 0 0], .iface 31 (.int .i64 c)]) ∧ Hid (Below w.heap.size w w') := by
      refine (k16 _ hab).mono ?_
      rintro e w' ⟨h1 | ⟨h1, _⟩, h4⟩
      · obtain ⟨c, h1, h2⟩ := h1
        exact ⟨c, h1, h2, hab.trans (h4.mono hab.size)⟩
      · exact absurd h1 hG
    clear k16 HX hx hP hT hok hsz hz hk htl hG hab
    go_enter Tryz.func11, Tryz.ntmps11
    go_wp2_with (go_at_call 16; refine q16.mono ?_; rintro e w1 ⟨c, HB, rfl, hb1⟩)
    go_ret2
    exact ⟨.inl ⟨c, HB.out, rfl⟩, hb1.out.alloc hb1.out.size _⟩
end Dc
end Go.Proofs.YtiakidomcjpdhaaGreatDoor

namespace Go.Proofs.YtiakidomcjpdhaaGreatDoor
open Go.RowKit
namespace Dc
open Pu

/-- The order of two fields, by their names. -/
def leN (a b : ByteArray × GV) : Bool := decide (cmpL (ptsAt a.1 0) (ptsAt b.1 0) ≤ 0)
theorem leN_trans (a b c : ByteArray × GV) (h1 : leN a b = true) (h2 : leN b c = true) : leN a c = true := by
  unfold leN at *
  rw [decide_eq_true_eq] at *
  exact (cmpL_trans _ _ _ h1 h2).1
theorem leN_total (a b : ByteArray × GV) : (leN a b || leN b a) = true := by
  unfold leN
  have := cmpL_neg (ptsAt a.1 0) (ptsAt b.1 0)
  rw [Bool.or_eq_true, decide_eq_true_eq, decide_eq_true_eq]
  omega
/-- So the list is in order. -/
def Ordd (L : List (ByteArray × GV)) : Prop := L.Pairwise (fun a b => leN a b = true)
/-- A list that is cut in two, between which one more may come, all of the second ahead of which it may stand. -/
def InsAt (A B : List (ByteArray × GV)) (x : ByteArray × GV) : Prop := Ordd (A ++ B) ∧ ∀ b ∈ B, leN x b = true
theorem InsAt.start {A : List (ByteArray × GV)} {x : ByteArray × GV} (h : Ordd A) : InsAt A [] x := ⟨by rw [List.append_nil]; exact h, fun b hb => by cases hb⟩
theorem InsAt.step {A B : List (ByteArray × GV)} {x y : ByteArray × GV} (h : InsAt (A ++ [y]) B x) (hg : 0 < cmpL (ptsAt y.1 0) (ptsAt x.1 0)) : InsAt A (y :: B) x := by
  refine ⟨?_, fun b hb => ?_⟩
  · have h1 := h.1
    rw [List.append_assoc] at h1
    exact h1
  · rcases List.mem_cons.1 hb with rfl | hb
    · unfold leN
      have := cmpL_neg (ptsAt x.1 0) (ptsAt b.1 0)
      rw [decide_eq_true_eq]
      omega
    · exact h.2 b hb
theorem InsAt.done {A B : List (ByteArray × GV)} {x : ByteArray × GV} (h : InsAt A B x) (hA : ∀ A' z, A = A' ++ [z] → cmpL (ptsAt z.1 0) (ptsAt x.1 0) ≤ 0) : Ordd (A ++ x :: B) := by
  obtain ⟨h1, h2⟩ := h
  unfold Ordd at *
  rw [List.pairwise_append] at h1 ⊢
  obtain ⟨hp, hq, hc⟩ := h1
  refine ⟨hp, List.pairwise_cons.2 ⟨h2, hq⟩, ?_⟩
  intro a ha b hb
  rcases List.mem_cons.1 hb with rfl | hb
  · rcases List.eq_nil_or_concat A with rfl | ⟨A', z, rfl⟩
    · cases ha
    · have hz : leN z b = true := by
        unfold leN
        rw [decide_eq_true_eq]
        exact hA A' z (by simp)
      rw [List.concat_eq_append, List.pairwise_append] at hp
      rw [List.concat_eq_append, List.mem_append] at ha
      rcases ha with ha | ha
      · exact leN_trans _ _ _ (hp.2.2 a ha z (by simp)) hz
      · simp at ha
        rw [ha]
        exact hz
  · exact hc a ha b hb
theorem srt_ordd (F : List (ByteArray × GV)) : Ordd (srt F) := List.pairwise_mergeSort leN_trans leN_total F
theorem ordd_one {L F : List (ByteArray × GV)} (hp : L.Perm F) (hs : Ordd L) (hN : NamesOK F) : L = srt F := by
  refine List.Perm.eq_of_pairwise (le := fun a b => leN a b = true) ?_ hs (srt_ordd F) (hp.trans (srt_perm F).symm)
  intro a b ha hb h1 h2
  unfold leN at h1 h2
  rw [decide_eq_true_eq] at h1 h2
  have h3 := cmpL_neg (ptsAt a.1 0) (ptsAt b.1 0)
  obtain ⟨i, hi, ei⟩ := List.mem_iff_getElem.1 (hp.subset ha)
  obtain ⟨j, hj, ej⟩ := List.mem_iff_getElem.1 ((srt_perm F).subset hb)
  have bi := (hN i hi).1
  have bj := (hN j hj).1
  rw [ei] at bi
  rw [ej] at bj
  have ba := (badAt_bd a.1).1
  have bb := (badAt_bd b.1).1
  have en : a.1 = b.1 := pts_inj (by omega) (by omega) (cmpL_zero _ _ (by omega))
  rcases Nat.lt_trichotomy i j with h | h | h
  · exact absurd (by rw [ei, ej, en]) ((hN j hj).2 i hi h)
  · subst h
    rw [← ei, ← ej]
  · exact absurd (by rw [ei, ej, en]) ((hN i hi).2 j hj h)
end Dc
end Go.Proofs.YtiakidomcjpdhaaGreatDoor

namespace Go.Proofs.YtiakidomcjpdhaaGreatDoor
open Go.RowKit
namespace Dc
open Pu

theorem own_set {w : World} {B e s g c n : Nat} {xs : List Value} {i : Nat} {u : Value} (h : w.ownsRow B e s (.slice (some ⟨g, 0, none⟩) n c) n xs) : (w.setCell ⟨g, i, none⟩ u).ownsRow B e s (.slice (some ⟨g, 0, none⟩) n c) n (xs.set i u) := by
  obtain ⟨h1, h2⟩ := h
  refine ⟨by rw [List.length_set]; exact h1, ?_⟩
  rcases h2 with ⟨e, _⟩ | ⟨g', cap, cur, e, hg, hc, hn, hm, hz, ht⟩
  · cases e
  · cases e
    refine .inr ⟨g, c, cur.setIfInBounds i u, rfl, hg, ?_, hn, hm, by simpa using hz, ?_⟩
    · simp [World.setCell, Array.getElem?_modify, hc]
    · rw [← ht, Array.toList_setIfInBounds, List.take_set]
/-- Cells laid over those from a place on. -/
def putL : List Value → Nat → List Value → List Value
  | xs, _, [] => xs
  | xs, o, v :: r => putL (xs.set o v) (o + 1) r
theorem own_sets {B e s g c n : Nat} : ∀ (vs : List Value) (o : Nat) (w : World) (xs : List Value), w.ownsRow B e s (.slice (some ⟨g, 0, none⟩) n c) n xs → (w.setCells g o vs).ownsRow B e s (.slice (some ⟨g, 0, none⟩) n c) n (putL xs o vs)
  | [], _, _, _, h => h
  | v :: r, o, w, xs, h => own_sets r (o + 1) (w.setCell ⟨g, o, none⟩ v) (xs.set o v) (own_set h)
theorem putL_mid : ∀ (vs bs us cs : List Value), bs.length = vs.length → putL (us ++ bs ++ cs) us.length vs = us ++ vs ++ cs
  | [], bs, us, cs, h => by
    obtain rfl : bs = [] := List.length_eq_zero_iff.1 h
    rfl
  | v :: r, [], us, cs, h => by simp at h
  | v :: r, b :: bs, us, cs, h => by
    unfold putL
    have e : (us ++ b :: bs ++ cs).set us.length v = (us ++ [v]) ++ bs ++ cs := by
      rw [List.append_assoc, List.set_append_right _ _ (Nat.le_refl _), Nat.sub_self]
      simp
    rw [e, show us.length + 1 = (us ++ [v]).length by simp, putL_mid r bs (us ++ [v]) cs (by simpa using h)]
    simp
/-- A row of fields. -/
def RowD (B : Nat) (w : World) (g c : Nat) (D : List FdC) : Prop := w.ownsRow B 54 7 (.slice (some ⟨g, 0, none⟩) D.length c) D.length (D.flatMap FdC.cells)
theorem cells_len7 (p : FdC) : p.cells.length = 7 := rfl
theorem RowD.put {B : Nat} {w : World} {g c : Nat} {D1 D2 : List FdC} {p : FdC} (h : RowD B w g c (D1 ++ p :: D2)) (q : FdC) : RowD B (w.setCells g (D1.length * 7) q.cells) g c (D1 ++ q :: D2) := by
  unfold RowD at h ⊢
  have h1 := own_sets q.cells (D1.length * 7) w _ h
  rw [List.flatMap_append, List.flatMap_cons, ← flat_len D1, ← List.append_assoc, putL_mid q.cells p.cells _ _ rfl, flat_len] at h1
  rw [List.flatMap_append, List.flatMap_cons, ← List.append_assoc, List.length_append, List.length_cons]
  rw [List.length_append, List.length_cons] at h1
  exact h1
theorem RowD.at {B : Nat} {w : World} {g c : Nat} {D1 D2 : List FdC} {p : FdC} (h : RowD B w g c (D1 ++ p :: D2)) : w.rangeAt g (D1.length * 7) p.cells ∧ w.there g (D1.length * 7) 7 ∧ g < w.heap.size ∧ B ≤ g := by
  rcases h.2 with ⟨e, _⟩ | ⟨g', cap, cur, e, hg, hc, hn, hm, hz, ht⟩
  · cases e
  · cases e
    have hin : ∀ j v, p.cells[j]? = some v → cur[D1.length * 7 + j]? = some v := fun j v hv => by
      have hj : j < 7 := (List.getElem?_eq_some_iff.1 hv).1
      have e2 : (cur.toList.take ((D1 ++ p :: D2).length * 7))[D1.length * 7 + j]? = some v := by
        rw [ht, List.flatMap_append, List.flatMap_cons, List.getElem?_append_right (by rw [flat_len]; omega), flat_len, Nat.add_sub_cancel_left, List.getElem?_append_left (by rw [cells_len7]; exact hj)]
        exact hv
      rw [List.getElem?_take_of_lt (by simp; omega)] at e2
      simpa using e2
    refine ⟨fun j v hv => by simp [World.cell?, hc, hin j v hv], fun j hj => ⟨?_, by simp [World.frozen?, hc]⟩, lt_of_block hc, hg⟩
    obtain ⟨v, hv⟩ : ∃ v, p.cells[j]? = some v := ⟨_, List.getElem?_eq_getElem (by rw [cells_len7]; exact hj)⟩
    simp [World.cell?, hc, hin j v hv]
theorem setCells_fr (g : Nat) : ∀ (vs : List Value) (o : Nat) (w : World), Fr (fun k => k = g) w (w.setCells g o vs)
  | [], _, _ => Fr.refl _ _
  | v :: r, o, w => (Fr.setCell (S := fun k => k = g) w ⟨g, o, none⟩ v rfl).trans (setCells_fr g r (o + 1) (w.setCell ⟨g, o, none⟩ v))
end Dc
end Go.Proofs.YtiakidomcjpdhaaGreatDoor

namespace Go.Proofs.YtiakidomcjpdhaaGreatDoor
open Go.RowKit
namespace Dc
open Pu Pt

theorem cells_of {x : GV} {w : World} {ok : Nat → Prop} {cs : Array Value} (hx : LaidV w ok x cs.toList) : ∃ k b n t s1 s2, cs = #[.int .i64 k, .bool b, .int .i64 n, .string t, s1, s2] := by
  cases x with
  | mk k b n t l f =>
  obtain ⟨a1, c1, a2, c2, xs, ys, hcs, -, -, -, -⟩ := hx.form
  exact ⟨k, b, n, t, .slice a1 l.length c1, .slice a2 f.length c2, by cases cs; simpa using hcs⟩
/-- Write's answer in one of two forms. -/
theorem write_two (x : GV) (hsz : x.sz ≤ 2000000) (hok : okV x) (w : World) (ok : Nat → Prop) (cs : Array Value) (h5 : 5 ≤ w.heap.size) (hP : Pow10 w) (hT : Tabs w) (hx : LaidV w ok x cs.toList) (W : World) (hW : Below w.heap.size w W) :
    Calls Tryz.prog 11 #[.agg cs] W fun e w' => (∃ c, e = .returned (.tuple #[.string ⟨#[]⟩, .iface 31 (.int .i64 c)]) ∧ Hid (Bad x c) ∧ Below W.heap.size W w') ∨ (e = .returned (.tuple #[.string ⟨(txV (nfV x)).toArray⟩, .nilIface]) ∧ Hid (Good x) ∧ Below W.heap.size W w') := by
  refine (write_any x hsz hok W ok cs (Nat.le_trans h5 hW.size) (hP.of (hW.block 0 (by omega)) (hW.block 4 (by omega))) (hT.of (hW.block 1 (by omega)) (hW.block 2 (by omega))) (hx.conv (fun k hk hl => ⟨hk, hW.block k hl⟩))).mono ?_
  rintro e w' ⟨⟨c, h1, h2⟩ | ⟨h1, h2⟩, h3⟩
  · exact .inl ⟨c, h2, h1, h3⟩
  · exact .inr ⟨h2, h1, h3⟩
/-- Two values have one text. -/
def SameT (x y : GV) : Prop := Good x ∧ Good y ∧ txV (nfV x) = txV (nfV y)
set_option maxRecDepth 20000 in
set_option maxHeartbeats 1000000 in
theorem same_any (x y : GV) (hsz : x.sz ≤ 2000000) (hsy : y.sz ≤ 2000000) (hok : okV x) (hoy : okV y) (w : World) (ok : Nat → Prop) (cs ds : Array Value) (h5 : 5 ≤ w.heap.size) (hP : Pow10 w) (hT : Tabs w) (hx : LaidV w ok x cs.toList) (hy : LaidV w ok y ds.toList) :
    Calls Tryz.prog 19 #[.agg cs, .agg ds] w fun e w' => Says' (SameT x y) e ∧ Below w.heap.size w w' := by
  have ka := write_two x hsz hok w ok cs h5 hP hT hx
  have kb := write_two y hsy hoy w ok ds h5 hP hT hy
  obtain ⟨k, b, n, t, s1, s2, rfl⟩ := cells_of hx
  obtain ⟨k', b', n', t', s1', s2', rfl⟩ := cells_of hy
  clear hx hy hP hT hsz hsy hok hoy
  have HS : Hid (∀ V : Bool, (V = true ↔ SameT x y) → Says' (SameT x y) (.returned (.bool V))) := fun V h => Says'.of h
  obtain ⟨A, hA⟩ : ∃ A : ByteArray, ⟨(txV (nfV x)).toArray⟩ = A := ⟨_, rfl⟩
  obtain ⟨B, hB⟩ : ∃ B : ByteArray, ⟨(txV (nfV y)).toArray⟩ = B := ⟨_, rfl⟩
  have HAB : Hid (A = B ↔ txV (nfV x) = txV (nfV y)) := by
    show _ ↔ _
    rw [← hA, ← hB]
    simp
  rw [hA] at ka
  rw [hB] at kb
  have HNX : Hid (∀ c, Bad x c → Says' (SameT x y) (.returned (.bool false))) := fun c h => Says'.of ⟨fun g => (by cases g), fun g => (good_bad g.1 h).elim⟩
  have HNY : Hid (∀ c, Bad y c → Says' (SameT x y) (.returned (.bool false))) := fun c h => Says'.of ⟨fun g => (by cases g), fun g => (good_bad g.2.1 h).elim⟩
  have HYE : Hid (Good x → Good y → Says' (SameT x y) (.returned (.bool (A.toList == B.toList)))) := fun h1 h2 => Says'.of (by
    constructor
    · intro h
      refine ⟨h1, h2, HAB.out.1 ?_⟩
      rw [beq_iff_eq, Lib.toList_data, Lib.toList_data] at h
      exact EncW.bytes_ext h
    · intro h
      rw [HAB.out.2 h.2.2]
      simp)
  clear HS HAB hA hB
  have m0 : Below w.heap.size w ((w.alloc (.cells #[.int .i64 k, .bool b, .int .i64 n, .string t, s1, s2] 25)).alloc (.cells #[.int .i64 k', .bool b', .int .i64 n', .string t', s1', s2'] 25)) := ((Below.refl _ _).alloc (Nat.le_refl _) _).alloc (by simp) _
  have hbx : ∀ W, Below (w.heap.size + 2) ((w.alloc (.cells #[.int .i64 k, .bool b, .int .i64 n, .string t, s1, s2] 25)).alloc (.cells #[.int .i64 k', .bool b', .int .i64 n', .string t', s1', s2'] 25)) W → W.heap[w.heap.size + 1]? = some (.cells #[.int .i64 k', .bool b', .int .i64 n', .string t', s1', s2'] 25 (0, 0)) := fun W hW => (hW.block _ (by omega)).trans (heap_new1 _ _ _)
  go_enter Tryz.func19, Tryz.ntmps19
  go_wp2_with (first
    | (go_at_call 11; refine (kb _ m1).mono ?_; rintro e w2 (⟨c, rfl, HC, h2⟩ | ⟨rfl, HC, h2⟩); all_goals (have m2 := m1.trans (h2.mono m1.size)))
    | (go_at_call 11; refine (ka _ m0).mono ?_; rintro e w1 (⟨c, rfl, HB, h1⟩ | ⟨rfl, HB, h1⟩); all_goals (have m1 := m0.trans (h1.mono m0.size); obtain ⟨y0, y1, y2, y3, y4, y5⟩ := box6 (hbx w1 (h1.mono (by simp))))))
  · go_ret
    exact ⟨HNX.out c HB.out, m1⟩
  · go_ret
    exact ⟨HNY.out c HC.out, m2⟩
  · go_ret
    exact ⟨HYE.out HB.out HC.out, m2⟩
end Dc
end Go.Proofs.YtiakidomcjpdhaaGreatDoor
