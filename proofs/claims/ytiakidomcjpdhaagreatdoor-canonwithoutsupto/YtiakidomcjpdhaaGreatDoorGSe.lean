/- The examples at the head of all statements of layer 3, as values: what they are told as. The head of all statements of layer 3 ('shown'): it answers true. CanonSames and CanonWrites answer true: the walks of the two statements. -/
import Derived.Test.YtiakidomcjpdhaaGreatDoorGWb
import Derived.Test.YtiakidomcjpdhaaGreatDoorGRr
import Derived.Test.YtiakidomcjpdhaaGreatDoorGCx
import Derived.Test.YtiakidomcjpdhaaGreatDoorGSam
namespace Go.Proofs.YtiakidomcjpdhaaGreatDoor
open Go.RowKit
namespace Dc
open Pu Pt

def exN (n : Int) : GV := .mk 2 false n ⟨#[]⟩ [] []
def ex0 : GV := .mk 0 false 0 ⟨#[]⟩ [] []
def exB : GV := .mk 4 false 0 ⟨#[]⟩ [exN 1, ex0] []
def exA : GV := .mk 3 false 0 ⟨#[195, 169, 10]⟩ [] []
def exV : GV := .mk 5 false 0 ⟨#[]⟩ [] [(⟨#[98]⟩, exB), (⟨#[97]⟩, exA)]
def exT : ByteArray := ⟨#[123, 34, 97, 34, 58, 34, 195, 169, 92, 110, 34, 44, 34, 98, 34, 58, 91, 49, 44, 110, 117, 108, 108, 93, 125]⟩
theorem ex_sz : exV.sz ≤ 2000000 := by simp [exV, exB, exA, exN, ex0, GV.sz, szL, szF, szP]; decide
theorem exN_sz (n : Int) : (exN n).sz ≤ 2000000 := by simp [exN, GV.sz, szL, szF]; decide
theorem ex_ok : okV exV := by simp [exV, exB, exA, exN, ex0, okV, okL, okF, okP]
theorem exN_ok : okV (exN 9007199254740992) := by simp [exN, okV, okL, okF]
theorem ba : badAt ⟨#[97]⟩ 0 = -1 := by kernel_rfl
theorem bb : badAt ⟨#[98]⟩ 0 = -1 := by kernel_rfl
theorem be : badAt ⟨#[195, 169, 10]⟩ 0 = -1 := by kernel_rfl
theorem ex_names : NamesOK [((⟨#[98]⟩ : ByteArray), exB), (⟨#[97]⟩, exA)] := by
  rw [namesOK_iff]
  refine ⟨fun p hp => ?_, by decide⟩
  rcases List.mem_cons.1 hp with rfl | hp
  · rw [bb]; decide
  · obtain rfl : p = _ := List.mem_singleton.1 hp
    rw [ba]; decide
theorem ex_td : TdV exV 0 := by
  have h1 : TdV exB (0 + 1) := by simp [exB, exN, ex0, TdV, TdL]
  have h2 : TdV exA (0 + 1) := by
    unfold exA TdV
    rw [be, if_neg (by decide), if_neg (by decide), if_pos rfl]
    decide
  unfold exV TdV
  rw [if_neg (by decide), if_neg (by decide), if_neg (by decide), if_neg (by decide), if_pos rfl]
  refine ⟨ex_names, ?_, by decide⟩
  unfold TdF TdP TdF TdP TdF
  exact ⟨h1, h2, trivial⟩
theorem ex_nf : nfV exV = .mk 5 false 0 ⟨#[]⟩ [] [(⟨#[97]⟩, exA), (⟨#[98]⟩, exB)] := by
  have hB : nfV exB = exB := by simp [exB, exN, ex0, nfV, nfL]
  have hA : nfV exA = exA := by simp [exA, nfV]
  have hs : srt [((⟨#[98]⟩ : ByteArray), exB), (⟨#[97]⟩, exA)] = [(⟨#[97]⟩, exA), (⟨#[98]⟩, exB)] := by
    refine (ordd_one (List.Perm.swap _ _ _) ?_ ex_names).symm
    unfold Ordd
    rw [List.pairwise_cons]
    refine ⟨fun b hb => ?_, List.pairwise_singleton _ _⟩
    obtain rfl := List.mem_singleton.1 hb
    show decide (cmpL (ptsAt ⟨#[97]⟩ 0) (ptsAt ⟨#[98]⟩ 0) ≤ 0) = true
    kernel_rfl
  unfold exV
  rw [nfV, nfF, nfF, nfF, nfP, nfP, hB, hA, if_pos rfl, hs]
  simp
theorem ex_tx : txV (nfV exV) = [123, 34, 97, 34, 58, 34, 195, 169, 92, 110, 34, 44, 34, 98, 34, 58, 91, 49, 44, 110, 117, 108, 108, 93, 125] := by
  rw [ex_nf]
  have h1 : Lib.itoa 1 = [49] := by
    have := dd_small (x := 1) (by decide)
    simp [Lib.itoa, this]
  simp [exA, exB, exN, ex0, txV, txL, txF, txP, h1]
  rfl
/-- It has a canonical text. -/
theorem ex_good : Good exV := by
  have hl := nf_len _ exV (Nat.le_refl _)
  refine ⟨?_, ex_td, ?_⟩
  · simp [exV, exB, exA, exN, ex0, cntV, cntL, cntF, cntP]
  · rw [← hl, ex_tx]
    decide
theorem ex_bad : Bad (exN 9007199254740992) 8 := by
  refine .inr (.inl ⟨by simp [exN, cntV], ?_, rfl⟩)
  simp [exN, TdV]
theorem ex_wo : woV [⟨#[97]⟩, ⟨#[99]⟩] exV = .mk 5 false 0 ⟨#[]⟩ [] [(⟨#[98]⟩, exB)] := by
  have h1 : Lib.containsS [(⟨#[97]⟩ : ByteArray), ⟨#[99]⟩] ⟨#[97]⟩ = true := (Lib.containsS_iff _ _).2 (List.mem_cons_self ..)
  have h2 : Lib.containsS [(⟨#[97]⟩ : ByteArray), ⟨#[99]⟩] ⟨#[98]⟩ = false := by
    cases h : Lib.containsS [(⟨#[97]⟩ : ByteArray), ⟨#[99]⟩] ⟨#[98]⟩ with
    | false => rfl
    | true =>
      have := (Lib.containsS_iff _ _).1 h
      simp at this
  unfold woV woF
  rw [ex_nf]
  simp [fsV, h1, h2]
theorem is1 : IsT ⟨#[123, 34, 97, 34, 58, 49, 125]⟩ := by
  have hp : parseS ⟨#[123, 34, 97, 34, 58, 49, 125]⟩ = .ok (.mk 5 false 0 ⟨#[]⟩ [] [(⟨#[97]⟩, exN 1)]) := by kernel_rfl
  have hN : NamesOK [((⟨#[97]⟩ : ByteArray), exN 1)] := by
    rw [namesOK_iff]
    refine ⟨fun p hp => ?_, by decide⟩
    obtain rfl : p = _ := List.mem_singleton.1 hp
    rw [ba]; decide
  have hn : nfV (.mk 5 false 0 ⟨#[]⟩ [] [(⟨#[97]⟩, exN 1)]) = .mk 5 false 0 ⟨#[]⟩ [] [(⟨#[97]⟩, exN 1)] := by
    have hs : srt [((⟨#[97]⟩ : ByteArray), exN 1)] = [(⟨#[97]⟩, exN 1)] := (ordd_one (List.Perm.refl _) (List.pairwise_singleton _ _) hN).symm
    have h1 : nfV (exN 1) = exN 1 := by simp [exN, nfV]
    rw [nfV, nfF, nfF, nfP, h1, if_pos rfl, hs]
    simp
  have h1 : Lib.itoa 1 = [49] := by
    have := dd_small (x := 1) (by decide)
    simp [Lib.itoa, this]
  have ht : txV (.mk 5 false 0 ⟨#[]⟩ [] [(⟨#[97]⟩, exN 1)]) = [123, 34, 97, 34, 58, 49, 125] := by
    simp [exN, txV, txF, txP, h1]
    rfl
  refine ⟨_, hp, ⟨by simp [exN, cntV, cntF, cntP], ?_, by rw [ht]; decide⟩, by rw [hn, ht]⟩
  unfold TdV
  rw [if_neg (by decide), if_neg (by decide), if_neg (by decide), if_neg (by decide), if_pos rfl]
  refine ⟨hN, ?_, by decide⟩
  unfold TdF TdP TdF
  exact ⟨by simp [exN, TdV], trivial⟩
theorem is2 : ¬ IsT ⟨#[123, 34, 97, 34, 58, 32, 49, 125]⟩ := by
  rintro ⟨x, h1, h2, h3⟩
  have hp : parseS ⟨#[123, 34, 97, 34, 58, 32, 49, 125]⟩ = .ok (.mk 5 false 0 ⟨#[]⟩ [] [(⟨#[97]⟩, exN 1)]) := by kernel_rfl
  rw [hp] at h1
  injection h1 with h1
  subst h1
  obtain ⟨y, g1, _, g3⟩ := is1
  have hp2 : parseS ⟨#[123, 34, 97, 34, 58, 49, 125]⟩ = .ok (.mk 5 false 0 ⟨#[]⟩ [] [(⟨#[97]⟩, exN 1)]) := by kernel_rfl
  rw [hp2] at g1
  injection g1 with g1
  subst g1
  rw [g3] at h3
  simp at h3
end Dc
end Go.Proofs.YtiakidomcjpdhaaGreatDoor

namespace Go.Proofs.YtiakidomcjpdhaaGreatDoor
open Go.RowKit
namespace Dc
open Pu Pt

theorem num28 (n : Int) (w : World) : Calls Tryz.prog 28 #[.int .i64 n] w fun e w' => e = .returned (.agg #[.int .i64 2, .bool false, .int .i64 n, .string ⟨#[]⟩, .slice none 0 0, .slice none 0 0]) ∧ Below w.heap.size w w' := by
  have h := heap_alloc_new w (.cells #[.int .i64 2, .bool false, .int .i64 n, .string ⟨#[]⟩, .slice none 0 0, .slice none 0 0] 25)
  obtain ⟨y0, y1, y2, y3, y4, y5⟩ := box6 h
  have hb : Below w.heap.size w (w.alloc (.cells #[.int .i64 2, .bool false, .int .i64 n, .string ⟨#[]⟩, .slice none 0 0, .slice none 0 0] 25)) := (Below.refl _ _).alloc (Nat.le_refl _) _
  go_enter Tryz.func28, Tryz.ntmps28
  go_wp2
  refine bodyPost_ret (v := .agg #[.int .i64 2, .bool false, .int .i64 n, .string ⟨#[]⟩, .slice none 0 0, .slice none 0 0]) (by simp [results, Tryz.results28, go_sem, *]) rfl ⟨rfl, hb⟩
theorem text29 (s : ByteArray) (w : World) : Calls Tryz.prog 29 #[.string s] w fun e w' => e = .returned (.agg #[.int .i64 3, .bool false, .int .i64 0, .string s, .slice none 0 0, .slice none 0 0]) ∧ Below w.heap.size w w' := by
  have h := heap_alloc_new w (.cells #[.int .i64 3, .bool false, .int .i64 0, .string s, .slice none 0 0, .slice none 0 0] 25)
  obtain ⟨y0, y1, y2, y3, y4, y5⟩ := box6 h
  have hb : Below w.heap.size w (w.alloc (.cells #[.int .i64 3, .bool false, .int .i64 0, .string s, .slice none 0 0, .slice none 0 0] 25)) := (Below.refl _ _).alloc (Nat.le_refl _) _
  go_enter Tryz.func29, Tryz.ntmps29
  go_wp2
  refine bodyPost_ret (v := .agg #[.int .i64 3, .bool false, .int .i64 0, .string s, .slice none 0 0, .slice none 0 0]) (by simp [results, Tryz.results29, go_sem, *]) rfl ⟨rfl, hb⟩
def exL : List Value := [.int .i64 2, .bool false, .int .i64 1, .string ⟨#[]⟩, .slice none 0 0, .slice none 0 0, .int .i64 0, .bool false, .int .i64 0, .string ⟨#[]⟩, .slice none 0 0, .slice none 0 0]
def exF (P1 : Nat) : List Value := [.string ⟨#[98]⟩, .int .i64 4, .bool false, .int .i64 0, .string ⟨#[]⟩, .slice (some ⟨P1, 0, none⟩) 2 2, .slice none 0 0, .string ⟨#[97]⟩, .int .i64 3, .bool false, .int .i64 0, .string ⟨#[195, 169, 10]⟩, .slice none 0 0, .slice none 0 0]
theorem sl_none (w : World) (ok : Nat → Prop) (k : Nat) : SlAt w ok (.slice none 0 0) 0 k [] := ⟨by simp, .inl ⟨none, 0, rfl, rfl⟩⟩
theorem small_at (W : World) (ok : Nat → Prop) (k : Int) (b : Bool) (n : Int) (t : ByteArray) : LaidV W ok (.mk k b n t [] []) [.int .i64 k, .bool b, .int .i64 n, .string t, .slice none 0 0, .slice none 0 0] := by
  unfold LaidV
  exact ⟨_, _, [], [], rfl, sl_none _ _ _, sl_none _ _ _, by unfold LaidL; rfl, by unfold LaidF; rfl⟩
theorem ex_laid {W : World} {P1 P2 : Nat} (h1 : W.heap[P1]? = some (.cells exL.toArray 25 (0, 0))) (h2 : W.heap[P2]? = some (.cells (exF P1).toArray 54 (0, 0))) : LaidV W (fun _ => True) exV [.int .i64 5, .bool false, .int .i64 0, .string ⟨#[]⟩, .slice none 0 0, .slice (some ⟨P2, 0, none⟩) 2 2] := by
  have hB : LaidV W (fun _ => True) exB [.int .i64 4, .bool false, .int .i64 0, .string ⟨#[]⟩, .slice (some ⟨P1, 0, none⟩) 2 2, .slice none 0 0] := by
    unfold exB LaidV
    refine ⟨_, _, exL, [], rfl, ⟨rfl, .inr ⟨P1, 0, 2, rfl, fun _ => trivial, by decide, fun i hi => ?_⟩⟩, sl_none _ _ _, ?_, by unfold LaidF; rfl⟩
    · simp [World.cell?, h1]
    · unfold LaidL
      refine ⟨_, [.int .i64 0, .bool false, .int .i64 0, .string ⟨#[]⟩, .slice none 0 0, .slice none 0 0], rfl, small_at _ _ _ _ _ _, ?_⟩
      unfold LaidL
      exact ⟨_, [], rfl, small_at _ _ _ _ _ _, by unfold LaidL; rfl⟩
  unfold exV LaidV
  refine ⟨_, _, [], exF P1, rfl, sl_none _ _ _, ⟨rfl, .inr ⟨P2, 0, 2, rfl, fun _ => trivial, by decide, fun i hi => ?_⟩⟩, by unfold LaidL; rfl, ?_⟩
  · simp [World.cell?, h2]
  · unfold LaidF
    refine ⟨[.string ⟨#[98]⟩, .int .i64 4, .bool false, .int .i64 0, .string ⟨#[]⟩, .slice (some ⟨P1, 0, none⟩) 2 2, .slice none 0 0], [.string ⟨#[97]⟩, .int .i64 3, .bool false, .int .i64 0, .string ⟨#[195, 169, 10]⟩, .slice none 0 0, .slice none 0 0], rfl, ?_, ?_⟩
    · unfold LaidP
      exact ⟨_, rfl, hB⟩
    · unfold LaidF
      refine ⟨[.string ⟨#[97]⟩, .int .i64 3, .bool false, .int .i64 0, .string ⟨#[195, 169, 10]⟩, .slice none 0 0, .slice none 0 0], [], rfl, ?_, by unfold LaidF; rfl⟩
      unfold LaidP
      exact ⟨_, rfl, small_at _ _ _ _ _ _⟩
/-- The example lies in memory. -/
structure ExAt (w : World) (P1 P2 P3 : Nat) (W : World) : Prop where
  c1 : W.heap[P1]? = some (.cells exL.toArray 25 (0, 0))
  c2 : W.heap[P2]? = some (.cells (exF P1).toArray 54 (0, 0))
  c3 : W.heap[P3]? = some (.cells #[.int .i64 5, .bool false, .int .i64 0, .string ⟨#[]⟩, .slice none 0 0, .slice (some ⟨P2, 0, none⟩) 2 2] 25 (0, 0))
  b : Below w.heap.size w W
theorem ExAt.keep {w : World} {P1 P2 P3 : Nat} {W W' : World} (h : ExAt w P1 P2 P3 W) (f : Below W.heap.size W W') : ExAt w P1 P2 P3 W' :=
  ⟨(f.block _ (lt_of_block h.c1)).trans h.c1, (f.block _ (lt_of_block h.c2)).trans h.c2, (f.block _ (lt_of_block h.c3)).trans h.c3, h.b.trans (f.mono h.b.size)⟩
section
variable {w : World} {P1 P2 P3 : Nat}
theorem kW (h5 : 5 ≤ w.heap.size) (hP : Pow10 w) (hT : Tabs w) (W : World) (h : ExAt w P1 P2 P3 W) : Calls Tryz.prog 11 #[.agg #[.int .i64 5, .bool false, .int .i64 0, .string ⟨#[]⟩, .slice none 0 0, .slice (some ⟨P2, 0, none⟩) 2 2]] W fun e w' => e = .returned (.tuple #[.string exT, .nilIface]) ∧ ExAt w P1 P2 P3 w' := by
  refine (write_any exV ex_sz ex_ok W (fun _ => True) _ (Nat.le_trans h5 h.b.size) (hP.of (h.b.block 0 (by omega)) (h.b.block 4 (by omega))) (hT.of (h.b.block 1 (by omega)) (h.b.block 2 (by omega))) (ex_laid h.c1 h.c2)).mono ?_
  rintro e w' ⟨⟨c, h1, _⟩ | ⟨_, h1⟩, h2⟩
  · exact (good_bad ex_good h1).elim
  · rw [ex_tx] at h1
    exact ⟨h1, h.keep h2⟩
theorem kN (h5 : 5 ≤ w.heap.size) (hP : Pow10 w) (hT : Tabs w) (W : World) (h : ExAt w P1 P2 P3 W) : Calls Tryz.prog 11 #[.agg #[.int .i64 2, .bool false, .int .i64 9007199254740992, .string ⟨#[]⟩, .slice none 0 0, .slice none 0 0]] W fun e w' => e = .returned (.tuple #[.string ⟨#[]⟩, .iface 31 (.int .i64 8)]) ∧ ExAt w P1 P2 P3 w' := by
  refine (write_any (exN 9007199254740992) (exN_sz _) exN_ok W (fun _ => True) _ (Nat.le_trans h5 h.b.size) (hP.of (h.b.block 0 (by omega)) (h.b.block 4 (by omega))) (hT.of (h.b.block 1 (by omega)) (h.b.block 2 (by omega))) (small_at _ _ _ _ _ _)).mono ?_
  rintro e w' ⟨⟨c, h1, h3⟩ | ⟨h1, _⟩, h2⟩
  · have h8 : c = 8 := by
      have h0 : cntV (exN 9007199254740992) ≤ 65536 := by simp [exN, cntV]
      have h9 : ¬ TdV (exN 9007199254740992) 0 := by simp [exN, TdV]
      rcases h1 with ⟨g, _⟩ | ⟨_, _, g⟩ | ⟨_, g, _⟩
      · omega
      · exact g
      · exact absurd g h9
    rw [h8] at h3
    exact ⟨h3, h.keep h2⟩
  · exact (good_bad h1 ex_bad).elim
theorem kO (h5 : 5 ≤ w.heap.size) (hP : Pow10 w) (hT : Tabs w) (W : World) (h : ExAt w P1 P2 P3 W) : Calls Tryz.prog 23 #[.agg #[.int .i64 5, .bool false, .int .i64 0, .string ⟨#[]⟩, .slice none 0 0, .slice (some ⟨P2, 0, none⟩) 2 2], .slice (some ⟨W.heap.size, 0, none⟩) 2 2] (W.alloc (.cells #[.string ⟨#[97]⟩, .string ⟨#[99]⟩] 9)) fun e w' => ∃ a4 c4 g o c5, e = .returned (.tuple #[.agg #[.int .i64 5, .bool false, .int .i64 0, .string ⟨#[]⟩, .slice a4 0 c4, .slice (some ⟨g, o, none⟩) 1 c5], .nilIface]) ∧ w'.cell? ⟨g, o, none⟩ = some (.string ⟨#[98]⟩) ∧ Below w.heap.size w w' := by
  have h' := h.keep ((Below.refl _ W).alloc (Nat.le_refl _) (.cells #[.string ⟨#[97]⟩, .string ⟨#[99]⟩] 9))
  have hs := h'.b.size
  have hbx := heap_alloc_new W (.cells #[.string ⟨#[97]⟩, .string ⟨#[99]⟩] 9)
  refine (without_any [⟨#[97]⟩, ⟨#[99]⟩] (by decide) exV ex_sz ex_ok _ (fun _ => True) _ _ (.inr ⟨W.heap.size, 0, 2, rfl, by simp, by simp, fun j hj => ?_⟩) rfl (by omega) (hP.of (h'.b.block 0 (by omega)) (h'.b.block 4 (by omega))) (hT.of (h'.b.block 1 (by omega)) (h'.b.block 2 (by omega))) (ex_laid h'.c1 h'.c2)).mono ?_
  · have hj2 : j < 2 := hj
    match j, hj2 with
    | 0, _ =>
      simp only [World.cell?, hbx]
      rfl
    | 1, _ =>
      simp only [World.cell?, hbx]
      rfl
  · rintro e w' ⟨⟨h1, _⟩ | ⟨_, c, h1, _⟩ | ⟨_, _, cs, h1, h2⟩, h3⟩
    · exact absurd rfl h1
    · exact (good_bad ex_good h1).elim
    · rw [ex_wo] at h2
      obtain ⟨a4, c4, a5, c5, xs, ys, hcs, -, hs2, -, hf⟩ := h2.form
      obtain ⟨g, o, es, rfl, -, -, hn, -⟩ := SlAt.field hs2 hf 0 (by decide)
      obtain rfl : cs = #[.int .i64 5, .bool false, .int .i64 0, .string ⟨#[]⟩, .slice a4 0 c4, .slice (some ⟨g, o, none⟩) 1 c5] := by
        cases cs
        simpa using hcs
      exact ⟨a4, c4, g, o, c5, h1, by simpa using hn, h'.b.trans (h3.mono hs)⟩
end
theorem kI1 (w : World) (h6 : 6 ≤ w.heap.size) (hP : Pow10 w) (hT : Tabs w) : Calls Tryz.prog 21 #[.string ⟨#[123, 34, 97, 34, 58, 49, 125]⟩] w fun e w' => e = .returned (.bool true) ∧ Below w.heap.size w w' := by
  refine (is_any _ (by decide) w h6 hP hT).mono ?_
  rintro e w' ⟨⟨V, rfl, h1⟩, h2⟩
  rw [h1.2 is1]
  exact ⟨rfl, h2⟩
theorem kI2 (w : World) (h6 : 6 ≤ w.heap.size) (hP : Pow10 w) (hT : Tabs w) : Calls Tryz.prog 21 #[.string ⟨#[123, 34, 97, 34, 58, 32, 49, 125]⟩] w fun e w' => e = .returned (.bool false) ∧ Below w.heap.size w w' := by
  refine (is_any _ (by decide) w h6 hP hT).mono ?_
  rintro e w' ⟨⟨V, rfl, h1⟩, h2⟩
  cases V with
  | false => exact ⟨rfl, h2⟩
  | true => exact absurd (h1.1 rfl) is2
set_option maxRecDepth 20000 in
set_option maxHeartbeats 4000000 in
theorem shown_any (w : World) (h6 : 6 ≤ w.heap.size) (hP : Pow10 w) (hT : Tabs w) : Calls Tryz.prog 10 #[] w fun e w' => e = .returned (.bool true) ∧ Below w.heap.size w w' := by
  have HI1 : Hid (∀ W, Below w.heap.size w W → Calls Tryz.prog 21 #[.string ⟨#[123, 34, 97, 34, 58, 49, 125]⟩] W fun e w' => e = .returned (.bool true) ∧ Below w.heap.size w w') := fun W h => (kI1 W (Nat.le_trans h6 h.size) (hP.of (h.block 0 (by omega)) (h.block 4 (by omega))) (hT.of (h.block 1 (by omega)) (h.block 2 (by omega)))).mono fun e w' ⟨h1, h2⟩ => ⟨h1, h.trans (h2.mono h.size)⟩
  have HI2 : Hid (∀ W, Below w.heap.size w W → Calls Tryz.prog 21 #[.string ⟨#[123, 34, 97, 34, 58, 32, 49, 125]⟩] W fun e w' => e = .returned (.bool false) ∧ Below w.heap.size w w') := fun W h => (kI2 W (Nat.le_trans h6 h.size) (hP.of (h.block 0 (by omega)) (h.block 4 (by omega))) (hT.of (h.block 1 (by omega)) (h.block 2 (by omega)))).mono fun e w' ⟨h1, h2⟩ => ⟨h1, h.trans (h2.mono h.size)⟩
  have HEX : Hid (∀ w1 w2 : World, Below w.heap.size w w1 → Below (w1.alloc (.cells exL.toArray 25)).heap.size (w1.alloc (.cells exL.toArray 25)) w2 → ExAt w w1.heap.size w2.heap.size (w2.heap.size + 1) ((w2.alloc (.cells (exF w1.heap.size).toArray 54)).alloc (.cells #[.int .i64 5, .bool false, .int .i64 0, .string ⟨#[]⟩, .slice none 0 0, .slice (some ⟨w2.heap.size, 0, none⟩) 2 2] 25))) := fun w1 w2 h1 h2 => by
    have hs := h2.size
    have hl : w1.heap.size < w2.heap.size := by simp at hs; omega
    refine ⟨?_, ?_, heap_new1 _ _ _, ?_⟩
    · rw [Below.heap_alloc _ _ _ (by simp; omega), Below.heap_alloc _ _ _ hl, h2.block _ (by simp)]
      exact heap_alloc_new _ _
    · rw [Below.heap_alloc _ _ _ (by simp)]
      exact heap_alloc_new _ _
    · have h3 := (h1.alloc h1.size (.cells exL.toArray 25)).trans (h2.mono (by have := h1.size; simp; omega))
      exact (h3.alloc h3.size _).alloc (by have := h3.size; simp; omega) _
  have HW : Hid (∀ P1 P2 P3 W, ExAt w P1 P2 P3 W → Calls Tryz.prog 11 #[.agg #[.int .i64 5, .bool false, .int .i64 0, .string ⟨#[]⟩, .slice none 0 0, .slice (some ⟨P2, 0, none⟩) 2 2]] W fun e w' => e = .returned (.tuple #[.string ⟨#[123, 34, 97, 34, 58, 34, 195, 169, 92, 110, 34, 44, 34, 98, 34, 58, 91, 49, 44, 110, 117, 108, 108, 93, 125]⟩, .nilIface]) ∧ ExAt w P1 P2 P3 w') := fun P1 P2 P3 W h => kW (by omega) hP hT W h
  have HM : Hid (∀ P1 P2 P3 W, ExAt w P1 P2 P3 W → Calls Tryz.prog 11 #[.agg #[.int .i64 2, .bool false, .int .i64 9007199254740992, .string ⟨#[]⟩, .slice none 0 0, .slice none 0 0]] W fun e w' => e = .returned (.tuple #[.string ⟨#[]⟩, .iface 31 (.int .i64 8)]) ∧ ExAt w P1 P2 P3 w') := fun P1 P2 P3 W h => kN (by omega) hP hT W h
  have HO : Hid (∀ P1 P2 P3 W, ExAt w P1 P2 P3 W → Calls Tryz.prog 23 #[.agg #[.int .i64 5, .bool false, .int .i64 0, .string ⟨#[]⟩, .slice none 0 0, .slice (some ⟨P2, 0, none⟩) 2 2], .slice (some ⟨W.heap.size, 0, none⟩) 2 2] (W.alloc (.cells #[.string ⟨#[97]⟩, .string ⟨#[99]⟩] 9)) fun e w' => ∃ a4 c4 g o c5, e = .returned (.tuple #[.agg #[.int .i64 5, .bool false, .int .i64 0, .string ⟨#[]⟩, .slice a4 0 c4, .slice (some ⟨g, o, none⟩) 1 c5], .nilIface]) ∧ w'.cell? ⟨g, o, none⟩ = some (.string ⟨#[98]⟩) ∧ Below w.heap.size w w') := fun P1 P2 P3 W h => kO (by omega) hP hT W h
  have n8 : ∀ W : World, (binOp .eql 28 (.iface 31 (.int .i64 8)) (.iface 31 (.int .i64 8))).run Tryz.prog W = .ok (.bool true) W := fun W => bin_err 8 8 W
  clear hP hT
  go_enter Tryz.func10, Tryz.ntmps10
  go_wp2_with (first
    | (have hq := hend; go_at_call 21; refine (HI2.out _ hend).mono ?_; rintro e wb ⟨rfl, hend2⟩; clear hq hend)
    | (have hq := hmid; go_at_call 21; refine (HI1.out _ hmid).mono ?_; rintro e wa ⟨rfl, hend⟩; clear hq hmid)
    | (have hq := x6; go_at_call 23; refine (HO.out _ _ _ w6 x6).mono ?_; rintro e w7 ⟨a4, c4, g, o, c5, rfl, hg, h7⟩; have hmid := h7.alloc h7.size (.cells #[.int .i64 5, .bool false, .int .i64 0, .string ⟨#[]⟩, .slice a4 0 c4, .slice (some ⟨g, o, none⟩) 1 c5] 25); have hg2 : (w7.alloc (.cells #[.int .i64 5, .bool false, .int .i64 0, .string ⟨#[]⟩, .slice a4 0 c4, .slice (some ⟨g, o, none⟩) 1 c5] 25)).cell? ⟨g, o, none⟩ = some (.string ⟨#[98]⟩) := (World.cell?_alloc_some _ _ _ (by rw [hg]; rfl)).trans hg; clear hq x6)
    | (have hq := x5; go_at_call 11; refine (HM.out _ _ _ w5 x5).mono ?_; rintro e w6 ⟨rfl, x6⟩; obtain ⟨v0, v1, v2, v3, v4, v5⟩ := box6 x6.c3; clear hq x5)
    | (have hq := x4; go_at_call 28; refine (num28 9007199254740992 w4).mono ?_; rintro e w5 ⟨rfl, h5⟩; have x5 := x4.keep h5; clear hq x4)
    | (have hq := x3; go_at_call 11; refine (HW.out _ _ _ _ x3).mono ?_; rintro e w4 ⟨rfl, x4⟩; clear hq x3)
    | (have hq := h1; go_at_call 29; refine (text29 _ _).mono ?_; rintro e w2 ⟨rfl, h2⟩; have x3 := HEX.out w1 w2 h1 h2; clear hq h1)
    | (go_at_call 28; refine (num28 1 w).mono ?_; rintro e w1 ⟨rfl, h1⟩))
  go_ret
  exact ⟨rfl, hend2⟩
end Dc
end Go.Proofs.YtiakidomcjpdhaaGreatDoor

namespace Go.Proofs.YtiakidomcjpdhaaGreatDoor
open Go.RowKit
namespace Dc
open Pu Pt

theorem says_bool {p : Prop} {S : Bool} {e : Ending} (hS : S = true ↔ p) (h : Says' p e) : e = .returned (.bool S) := by
  obtain ⟨V, rfl, hV⟩ := h
  have : V = S := Bool.eq_iff_iff.2 (hV.trans hS.symm)
  rw [this]
theorem sameT_comm {x y : GV} : SameT x y ↔ SameT y x := ⟨fun ⟨a, b, c⟩ => ⟨b, a, c.symm⟩, fun ⟨a, b, c⟩ => ⟨b, a, c.symm⟩⟩
set_option maxRecDepth 20000 in
set_option maxHeartbeats 2000000 in
theorem sames_law (x y : GV) (hsz : x.sz ≤ 2000000) (hsy : y.sz ≤ 2000000) (hok : okV x) (hoy : okV y) (w : World) (ok : Nat → Prop) (cs ds : Array Value) (h6 : 6 ≤ w.heap.size) (hP : Pow10 w) (hT : Tabs w) (hx : LaidV w ok x cs.toList) (hy : LaidV w ok y ds.toList) :
    Calls Tryz.prog 5 #[.agg cs, .agg ds] w fun e w' => e = .returned (.bool true) ∧ Below w.heap.size w w' := by
  obtain ⟨S, hS⟩ : ∃ S : Bool, S = true ↔ SameT x y := by
    by_cases h : SameT x y
    · exact ⟨true, by simp [h]⟩
    · exact ⟨false, by simp [h]⟩
  have hpo := fun (W : World) (h : Below w.heap.size w W) => hP.of (h.block 0 (by omega)) (h.block 4 (by omega))
  have hta := fun (W : World) (h : Below w.heap.size w W) => hT.of (h.block 1 (by omega)) (h.block 2 (by omega))
  have hxa := fun (W : World) (h : Below w.heap.size w W) => hx.conv (w' := W) (ok' := ok) (fun k hk hl => ⟨hk, h.block k hl⟩)
  have hya := fun (W : World) (h : Below w.heap.size w W) => hy.conv (w' := W) (ok' := ok) (fun k hk hl => ⟨hk, h.block k hl⟩)
  have Q10 : Hid (∀ W, Below w.heap.size w W → Calls Tryz.prog 10 #[] W fun e w' => e = .returned (.bool true) ∧ Below W.heap.size W w') := fun W h => shown_any W (Nat.le_trans h6 h.size) (hpo W h) (hta W h)
  have QA : Hid (∀ W, Below w.heap.size w W → Calls Tryz.prog 19 #[.agg cs, .agg ds] W fun e w' => e = .returned (.bool S) ∧ Below W.heap.size W w') := fun W h => (same_any x y hsz hsy hok hoy W ok cs ds (by have := h.size; omega) (hpo W h) (hta W h) (hxa W h) (hya W h)).mono fun e w' ⟨h1, h2⟩ => ⟨says_bool hS h1, h2⟩
  have QB : Hid (∀ W, Below w.heap.size w W → Calls Tryz.prog 19 #[.agg ds, .agg cs] W fun e w' => e = .returned (.bool S) ∧ Below W.heap.size W w') := fun W h => (same_any y x hsy hsz hoy hok W ok ds cs (by have := h.size; omega) (hpo W h) (hta W h) (hya W h) (hxa W h)).mono fun e w' ⟨h1, h2⟩ => ⟨says_bool (hS.trans sameT_comm) h1, h2⟩
  have QC : Hid (∀ W, Below w.heap.size w W → Calls Tryz.prog 20 #[.agg cs, .agg ds] W fun e w' => e = .returned (.bool S) ∧ Below W.heap.size W w') := fun W h => (rsame_any x y hsz hsy W ok cs ds (hxa W h) (hya W h)).mono fun e w' ⟨h1, h2⟩ => ⟨says_bool hS h1, h2⟩
  obtain ⟨k, b, n, t, s1, s2, rfl⟩ := cells_of hx
  obtain ⟨k', b', n', t', s1', s2', rfl⟩ := cells_of hy
  clear hS hpo hta hxa hya hx hy hP hT hsz hsy hok hoy
  have m0 : TwoAt w #[.int .i64 k, .bool b, .int .i64 n, .string t, s1, s2] #[.int .i64 k', .bool b', .int .i64 n', .string t', s1', s2'] ((w.alloc (.cells #[.int .i64 k, .bool b, .int .i64 n, .string t, s1, s2] 25)).alloc (.cells #[.int .i64 k', .bool b', .int .i64 n', .string t', s1', s2'] 25)) := ⟨(Below.heap_alloc _ _ _ (by simp)).trans (heap_alloc_new _ _), heap_new1 _ _ _, ((Below.refl _ _).alloc (Nat.le_refl _) _).alloc (by simp) _, by simp⟩
  go_enter Tryz.func5, Tryz.ntmps5
  go_wp2_with (first
    | (have hq := m3; go_at_call 20; refine (QC.out _ m3.b).mono ?_; rintro e w4 ⟨rfl, h4⟩; have m4 := m3.keep h4; clear hq m3)
    | (have hq := m2; go_at_call 19; refine (QB.out _ m2.b).mono ?_; rintro e w3 ⟨rfl, h3⟩; have m3 := m2.keep h3; obtain ⟨x0, x1, x2, x3, x4, x5⟩ := box6 m3.v; obtain ⟨y0, y1, y2, y3, y4, y5⟩ := box6 m3.z; clear hq m2)
    | (have hq := m1; go_at_call 19; refine (QA.out _ m1.b).mono ?_; rintro e w2 ⟨rfl, h2⟩; have m2 := m1.keep h2; obtain ⟨x0, x1, x2, x3, x4, x5⟩ := box6 m2.v; obtain ⟨y0, y1, y2, y3, y4, y5⟩ := box6 m2.z; clear hq m1)
    | (go_at_call 10; refine (Q10.out _ m0.b).mono ?_; rintro e w1 ⟨rfl, h1⟩; have m1 := m0.keep h1; obtain ⟨x0, x1, x2, x3, x4, x5⟩ := box6 m1.v; obtain ⟨y0, y1, y2, y3, y4, y5⟩ := box6 m1.z))
  go_ret
  exact ⟨rfl, m4.b⟩
theorem good_or_bad (x : GV) : Good x ∨ ∃ c, Bad x c := by
  by_cases h1 : 65536 < cntV x
  · exact .inr ⟨2, .inl ⟨h1, rfl⟩⟩
  by_cases h2 : TdV x 0
  · by_cases h3 : 65536 < (txV x).length
    · exact .inr ⟨2, .inr (.inr ⟨by omega, h2, h3, rfl⟩)⟩
    · exact .inl ⟨by omega, h2, by omega⟩
  · exact .inr ⟨8, .inr (.inl ⟨by omega, h2, rfl⟩)⟩
theorem bad_fun {x : GV} {c c' : Int} (h : Bad x c) (h' : Bad x c') : c = c' := by
  rcases h with ⟨a, rfl⟩ | ⟨a, b, rfl⟩ | ⟨a, b, d, rfl⟩ <;> rcases h' with ⟨a', rfl⟩ | ⟨a', b', rfl⟩ | ⟨a', b', d', rfl⟩ <;> first | rfl | omega | exact absurd b' b | exact absurd b b'
section
variable {x : GV} (hsz : x.sz ≤ 2000000) (hok : okV x) {w : World} {ok : Nat → Prop} {cs : Array Value} (h5 : 5 ≤ w.heap.size) (hP : Pow10 w) (hT : Tabs w) (hx : LaidV w ok x cs.toList) (W : World) (hW : Below w.heap.size w W)
include hsz hok h5 hP hT hx hW
theorem w11g (hG : Good x) : Calls Tryz.prog 11 #[.agg cs] W fun e w' => e = .returned (.tuple #[.string ⟨(txV (nfV x)).toArray⟩, .nilIface]) ∧ Below W.heap.size W w' := by
  refine (write_two x hsz hok w ok cs h5 hP hT hx W hW).mono ?_
  rintro e w' (⟨c, h1, h2, h3⟩ | ⟨h1, h2, h3⟩)
  · exact (good_bad hG h2.out).elim
  · exact ⟨h1, h3⟩
theorem w11b {c : Int} (hB : Bad x c) : Calls Tryz.prog 11 #[.agg cs] W fun e w' => e = .returned (.tuple #[.string ⟨#[]⟩, .iface 31 (.int .i64 c)]) ∧ Below W.heap.size W w' := by
  refine (write_two x hsz hok w ok cs h5 hP hT hx W hW).mono ?_
  rintro e w' (⟨c', h1, h2, h3⟩ | ⟨h1, h2, h3⟩)
  · rw [bad_fun h2.out hB] at h1
    exact ⟨h1, h3⟩
  · exact (good_bad h2.out hB).elim
end
section
variable {x : GV} (hsz : x.sz ≤ 2000000) {w : World} {ok : Nat → Prop} {cs : Array Value} (hx : LaidV w ok x cs.toList) (W : World) (hW : Below w.heap.size w W)
include hsz hx hW
theorem w12g (hG : Good x) : Calls Tryz.prog 12 #[.agg cs] W fun e w' => e = .returned (.tuple #[.string ⟨(txV (nfV x)).toArray⟩, .int .i64 0]) ∧ Below W.heap.size W w' := by
  refine (rw_two x hsz w ok cs hx W hW).mono ?_
  rintro e w' (⟨c, h1, -, h2, h3⟩ | ⟨h1, h2, h3⟩)
  · exact (good_bad hG h2.out).elim
  · exact ⟨h1, h3⟩
theorem w12b {c : Int} (hB : Bad x c) : Calls Tryz.prog 12 #[.agg cs] W fun e w' => e = .returned (.tuple #[.string ⟨#[]⟩, .int .i64 c]) ∧ Below W.heap.size W w' := by
  refine (rw_two x hsz w ok cs hx W hW).mono ?_
  rintro e w' (⟨c', h1, -, h2, h3⟩ | ⟨h1, h2, h3⟩)
  · rw [bad_fun h2.out hB] at h1
    exact ⟨h1, h3⟩
  · exact (good_bad h2.out hB).elim
end
set_option maxRecDepth 20000 in
set_option maxHeartbeats 2000000 in
theorem writes_law (x : GV) (hsz : x.sz ≤ 2000000) (hok : okV x) (w : World) (ok : Nat → Prop) (cs : Array Value) (h6 : 6 ≤ w.heap.size) (hP : Pow10 w) (hT : Tabs w) (hx : LaidV w ok x cs.toList) :
    Calls Tryz.prog 3 #[.agg cs] w fun e w' => e = .returned (.bool true) ∧ Below w.heap.size w w' := by
  have hpo := fun (W : World) (h : Below w.heap.size w W) => hP.of (h.block 0 (by omega)) (h.block 4 (by omega))
  have hta := fun (W : World) (h : Below w.heap.size w W) => hT.of (h.block 1 (by omega)) (h.block 2 (by omega))
  have Q10 : Hid (∀ W, Below w.heap.size w W → Calls Tryz.prog 10 #[] W fun e w' => e = .returned (.bool true) ∧ Below W.heap.size W w') := fun W h => shown_any W (Nat.le_trans h6 h.size) (hpo W h) (hta W h)
  obtain ⟨k, b, n, t, s1, s2, rfl⟩ := cells_of hx
  have m0 : SndW.OneAt w #[.int .i64 k, .bool b, .int .i64 n, .string t, s1, s2] (w.alloc (.cells #[.int .i64 k, .bool b, .int .i64 n, .string t, s1, s2] 25)) := ⟨heap_alloc_new _ _, (Below.refl _ _).alloc (Nat.le_refl _) _, by simp⟩
  rcases good_or_bad x with hG | ⟨c, hB⟩
  · have Q11 : Hid _ := fun W h => w11g hsz hok (by omega) hP hT hx W h hG
    have Q12 : Hid _ := fun W h => w12g hsz hx W h hG
    obtain ⟨A, hA⟩ : ∃ A : ByteArray, ⟨(txV (nfV x)).toArray⟩ = A := ⟨_, rfl⟩
    rw [hA] at Q11 Q12
    clear hG hA hpo hta hx hP hT hsz hok
    go_enter Tryz.func3, Tryz.ntmps3
    go_wp2_with (first
      | (have hq := m3; go_at_call 13; refine (code0 _).mono ?_; rintro e w4 ⟨rfl, rfl⟩; clear hq)
      | (have hq := m2; go_at_call 12; refine (Q12.out _ m2.b).mono ?_; rintro e w3 ⟨rfl, h3⟩; have m3 := m2.keep h3; clear hq m2)
      | (have hq := m1; go_at_call 11; refine (Q11.out _ m1.b).mono ?_; rintro e w2 ⟨rfl, h2⟩; have m2 := m1.keep h2; obtain ⟨x0, x1, x2, x3, x4, x5⟩ := box6 m2.v; clear hq m1)
      | (go_at_call 10; refine (Q10.out _ m0.b).mono ?_; rintro e w1 ⟨rfl, h1⟩; have m1 := m0.keep h1; obtain ⟨x0, x1, x2, x3, x4, x5⟩ := box6 m1.v))
    go_ret
    exact ⟨rfl, m3.b⟩
  · have Q11 : Hid _ := fun W h => w11b hsz hok (by omega) hP hT hx W h hB
    have Q12 : Hid _ := fun W h => w12b hsz hx W h hB
    have Q13 : Hid _ := fun W => code_bad hB W
    clear hB hpo hta hx hP hT hsz hok
    go_enter Tryz.func3, Tryz.ntmps3
    go_wp2_with (first
      | (have hq := m3; go_at_call 13; refine (Q13.out _).mono ?_; rintro e w4 ⟨rfl, rfl⟩; clear hq)
      | (have hq := m2; go_at_call 12; refine (Q12.out _ m2.b).mono ?_; rintro e w3 ⟨rfl, h3⟩; have m3 := m2.keep h3; clear hq m2)
      | (have hq := m1; go_at_call 11; refine (Q11.out _ m1.b).mono ?_; rintro e w2 ⟨rfl, h2⟩; have m2 := m1.keep h2; obtain ⟨x0, x1, x2, x3, x4, x5⟩ := box6 m2.v; clear hq m1)
      | (go_at_call 10; refine (Q10.out _ m0.b).mono ?_; rintro e w1 ⟨rfl, h1⟩; have m1 := m0.keep h1; obtain ⟨x0, x1, x2, x3, x4, x5⟩ := box6 m1.v))
    go_ret
    exact ⟨rfl, m3.b⟩
end Dc
end Go.Proofs.YtiakidomcjpdhaaGreatDoor
