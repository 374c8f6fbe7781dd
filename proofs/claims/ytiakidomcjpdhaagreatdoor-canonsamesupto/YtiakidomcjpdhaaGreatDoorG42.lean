/- The examples at the head of all statements of layer 3, as values: what they are told as. What the reference's Write, Norm and Same answer at every value. -/
import Derived.Test.YtiakidomcjpdhaaGreatDoorG38
import Derived.Test.YtiakidomcjpdhaaGreatDoorG39
import Derived.Test.YtiakidomcjpdhaaGreatDoorG41
import Derived.Test.YtiakidomcjpdhaaGreatDoorG33
import Derived.Test.YtiakidomcjpdhaaGreatDoorG32
import Derived.Test.YtiakidomcjpdhaaGreatDoorG30
namespace Go.Proofs.YtiakidomcjpdhaaGreatDoor
open Go.RowKit
namespace Dc
open Pu Pt

def exN (n : Int) : GV := .mk 2 false n ⟨#[]⟩ [] []
def ex0 : GV := .mk 0 false 0 ⟨#[]⟩ [] []
def exB : GV := .mk 4 false 0 ⟨#[]⟩ [exN 1, ex0] []
def exA : GV := .mk 3 false 0 ⟨#[195, 169, 10]⟩ [] []
def exV : GV := .mk 5 false 0 ⟨#[]⟩ [] [(⟨#[98]⟩, exB), (⟨#[97]⟩, exA)]
def exT : ByteArray := ⟨#[123, 34, 97, 34, 58, 34, 195, 169, 92, 110, 34, 44, 34, 98, 34, 58, 91, 49, 44, 110, 117, 108, 108, 93, 125]⟩
theorem ex_sz : exV.sz ≤ 2000000 := by simp [exV, exB, exA, exN, ex0, GV.sz, szL, szF, szP]; decide
theorem exN_sz (n : Int) : (exN n).sz ≤ 2000000 := by simp [exN, GV.sz, szL, szF]; decide
theorem ex_ok : okV exV := by simp [exV, exB, exA, exN, ex0, okV, okL, okF, okP]
theorem exN_ok : okV (exN 9007199254740992) := by simp [exN, okV, okL, okF]
theorem ba : badAt ⟨#[97]⟩ 0 = -1 := by kernel_rfl
theorem bb : badAt ⟨#[98]⟩ 0 = -1 := by kernel_rfl
theorem be : badAt ⟨#[195, 169, 10]⟩ 0 = -1 := by kernel_rfl
theorem ex_names : NamesOK [((⟨#[98]⟩ : ByteArray), exB), (⟨#[97]⟩, exA)] := by
  rw [namesOK_iff]
  refine ⟨fun p hp => ?_, by decide⟩
  rcases List.mem_cons.1 hp with rfl | hp
  · rw [bb]; decide
  · obtain rfl : p = _ := List.mem_singleton.1 hp
    rw [ba]; decide
theorem ex_td : TdV exV 0 := by
  have h1 : TdV exB (0 + 1) := by simp [exB, exN, ex0, TdV, TdL]
  have h2 : TdV exA (0 + 1) := by
    unfold exA TdV
    rw [be, if_neg (by decide), if_neg (by decide), if_pos rfl]
    decide
  unfold exV TdV
  rw [if_neg (by decide), if_neg (by decide), if_neg (by decide), if_neg (by decide), if_pos rfl]
  refine ⟨ex_names, ?_, by decide⟩
  unfold TdF TdP TdF TdP TdF
  exact ⟨h1, h2, trivial⟩
theorem ex_nf : nfV exV = .mk 5 false 0 ⟨#[]⟩ [] [(⟨#[97]⟩, exA), (⟨#[98]⟩, exB)] := by
  have hB : nfV exB = exB := by simp [exB, exN, ex0, nfV, nfL]
  have hA : nfV exA = exA := by simp [exA, nfV]
  have hs : srt [((⟨#[98]⟩ : ByteArray), exB), (⟨#[97]⟩, exA)] = [(⟨#[97]⟩, exA), (⟨#[98]⟩, exB)] := by
    refine (ordd_one (List.Perm.swap _ _ _) ?_ ex_names).symm
    unfold Ordd
    rw [List.pairwise_cons]
    refine ⟨fun b hb => ?_, List.pairwise_singleton _ _⟩
    obtain rfl := List.mem_singleton.1 hb
    show decide (cmpL (ptsAt ⟨#[97]⟩ 0) (ptsAt ⟨#[98]⟩ 0) ≤ 0) = true
    kernel_rfl
  unfold exV
  rw [nfV, nfF, nfF, nfF, nfP, nfP, hB, hA, if_pos rfl, hs]
  simp
theorem ex_tx : txV (nfV exV) = [123, 34, 97, 34, 58, 34, 195, 169, 92, 110, 34, 44, 34, 98, 34, 58, 91, 49, 44, 110, 117, 108, 108, 93, 125] := by
  rw [ex_nf]
  have h1 : Lib.itoa 1 = [49] := by
    have := dd_small (x := 1) (by decide)
    simp [Lib.itoa, this]
  simp [exA, exB, exN, ex0, txV, txL, txF, txP, h1]
  rfl
/-- It has a canonical text. -/
theorem ex_good : Good exV := by
  have hl := nf_len _ exV (Nat.le_refl _)
  refine ⟨?_, ex_td, ?_⟩
  · simp [exV, exB, exA, exN, ex0, cntV, cntL, cntF, cntP]
  · rw [← hl, ex_tx]
    decide
theorem ex_bad : Bad (exN 9007199254740992) 8 := by
  refine .inr (.inl ⟨by simp [exN, cntV], ?_, rfl⟩)
  simp [exN, TdV]
theorem ex_wo : woV [⟨#[97]⟩, ⟨#[99]⟩] exV = .mk 5 false 0 ⟨#[]⟩ [] [(⟨#[98]⟩, exB)] := by
  have h1 : Lib.containsS [(⟨#[97]⟩ : ByteArray), ⟨#[99]⟩] ⟨#[97]⟩ = true := (Lib.containsS_iff _ _).2 (List.mem_cons_self ..)
  have h2 : Lib.containsS [(⟨#[97]⟩ : ByteArray), ⟨#[99]⟩] ⟨#[98]⟩ = false := by
    cases h : Lib.containsS [(⟨#[97]⟩ : ByteArray), ⟨#[99]⟩] ⟨#[98]⟩ with
    | false => rfl
    | true =>
      have := (Lib.containsS_iff _ _).1 h
      simp at this
  unfold woV woF
  rw [ex_nf]
  simp [fsV, h1, h2]
theorem is1 : IsT ⟨#[123, 34, 97, 34, 58, 49, 125]⟩ := by
  have hp : parseS ⟨#[123, 34, 97, 34, 58, 49, 125]⟩ = .ok (.mk 5 false 0 ⟨#[]⟩ [] [(⟨#[97]⟩, exN 1)]) := by kernel_rfl
  have hN : NamesOK [((⟨#[97]⟩ : ByteArray), exN 1)] := by
    rw [namesOK_iff]
    refine ⟨fun p hp => ?_, by decide⟩
    obtain rfl : p = _ := List.mem_singleton.1 hp
    rw [ba]; decide
  have hn : nfV (.mk 5 false 0 ⟨#[]⟩ [] [(⟨#[97]⟩, exN 1)]) = .mk 5 false 0 ⟨#[]⟩ [] [(⟨#[97]⟩, exN 1)] := by
    have hs : srt [((⟨#[97]⟩ : ByteArray), exN 1)] = [(⟨#[97]⟩, exN 1)] := (ordd_one (List.Perm.refl _) (List.pairwise_singleton _ _) hN).symm
    have h1 : nfV (exN 1) = exN 1 := by simp [exN, nfV]
    rw [nfV, nfF, nfF, nfP, h1, if_pos rfl, hs]
    simp
  have h1 : Lib.itoa 1 = [49] := by
    have := dd_small (x := 1) (by decide)
    simp [Lib.itoa, this]
  have ht : txV (.mk 5 false 0 ⟨#[]⟩ [] [(⟨#[97]⟩, exN 1)]) = [123, 34, 97, 34, 58, 49, 125] := by
    simp [exN, txV, txF, txP, h1]
    rfl
  refine ⟨_, hp, ⟨by simp [exN, cntV, cntF, cntP], ?_, by rw [ht]; decide⟩, by rw [hn, ht]⟩
  unfold TdV
  rw [if_neg (by decide), if_neg (by decide), if_neg (by decide), if_neg (by decide), if_pos rfl]
  refine ⟨hN, ?_, by decide⟩
  unfold TdF TdP TdF
  exact ⟨by simp [exN, TdV], trivial⟩
theorem is2 : ¬ IsT ⟨#[123, 34, 97, 34, 58, 32, 49, 125]⟩ := by
  rintro ⟨x, h1, h2, h3⟩
  have hp : parseS ⟨#[123, 34, 97, 34, 58, 32, 49, 125]⟩ = .ok (.mk 5 false 0 ⟨#[]⟩ [] [(⟨#[97]⟩, exN 1)]) := by kernel_rfl
  rw [hp] at h1
  injection h1 with h1
  subst h1
  obtain ⟨y, g1, _, g3⟩ := is1
  have hp2 : parseS ⟨#[123, 34, 97, 34, 58, 49, 125]⟩ = .ok (.mk 5 false 0 ⟨#[]⟩ [] [(⟨#[97]⟩, exN 1)]) := by kernel_rfl
  rw [hp2] at g1
  injection g1 with g1
  subst g1
  rw [g3] at h3
  simp at h3
end Dc
end Go.Proofs.YtiakidomcjpdhaaGreatDoor

namespace Go.Proofs.YtiakidomcjpdhaaGreatDoor
open Go.RowKit
namespace Dc
open Pu Pt PlnW

theorem count14 (x : GV) (hsz : x.sz ≤ 2000000) (w : World) (ok : Nat → Prop) (cs : Array Value) (hx : LaidV w ok x cs.toList) : Calls Tryz.prog 14 #[.agg cs, .int .i64 0] w fun e w' => e = .returned (.int .i64 (min (cntV x : Int) 65537)) ∧ Below w.heap.size w w' := by
  have k37 := fun (W : World) (hW : Below w.heap.size w W) => countX_any _ x (Nat.le_refl _) hsz W ok cs 0 (hx.conv (fun k hk hl => ⟨hk, hW.block k hl⟩)) (Int.le_refl _) (by omega)
  simp only [Int.zero_add] at k37
  obtain ⟨k, b, n, t, s1, s2, rfl⟩ := cells_of hx
  obtain ⟨V, hV⟩ : ∃ V, min (cntV x : Int) 65537 = V := ⟨_, rfl⟩
  rw [hV] at k37 ⊢
  clear hx hsz hV
  have hab : Below w.heap.size w (w.alloc (.cells #[.int .i64 k, .bool b, .int .i64 n, .string t, s1, s2] 25)) := (Below.refl _ _).alloc (Nat.le_refl _) _
  go_enter Tryz.func14, Tryz.ntmps14
  go_wp2_with (go_at_call 37; refine (k37 _ hab).mono ?_; rintro e w1 ⟨rfl, h1⟩; have h2 := hab.trans (h1.mono hab.size))
  go_ret
  exact ⟨rfl, h2⟩
set_option maxHeartbeats 1000000 in
theorem plain26 (x : GV) (hsz : x.sz ≤ 2000000) (d : Int) (hS : SndW.sndV x d = true) (gap : ByteArray) (hg : gap.size ≤ 5) (w : World) (ok : Nat → Prop) (cs : Array Value) (hx : LaidV w ok x cs.toList) : Calls Tryz.prog 26 #[.slice none 0 0, .agg cs, .string gap] w fun e w' => ∃ v', e = .returned v' ∧ RowB (w.heap.size + 1) w' v' (plT gap.data.toList x []) ∧ Below w.heap.size w w' := by
  have k47 := fun (C : Array Value) => plain_any _ x (Nat.le_refl _) (w.heap.size + 1) (w.alloc (.cells C 25)) (.slice none 0 0) [] cs gap d (World.ownsRow_nil _ _ _ _) (by simp) (hx.conv (fun k hk hl => ⟨by omega, Below.heap_alloc _ _ _ hl⟩)) hS (by simp; omega) hg
  obtain ⟨B, hB⟩ : ∃ B, plT gap.data.toList x [] = B := ⟨_, rfl⟩
  rw [hB] at k47 ⊢
  obtain ⟨k, b, n, t, s1, s2, rfl⟩ := cells_of hx
  clear hx hsz hB hS
  have k' := k47 #[.int .i64 k, .bool b, .int .i64 n, .string t, s1, s2]
  clear k47
  go_enter Tryz.func26, Tryz.ntmps26
  go_wp2_with (go_at_call 47; refine k'.mono ?_; rintro e w1 ⟨v', rfl, h1, h2⟩; have h3 := ((Below.refl w.heap.size w).alloc (Nat.le_refl _) _).trans ((h2.below (by simp)).mono (Nat.le_succ _)))
  go_ret
  exact ⟨v', rfl, h1, h3⟩
/-- What the reference's Write answers: a fault's number, or the text of the one form. -/
def RwOut (x : GV) (e : Ending) : Prop := (∃ c, Bad x c ∧ e = .returned (.tuple #[.string ⟨#[]⟩, .int .i64 c])) ∨ (Good x ∧ e = .returned (.tuple #[.string ⟨(txV (nfV x)).toArray⟩, .int .i64 0]))
set_option maxRecDepth 20000 in
set_option maxHeartbeats 4000000 in
theorem rwrite_any (x : GV) (hsz : x.sz ≤ 2000000) (w : World) (ok : Nat → Prop) (cs : Array Value) (hx : LaidV w ok x cs.toList) : Calls Tryz.prog 12 #[.agg cs] w fun e w' => RwOut x e ∧ Below w.heap.size w w' := by
  have k14 := fun (W : World) (hW : Below w.heap.size w W) => count14 x hsz W ok cs (hx.conv (fun k hk hl => ⟨hk, hW.block k hl⟩))
  have k34 := fun (W : World) (hW : Below w.heap.size w W) => told_any _ x (Nat.le_refl _) hsz 0 W ok cs (hx.conv (fun k hk hl => ⟨hk, hW.block k hl⟩)) (Int.le_refl _) (by omega)
  have k35 := fun (hT : TdV x 0) (W : World) (hW : Below w.heap.size w W) => rn_any _ x 0 (Nat.le_refl _) hsz hT W ok cs (hx.conv (fun k hk hl => ⟨hk, hW.block k hl⟩))
  have hz := nf_sz _ x (Nat.le_refl _)
  have hnl := nf_len _ x (Nat.le_refl _)
  obtain ⟨k, b, n, t, s1, s2, rfl⟩ := cells_of hx
  obtain ⟨V, hV⟩ : ∃ V, min (cntV x : Int) 65537 = V := ⟨_, rfl⟩
  simp only [hV] at k14
  have m0 : SndW.OneAt w #[.int .i64 k, .bool b, .int .i64 n, .string t, s1, s2] (w.alloc (.cells #[.int .i64 k, .bool b, .int .i64 n, .string t, s1, s2] 25)) := ⟨heap_alloc_new _ _, (Below.refl _ _).alloc (Nat.le_refl _) _, by simp⟩
  have q14 : Calls Tryz.prog 14 #[.agg #[.int .i64 k, .bool b, .int .i64 n, .string t, s1, s2], .int .i64 0] (w.alloc (.cells #[.int .i64 k, .bool b, .int .i64 n, .string t, s1, s2] 25)) fun e w' => e = .returned (.int .i64 V) ∧ SndW.OneAt w #[.int .i64 k, .bool b, .int .i64 n, .string t, s1, s2] w' := by
    refine (k14 _ m0.b).mono ?_
    rintro e w' ⟨h1, h2⟩
    exact ⟨h1, m0.keep h2⟩
  clear k14 m0
  by_cases hc : 65536 < cntV x
  · have hV' : (65536 : Int) < V := by omega
    have HB : Hid (Bad x 2) := .inl ⟨hc, rfl⟩
    clear k34 k35 hV hx hz hnl hc hsz
    go_enter Tryz.func12, Tryz.ntmps12
    go_wp2_with (go_at_call 14; refine q14.mono ?_; rintro e w1 ⟨rfl, m1⟩)
    go_ret2
    exact ⟨.inl ⟨2, HB.out, rfl⟩, m1.b⟩
  have hV' : ¬ (65536 : Int) < V := by omega
  by_cases hTn : ¬ TdV x 0
  · have hT := hTn
    have HB : Hid (Bad x 8) := .inr (.inl ⟨by omega, hT, rfl⟩)
    have q34 : ∀ W, SndW.OneAt w #[.int .i64 k, .bool b, .int .i64 n, .string t, s1, s2] W → Calls Tryz.prog 34 #[.agg #[.int .i64 k, .bool b, .int .i64 n, .string t, s1, s2], .int .i64 0] W fun e w' => e = .returned (.bool false) ∧ Below w.heap.size w w' := fun W hW => by
      refine (k34 W hW.b).mono ?_
      rintro e w' ⟨⟨U, rfl, h1⟩, h2⟩
      refine ⟨?_, hW.b.trans (h2.mono hW.b.size)⟩
      cases U with
      | false => rfl
      | true => exact absurd (h1.1 rfl) hT
    clear k34 k35 hV hx hz hnl hc hsz hT hTn
    go_enter Tryz.func12, Tryz.ntmps12
    go_wp2_with (first
      | (go_at_call 14; refine q14.mono ?_; rintro e w1 ⟨rfl, m1⟩; obtain ⟨x0, x1, x2, x3, x4, x5⟩ := box6 m1.v)
      | (go_at_call 34; refine (q34 _ m1).mono ?_; rintro e w2 ⟨rfl, h2⟩))
    go_ret2
    exact ⟨.inl ⟨8, HB.out, rfl⟩, h2⟩
  have hT : TdV x 0 := Classical.not_not.1 hTn
  clear hTn
  have q34 : ∀ W, SndW.OneAt w #[.int .i64 k, .bool b, .int .i64 n, .string t, s1, s2] W → Calls Tryz.prog 34 #[.agg #[.int .i64 k, .bool b, .int .i64 n, .string t, s1, s2], .int .i64 0] W fun e w' => e = .returned (.bool true) ∧ SndW.OneAt w #[.int .i64 k, .bool b, .int .i64 n, .string t, s1, s2] w' := fun W hW => by
    refine (k34 W hW.b).mono ?_
    rintro e w' ⟨⟨U, rfl, h1⟩, h2⟩
    refine ⟨?_, hW.keep h2⟩
    cases U with
    | true => rfl
    | false => exact absurd (h1.2 hT) (by simp)
  have hTn := td_nf _ x 0 (Nat.le_refl _) hT
  have hSn := td_snd _ (nfV x) 0 (Nat.le_refl _) hTn
  have hG := gro_V _ (nfV x) 0 (Nat.le_refl _) hTn []
  obtain ⟨R, hR⟩ : ∃ R, plT [] (nfV x) [] = R := ⟨_, rfl⟩
  rw [hR] at hG
  have q26 : ∀ (W : World) (ok' : Nat → Prop) (ds : Array Value), Below w.heap.size w W → LaidV W ok' (nfV x) ds.toList → Calls Tryz.prog 26 #[.slice none 0 0, .agg ds, .string ⟨#[]⟩] W fun e w' => ∃ va vc, e = .returned (.slice va R.length vc) ∧ Hid ((convert 49 9 (.slice va R.length vc)).run Tryz.prog w' = .ok (.string ⟨R.toArray⟩) w') ∧ Below w.heap.size w w' := fun W ok' ds hW hl => by
    refine (plain26 (nfV x) (by omega) _ hSn ⟨#[]⟩ (by decide) W ok' ds hl).mono ?_
    rintro e w' ⟨v', rfl, h1, h2⟩
    have h1' : RowB (W.heap.size + 1) w' v' R := by rw [← hR]; exact h1
    obtain ⟨va, vc, rfl⟩ := own_form h1'
    exact ⟨va, vc, rfl, conv_row h1', hW.trans (h2.mono hW.size)⟩
  have k35' := k35 hT
  have HS : Hid (cntV x ≤ 65536 ∧ TdV x 0 ∧ (txV (nfV x)).length = (txV x).length ∧ Gro [] (txV (nfV x)) R) := ⟨by omega, hT, hnl, hG⟩
  obtain ⟨N, hN⟩ : ∃ N, nfV x = N := ⟨_, rfl⟩
  simp only [hN] at k35' q26
  clear k34 k35 hV hx hz hnl hc hsz hT hTn hSn hG hR hN
  by_cases hL : 65536 < R.length
  · have hL' : (65536 : Int) < (R.length : Int) := by omega
    have HB : Hid (Bad x 2) := by
      refine .inr (.inr ⟨HS.out.1, HS.out.2.1, ?_, rfl⟩)
      rw [← HS.out.2.2.1]
      rcases Nat.lt_or_ge 65536 (txV (nfV x)).length with h | h
      · exact h
      · have := HS.out.2.2.2.1 (by simpa using h)
        rw [this] at hL
        simpa using hL
    clear HS
    go_enter Tryz.func12, Tryz.ntmps12
    go_wp2_with (first
      | (go_at_call 14; refine q14.mono ?_; rintro e w1 ⟨rfl, m1⟩; obtain ⟨x0, x1, x2, x3, x4, x5⟩ := box6 m1.v)
      | (go_at_call 34; refine (q34 _ m1).mono ?_; rintro e w2 ⟨rfl, m2⟩; clear x0 x1 x2 x3 x4 x5; obtain ⟨y0, y1, y2, y3, y4, y5⟩ := box6 m2.v)
      | (go_at_call 35; refine (k35' _ m2.b).mono ?_; rintro e w3 ⟨⟨kk, bb, nn, tt, r1, z1, u1, r2, z2, u2, rfl, hlx⟩, h3⟩; have h4 := m2.b.trans (h3.mono m2.b.size); have q26' := q26 w3 _ #[.int .i64 kk, .bool bb, .int .i64 nn, .string tt, .slice r1 z1 u1, .slice r2 z2 u2] h4 hlx; clear hlx)
      | (go_at_call 26; refine q26'.mono ?_; rintro e w5 ⟨va, vc, rfl, HCV, h5⟩))
    go_ret2
    exact ⟨.inl ⟨2, HB.out, rfl⟩, h5⟩
  · have hL' : ¬ (65536 : Int) < (R.length : Int) := by omega
    have HG : Hid (Good x ∧ R = txV (nfV x)) := by
      have hle : (txV (nfV x)).length ≤ 65536 := by
        rcases Nat.lt_or_ge 65536 (txV (nfV x)).length with h | h
        · exact absurd (HS.out.2.2.2.2 (by simpa using h)) hL
        · exact h
      exact ⟨⟨HS.out.1, HS.out.2.1, by rw [← HS.out.2.2.1]; exact hle⟩, by have := HS.out.2.2.2.1 (by simpa using hle); simpa using this⟩
    clear HS
    go_enter Tryz.func12, Tryz.ntmps12
    go_wp2_with (first
      | (go_at_call 14; refine q14.mono ?_; rintro e w1 ⟨rfl, m1⟩; obtain ⟨x0, x1, x2, x3, x4, x5⟩ := box6 m1.v)
      | (go_at_call 34; refine (q34 _ m1).mono ?_; rintro e w2 ⟨rfl, m2⟩; clear x0 x1 x2 x3 x4 x5; obtain ⟨y0, y1, y2, y3, y4, y5⟩ := box6 m2.v)
      | (go_at_call 35; refine (k35' _ m2.b).mono ?_; rintro e w3 ⟨⟨kk, bb, nn, tt, r1, z1, u1, r2, z2, u2, rfl, hlx⟩, h3⟩; have h4 := m2.b.trans (h3.mono m2.b.size); have q26' := q26 w3 _ #[.int .i64 kk, .bool bb, .int .i64 nn, .string tt, .slice r1 z1 u1, .slice r2 z2 u2] h4 hlx; clear hlx)
      | (go_at_call 26; refine q26'.mono ?_; rintro e w5 ⟨va, vc, rfl, HCV, h5⟩; have hcv := HCV.out))
    go_ret2
    exact ⟨.inr ⟨HG.out.1, by rw [← HG.out.2]; rfl⟩, h5⟩
theorem bad_ne {x : GV} {c : Int} (h : Bad x c) : c = 2 ∨ c = 8 := by
  rcases h with ⟨_, h⟩ | ⟨_, _, h⟩ | ⟨_, _, _, h⟩ <;> omega
theorem rw_two (x : GV) (hsz : x.sz ≤ 2000000) (w : World) (ok : Nat → Prop) (cs : Array Value) (hx : LaidV w ok x cs.toList) (W : World) (hW : Below w.heap.size w W) :
    Calls Tryz.prog 12 #[.agg cs] W fun e w' => (∃ c : Int, e = .returned (.tuple #[.string ⟨#[]⟩, .int .i64 c]) ∧ c ≠ 0 ∧ Hid (Bad x c) ∧ Below W.heap.size W w') ∨ (e = .returned (.tuple #[.string ⟨(txV (nfV x)).toArray⟩, .int .i64 0]) ∧ Hid (Good x) ∧ Below W.heap.size W w') := by
  refine (rwrite_any x hsz W ok cs (hx.conv (fun k hk hl => ⟨hk, hW.block k hl⟩))).mono ?_
  rintro e w' ⟨⟨c, h1, h2⟩ | ⟨h1, h2⟩, h3⟩
  · exact .inl ⟨c, h2, by have := bad_ne h1; omega, h1, h3⟩
  · exact .inr ⟨h2, h1, h3⟩
/-- What the reference's Norm answers. -/
def RnOut (x : GV) (B : Nat) (e : Ending) (w' : World) : Prop := (∃ c, Bad x c ∧ e = .returned (.tuple #[.agg #[.int .i64 0, .bool false, .int .i64 0, .string ⟨#[]⟩, .slice none 0 0, .slice none 0 0], .int .i64 c])) ∨ (Good x ∧ ∃ cs : Array Value, e = .returned (.tuple #[.agg cs, .int .i64 0]) ∧ LaidV w' (fun b => B ≤ b) (nfV x) cs.toList)
set_option maxRecDepth 20000 in
set_option maxHeartbeats 4000000 in
theorem rnorm_any (x : GV) (hsz : x.sz ≤ 2000000) (w : World) (ok : Nat → Prop) (cs : Array Value) (hx : LaidV w ok x cs.toList) : Calls Tryz.prog 17 #[.agg cs] w fun e w' => RnOut x w.heap.size e w' ∧ Below w.heap.size w w' := by
  have k12 := rw_two x hsz w ok cs hx
  have k35 := fun (W : World) (hW : Below w.heap.size w W) (hG : Good x) => rn_any _ x 0 (Nat.le_refl _) hsz hG.2.1 W ok cs (hx.conv (fun k hk hl => ⟨hk, hW.block k hl⟩))
  obtain ⟨k, b, n, t, s1, s2, rfl⟩ := cells_of hx
  clear hx hsz
  have m0 : CpAt w #[.int .i64 k, .bool b, .int .i64 n, .string t, s1, s2] ((w.alloc (.cells #[.int .i64 k, .bool b, .int .i64 n, .string t, s1, s2] 25)).alloc (.cells #[.int .i64 0, .bool false, .int .i64 0, .string ⟨#[]⟩, .slice none 0 0, .slice none 0 0] 25)) :=
    ⟨(Below.heap_alloc _ _ _ (by simp)).trans (heap_alloc_new _ _), heap_new1 _ _ _, ((Below.refl _ _).alloc (Nat.le_refl _) _).alloc (by simp) _, by simp⟩
  have q12 : Calls Tryz.prog 12 #[.agg #[.int .i64 k, .bool b, .int .i64 n, .string t, s1, s2]] ((w.alloc (.cells #[.int .i64 k, .bool b, .int .i64 n, .string t, s1, s2] 25)).alloc (.cells #[.int .i64 0, .bool false, .int .i64 0, .string ⟨#[]⟩, .slice none 0 0, .slice none 0 0] 25)) fun e w' => (∃ c : Int, e = .returned (.tuple #[.string ⟨#[]⟩, .int .i64 c]) ∧ c ≠ 0 ∧ Hid (Bad x c) ∧ CpAt w #[.int .i64 k, .bool b, .int .i64 n, .string t, s1, s2] w') ∨ (e = .returned (.tuple #[.string ⟨(txV (nfV x)).toArray⟩, .int .i64 0]) ∧ Hid (Good x) ∧ CpAt w #[.int .i64 k, .bool b, .int .i64 n, .string t, s1, s2] w') := by
    refine (k12 _ m0.b).mono ?_
    rintro e w' (⟨c, h1, h0, h2, h3⟩ | ⟨h1, h2, h3⟩)
    · exact .inl ⟨c, h1, h0, h2, m0.keep (h3.mono (by simp))⟩
    · exact .inr ⟨h1, h2, m0.keep (h3.mono (by simp))⟩
  clear k12 m0
  obtain ⟨T, hT⟩ : ∃ T : ByteArray, ⟨(txV (nfV x)).toArray⟩ = T := ⟨_, rfl⟩
  rw [hT] at q12
  clear hT
  go_enter Tryz.func17, Tryz.ntmps17
  go_wp2_with (first
    | (go_at_call 12; refine q12.mono ?_; rintro e w1 (⟨c, rfl, hc, HB, m1⟩ | ⟨rfl, HB, m1⟩); all_goals (obtain ⟨y0, y1, y2, y3, y4, y5⟩ := box6 m1.v; obtain ⟨z0, z1, z2, z3, z4, z5⟩ := box6 m1.z; have f0 := box_fz m1.z 0; have f1 := box_fz m1.z 1; have f2 := box_fz m1.z 2; have f3 := box_fz m1.z 3; have f4 := box_fz m1.z 4; have f5 := box_fz m1.z 5))
    | (go_at_call 35; refine (k35 _ m1.b HB.out).mono ?_; rintro e w2 ⟨⟨kk, bb, nn, tt, r1, s3, u1, r2, s4, u2, rfl, hlx⟩, h2⟩; have m2 := m1.keep (h2.mono m1.s); obtain ⟨v0, v1, v2, v3, v4, v5⟩ := box6 m2.z; have g0 := box_fz m2.z 0; have g1 := box_fz m2.z 1; have g2 := box_fz m2.z 2; have g3 := box_fz m2.z 3; have g4 := box_fz m2.z 4; have g5 := box_fz m2.z 5))
  · refine bodyPost_ret (v := .tuple #[.agg #[.int .i64 0, .bool false, .int .i64 0, .string ⟨#[]⟩, .slice none 0 0, .slice none 0 0], .int .i64 c]) (by simp [results, Tryz.results17, go_sem, *]) rfl ⟨.inl ⟨c, HB.out, rfl⟩, ?_⟩
    exact (((((m1.b.setCell (p := ⟨w.heap.size + 1, 0, none⟩) (by simp) _).setCell (p := ⟨w.heap.size + 1, 1, none⟩) (by simp) _).setCell (p := ⟨w.heap.size + 1, 2, none⟩) (by simp) _).setCell (p := ⟨w.heap.size + 1, 3, none⟩) (by simp) _).setCell (p := ⟨w.heap.size + 1, 4, none⟩) (by simp) _).setCell (p := ⟨w.heap.size + 1, 5, none⟩) (by simp) _
  · refine bodyPost_ret (v := .tuple #[.agg #[.int .i64 kk, .bool bb, .int .i64 nn, .string tt, .slice r1 s3 u1, .slice r2 s4 u2], .int .i64 0]) (by simp [results, Tryz.results17, go_sem, *]) rfl ⟨.inr ⟨HB.out, _, rfl, ?_⟩, ?_⟩
    · have hs1 := m1.s
      refine hlx.conv (fun b hb hl => ⟨by omega, ?_⟩)
      rw [Below.heap_setCell _ _ _ _ (by simp; omega), Below.heap_setCell _ _ _ _ (by simp; omega), Below.heap_setCell _ _ _ _ (by simp; omega), Below.heap_setCell _ _ _ _ (by simp; omega), Below.heap_setCell _ _ _ _ (by simp; omega), Below.heap_setCell _ _ _ _ (by simp; omega)]
    · exact (((((m2.b.setCell (p := ⟨w.heap.size + 1, 0, none⟩) (by simp) _).setCell (p := ⟨w.heap.size + 1, 1, none⟩) (by simp) _).setCell (p := ⟨w.heap.size + 1, 2, none⟩) (by simp) _).setCell (p := ⟨w.heap.size + 1, 3, none⟩) (by simp) _).setCell (p := ⟨w.heap.size + 1, 4, none⟩) (by simp) _).setCell (p := ⟨w.heap.size + 1, 5, none⟩) (by simp) _
set_option maxRecDepth 20000 in
set_option maxHeartbeats 1000000 in
theorem rsame_any (x y : GV) (hsz : x.sz ≤ 2000000) (hsy : y.sz ≤ 2000000) (w : World) (ok : Nat → Prop) (cs ds : Array Value) (hx : LaidV w ok x cs.toList) (hy : LaidV w ok y ds.toList) :
    Calls Tryz.prog 20 #[.agg cs, .agg ds] w fun e w' => Says' (SameT x y) e ∧ Below w.heap.size w w' := by
  have ka := rw_two x hsz w ok cs hx
  have kb := rw_two y hsy w ok ds hy
  obtain ⟨k, b, n, t, s1, s2, rfl⟩ := cells_of hx
  obtain ⟨k', b', n', t', s1', s2', rfl⟩ := cells_of hy
  clear hx hy hsz hsy
  obtain ⟨A, hA⟩ : ∃ A : ByteArray, ⟨(txV (nfV x)).toArray⟩ = A := ⟨_, rfl⟩
  obtain ⟨B, hB⟩ : ∃ B : ByteArray, ⟨(txV (nfV y)).toArray⟩ = B := ⟨_, rfl⟩
  have HAB : Hid (A = B ↔ txV (nfV x) = txV (nfV y)) := by
    show _ ↔ _
    rw [← hA, ← hB]
    simp
  rw [hA] at ka
  rw [hB] at kb
  have HNX : Hid (∀ c, Bad x c → Says' (SameT x y) (.returned (.bool false))) := fun c h => Says'.of ⟨fun g => (by cases g), fun g => (good_bad g.1 h).elim⟩
  have HNY : Hid (∀ c, Bad y c → Says' (SameT x y) (.returned (.bool false))) := fun c h => Says'.of ⟨fun g => (by cases g), fun g => (good_bad g.2.1 h).elim⟩
  have HYE : Hid (Good x → Good y → Says' (SameT x y) (.returned (.bool (A.toList == B.toList)))) := fun h1 h2 => Says'.of (by
    constructor
    · intro h
      refine ⟨h1, h2, HAB.out.1 ?_⟩
      rw [beq_iff_eq, Lib.toList_data, Lib.toList_data] at h
      exact EncW.bytes_ext h
    · intro h
      rw [HAB.out.2 h.2.2]
      simp)
  clear HAB hA hB
  have m0 : Below w.heap.size w ((w.alloc (.cells #[.int .i64 k, .bool b, .int .i64 n, .string t, s1, s2] 25)).alloc (.cells #[.int .i64 k', .bool b', .int .i64 n', .string t', s1', s2'] 25)) := ((Below.refl _ _).alloc (Nat.le_refl _) _).alloc (by simp) _
  have hbx : ∀ W, Below (w.heap.size + 2) ((w.alloc (.cells #[.int .i64 k, .bool b, .int .i64 n, .string t, s1, s2] 25)).alloc (.cells #[.int .i64 k', .bool b', .int .i64 n', .string t', s1', s2'] 25)) W → W.heap[w.heap.size + 1]? = some (.cells #[.int .i64 k', .bool b', .int .i64 n', .string t', s1', s2'] 25 (0, 0)) := fun W hW => (hW.block _ (by omega)).trans (heap_new1 _ _ _)
  go_enter Tryz.func20, Tryz.ntmps20
  go_wp2_with (first
    | (go_at_call 12; refine (kb _ m1).mono ?_; rintro e w2 (⟨c', rfl, hc', HC, h2⟩ | ⟨rfl, HC, h2⟩); all_goals (have m2 := m1.trans (h2.mono m1.size)))
    | (go_at_call 12; refine (ka _ m0).mono ?_; rintro e w1 (⟨c, rfl, hc, HB, h1⟩ | ⟨rfl, HB, h1⟩); all_goals (have m1 := m0.trans (h1.mono m0.size); obtain ⟨y0, y1, y2, y3, y4, y5⟩ := box6 (hbx w1 (h1.mono (by simp))))))
  · go_ret
    exact ⟨HNX.out c HB.out, m2⟩
  · go_ret
    exact ⟨HNX.out c HB.out, m2⟩
  · go_ret
    exact ⟨HNY.out c' HC.out, m2⟩
  · go_ret
    exact ⟨HYE.out HB.out HC.out, m2⟩
end Dc
end Go.Proofs.YtiakidomcjpdhaaGreatDoor
