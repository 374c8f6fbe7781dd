/- What the reference's Plain does at a sound value of bounded size: a contract, by walking its text, and by induction. What the reference's Plain does at an object: the walk of its loop. What the reference's Plain does at a list: the walk of its loop. -/
import Derived.Test.YtiakidomcjpdhaaGreatDoorGQuo
import Derived.Test.YtiakidomcjpdhaaGreatDoorGObD
import Derived.Test.YtiakidomcjpdhaaGreatDoorGRefD
namespace Go.Proofs.YtiakidomcjpdhaaGreatDoor
open Go.RowKit
namespace PlnW
open SndW

mutual
/-- A value's text behind other bytes, as Plain puts it: nothing more where these are too long already. -/
def plT (g : List UInt8) : GV → List UInt8 → List UInt8
  | .mk k bo n t l f, b =>
    if 65536 < b.length then b else if k = 0 then b ++ [110, 117, 108, 108] else if k = 1 then b ++ (if bo = true then [116, 114, 117, 101] else [102, 97, 108, 115, 101]) else if k = 2 then b ++ figs n else if k = 3 then b ++ quotedB t
    else if k = 4 then plL g l true (b ++ [91]) ++ [93] else plF g f true (b ++ [123]) ++ [125]
def plL (g : List UInt8) : List GV → Bool → List UInt8 → List UInt8
  | [], _, b => b
  | x :: l, first, b => plL g l false (plT g x ((if first = true then b else b ++ [44]) ++ g) ++ g)
def plF (g : List UInt8) : List (ByteArray × GV) → Bool → List UInt8 → List UInt8
  | [], _, b => b
  | x :: l, first, b => plF g l false (plP g x ((if first = true then b else b ++ [44]) ++ g) ++ g)
def plP (g : List UInt8) : ByteArray × GV → List UInt8 → List UInt8
  | (nm, x), b => plT g x (b ++ quotedB nm ++ g ++ [58] ++ g)
end

theorem cells_at (w : World) (l : List Value) (t : TypeId) (N : Nat) (h : w.heap.size = N) : ∀ j u, l[j]? = some u → (w.alloc (.cells l.toArray t)).cell? ((⟨N, 0, none⟩ : Addr).add j) = some u := h ▸ cells_new w l t
theorem digF_len : ∀ (f x : Nat) (acc : List UInt8), (digF f x acc).length ≤ acc.length + f
  | 0, x, acc => by simp [digF]
  | f + 1, x, acc => by
    unfold digF
    split
    · have := digF_len f (x / 10) ((48 + x % 10).toUInt8 :: acc)
      simp only [List.length_cons] at this
      omega
    · omega
theorem figs_len (n : Int) : (figs n).length ≤ 21 := by
  unfold figs
  have := digF_len 20 n.natAbs []
  split
  · simp only [List.length_cons, List.length_nil] at this ⊢
    omega
  · simp only [List.length_nil] at this
    omega
mutual
theorem plT_len (g : List UInt8) (hg : g.length ≤ 5) : ∀ (x : GV) (b : List UInt8), (plT g x b).length + 30 ≤ b.length + 60 * x.sz
  | .mk k bo n t l f, b => by
    have e : (GV.mk k bo n t l f).sz = 1 + t.size + szL l + szF f := by rw [GV.sz]
    rw [e]
    unfold plT
    have h1 := figs_len n
    have h2 := quotedB_len t
    have h3 := plL_len g hg l true (b ++ [91])
    have h4 := plF_len g hg f true (b ++ [123])
    simp only [List.length_append, List.length_cons, List.length_nil] at h3 h4
    repeat' split
    all_goals
      try simp only [List.length_append, List.length_cons, List.length_nil]
      omega
theorem plL_len (g : List UInt8) (hg : g.length ≤ 5) : ∀ (l : List GV) (first : Bool) (b : List UInt8), (plL g l first b).length ≤ b.length + 60 * szL l
  | [], _, b => by simp [plL]
  | x :: l, first, b => by
    unfold plL
    have h1 := plT_len g hg x ((if first = true then b else b ++ [44]) ++ g)
    have h2 := plL_len g hg l false (plT g x ((if first = true then b else b ++ [44]) ++ g) ++ g)
    have h3 : (if first = true then b else b ++ [44]).length ≤ b.length + 1 := by split <;> simp
    simp only [List.length_append, szL] at h1 h2 ⊢
    omega
theorem plF_len (g : List UInt8) (hg : g.length ≤ 5) : ∀ (l : List (ByteArray × GV)) (first : Bool) (b : List UInt8), (plF g l first b).length ≤ b.length + 60 * szF l
  | [], _, b => by simp [plF]
  | x :: l, first, b => by
    unfold plF
    have h1 := plP_len g hg x ((if first = true then b else b ++ [44]) ++ g)
    have h2 := plF_len g hg l false (plP g x ((if first = true then b else b ++ [44]) ++ g) ++ g)
    have h3 : (if first = true then b else b ++ [44]).length ≤ b.length + 1 := by split <;> simp
    simp only [List.length_append, szF] at h1 h2 ⊢
    omega
theorem plP_len (g : List UInt8) (hg : g.length ≤ 5) : ∀ (x : ByteArray × GV) (b : List UInt8), (plP g x b).length + 17 ≤ b.length + 60 * szP x
  | (nm, x), b => by
    unfold plP
    have h1 := plT_len g hg x (b ++ quotedB nm ++ g ++ [58] ++ g)
    have h2 := quotedB_len nm
    simp only [List.length_append, List.length_cons, List.length_nil, szP] at h1 ⊢
    omega
end

/-- What is asked of Plain at one value. -/
def PlainAt (x : GV) : Prop := ∀ (base : Nat) (w : World) (v : Value) (bs : List UInt8) (cs : Array Value) (gap : ByteArray) (d : Int), RowB base w v bs → base ≤ w.heap.size → LaidV w (fun b => b < base) x cs.toList → sndV x d = true → bs.length + 60 * x.sz ≤ 500000000 → gap.size ≤ 5 →
  Calls Tryz.prog 47 #[v, .agg cs, .string gap] w fun e w' => ∃ v', e = .returned v' ∧ RowB base w' v' (plT gap.data.toList x bs) ∧ Bw base w w'

set_option maxRecDepth 20000 in
set_option maxHeartbeats 4000000 in
theorem plain_small (k : Int) (b : Bool) (n : Int) (t : ByteArray) (l : List GV) (f : List (ByteArray × GV)) (hk : k ≠ 4 ∧ k ≠ 5) : PlainAt (.mk k b n t l f) := by
  intro base w v bs cs gap d hrow0 hbase hx hsn hlen hgap
  obtain ⟨i0, hi, hz0, hz1, hz2⟩ := info_parts info5
  obtain ⟨a1, c1, a2, c2, xs, ys, hcs, hs1, hs2, hl1, hf1⟩ := hx.form
  obtain rfl : cs = #[.int .i64 k, .bool b, .int .i64 n, .string t, .slice a1 l.length c1, .slice a2 f.length c2] := by
    cases cs
    simpa using hcs
  clear hcs hx
  have e : (GV.mk k b n t l f).sz = 1 + t.size + szL l + szF f := by rw [GV.sz]
  rw [e] at hlen
  clear e
  have hgl : Hid (gap.size = gap.data.toList.length) := Lib.size_eq gap
  have hg5 : gap.data.toList.length ≤ 5 := by rw [← Lib.size_eq]; exact hgap
  have v0 : (w.alloc (.cells #[.int .i64 k, .bool b, .int .i64 n, .string t, .slice a1 l.length c1, .slice a2 f.length c2] 25)).heap[w.heap.size]? = some (.cells #[.int .i64 k, .bool b, .int .i64 n, .string t, .slice a1 l.length c1, .slice a2 f.length c2] 25 (0, 0)) := heap_alloc_new _ _
  have bw0 : Bw base w (w.alloc (.cells #[.int .i64 k, .bool b, .int .i64 n, .string t, .slice a1 l.length c1, .slice a2 f.length c2] 25)) := (Bw.refl _ _).alloc _
  have r0 : RowB base (w.alloc (.cells #[.int .i64 k, .bool b, .int .i64 n, .string t, .slice a1 l.length c1, .slice a2 f.length c2] 25)) v bs := hrow0.kept ((Below.refl _ _).alloc (Nat.le_refl _) _)
  obtain ⟨ra, rc, rfl⟩ := hrow0.form
  obtain ⟨x0, x1, x2, x3, x4, x5⟩ := box6 v0
  clear hs1 hs2 hl1 hf1
  by_cases hlong : 65536 < bs.length
  · have hE : plT gap.data.toList (.mk k b n t l f) bs = bs := by unfold plT; rw [if_pos hlong]
    have hl' : (65536 : Int) < (bs.length : Int) := by omega
    rw [hE]
    clear hE
    go_enter Tryz.func47, Tryz.ntmps47
    go_wp2
    go_ret
    exact ⟨_, rfl, r0, bw0⟩
  have hl' : ¬ (65536 : Int) < (bs.length : Int) := by omega
  by_cases h0 : k = 0
  · have hE : plT gap.data.toList (.mk k b n t l f) bs = bs ++ [110, 117, 108, 108] := by unfold plT; rw [if_neg hlong, if_pos h0]
    rw [hE]
    subst h0
    clear hE
    go_enter Tryz.func47, Tryz.ntmps47
    go_wp2_with (at_builtin; refine Lib.wpList_append_own_string _ rfl _ _ 49 9 rfl base 5 i0 Tryz.underlying49 Tryz.underlying9 hi hz0 hz1 hz2 _ _ _ rfl r0 ⟨#[110, 117, 108, 108]⟩ rfl (by show bs.length + 4 ≤ maxLen; unfold maxLen; omega) (by show bs.length + 4 ≤ 140737488355328; omega) (by have := bw0.size; omega) ?_; intro v1 w1 ho hg hnn; have bw1 := bw0.trans (RowB.grown r0 hg); have r1 : RowB base w1 v1 (bs ++ [110, 117, 108, 108]) := RowB.more ho (by rfl) rfl; clear ho hg hnn r0 bw0)
    go_ret
    exact ⟨_, rfl, r1, bw1⟩
  by_cases h1 : k = 1
  · subst h1
    cases b with
    | true =>
      have hE : plT gap.data.toList (.mk 1 true n t l f) bs = bs ++ [116, 114, 117, 101] := by unfold plT; rw [if_neg hlong, if_neg (by decide), if_pos rfl, if_pos rfl]
      rw [hE]
      clear hE
      go_enter Tryz.func47, Tryz.ntmps47
      go_wp2_with (at_builtin; refine Lib.wpList_append_own_string _ rfl _ _ 49 9 rfl base 5 i0 Tryz.underlying49 Tryz.underlying9 hi hz0 hz1 hz2 _ _ _ rfl r0 ⟨#[116, 114, 117, 101]⟩ rfl (by show bs.length + 4 ≤ maxLen; unfold maxLen; omega) (by show bs.length + 4 ≤ 140737488355328; omega) (by have := bw0.size; omega) ?_; intro v1 w1 ho hg hnn; have bw1 := bw0.trans (RowB.grown r0 hg); have r1 : RowB base w1 v1 (bs ++ [116, 114, 117, 101]) := RowB.more ho (by rfl) rfl; clear ho hg hnn r0 bw0)
      go_ret
      exact ⟨_, rfl, r1, bw1⟩
    | false =>
      have hE : plT gap.data.toList (.mk 1 false n t l f) bs = bs ++ [102, 97, 108, 115, 101] := by unfold plT; rw [if_neg hlong, if_neg (by decide), if_pos rfl, if_neg (by decide)]
      rw [hE]
      clear hE
      go_enter Tryz.func47, Tryz.ntmps47
      go_wp2_with (at_builtin; refine Lib.wpList_append_own_string _ rfl _ _ 49 9 rfl base 5 i0 Tryz.underlying49 Tryz.underlying9 hi hz0 hz1 hz2 _ _ _ rfl r0 ⟨#[102, 97, 108, 115, 101]⟩ rfl (by show bs.length + 5 ≤ maxLen; unfold maxLen; omega) (by show bs.length + 5 ≤ 140737488355328; omega) (by have := bw0.size; omega) ?_; intro v1 w1 ho hg hnn; have bw1 := bw0.trans (RowB.grown r0 hg); have r1 : RowB base w1 v1 (bs ++ [102, 97, 108, 115, 101]) := RowB.more ho (by rfl) rfl; clear ho hg hnn r0 bw0)
      go_ret
      exact ⟨_, rfl, r1, bw1⟩
  by_cases h2 : k = 2
  · subst h2
    have hE : plT gap.data.toList (.mk 2 b n t l f) bs = bs ++ figs n := by unfold plT; rw [if_neg hlong, if_neg (by decide), if_neg (by decide), if_pos rfl]
    rw [hE]
    have hn : -9007199254740991 ≤ n ∧ n ≤ 9007199254740991 := by
      simp [sndV] at hsn
      omega
    have hfl := figs_len n
    have cF := fun W => figs_any n W hn
    clear hE
    have hfs : (⟨(figs n).toArray⟩ : ByteArray).size = (figs n).length := by rw [Lib.size_eq]
    go_enter Tryz.func47, Tryz.ntmps47
    go_wp2_with (first
      | (go_at_call 72; refine (cF _).mono ?_; rintro e w1 ⟨rfl, hb1⟩; clear cF; have bw1 := bw0.trans (Bw.of_below hb1); have r1 := r0.kept hb1; clear r0 bw0 hb1)
      | (at_builtin; refine Lib.wpList_append_own_string _ rfl _ _ 49 9 rfl base 5 i0 Tryz.underlying49 Tryz.underlying9 hi hz0 hz1 hz2 _ _ _ rfl r1 ⟨(figs n).toArray⟩ rfl (by rw [hfs]; unfold maxLen; omega) (by rw [hfs]; omega) (by have := bw1.size; omega) ?_; intro v2 w2 ho hg hnn; have bw2 := bw1.trans (RowB.grown r1 hg); have r2 : RowB base w2 v2 (bs ++ figs n) := RowB.more ho hfs rfl; clear ho hg hnn r1 bw1))
    go_ret
    exact ⟨_, rfl, r2, bw2⟩
  by_cases h3 : k = 3
  · subst h3
    have hE : plT gap.data.toList (.mk 3 b n t l f) bs = bs ++ quotedB t := by unfold plT; rw [if_neg hlong, if_neg (by decide), if_neg (by decide), if_neg (by decide), if_pos rfl]
    rw [hE]
    have cQ := quoted_put base _ _ _ t r0 (by have := bw0.size; omega) (by omega)
    clear hE
    go_enter Tryz.func47, Tryz.ntmps47
    go_wp2_with (go_at_call 73; refine cQ.mono ?_; rintro e w1 ⟨v1, rfl, r1, hb1⟩; clear cQ; have bw1 := bw0.trans hb1)
    go_ret
    exact ⟨_, rfl, r1, bw1⟩
  · exfalso
    simp [sndV, h0, h1, h2, h3, hk.1, hk.2] at hsn
end PlnW
end Go.Proofs.YtiakidomcjpdhaaGreatDoor

namespace Go.Proofs.YtiakidomcjpdhaaGreatDoor
open Go.RowKit
namespace PlnW
open SndW

set_option maxRecDepth 20000 in
set_option maxHeartbeats 8000000 in
theorem plain_f (b : Bool) (n : Int) (t : ByteArray) (l : List GV) (f : List (ByteArray × GV)) (hl : ∀ i (h : i < f.length), PlainAt (f[i]).2) : PlainAt (.mk 5 b n t l f) := by
  intro base w v bs cs gap d hrow0 hbase hx hsn hlen hgap
  obtain ⟨i0, hi, hz0, hz1, hz2⟩ := info_parts info5
  obtain ⟨a1, c1, a2, c2, xs, ys, hcs, hs1, hs2, hl1, hf1⟩ := hx.form
  obtain rfl : cs = #[.int .i64 5, .bool b, .int .i64 n, .string t, .slice a1 l.length c1, .slice a2 f.length c2] := by
    cases cs
    simpa using hcs
  clear hcs hx
  have e : (GV.mk 5 b n t l f).sz = 1 + t.size + szL l + szF f := by rw [GV.sz]
  rw [e] at hlen
  clear e
  have hgl : Hid (gap.size = gap.data.toList.length) := Lib.size_eq gap
  have hg5 : gap.data.toList.length ≤ 5 := by rw [← Lib.size_eq]; exact hgap
  have v0 : (w.alloc (.cells #[.int .i64 5, .bool b, .int .i64 n, .string t, .slice a1 l.length c1, .slice a2 f.length c2] 25)).heap[w.heap.size]? = some (.cells #[.int .i64 5, .bool b, .int .i64 n, .string t, .slice a1 l.length c1, .slice a2 f.length c2] 25 (0, 0)) := heap_alloc_new _ _
  have bw0 : Bw base w (w.alloc (.cells #[.int .i64 5, .bool b, .int .i64 n, .string t, .slice a1 l.length c1, .slice a2 f.length c2] 25)) := (Bw.refl _ _).alloc _
  have r0 : RowB base (w.alloc (.cells #[.int .i64 5, .bool b, .int .i64 n, .string t, .slice a1 l.length c1, .slice a2 f.length c2] 25)) v bs := hrow0.kept ((Below.refl _ _).alloc (Nat.le_refl _) _)
  obtain ⟨ra, rc, rfl⟩ := hrow0.form
  obtain ⟨x0, x1, x2, x3, x4, x5⟩ := box6 v0
  have hsn2 : sndF f (d - 1) = true := by simp [sndV] at hsn; exact hsn.1.1
  have hll : f.length ≤ 500000000 := by have := szL_len l; have := szF_len f; omega
  clear hsn
  by_cases hlong : 65536 < bs.length
  · have hE : plT gap.data.toList (.mk 5 b n t l f) bs = bs := by unfold plT; rw [if_pos hlong]
    have hl' : (65536 : Int) < (bs.length : Int) := by omega
    rw [hE]
    clear hE hl
    go_enter Tryz.func47, Tryz.ntmps47
    go_wp2
    go_ret
    exact ⟨_, rfl, r0, bw0⟩
  have hl' : ¬ (65536 : Int) < (bs.length : Int) := by omega
  have hE : plT gap.data.toList (.mk 5 b n t l f) bs = plF gap.data.toList f true (bs ++ [123]) ++ [125] := by unfold plT; rw [if_neg hlong, if_neg (by decide), if_neg (by decide), if_neg (by decide), if_neg (by decide), if_neg (by decide)]
  rw [hE]
  clear hE
  obtain ⟨T, hT⟩ : ∃ T, plF gap.data.toList f true (bs ++ [123]) = T := ⟨_, rfl⟩
  have HT : Hid (plF gap.data.toList f true (bs ++ [123]) = T) := hT
  rw [hT]
  clear hT
  have bwS := bw0
  have bwZ : Bw base (w.alloc (.cells #[.int .i64 5, .bool b, .int .i64 n, .string t, .slice a1 l.length c1, .slice a2 f.length c2] 25)) (w.alloc (.cells #[.int .i64 5, .bool b, .int .i64 n, .string t, .slice a1 l.length c1, .slice a2 f.length c2] 25)) := Bw.refl _ _
  have hbase0 : base ≤ (w.alloc (.cells #[.int .i64 5, .bool b, .int .i64 n, .string t, .slice a1 l.length c1, .slice a2 f.length c2] 25)).heap.size := by have := bw0.size; omega
  clear bw0
  go_enter Tryz.func47, Tryz.ntmps47
  go_wp2_with (at_builtin; refine wpList_append_own _ rfl _ _ 49 rfl base 5 i0 (.int .u8 0) 1 1 Tryz.underlying49 hi hz0 hz1 hz2 rfl (by decide) _ _ _ rfl (RowB.kept r0 ((Below.refl _ _).alloc (Nat.le_refl _) _)) ⟨_, 0, none⟩ 1 1 [.int .u8 123] rfl rfl (cells_at _ _ _ _ (by simp)) (by simp [Value.oneCell']) (by (try simp only [List.length_append, List.length_cons, List.length_nil]); unfold maxLen; omega) (by (try simp only [List.length_append, List.length_cons, List.length_nil]); omega) (by have := bwZ.size; simp; omega) ?_; intro v1 w1 ho hg hnn; have bw1 := (bwZ.alloc _).trans (RowB.grown (RowB.kept r0 ((Below.refl _ _).alloc (Nat.le_refl _) _)) hg); have r1 : RowB base w1 v1 (bs ++ [123]) := RowB.more ho rfl rfl; clear ho hg hnn r0 bwZ)
  clear x0 x1 x2 x3 x4 x5
  go_loopw [0, 8] (fun v u w' => ∃ (i : Nat) (bi : List UInt8), u = .int .i64 (i : Int) ∧ i ≤ f.length ∧ RowB base w' v bi ∧ Bw base (w.alloc (.cells #[.int .i64 5, .bool b, .int .i64 n, .string t, .slice a1 l.length c1, .slice a2 f.length c2] 25)) w' ∧ Hid (plF gap.data.toList (f.drop i) (decide (i = 0)) bi = T) ∧ bi.length + 60 * szF (f.drop i) + 30 ≤ 500000000) (fun _ u _ => f.length - numOfF u)
  case atStart => exact ⟨0, _, rfl, Nat.zero_le _, r1, bw1, HT, by simp only [List.length_append, List.length_cons, List.length_nil, List.drop_zero]; omega⟩
  case round =>
    obtain ⟨i, bi, rfl, hil, r0, bw0, HI, hbd⟩ := hrel
    clear r1 bw1 HT
    have hsz0 := bw0.size
    have mm := Bw.keep bw0 (by decide) v0
    have xx := (box6 mm).2.2.2.2.2
    by_cases hlt : i < f.length
    · have hlt' : (i : Int) < (f.length : Int) := by omega
      have hbel : Below base w wr := (bwS.below hbase).trans (bw0.below hbase0)
      obtain ⟨sb, off, es, ha, hsb, hlv, hname, hcell⟩ := SlAt.field (ok := fun b => b < base) (hs2.conv (by decide) (fun b hb _ => ⟨hb, hbel.block b hb⟩)) (hf1.conv (fun b hb _ => ⟨hb, hbel.block b hb⟩)) i hlt
      have hcp := hl i hlt
      have hsnd := (sndF_get.1 hsn2 i hlt).2
      have hdrop := List.drop_eq_getElem_cons hlt
      obtain ⟨⟨nm, X⟩, hX⟩ : ∃ X, f[i] = X := ⟨_, rfl⟩
      simp only [hX] at hlv hcp hsnd hdrop hname
      rw [hdrop] at hbd HI
      have hbd2 : bi.length + 60 * (nm.size + X.sz) + 60 * szF (f.drop (i + 1)) + 30 ≤ 500000000 := by simp only [szF, szP] at hbd; omega
      clear hbd hX
      cases hXc : X with
      | mk k' b' n' t' l' f' =>
      rw [hXc] at hlv
      obtain ⟨p1, q1, p2, q2, _, _, rfl, _⟩ := hlv.form
      rw [← hXc] at hlv
      subst ha
      have e0 := hcell 0 (by decide)
      have e1 := hcell 1 (by decide)
      have e2 := hcell 2 (by decide)
      have e3 := hcell 3 (by decide)
      have e4 := hcell 4 (by decide)
      have e5 := hcell 5 (by decide)
      simp only [List.getElem?_cons_zero, List.getElem?_cons_succ, Nat.add_zero, Nat.reduceAdd] at e0 e1 e2 e3 e4 e5
      have gP : ∀ W1 v1 B1, Bw base (w.alloc (.cells #[.int .i64 5, .bool b, .int .i64 n, .string t, .slice a1 l.length c1, .slice (some ⟨sb, off, none⟩) f.length c2] 25)) W1 → RowB base W1 v1 B1 → B1.length + 60 * X.sz ≤ 500000000 → Calls Tryz.prog 47 #[v1, .agg #[.int .i64 k', .bool b', .int .i64 n', .string t', .slice p1 l'.length q1, .slice p2 f'.length q2], .string gap] W1 fun e w' => ∃ v', e = .returned v' ∧ RowB base w' v' (plT gap.data.toList X B1) ∧ Bw base W1 w' := fun W1 v1 B1 h1 h2 h3 =>
        hcp base W1 v1 B1 #[.int .i64 k', .bool b', .int .i64 n', .string t', .slice p1 l'.length q1, .slice p2 f'.length q2] gap (d - 1) h2 (by have := h1.size; omega) (hlv.conv (w' := W1) (fun b hb _ => ⟨hb, by rw [(h1.below hbase0).block b hb, (bw0.below hbase0).block b hb]⟩)) hsnd h3 hgap
      have gX : ∀ W1, Bw base (w.alloc (.cells #[.int .i64 5, .bool b, .int .i64 n, .string t, .slice a1 l.length c1, .slice (some ⟨sb, off, none⟩) f.length c2] 25)) W1 → W1.cell? ⟨w.heap.size, 5, none⟩ = some (.slice (some ⟨sb, off, none⟩) f.length c2) := fun W1 h1 => (box6 (Bw.keep h1 (by decide) v0)).2.2.2.2.2
      have gC : ∀ W1, Bw base (w.alloc (.cells #[.int .i64 5, .bool b, .int .i64 n, .string t, .slice a1 l.length c1, .slice (some ⟨sb, off, none⟩) f.length c2] 25)) W1 → ∀ o, W1.cell? ⟨sb, o, none⟩ = wr.cell? ⟨sb, o, none⟩ := fun W1 h1 o => ((h1.below hbase0).cell (p := ⟨sb, o, none⟩) hsb).trans ((bw0.below hbase0).cell (p := ⟨sb, o, none⟩) hsb).symm
      clear hcell hXc hlv hcp hdrop hl mm hbel hsnd hsn2 hs1 hs2 hl1 hf1
      by_cases hi0 : i = 0
      · have hip : ¬ (0 : Int) < (i : Int) := by omega
        have hpl := plT_len gap.data.toList hg5 X (bi ++ gap.data.toList ++ quotedB nm ++ gap.data.toList ++ [58] ++ gap.data.toList)
        have hql := quotedB_len nm
        simp only [List.length_append, List.length_cons, List.length_nil] at hpl
        have HE : Hid (plF gap.data.toList (f.drop (i + 1)) (decide (i + 1 = 0)) (plT gap.data.toList X (bi ++ gap.data.toList ++ quotedB nm ++ gap.data.toList ++ [58] ++ gap.data.toList) ++ gap.data.toList) = T) := by
          show _ = _
          rw [← HI.out, decide_eq_true hi0, plF, plP]
          simp
        clear HI hi0
        go_wp2_with (first
          | (at_builtin; refine Lib.wpList_append_own_string _ rfl _ _ 49 9 rfl base 5 i0 Tryz.underlying49 Tryz.underlying9 hi hz0 hz1 hz2 _ _ _ rfl r0 gap rfl (by (try simp only [List.length_append, List.length_cons, List.length_nil]); unfold maxLen; omega) (by (try simp only [List.length_append, List.length_cons, List.length_nil]); omega) (by have := bw0.size; omega) ?_; intro vB wB ho hg hnn; have bwB := bw0.trans (RowB.grown r0 hg); have rB : RowB base wB vB (bi ++ gap.data.toList) := RowB.more ho hgl.out rfl; clear ho hg hnn r0 bw0; have zz := gX wB bwB; have yn := (gC wB bwB (off + i * 7)).trans hname; have cQ := quoted_put base wB vB _ nm rB (by have := bwB.size; omega) (by (try simp only [List.length_append]); omega))
          | (go_at_call 73; refine cQ.mono ?_; rintro e wQ ⟨vQ, rfl, rQ, hbQ⟩; clear cQ; have bwQ := bwB.trans hbQ; clear rB bwB hbQ zz yn)
          | (at_builtin; refine Lib.wpList_append_own_string _ rfl _ _ 49 9 rfl base 5 i0 Tryz.underlying49 Tryz.underlying9 hi hz0 hz1 hz2 _ _ _ rfl rQ gap rfl (by (try simp only [List.length_append]); unfold maxLen; omega) (by (try simp only [List.length_append]); omega) (by have := bwQ.size; omega) ?_; intro vR wR ho hg hnn; have bwR := bwQ.trans (RowB.grown rQ hg); have rR : RowB base wR vR (bi ++ gap.data.toList ++ quotedB nm ++ gap.data.toList) := RowB.more ho hgl.out rfl; clear ho hg hnn rQ bwQ)
          | (at_builtin; refine wpList_append_own _ rfl _ _ 49 rfl base 5 i0 (.int .u8 0) 1 1 Tryz.underlying49 hi hz0 hz1 hz2 rfl (by decide) _ _ _ rfl (RowB.kept rR ((Below.refl _ _).alloc (Nat.le_refl _) _)) ⟨_, 0, none⟩ 1 1 [.int .u8 58] rfl rfl (cells_at _ _ _ _ (by simp)) (by simp [Value.oneCell']) (by (try simp only [List.length_append]); unfold maxLen; omega) (by (try simp only [List.length_append]); omega) (by have := bwR.size; simp; omega) ?_; intro vS wS ho hg hnn; have bwS2 := (bwR.alloc _).trans (RowB.grown (RowB.kept rR ((Below.refl _ _).alloc (Nat.le_refl _) _)) hg); have rS : RowB base wS vS (bi ++ gap.data.toList ++ quotedB nm ++ gap.data.toList ++ [58]) := RowB.more ho rfl rfl; clear ho hg hnn rR bwR)
          | (at_builtin; refine Lib.wpList_append_own_string _ rfl _ _ 49 9 rfl base 5 i0 Tryz.underlying49 Tryz.underlying9 hi hz0 hz1 hz2 _ _ _ rfl rS gap rfl (by (try simp only [List.length_append, List.length_cons, List.length_nil]); unfold maxLen; omega) (by (try simp only [List.length_append, List.length_cons, List.length_nil]); omega) (by have := bwS2.size; omega) ?_; intro vT wT ho hg hnn; have bwT := bwS2.trans (RowB.grown rS hg); have rT : RowB base wT vT (bi ++ gap.data.toList ++ quotedB nm ++ gap.data.toList ++ [58] ++ gap.data.toList) := RowB.more ho hgl.out rfl; clear ho hg hnn rS bwS2; have zz := gX wT bwT; have y0 := (gC wT bwT (off + i * 7 + 1)).trans e0; have y1 := (gC wT bwT (off + i * 7 + 2)).trans e1; have y2 := (gC wT bwT (off + i * 7 + 3)).trans e2; have y3 := (gC wT bwT (off + i * 7 + 4)).trans e3; have y4 := (gC wT bwT (off + i * 7 + 5)).trans e4; have y5 := (gC wT bwT (off + i * 7 + 6)).trans e5; have cP := gP wT vT _ bwT rT (by (try simp only [List.length_append, List.length_cons, List.length_nil]); omega))
          | (go_at_call 47; refine cP.mono ?_; rintro e wC ⟨vC, rfl, rC, hbC⟩; clear cP; have bwC := bwT.trans hbC; clear rT bwT hbC zz y0 y1 y2 y3 y4 y5)
          | (at_builtin; refine Lib.wpList_append_own_string _ rfl _ _ 49 9 rfl base 5 i0 Tryz.underlying49 Tryz.underlying9 hi hz0 hz1 hz2 _ _ _ rfl rC gap rfl (by (try simp only [List.length_append, List.length_cons, List.length_nil]); unfold maxLen; omega) (by (try simp only [List.length_append, List.length_cons, List.length_nil]); omega) (by have := bwC.size; omega) ?_; intro vD wD ho hg hnn; have bwD := bwC.trans (RowB.grown rC hg); have rD : RowB base wD vD (plT gap.data.toList X (bi ++ gap.data.toList ++ quotedB nm ++ gap.data.toList ++ [58] ++ gap.data.toList) ++ gap.data.toList) := RowB.more ho hgl.out rfl; clear ho hg hnn rC bwC))
        go_roundw
        case rel => exact ⟨i + 1, _, by simp, by omega, rD, bwD, HE, by (try simp only [List.length_append]); omega⟩
        case measure => simp [numOfF]; omega
      · have hip : (0 : Int) < (i : Int) := by omega
        have hpl := plT_len gap.data.toList hg5 X (bi ++ [44] ++ gap.data.toList ++ quotedB nm ++ gap.data.toList ++ [58] ++ gap.data.toList)
        have hql := quotedB_len nm
        simp only [List.length_append, List.length_cons, List.length_nil] at hpl
        have HE : Hid (plF gap.data.toList (f.drop (i + 1)) (decide (i + 1 = 0)) (plT gap.data.toList X (bi ++ [44] ++ gap.data.toList ++ quotedB nm ++ gap.data.toList ++ [58] ++ gap.data.toList) ++ gap.data.toList) = T) := by
          show _ = _
          rw [← HI.out, decide_eq_false hi0, plF, plP]
          simp
        clear HI hi0
        go_wp2_with (first
          | (at_builtin; refine wpList_append_own _ rfl _ _ 49 rfl base 5 i0 (.int .u8 0) 1 1 Tryz.underlying49 hi hz0 hz1 hz2 rfl (by decide) _ _ _ rfl (RowB.kept r0 ((Below.refl _ _).alloc (Nat.le_refl _) _)) ⟨_, 0, none⟩ 1 1 [.int .u8 44] rfl rfl (cells_at _ _ _ _ (by simp)) (by simp [Value.oneCell']) (by (try simp only [List.length_append, List.length_cons, List.length_nil]); unfold maxLen; omega) (by (try simp only [List.length_append, List.length_cons, List.length_nil]); omega) (by have := bw0.size; simp; omega) ?_; intro vA wA ho hg hnn; have bwA := (bw0.alloc _).trans (RowB.grown (RowB.kept r0 ((Below.refl _ _).alloc (Nat.le_refl _) _)) hg); have rA : RowB base wA vA (bi ++ [44]) := RowB.more ho rfl rfl; clear ho hg hnn r0 bw0)
          | (at_builtin; refine Lib.wpList_append_own_string _ rfl _ _ 49 9 rfl base 5 i0 Tryz.underlying49 Tryz.underlying9 hi hz0 hz1 hz2 _ _ _ rfl rA gap rfl (by (try simp only [List.length_append, List.length_cons, List.length_nil]); unfold maxLen; omega) (by (try simp only [List.length_append, List.length_cons, List.length_nil]); omega) (by have := bwA.size; omega) ?_; intro vB wB ho hg hnn; have bwB := bwA.trans (RowB.grown rA hg); have rB : RowB base wB vB (bi ++ [44] ++ gap.data.toList) := RowB.more ho hgl.out rfl; clear ho hg hnn rA bwA; have zz := gX wB bwB; have yn := (gC wB bwB (off + i * 7)).trans hname; have cQ := quoted_put base wB vB _ nm rB (by have := bwB.size; omega) (by (try simp only [List.length_append, List.length_cons, List.length_nil]); omega))
          | (go_at_call 73; refine cQ.mono ?_; rintro e wQ ⟨vQ, rfl, rQ, hbQ⟩; clear cQ; have bwQ := bwB.trans hbQ; clear rB bwB hbQ zz yn)
          | (at_builtin; refine Lib.wpList_append_own_string _ rfl _ _ 49 9 rfl base 5 i0 Tryz.underlying49 Tryz.underlying9 hi hz0 hz1 hz2 _ _ _ rfl rQ gap rfl (by (try simp only [List.length_append, List.length_cons, List.length_nil]); unfold maxLen; omega) (by (try simp only [List.length_append, List.length_cons, List.length_nil]); omega) (by have := bwQ.size; omega) ?_; intro vR wR ho hg hnn; have bwR := bwQ.trans (RowB.grown rQ hg); have rR : RowB base wR vR (bi ++ [44] ++ gap.data.toList ++ quotedB nm ++ gap.data.toList) := RowB.more ho hgl.out rfl; clear ho hg hnn rQ bwQ)
          | (at_builtin; refine wpList_append_own _ rfl _ _ 49 rfl base 5 i0 (.int .u8 0) 1 1 Tryz.underlying49 hi hz0 hz1 hz2 rfl (by decide) _ _ _ rfl (RowB.kept rR ((Below.refl _ _).alloc (Nat.le_refl _) _)) ⟨_, 0, none⟩ 1 1 [.int .u8 58] rfl rfl (cells_at _ _ _ _ (by simp)) (by simp [Value.oneCell']) (by (try simp only [List.length_append, List.length_cons, List.length_nil]); unfold maxLen; omega) (by (try simp only [List.length_append, List.length_cons, List.length_nil]); omega) (by have := bwR.size; simp; omega) ?_; intro vS wS ho hg hnn; have bwS2 := (bwR.alloc _).trans (RowB.grown (RowB.kept rR ((Below.refl _ _).alloc (Nat.le_refl _) _)) hg); have rS : RowB base wS vS (bi ++ [44] ++ gap.data.toList ++ quotedB nm ++ gap.data.toList ++ [58]) := RowB.more ho rfl rfl; clear ho hg hnn rR bwR)
          | (at_builtin; refine Lib.wpList_append_own_string _ rfl _ _ 49 9 rfl base 5 i0 Tryz.underlying49 Tryz.underlying9 hi hz0 hz1 hz2 _ _ _ rfl rS gap rfl (by (try simp only [List.length_append, List.length_cons, List.length_nil]); unfold maxLen; omega) (by (try simp only [List.length_append, List.length_cons, List.length_nil]); omega) (by have := bwS2.size; omega) ?_; intro vT wT ho hg hnn; have bwT := bwS2.trans (RowB.grown rS hg); have rT : RowB base wT vT (bi ++ [44] ++ gap.data.toList ++ quotedB nm ++ gap.data.toList ++ [58] ++ gap.data.toList) := RowB.more ho hgl.out rfl; clear ho hg hnn rS bwS2; have zz := gX wT bwT; have y0 := (gC wT bwT (off + i * 7 + 1)).trans e0; have y1 := (gC wT bwT (off + i * 7 + 2)).trans e1; have y2 := (gC wT bwT (off + i * 7 + 3)).trans e2; have y3 := (gC wT bwT (off + i * 7 + 4)).trans e3; have y4 := (gC wT bwT (off + i * 7 + 5)).trans e4; have y5 := (gC wT bwT (off + i * 7 + 6)).trans e5; have cP := gP wT vT _ bwT rT (by (try simp only [List.length_append, List.length_cons, List.length_nil]); omega))
          | (go_at_call 47; refine cP.mono ?_; rintro e wC ⟨vC, rfl, rC, hbC⟩; clear cP; have bwC := bwT.trans hbC; clear rT bwT hbC zz y0 y1 y2 y3 y4 y5)
          | (at_builtin; refine Lib.wpList_append_own_string _ rfl _ _ 49 9 rfl base 5 i0 Tryz.underlying49 Tryz.underlying9 hi hz0 hz1 hz2 _ _ _ rfl rC gap rfl (by (try simp only [List.length_append, List.length_cons, List.length_nil]); unfold maxLen; omega) (by (try simp only [List.length_append, List.length_cons, List.length_nil]); omega) (by have := bwC.size; omega) ?_; intro vD wD ho hg hnn; have bwD := bwC.trans (RowB.grown rC hg); have rD : RowB base wD vD (plT gap.data.toList X (bi ++ [44] ++ gap.data.toList ++ quotedB nm ++ gap.data.toList ++ [58] ++ gap.data.toList) ++ gap.data.toList) := RowB.more ho hgl.out rfl; clear ho hg hnn rC bwC))
        go_roundw
        case rel => exact ⟨i + 1, _, by simp, by omega, rD, bwD, HE, by (try simp only [List.length_append]); omega⟩
        case measure => simp [numOfF]; omega
    · have hlt' : ¬ (i : Int) < (f.length : Int) := by omega
      have HE : bi = T := by
        rw [← HI.out, List.drop_eq_nil_of_le (by omega), plF]
      have hbd3 : bi.length ≤ 500000000 := by omega
      clear HI hl
      go_wp2_with (at_builtin; refine wpList_append_own _ rfl _ _ 49 rfl base 5 i0 (.int .u8 0) 1 1 Tryz.underlying49 hi hz0 hz1 hz2 rfl (by decide) _ _ _ rfl (RowB.kept r0 ((Below.refl _ _).alloc (Nat.le_refl _) _)) ⟨_, 0, none⟩ 1 1 [.int .u8 125] rfl rfl (cells_at _ _ _ _ (by simp)) (by simp [Value.oneCell']) (by (try simp only [List.length_append, List.length_cons, List.length_nil]); unfold maxLen; omega) (by (try simp only [List.length_append, List.length_cons, List.length_nil]); omega) (by have := bw0.size; simp; omega) ?_; intro vA wA ho hg hnn; have bwA := (bw0.alloc _).trans (RowB.grown (RowB.kept r0 ((Below.refl _ _).alloc (Nat.le_refl _) _)) hg); have rA : RowB base wA vA (bi ++ [125]) := RowB.more ho rfl rfl; clear ho hg hnn r0 bw0)
      go_ret
      rw [← HE]
      exact ⟨_, rfl, rA, bwS.trans bwA⟩
end PlnW
end Go.Proofs.YtiakidomcjpdhaaGreatDoor

namespace Go.Proofs.YtiakidomcjpdhaaGreatDoor
open Go.RowKit
namespace PlnW
open SndW

set_option maxRecDepth 20000 in
set_option maxHeartbeats 8000000 in
theorem plain_l (b : Bool) (n : Int) (t : ByteArray) (l : List GV) (f : List (ByteArray × GV)) (hl : ∀ i (h : i < l.length), PlainAt (l[i])) : PlainAt (.mk 4 b n t l f) := by
  intro base w v bs cs gap d hrow0 hbase hx hsn hlen hgap
  obtain ⟨i0, hi, hz0, hz1, hz2⟩ := info_parts info5
  obtain ⟨a1, c1, a2, c2, xs, ys, hcs, hs1, hs2, hl1, hf1⟩ := hx.form
  obtain rfl : cs = #[.int .i64 4, .bool b, .int .i64 n, .string t, .slice a1 l.length c1, .slice a2 f.length c2] := by
    cases cs
    simpa using hcs
  clear hcs hx
  have e : (GV.mk 4 b n t l f).sz = 1 + t.size + szL l + szF f := by rw [GV.sz]
  rw [e] at hlen
  clear e
  have hgl : Hid (gap.size = gap.data.toList.length) := Lib.size_eq gap
  have hg5 : gap.data.toList.length ≤ 5 := by rw [← Lib.size_eq]; exact hgap
  have v0 : (w.alloc (.cells #[.int .i64 4, .bool b, .int .i64 n, .string t, .slice a1 l.length c1, .slice a2 f.length c2] 25)).heap[w.heap.size]? = some (.cells #[.int .i64 4, .bool b, .int .i64 n, .string t, .slice a1 l.length c1, .slice a2 f.length c2] 25 (0, 0)) := heap_alloc_new _ _
  have bw0 : Bw base w (w.alloc (.cells #[.int .i64 4, .bool b, .int .i64 n, .string t, .slice a1 l.length c1, .slice a2 f.length c2] 25)) := (Bw.refl _ _).alloc _
  have r0 : RowB base (w.alloc (.cells #[.int .i64 4, .bool b, .int .i64 n, .string t, .slice a1 l.length c1, .slice a2 f.length c2] 25)) v bs := hrow0.kept ((Below.refl _ _).alloc (Nat.le_refl _) _)
  obtain ⟨ra, rc, rfl⟩ := hrow0.form
  obtain ⟨x0, x1, x2, x3, x4, x5⟩ := box6 v0
  have hsn2 : sndL l (d - 1) = true := by simp [sndV] at hsn; exact hsn.1
  have hll : l.length ≤ 500000000 := by have := szL_len l; have := szF_len f; omega
  clear hsn
  by_cases hlong : 65536 < bs.length
  · have hE : plT gap.data.toList (.mk 4 b n t l f) bs = bs := by unfold plT; rw [if_pos hlong]
    have hl' : (65536 : Int) < (bs.length : Int) := by omega
    rw [hE]
    clear hE hl
    go_enter Tryz.func47, Tryz.ntmps47
    go_wp2
    go_ret
    exact ⟨_, rfl, r0, bw0⟩
  have hl' : ¬ (65536 : Int) < (bs.length : Int) := by omega
  have hE : plT gap.data.toList (.mk 4 b n t l f) bs = plL gap.data.toList l true (bs ++ [91]) ++ [93] := by unfold plT; rw [if_neg hlong, if_neg (by decide), if_neg (by decide), if_neg (by decide), if_neg (by decide), if_pos rfl]
  rw [hE]
  clear hE
  obtain ⟨T, hT⟩ : ∃ T, plL gap.data.toList l true (bs ++ [91]) = T := ⟨_, rfl⟩
  have HT : Hid (plL gap.data.toList l true (bs ++ [91]) = T) := hT
  rw [hT]
  clear hT
  have bwS := bw0
  have bwZ : Bw base (w.alloc (.cells #[.int .i64 4, .bool b, .int .i64 n, .string t, .slice a1 l.length c1, .slice a2 f.length c2] 25)) (w.alloc (.cells #[.int .i64 4, .bool b, .int .i64 n, .string t, .slice a1 l.length c1, .slice a2 f.length c2] 25)) := Bw.refl _ _
  have hbase0 : base ≤ (w.alloc (.cells #[.int .i64 4, .bool b, .int .i64 n, .string t, .slice a1 l.length c1, .slice a2 f.length c2] 25)).heap.size := by have := bw0.size; omega
  clear bw0
  go_enter Tryz.func47, Tryz.ntmps47
  go_wp2_with (at_builtin; refine wpList_append_own _ rfl _ _ 49 rfl base 5 i0 (.int .u8 0) 1 1 Tryz.underlying49 hi hz0 hz1 hz2 rfl (by decide) _ _ _ rfl (RowB.kept r0 ((Below.refl _ _).alloc (Nat.le_refl _) _)) ⟨_, 0, none⟩ 1 1 [.int .u8 91] rfl rfl (cells_at _ _ _ _ (by simp)) (by simp [Value.oneCell']) (by (try simp only [List.length_append, List.length_cons, List.length_nil]); unfold maxLen; omega) (by (try simp only [List.length_append, List.length_cons, List.length_nil]); omega) (by have := bwZ.size; simp; omega) ?_; intro v1 w1 ho hg hnn; have bw1 := (bwZ.alloc _).trans (RowB.grown (RowB.kept r0 ((Below.refl _ _).alloc (Nat.le_refl _) _)) hg); have r1 : RowB base w1 v1 (bs ++ [91]) := RowB.more ho rfl rfl; clear ho hg hnn r0 bwZ)
  clear x0 x1 x2 x3 x4 x5
  go_loopw [0, 7] (fun v u w' => ∃ (i : Nat) (bi : List UInt8), u = .int .i64 (i : Int) ∧ i ≤ l.length ∧ RowB base w' v bi ∧ Bw base (w.alloc (.cells #[.int .i64 4, .bool b, .int .i64 n, .string t, .slice a1 l.length c1, .slice a2 f.length c2] 25)) w' ∧ Hid (plL gap.data.toList (l.drop i) (decide (i = 0)) bi = T) ∧ bi.length + 60 * szL (l.drop i) + 30 ≤ 500000000) (fun _ u _ => l.length - numOfF u)
  case atStart => exact ⟨0, _, rfl, Nat.zero_le _, r1, bw1, HT, by simp only [List.length_append, List.length_cons, List.length_nil, List.drop_zero]; omega⟩
  case round =>
    obtain ⟨i, bi, rfl, hil, r0, bw0, HI, hbd⟩ := hrel
    clear r1 bw1 HT
    have hsz0 := bw0.size
    have mm := Bw.keep bw0 (by decide) v0
    have xx := (box6 mm).2.2.2.2.1
    by_cases hlt : i < l.length
    · have hlt' : (i : Int) < (l.length : Int) := by omega
      have hbel : Below base w wr := (bwS.below hbase).trans (bw0.below hbase0)
      obtain ⟨sb, off, es, ha, hsb, hlv, hcell⟩ := SlAt.elem (ok := fun b => b < base) (hs1.conv (by decide) (fun b hb _ => ⟨hb, hbel.block b hb⟩)) (hl1.conv (fun b hb _ => ⟨hb, hbel.block b hb⟩)) i hlt
      have hcp := hl i hlt
      have hsnd := sndL_get.1 hsn2 i hlt
      have hdrop := List.drop_eq_getElem_cons hlt
      obtain ⟨X, hX⟩ : ∃ X, l[i] = X := ⟨_, rfl⟩
      rw [hX] at hlv hcp hsnd hdrop
      rw [hdrop] at hbd HI
      have hbd2 : bi.length + 60 * (X.sz) + 60 * szL (l.drop (i + 1)) + 30 ≤ 500000000 := by simp only [szL] at hbd; omega
      clear hbd hX
      cases hXc : X with
      | mk k' b' n' t' l' f' =>
      rw [hXc] at hlv
      obtain ⟨p1, q1, p2, q2, _, _, rfl, _⟩ := hlv.form
      rw [← hXc] at hlv
      subst ha
      have e0 := hcell 0 (by decide)
      have e1 := hcell 1 (by decide)
      have e2 := hcell 2 (by decide)
      have e3 := hcell 3 (by decide)
      have e4 := hcell 4 (by decide)
      have e5 := hcell 5 (by decide)
      simp only [List.getElem?_cons_zero, List.getElem?_cons_succ, Nat.add_zero] at e0 e1 e2 e3 e4 e5
      have gP : ∀ W1 v1 B1, Bw base (w.alloc (.cells #[.int .i64 4, .bool b, .int .i64 n, .string t, .slice (some ⟨sb, off, none⟩) l.length c1, .slice a2 f.length c2] 25)) W1 → RowB base W1 v1 B1 → B1.length + 60 * X.sz ≤ 500000000 → Calls Tryz.prog 47 #[v1, .agg #[.int .i64 k', .bool b', .int .i64 n', .string t', .slice p1 l'.length q1, .slice p2 f'.length q2], .string gap] W1 fun e w' => ∃ v', e = .returned v' ∧ RowB base w' v' (plT gap.data.toList X B1) ∧ Bw base W1 w' := fun W1 v1 B1 h1 h2 h3 =>
        hcp base W1 v1 B1 #[.int .i64 k', .bool b', .int .i64 n', .string t', .slice p1 l'.length q1, .slice p2 f'.length q2] gap (d - 1) h2 (by have := h1.size; omega) (hlv.conv (w' := W1) (fun b hb _ => ⟨hb, by rw [(h1.below hbase0).block b hb, (bw0.below hbase0).block b hb]⟩)) hsnd h3 hgap
      have gX : ∀ W1, Bw base (w.alloc (.cells #[.int .i64 4, .bool b, .int .i64 n, .string t, .slice (some ⟨sb, off, none⟩) l.length c1, .slice a2 f.length c2] 25)) W1 → W1.cell? ⟨w.heap.size, 4, none⟩ = some (.slice (some ⟨sb, off, none⟩) l.length c1) := fun W1 h1 => (box6 (Bw.keep h1 (by decide) v0)).2.2.2.2.1
      have gC : ∀ W1, Bw base (w.alloc (.cells #[.int .i64 4, .bool b, .int .i64 n, .string t, .slice (some ⟨sb, off, none⟩) l.length c1, .slice a2 f.length c2] 25)) W1 → ∀ o, W1.cell? ⟨sb, o, none⟩ = wr.cell? ⟨sb, o, none⟩ := fun W1 h1 o => ((h1.below hbase0).cell (p := ⟨sb, o, none⟩) hsb).trans ((bw0.below hbase0).cell (p := ⟨sb, o, none⟩) hsb).symm
      clear hcell hXc hlv hcp hdrop hl mm hbel hsnd hsn2 hs1 hs2 hl1 hf1
      by_cases hi0 : i = 0
      · have hip : ¬ (0 : Int) < (i : Int) := by omega
        have hpl := plT_len gap.data.toList hg5 X (bi ++ gap.data.toList)
        simp only [List.length_append] at hpl
        have HE : Hid (plL gap.data.toList (l.drop (i + 1)) (decide (i + 1 = 0)) (plT gap.data.toList X (bi ++ gap.data.toList) ++ gap.data.toList) = T) := by
          show _ = _
          rw [← HI.out, decide_eq_true hi0, plL]
          simp
        clear HI hi0
        go_wp2_with (first
          | (at_builtin; refine Lib.wpList_append_own_string _ rfl _ _ 49 9 rfl base 5 i0 Tryz.underlying49 Tryz.underlying9 hi hz0 hz1 hz2 _ _ _ rfl r0 gap rfl (by (try simp only [List.length_append, List.length_cons, List.length_nil]); unfold maxLen; omega) (by (try simp only [List.length_append, List.length_cons, List.length_nil]); omega) (by have := bw0.size; omega) ?_; intro vB wB ho hg hnn; have bwB := bw0.trans (RowB.grown r0 hg); have rB : RowB base wB vB (bi ++ gap.data.toList) := RowB.more ho hgl.out rfl; clear ho hg hnn r0 bw0; have zz := gX wB bwB; have y0 := (gC wB bwB (off + i * 6)).trans e0; have y1 := (gC wB bwB (off + i * 6 + 1)).trans e1; have y2 := (gC wB bwB (off + i * 6 + 2)).trans e2; have y3 := (gC wB bwB (off + i * 6 + 3)).trans e3; have y4 := (gC wB bwB (off + i * 6 + 4)).trans e4; have y5 := (gC wB bwB (off + i * 6 + 5)).trans e5; have cP := gP wB vB _ bwB rB (by (try simp only [List.length_append]); omega))
          | (go_at_call 47; refine cP.mono ?_; rintro e wC ⟨vC, rfl, rC, hbC⟩; clear cP; have bwC := bwB.trans hbC; clear rB bwB hbC zz y0 y1 y2 y3 y4 y5)
          | (at_builtin; refine Lib.wpList_append_own_string _ rfl _ _ 49 9 rfl base 5 i0 Tryz.underlying49 Tryz.underlying9 hi hz0 hz1 hz2 _ _ _ rfl rC gap rfl (by (try simp only [List.length_append, List.length_cons, List.length_nil]); unfold maxLen; omega) (by (try simp only [List.length_append, List.length_cons, List.length_nil]); omega) (by have := bwC.size; omega) ?_; intro vD wD ho hg hnn; have bwD := bwC.trans (RowB.grown rC hg); have rD : RowB base wD vD (plT gap.data.toList X (bi ++ gap.data.toList) ++ gap.data.toList) := RowB.more ho hgl.out rfl; clear ho hg hnn rC bwC))
        go_roundw
        case rel => exact ⟨i + 1, _, by simp, by omega, rD, bwD, HE, by (try simp only [List.length_append]); omega⟩
        case measure => simp [numOfF]; omega
      · have hip : (0 : Int) < (i : Int) := by omega
        have hpl := plT_len gap.data.toList hg5 X (bi ++ [44] ++ gap.data.toList)
        simp only [List.length_append, List.length_cons, List.length_nil] at hpl
        have HE : Hid (plL gap.data.toList (l.drop (i + 1)) (decide (i + 1 = 0)) (plT gap.data.toList X (bi ++ [44] ++ gap.data.toList) ++ gap.data.toList) = T) := by
          show _ = _
          rw [← HI.out, decide_eq_false hi0, plL]
          simp
        clear HI hi0
        go_wp2_with (first
          | (at_builtin; refine wpList_append_own _ rfl _ _ 49 rfl base 5 i0 (.int .u8 0) 1 1 Tryz.underlying49 hi hz0 hz1 hz2 rfl (by decide) _ _ _ rfl (RowB.kept r0 ((Below.refl _ _).alloc (Nat.le_refl _) _)) ⟨_, 0, none⟩ 1 1 [.int .u8 44] rfl rfl (cells_at _ _ _ _ (by simp)) (by simp [Value.oneCell']) (by (try simp only [List.length_append, List.length_cons, List.length_nil]); unfold maxLen; omega) (by (try simp only [List.length_append, List.length_cons, List.length_nil]); omega) (by have := bw0.size; simp; omega) ?_; intro vA wA ho hg hnn; have bwA := (bw0.alloc _).trans (RowB.grown (RowB.kept r0 ((Below.refl _ _).alloc (Nat.le_refl _) _)) hg); have rA : RowB base wA vA (bi ++ [44]) := RowB.more ho rfl rfl; clear ho hg hnn r0 bw0)
          | (at_builtin; refine Lib.wpList_append_own_string _ rfl _ _ 49 9 rfl base 5 i0 Tryz.underlying49 Tryz.underlying9 hi hz0 hz1 hz2 _ _ _ rfl rA gap rfl (by (try simp only [List.length_append, List.length_cons, List.length_nil]); unfold maxLen; omega) (by (try simp only [List.length_append, List.length_cons, List.length_nil]); omega) (by have := bwA.size; omega) ?_; intro vB wB ho hg hnn; have bwB := bwA.trans (RowB.grown rA hg); have rB : RowB base wB vB (bi ++ [44] ++ gap.data.toList) := RowB.more ho hgl.out rfl; clear ho hg hnn rA bwA; have zz := gX wB bwB; have y0 := (gC wB bwB (off + i * 6)).trans e0; have y1 := (gC wB bwB (off + i * 6 + 1)).trans e1; have y2 := (gC wB bwB (off + i * 6 + 2)).trans e2; have y3 := (gC wB bwB (off + i * 6 + 3)).trans e3; have y4 := (gC wB bwB (off + i * 6 + 4)).trans e4; have y5 := (gC wB bwB (off + i * 6 + 5)).trans e5; have cP := gP wB vB _ bwB rB (by (try simp only [List.length_append, List.length_cons, List.length_nil]); omega))
          | (go_at_call 47; refine cP.mono ?_; rintro e wC ⟨vC, rfl, rC, hbC⟩; clear cP; have bwC := bwB.trans hbC; clear rB bwB hbC zz y0 y1 y2 y3 y4 y5)
          | (at_builtin; refine Lib.wpList_append_own_string _ rfl _ _ 49 9 rfl base 5 i0 Tryz.underlying49 Tryz.underlying9 hi hz0 hz1 hz2 _ _ _ rfl rC gap rfl (by (try simp only [List.length_append, List.length_cons, List.length_nil]); unfold maxLen; omega) (by (try simp only [List.length_append, List.length_cons, List.length_nil]); omega) (by have := bwC.size; omega) ?_; intro vD wD ho hg hnn; have bwD := bwC.trans (RowB.grown rC hg); have rD : RowB base wD vD (plT gap.data.toList X (bi ++ [44] ++ gap.data.toList) ++ gap.data.toList) := RowB.more ho hgl.out rfl; clear ho hg hnn rC bwC))
        go_roundw
        case rel => exact ⟨i + 1, _, by simp, by omega, rD, bwD, HE, by (try simp only [List.length_append]); omega⟩
        case measure => simp [numOfF]; omega
    · have hlt' : ¬ (i : Int) < (l.length : Int) := by omega
      have HE : bi = T := by
        rw [← HI.out, List.drop_eq_nil_of_le (by omega), plL]
      have hbd3 : bi.length ≤ 500000000 := by omega
      clear HI hl
      go_wp2_with (at_builtin; refine wpList_append_own _ rfl _ _ 49 rfl base 5 i0 (.int .u8 0) 1 1 Tryz.underlying49 hi hz0 hz1 hz2 rfl (by decide) _ _ _ rfl (RowB.kept r0 ((Below.refl _ _).alloc (Nat.le_refl _) _)) ⟨_, 0, none⟩ 1 1 [.int .u8 93] rfl rfl (cells_at _ _ _ _ (by simp)) (by simp [Value.oneCell']) (by (try simp only [List.length_append, List.length_cons, List.length_nil]); unfold maxLen; omega) (by (try simp only [List.length_append, List.length_cons, List.length_nil]); omega) (by have := bw0.size; simp; omega) ?_; intro vA wA ho hg hnn; have bwA := (bw0.alloc _).trans (RowB.grown (RowB.kept r0 ((Below.refl _ _).alloc (Nat.le_refl _) _)) hg); have rA : RowB base wA vA (bi ++ [93]) := RowB.more ho rfl rfl; clear ho hg hnn r0 bw0)
      go_ret
      rw [← HE]
      exact ⟨_, rfl, rA, bwS.trans bwA⟩
end PlnW
end Go.Proofs.YtiakidomcjpdhaaGreatDoor
