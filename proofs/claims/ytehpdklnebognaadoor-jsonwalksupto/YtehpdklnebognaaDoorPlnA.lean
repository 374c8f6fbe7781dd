/- What the reference's Plain does at a sound value of bounded size: a contract, by walking its text, and by induction. -/
import Derived.Test.YtehpdklnebognaaDoorQuo
import Derived.Test.YtehpdklnebognaaDoorFig
import Derived.Test.YtehpdklnebognaaDoorSnd
namespace Go.Proofs.YtehpdklnebognaaDoor
open Go.RowKit
namespace PlnW
open SndW

mutual
/-- A value's text behind other bytes, as Plain puts it: nothing more where these are too long already. -/
def plT (g : List UInt8) : GV → List UInt8 → List UInt8
  | .mk k bo n t l f, b =>
    if 65536 < b.length then b else if k = 0 then b ++ [110, 117, 108, 108] else if k = 1 then b ++ (if bo = true then [116, 114, 117, 101] else [102, 97, 108, 115, 101]) else if k = 2 then b ++ figs n else if k = 3 then b ++ quotedB t
    else if k = 4 then plL g l true (b ++ [91]) ++ [93] else plF g f true (b ++ [123]) ++ [125]
def plL (g : List UInt8) : List GV → Bool → List UInt8 → List UInt8
  | [], _, b => b
  | x :: l, first, b => plL g l false (plT g x ((if first = true then b else b ++ [44]) ++ g) ++ g)
def plF (g : List UInt8) : List (ByteArray × GV) → Bool → List UInt8 → List UInt8
  | [], _, b => b
  | x :: l, first, b => plF g l false (plP g x ((if first = true then b else b ++ [44]) ++ g) ++ g)
def plP (g : List UInt8) : ByteArray × GV → List UInt8 → List UInt8
  | (nm, x), b => plT g x (b ++ quotedB nm ++ g ++ [58] ++ g)
end

theorem cells_at (w : World) (l : List Value) (t : TypeId) (N : Nat) (h : w.heap.size = N) : ∀ j u, l[j]? = some u → (w.alloc (.cells l.toArray t)).cell? ((⟨N, 0, none⟩ : Addr).add j) = some u := h ▸ cells_new w l t
theorem digF_len : ∀ (f x : Nat) (acc : List UInt8), (digF f x acc).length ≤ acc.length + f
  | 0, x, acc => by simp [digF]
  | f + 1, x, acc => by
    unfold digF
    split
    · have := digF_len f (x / 10) ((48 + x % 10).toUInt8 :: acc)
      simp only [List.length_cons] at this
      omega
    · omega
theorem figs_len (n : Int) : (figs n).length ≤ 21 := by
  unfold figs
  have := digF_len 20 n.natAbs []
  split
  · simp only [List.length_cons, List.length_nil] at this ⊢
    omega
  · simp only [List.length_nil] at this
    omega
mutual
theorem plT_len (g : List UInt8) (hg : g.length ≤ 5) : ∀ (x : GV) (b : List UInt8), (plT g x b).length + 30 ≤ b.length + 60 * x.sz
  | .mk k bo n t l f, b => by
    have e : (GV.mk k bo n t l f).sz = 1 + t.size + szL l + szF f := by rw [GV.sz]
    rw [e]
    unfold plT
    have h1 := figs_len n
    have h2 := quotedB_len t
    have h3 := plL_len g hg l true (b ++ [91])
    have h4 := plF_len g hg f true (b ++ [123])
    simp only [List.length_append, List.length_cons, List.length_nil] at h3 h4
    repeat' split
    all_goals
      try simp only [List.length_append, List.length_cons, List.length_nil]
      omega
theorem plL_len (g : List UInt8) (hg : g.length ≤ 5) : ∀ (l : List GV) (first : Bool) (b : List UInt8), (plL g l first b).length ≤ b.length + 60 * szL l
  | [], _, b => by simp [plL]
  | x :: l, first, b => by
    unfold plL
    have h1 := plT_len g hg x ((if first = true then b else b ++ [44]) ++ g)
    have h2 := plL_len g hg l false (plT g x ((if first = true then b else b ++ [44]) ++ g) ++ g)
    have h3 : (if first = true then b else b ++ [44]).length ≤ b.length + 1 := by split <;> simp
    simp only [List.length_append, szL] at h1 h2 ⊢
    omega
theorem plF_len (g : List UInt8) (hg : g.length ≤ 5) : ∀ (l : List (ByteArray × GV)) (first : Bool) (b : List UInt8), (plF g l first b).length ≤ b.length + 60 * szF l
  | [], _, b => by simp [plF]
  | x :: l, first, b => by
    unfold plF
    have h1 := plP_len g hg x ((if first = true then b else b ++ [44]) ++ g)
    have h2 := plF_len g hg l false (plP g x ((if first = true then b else b ++ [44]) ++ g) ++ g)
    have h3 : (if first = true then b else b ++ [44]).length ≤ b.length + 1 := by split <;> simp
    simp only [List.length_append, szF] at h1 h2 ⊢
    omega
theorem plP_len (g : List UInt8) (hg : g.length ≤ 5) : ∀ (x : ByteArray × GV) (b : List UInt8), (plP g x b).length + 17 ≤ b.length + 60 * szP x
  | (nm, x), b => by
    unfold plP
    have h1 := plT_len g hg x (b ++ quotedB nm ++ g ++ [58] ++ g)
    have h2 := quotedB_len nm
    simp only [List.length_append, List.length_cons, List.length_nil, szP] at h1 ⊢
    omega
end

/-- What is asked of Plain at one value. -/
def PlainAt (x : GV) : Prop := ∀ (base : Nat) (w : World) (v : Value) (bs : List UInt8) (cs : Array Value) (gap : ByteArray) (d : Int), RowB base w v bs → base ≤ w.heap.size → LaidV w (fun b => b < base) x cs.toList → sndV x d = true → bs.length + 60 * x.sz ≤ 500000000 → gap.size ≤ 5 →
  Calls Tryd.prog 20 #[v, .agg cs, .string gap] w fun e w' => ∃ v', e = .returned v' ∧ RowB base w' v' (plT gap.data.toList x bs) ∧ Bw base w w'

set_option maxRecDepth 20000 in
set_option maxHeartbeats 4000000 in
theorem plain_small (k : Int) (b : Bool) (n : Int) (t : ByteArray) (l : List GV) (f : List (ByteArray × GV)) (hk : k ≠ 4 ∧ k ≠ 5) : PlainAt (.mk k b n t l f) := by
  intro base w v bs cs gap d hrow0 hbase hx hsn hlen hgap
  obtain ⟨i0, hi, hz0, hz1, hz2⟩ := info_parts info5
  obtain ⟨a1, c1, a2, c2, xs, ys, hcs, hs1, hs2, hl1, hf1⟩ := hx.form
  obtain rfl : cs = #[.int .i64 k, .bool b, .int .i64 n, .string t, .slice a1 l.length c1, .slice a2 f.length c2] := by
    cases cs
    simpa using hcs
  clear hcs hx
  have e : (GV.mk k b n t l f).sz = 1 + t.size + szL l + szF f := by rw [GV.sz]
  rw [e] at hlen
  clear e
  have hgl : Hid (gap.size = gap.data.toList.length) := Lib.size_eq gap
  have hg5 : gap.data.toList.length ≤ 5 := by rw [← Lib.size_eq]; exact hgap
  have v0 : (w.alloc (.cells #[.int .i64 k, .bool b, .int .i64 n, .string t, .slice a1 l.length c1, .slice a2 f.length c2] 26)).heap[w.heap.size]? = some (.cells #[.int .i64 k, .bool b, .int .i64 n, .string t, .slice a1 l.length c1, .slice a2 f.length c2] 26 (0, 0)) := heap_alloc_new _ _
  have bw0 : Bw base w (w.alloc (.cells #[.int .i64 k, .bool b, .int .i64 n, .string t, .slice a1 l.length c1, .slice a2 f.length c2] 26)) := (Bw.refl _ _).alloc _
  have r0 : RowB base (w.alloc (.cells #[.int .i64 k, .bool b, .int .i64 n, .string t, .slice a1 l.length c1, .slice a2 f.length c2] 26)) v bs := hrow0.kept ((Below.refl _ _).alloc (Nat.le_refl _) _)
  obtain ⟨ra, rc, rfl⟩ := hrow0.form
  obtain ⟨x0, x1, x2, x3, x4, x5⟩ := box6 v0
  clear hs1 hs2 hl1 hf1
  by_cases hlong : 65536 < bs.length
  · have hE : plT gap.data.toList (.mk k b n t l f) bs = bs := by unfold plT; rw [if_pos hlong]
    have hl' : (65536 : Int) < (bs.length : Int) := by omega
    rw [hE]
    clear hE
    go_enter Tryd.func20, Tryd.ntmps20
    go_wp2
    go_ret
    exact ⟨_, rfl, r0, bw0⟩
  have hl' : ¬ (65536 : Int) < (bs.length : Int) := by omega
  by_cases h0 : k = 0
  · have hE : plT gap.data.toList (.mk k b n t l f) bs = bs ++ [110, 117, 108, 108] := by unfold plT; rw [if_neg hlong, if_pos h0]
    rw [hE]
    subst h0
    clear hE
    go_enter Tryd.func20, Tryd.ntmps20
    go_wp2_with (at_builtin; refine Lib.wpList_append_own_string _ rfl _ _ 52 9 rfl base 5 i0 Tryd.underlying52 Tryd.underlying9 hi hz0 hz1 hz2 _ _ _ rfl r0 ⟨#[110, 117, 108, 108]⟩ rfl (by show bs.length + 4 ≤ maxLen; unfold maxLen; omega) (by show bs.length + 4 ≤ 140737488355328; omega) (by have := bw0.size; omega) ?_; intro v1 w1 ho hg hnn; have bw1 := bw0.trans (RowB.grown r0 hg); have r1 : RowB base w1 v1 (bs ++ [110, 117, 108, 108]) := RowB.more ho (by rfl) rfl; clear ho hg hnn r0 bw0)
    go_ret
    exact ⟨_, rfl, r1, bw1⟩
  by_cases h1 : k = 1
  · subst h1
    cases b with
    | true =>
      have hE : plT gap.data.toList (.mk 1 true n t l f) bs = bs ++ [116, 114, 117, 101] := by unfold plT; rw [if_neg hlong, if_neg (by decide), if_pos rfl, if_pos rfl]
      rw [hE]
      clear hE
      go_enter Tryd.func20, Tryd.ntmps20
      go_wp2_with (at_builtin; refine Lib.wpList_append_own_string _ rfl _ _ 52 9 rfl base 5 i0 Tryd.underlying52 Tryd.underlying9 hi hz0 hz1 hz2 _ _ _ rfl r0 ⟨#[116, 114, 117, 101]⟩ rfl (by show bs.length + 4 ≤ maxLen; unfold maxLen; omega) (by show bs.length + 4 ≤ 140737488355328; omega) (by have := bw0.size; omega) ?_; intro v1 w1 ho hg hnn; have bw1 := bw0.trans (RowB.grown r0 hg); have r1 : RowB base w1 v1 (bs ++ [116, 114, 117, 101]) := RowB.more ho (by rfl) rfl; clear ho hg hnn r0 bw0)
      go_ret
      exact ⟨_, rfl, r1, bw1⟩
    | false =>
      have hE : plT gap.data.toList (.mk 1 false n t l f) bs = bs ++ [102, 97, 108, 115, 101] := by unfold plT; rw [if_neg hlong, if_neg (by decide), if_pos rfl, if_neg (by decide)]
      rw [hE]
      clear hE
      go_enter Tryd.func20, Tryd.ntmps20
      go_wp2_with (at_builtin; refine Lib.wpList_append_own_string _ rfl _ _ 52 9 rfl base 5 i0 Tryd.underlying52 Tryd.underlying9 hi hz0 hz1 hz2 _ _ _ rfl r0 ⟨#[102, 97, 108, 115, 101]⟩ rfl (by show bs.length + 5 ≤ maxLen; unfold maxLen; omega) (by show bs.length + 5 ≤ 140737488355328; omega) (by have := bw0.size; omega) ?_; intro v1 w1 ho hg hnn; have bw1 := bw0.trans (RowB.grown r0 hg); have r1 : RowB base w1 v1 (bs ++ [102, 97, 108, 115, 101]) := RowB.more ho (by rfl) rfl; clear ho hg hnn r0 bw0)
      go_ret
      exact ⟨_, rfl, r1, bw1⟩
  by_cases h2 : k = 2
  · subst h2
    have hE : plT gap.data.toList (.mk 2 b n t l f) bs = bs ++ figs n := by unfold plT; rw [if_neg hlong, if_neg (by decide), if_neg (by decide), if_pos rfl]
    rw [hE]
    have hn : -9007199254740991 ≤ n ∧ n ≤ 9007199254740991 := by
      simp [sndV] at hsn
      omega
    have hfl := figs_len n
    have cF := fun W => figs_any n W hn
    clear hE
    have hfs : (⟨(figs n).toArray⟩ : ByteArray).size = (figs n).length := by rw [Lib.size_eq]
    go_enter Tryd.func20, Tryd.ntmps20
    go_wp2_with (first
      | (go_at_call 34; refine (cF _).mono ?_; rintro e w1 ⟨rfl, hb1⟩; clear cF; have bw1 := bw0.trans (Bw.of_below hb1); have r1 := r0.kept hb1; clear r0 bw0 hb1)
      | (at_builtin; refine Lib.wpList_append_own_string _ rfl _ _ 52 9 rfl base 5 i0 Tryd.underlying52 Tryd.underlying9 hi hz0 hz1 hz2 _ _ _ rfl r1 ⟨(figs n).toArray⟩ rfl (by rw [hfs]; unfold maxLen; omega) (by rw [hfs]; omega) (by have := bw1.size; omega) ?_; intro v2 w2 ho hg hnn; have bw2 := bw1.trans (RowB.grown r1 hg); have r2 : RowB base w2 v2 (bs ++ figs n) := RowB.more ho hfs rfl; clear ho hg hnn r1 bw1))
    go_ret
    exact ⟨_, rfl, r2, bw2⟩
  by_cases h3 : k = 3
  · subst h3
    have hE : plT gap.data.toList (.mk 3 b n t l f) bs = bs ++ quotedB t := by unfold plT; rw [if_neg hlong, if_neg (by decide), if_neg (by decide), if_neg (by decide), if_pos rfl]
    rw [hE]
    have cQ := quoted_put base _ _ _ t r0 (by have := bw0.size; omega) (by omega)
    clear hE
    go_enter Tryd.func20, Tryd.ntmps20
    go_wp2_with (go_at_call 35; refine cQ.mono ?_; rintro e w1 ⟨v1, rfl, r1, hb1⟩; clear cQ; have bw1 := bw0.trans hb1)
    go_ret
    exact ⟨_, rfl, r1, bw1⟩
  · exfalso
    simp [sndV, h0, h1, h2, h3, hk.1, hk.2] at hsn
end PlnW
end Go.Proofs.YtehpdklnebognaaDoor
