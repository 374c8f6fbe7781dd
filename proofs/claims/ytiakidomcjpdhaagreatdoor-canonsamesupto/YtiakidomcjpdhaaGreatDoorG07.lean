/- How many values a value holds; what canon.count does at every value. What json.copied does with the elements of a list: the state of its first loop, and one round of it. -/
import Derived.Test.YtiakidomcjpdhaaGreatDoorG06
import Derived.Test.YtiakidomcjpdhaaGreatDoorG01
import Derived.Test.YtiakidomcjpdhaaGreatDoorG02
namespace Go.Proofs.YtiakidomcjpdhaaGreatDoor
open Go.RowKit Go.Shelf
attribute [local go_sem] Oper.semAt_some
namespace Pt

mutual
/-- How many values a value holds, itself among them. -/
def cntV : GV → Nat
  | .mk k _ _ _ l f => 1 + (if k = 4 then cntL l else if k = 5 then cntF f else 0)
def cntL : List GV → Nat
  | [] => 0
  | x :: l => cntV x + cntL l
def cntF : List (ByteArray × GV) → Nat
  | [] => 0
  | x :: l => cntP x + cntF l
def cntP : ByteArray × GV → Nat
  | (_, x) => cntV x
end
theorem cntL_app : ∀ a b : List GV, cntL (a ++ b) = cntL a + cntL b
  | [], b => by simp [cntL]
  | x :: a, b => by
    rw [List.cons_append, cntL, cntL, cntL_app a b]
    omega
theorem cntF_map : ∀ f : List (ByteArray × GV), cntF f = cntL (f.map (·.2))
  | [] => by simp [cntF, cntL]
  | (nm, x) :: f => by rw [cntF, cntP, List.map_cons, cntL, cntF_map f]
theorem cntV_ps : ∀ x : GV, cntV x = 1 + cntL (psV x)
  | .mk k b n t l f => by
    rw [cntV, psV]
    split
    · rfl
    · split
      · rw [cntF_map]
      · rfl
theorem cntL_pre {a b : List GV} (h : a <+: b) : cntL a ≤ cntL b := by
  obtain ⟨c, rfl⟩ := h
  rw [cntL_app]
  omega
/-- parts: a function value, and what it holds. -/
theorem parts79 (cs : Array Value) (w : World) (k : Int) (b : Bool) (n : Int) (t : ByteArray) (s1 s2 : Value) (hc : cs = #[.int .i64 k, .bool b, .int .i64 n, .string t, s1, s2]) : Calls Tryz.prog 79 #[.agg cs] w fun e w' => e = .returned (.func (.func 111) #[] #[.pointer (some ⟨w.heap.size, 0, none⟩)]) ∧ w' = w.alloc (.cells cs 25) := by
  subst hc
  go_enter Tryz.func79, Tryz.ntmps79
  go_wp2
  go_ret
  exact ⟨rfl, rfl⟩
def CountAt (x : GV) : Prop := ∀ (z : Int) (w : World) (ok : Nat → Prop) (cs : Array Value), LaidV w ok x cs.toList → 0 ≤ z → z ≤ 65536 → Calls Tryz.prog 57 #[.agg cs, .int .i64 z] w fun e w' => e = .returned (.int .i64 (min (z + (cntV x : Int)) 65537)) ∧ Below w.heap.size w w'
set_option maxRecDepth 100000 in
set_option maxHeartbeats 2000000 in
theorem count_step (k : Int) (b : Bool) (n : Int) (t : ByteArray) (l : List GV) (f : List (ByteArray × GV)) (hsz : (GV.mk k b n t l f).sz ≤ 2000000) (hl : ∀ i (h : i < l.length), CountAt (l[i])) (hf : ∀ i (h : i < f.length), CountAt (f[i]).2) : CountAt (.mk k b n t l f) := by
  intro z w ok cs hx hz0 hz1
  obtain ⟨R, hR⟩ : ∃ R, cntV (.mk k b n t l f) = R := ⟨_, rfl⟩
  have HR : Hid (cntV (.mk k b n t l f) = R) := hR
  rw [hR]
  clear hR
  obtain ⟨a1, c1, a2, c2, xs, ys, hcs, -, -, -, -⟩ := hx.form
  have hcs' : cs = #[.int .i64 k, .bool b, .int .i64 n, .string t, .slice a1 l.length c1, .slice a2 f.length c2] := by
    cases cs
    simpa using hcs
  have c79 := fun W => parts79 cs W k b n t _ _ hcs'
  have HX : Hid (LaidV w ok (.mk k b n t l f) cs.toList) := hx
  subst hcs'
  clear hcs hx
  refine (callsIn_wide (n := 3)).1 ?_
  refine callsIn_of_wp_marks Tryz.func57 rfl trivial ?_ rfl
  simp only [Tryz.ntmps57, List.size_toArray, List.length_cons, List.length_nil, Nat.reduceAdd, Nat.reduceSub, Array.replicate_succ, Array.replicate_zero, List.push_toArray, List.append_toArray, List.nil_append, List.cons_append]
  gi_wp2_with (refine ⟨trivial, ?_⟩; gi_at_call 79; refine (callsIn_wide.2 (c79 _)).mono ?_; rintro e w' ⟨rfl, rfl⟩)
  obtain ⟨CS, hCS⟩ : ∃ CS : Array Value, CS = #[.int .i64 k, .bool b, .int .i64 n, .string t, .slice a1 l.length c1, .slice a2 f.length c2] := ⟨_, rfl⟩
  have HX2 : Hid (LaidV w ok (.mk k b n t l f) CS.toList) := by rw [hCS]; exact HX.out
  rw [← hCS]
  obtain ⟨W0, hW0⟩ : ∃ W0, (((w.alloc (.cells CS 25)).alloc (.cells #[.int .i64 (z + 1)] 3)).alloc (.cells CS 25)) = W0 := ⟨_, rfl⟩
  have hB0 : Below w.heap.size w W0 := by rw [← hW0]; exact (((Below.refl _ w).alloc (Nat.le_refl _) _).alloc (by simp) _).alloc (by simp; omega) _
  have hs0 : W0.heap.size = w.heap.size + 3 := by rw [← hW0]; simp
  have hn0 : W0.heap[w.heap.size + 1]? = some (.cells #[.int .i64 (z + 1)] 3 (0, 0)) := by
    rw [← hW0]
    have := heap_alloc_new (w.alloc (.cells CS 25)) (.cells #[.int .i64 (z + 1)] 3)
    rw [World.size_alloc] at this
    exact (Below.heap_alloc _ _ _ (by simp)).trans this
  have hv0 : W0.heap[w.heap.size + 1 + 1]? = some (.cells CS 25 (0, 0)) := by
    rw [← hW0]
    have := heap_alloc_new ((w.alloc (.cells CS 25)).alloc (.cells #[.int .i64 (z + 1)] 3)) (.cells CS 25)
    rw [World.size_alloc, World.size_alloc] at this
    exact this
  rw [hW0]
  have hps := cntV_ps (.mk k b n t l f)
  obtain ⟨PS, hPS⟩ : ∃ PS, psV (.mk k b n t l f) = PS := ⟨_, rfl⟩
  have hseq := parts_any k b n t l f hsz w ok CS HX2.out CountAt hl hf (w.heap.size + 1 + 1) W0 hB0 hv0 (3 - 1)
  rw [hPS] at hseq hps
  rw [HR.out] at hps
  clear hW0 hCS HX HX2 hl hf hPS hv0 c79
  refine wpIn_rangeFunc_ownH (n := 3) rfl (by decide) (gf := 111) (lb := #[.pointer (some ⟨w.heap.size + 1 + 1, 0, none⟩)]) rfl trivial (enters_of Tryz.func111 (by kernel_rfl) rfl) hseq belowK_t (belowK_b (by omega)) (Below.refl _ _) (fun _ => rfl)
    (fun pre W => W.heap[w.heap.size + 1]? = some (.cells #[.int .i64 (min (z + 1 + (cntL (pre.map (·.1.1)) : Int)) 65537)] 3 (0, 0)) ∧ Below w.heap.size w W ∧ w.heap.size + 3 ≤ W.heap.size)
    (fun c pre W => c = .exit 0 ∧ W.heap[w.heap.size + 1]? = some (.cells #[.int .i64 65537] 3 (0, 0)) ∧ 65537 ≤ z + 1 + (cntL (pre.map (·.1.1)) : Int) ∧ Below w.heap.size w W)
    (fun s A B row hs hg hr => ⟨cells_kept hs.1 hg (fun r e => (hr r e).2), ownFrom_below (β := Unit) (Nat.le_refl _) (by omega) () A B row hs.2.1 hg hr, Nat.le_trans hs.2.2 hg.size⟩)
    (fun c s A B row hs hg hr => ⟨hs.1, cells_kept hs.2.1 hg (fun r e => (hr r e).2), hs.2.2.1, ownFrom_below (β := Unit) (Nat.le_refl _) (by omega) () A B row hs.2.2.2 hg hr⟩)
    ⟨by rw [hn0, List.map_nil, cntL, Int.min_eq_left (by omega)]; simp, hB0, by omega⟩
    (fun x a' W => ∃ Bx, w.heap.size + 3 ≤ Bx ∧ W.heap[Bx]? = some (.cells x.1.2 25 (0, 0)) ∧ a' = { tmps := #[.agg CS, .int .i64 z, .pointer (some ⟨w.heap.size, 0, none⟩), undef, .int .i64 0, .pointer (some ⟨w.heap.size + 1, 0, none⟩), .pointer (some ⟨Bx, 0, none⟩), .int .i64 z, .int .i64 (z + 1), .agg CS, .func (.func 111) #[] #[.pointer (some ⟨w.heap.size + 1 + 1, 0, none⟩)], .agg x.1.2, undef, undef, undef, undef, undef, undef], defers := [] })
    (fun x a' s A B row hs hg hr => by obtain ⟨Bx, h1, h2, h3⟩ := hs; exact ⟨Bx, h1, cells_kept h2 hg (fun r e => (hr r e).2), h3⟩) ?assign ?body ?done ?stop
  case assign =>
    rintro lp pre ⟨⟨X, cs'⟩, hX1, hX2⟩ W K ⟨hi1, hi2, hi3⟩ hK
    cases X with
    | mk kk bb nn tt ll ff =>
    obtain ⟨p1, q1, p2, q2, _, _, hc', -, -, -, -⟩ := hX1.form
    have hcc : cs' = #[.int .i64 kk, .bool bb, .int .i64 nn, .string tt, .slice p1 ll.length q1, .slice p2 ff.length q2] := by
      cases cs'
      simpa using hc'
    subst hcc
    gi_wp2
    refine hK _ _ ((KeepsOthers.alloc _ _).from _) ((Below.refl _ W).alloc hi2.size _) ⟨?_, hi2.alloc hi2.size _, by simp; omega⟩ ⟨W.heap.size, ?_, heap_alloc_new _ _, rfl⟩
    · exact (Below.heap_alloc _ _ _ (lt_of_block hi1)).trans hi1
    · have := hi3
      omega
  case body =>
    rintro lp pre ⟨⟨X, cs'⟩, hX1, hX2⟩ a' W hlp ⟨r, hr⟩ ⟨hc, hB, hWs⟩ ⟨Bx, hBx, hbx, rfl⟩ hlt
    cases X with
    | mk kk bb nn tt ll ff =>
    obtain ⟨p1, q1, p2, q2, _, _, hc', -, -, -, -⟩ := hX1.form
    have hcc : cs' = #[.int .i64 kk, .bool bb, .int .i64 nn, .string tt, .slice p1 ll.length q1, .slice p2 ff.length q2] := by
      cases cs'
      simpa using hc'
    subst hcc
    obtain ⟨y0, y1, y2, y3, y4, y5⟩ := box6 hbx
    have hcn : W.cell? ⟨w.heap.size + 1, 0, none⟩ = some (.int .i64 (min (z + 1 + (cntL (pre.map (·.1.1)) : Int)) 65537)) := by simp [World.cell?, hc]
    obtain ⟨M, hM⟩ : ∃ M : Int, min (z + 1 + (cntL (pre.map (·.1.1)) : Int)) 65537 = M := ⟨_, rfl⟩
    rw [hM] at hcn
    have HM : Hid (min (z + 1 + (cntL (pre.map (·.1.1)) : Int)) 65537 = M) := hM
    by_cases hbig : 65536 < M
    · have e65 : M = 65537 := by omega
      subst e65
      gi_wp2
      refine ⟨KeepsFrom.refl _ _, rfl, ?_, ?_, hB⟩
      · rw [hc, hM]
      · rw [List.map_append, cntL_app]
        have := HM.out
        omega
    · have hcall := hX2 M W (fun b => b < w.heap.size) #[.int .i64 kk, .bool bb, .int .i64 nn, .string tt, .slice p1 ll.length q1, .slice p2 ff.length q2] (hX1.conv (fun b _ hl => ⟨hl, hB.block b hl⟩)) (by omega) (by omega)
      have hbig' : ¬ 65536 < M := hbig
      gi_wp2_with (refine ⟨trivial, ?_⟩; gi_at_call 57; refine (CallsIn.inRound lp (callsIn_wide.2 hcall)).mono ?_; rintro e w5 ⟨rfl, hb5⟩; have hc5 := (hb5.block _ (lt_of_block hc)).trans hc; have hcn5 : w5.frozen? ⟨w.heap.size + 1, 0, none⟩ = false := box_fz hc5 0; have hcc5 : w5.cell? ⟨w.heap.size + 1, 0, none⟩ = some (.int .i64 M) := (hb5.cell (p := ⟨w.heap.size + 1, 0, none⟩) (lt_of_block hc)).trans hcn)
      refine ⟨(keeps_below hb5).trans ((KeepsOthers.setCell _ _ _).from _), (hb5.mono (by omega)).setCell (p := ⟨w.heap.size + 1, 0, none⟩) (by simp) _, ?_, (hB.trans (hb5.mono (by omega))).setCell (p := ⟨w.heap.size + 1, 0, none⟩) (by simp) _, ?_⟩
      · have e : ((pre ++ [(⟨(GV.mk kk bb nn tt ll ff, #[.int .i64 kk, .bool bb, .int .i64 nn, .string tt, .slice p1 ll.length q1, .slice p2 ff.length q2]), hX1, hX2⟩ : Part w ok CountAt)]).map (·.1.1)) = pre.map (·.1.1) ++ [GV.mk kk bb nn tt ll ff] := by simp
        have hv : min (z + 1 + (cntL (pre.map (·.1.1) ++ [GV.mk kk bb nn tt ll ff]) : Int)) 65537 = min (M + (cntV (GV.mk kk bb nn tt ll ff) : Int)) 65537 := by
          rw [cntL_app, cntL, cntL]
          have := HM.out
          omega
        rw [e, hv]
        simp [World.setCell, Array.getElem?_modify, hc5]
      · have := hb5.size
        simp [World.setCell]
        omega
  case done =>
    rintro D ys W hD hS ⟨hc, hB, hWs⟩ hK
    have hcn : W.cell? ⟨w.heap.size + 1, 0, none⟩ = some (.int .i64 (min (z + 1 + (cntL (ys.map (·.1.1)) : Int)) 65537)) := by simp [World.cell?, hc]
    rw [hS] at hcn
    have e : min (z + 1 + (cntL PS : Int)) 65537 = min (z + (R : Int)) 65537 := by rw [hps]; omega
    rw [e] at hcn
    gi_wp2
    refine ⟨by simp, .inl ⟨_, _, rfl, run_takeDeferred hK, ?_⟩⟩
    exact ⟨_, results_tmp rfl _ _ _, rfl, hB.trans (belowK_b (w := W0) (by omega) W D _ _ hD hK rfl rfl)⟩
  case stop =>
    rintro D c pre W hD hS ⟨rfl, hc, hge, hB⟩ hK
    have hcn : W.cell? ⟨w.heap.size + 1, 0, none⟩ = some (.int .i64 65537) := by simp [World.cell?, hc]
    have e : min (z + (R : Int)) 65537 = 65537 := by
      have := cntL_pre hS
      rw [hps]
      omega
    have HE2 : Hid (65537 = min (z + (R : Int)) 65537) := e.symm
    clear hps hseq e
    gi_wp2
    refine ⟨by simp, .inl ⟨_, _, rfl, run_takeDeferred hK, ?_⟩⟩
    refine ⟨_, results_tmp rfl _ _ _, ?_, hB.trans (belowK_b (w := W0) (by omega) W D _ _ hD hK rfl rfl)⟩
    exact congrArg (fun i => Ending.returned (Value.int .i64 i)) HE2.out
theorem count_any : ∀ (m : Nat) (x : GV), x.sz ≤ m → m ≤ 2000000 → CountAt x := by
  intro m
  induction m with
  | zero =>
    intro x hx _
    have := x.sz_pos
    omega
  | succ m ih =>
    intro x hx hm
    cases x with
    | mk k b n t l f =>
    have hs : 1 + t.size + szL l + szF f ≤ m + 1 := by have h := hx; unfold GV.sz at h; exact h
    refine count_step k b n t l f (by omega) (fun i h => ih _ ?_ (by omega)) (fun i h => ih _ ?_ (by omega))
    · have := szL_get l i h
      omega
    · have := szF_get f i h
      omega
end Pt
end Go.Proofs.YtiakidomcjpdhaaGreatDoor

namespace Go.Proofs.YtiakidomcjpdhaaGreatDoor
open Go.RowKit

theorem Clone_any (s : ByteArray) (w : World) (hlim : s.size ≤ 281474976710656) :
    Calls Tryz.prog 60 #[.string s] w fun e w' => e = .returned (.string s) ∧ Below w.heap.size w w' := by
  go_enter Tryz.func60, Tryz.ntmps60
  go_wp2_with (go_at_call 84; refine (stringslite_Clone _ _ hlim).mono ?_; rintro e w' ⟨rfl, hbel⟩)
  go_ret
  exact ⟨rfl, hbel⟩

abbrev ZV0 : Obj := .cells #[.int .i64 0, .bool false, .int .i64 0, .string ⟨#[]⟩, .slice none 0 0, .slice none 0 0] 25

theorem keep_own {V w3 : World} {v v' : Value} {B : Nat} (hgrow : V.grownBy w3 v.ownBlock) (hloc : v'.ownBlock = v.ownBlock ∨ v'.ownBlock = some V.heap.size) :
    ∀ b, (B ≤ b ∧ v.ownBlock ≠ some b) → b < V.heap.size → (B ≤ b ∧ v'.ownBlock ≠ some b) ∧ w3.heap[b]? = V.heap[b]? := by
  intro b hb hl
  refine ⟨⟨hb.1, fun e => ?_⟩, hgrow.block b hl (fun e => hb.2 e.symm)⟩
  rcases hloc with h | h
  · exact hb.2 (h ▸ e)
  · rw [h] at e
    have : V.heap.size = b := by simpa using e
    omega
theorem snocL {V w3 : World} {v v' : Value} {B : Nat} {l : List GV} {x : GV} {xs cs : List Value} (hgrow : V.grownBy w3 v.ownBlock) (hloc : v'.ownBlock = v.ownBlock ∨ v'.ownBlock = some V.heap.size)
    (h : LaidL V (fun b => B ≤ b ∧ v.ownBlock ≠ some b) l xs) (hx : LaidV V (fun b => B ≤ b ∧ v.ownBlock ≠ some b) x cs) : LaidL w3 (fun b => B ≤ b ∧ v'.ownBlock ≠ some b) (l ++ [x]) (xs ++ cs) :=
  LaidL.snoc (hx.conv (keep_own hgrow hloc)) (h.conv (keep_own hgrow hloc))
theorem snocF {V w3 : World} {v v' : Value} {B : Nat} {l : List (ByteArray × GV)} {x : ByteArray × GV} {xs cs : List Value} (hgrow : V.grownBy w3 v.ownBlock) (hloc : v'.ownBlock = v.ownBlock ∨ v'.ownBlock = some V.heap.size)
    (h : LaidF V (fun b => B ≤ b ∧ v.ownBlock ≠ some b) l xs) (hx : LaidP V (fun b => B ≤ b ∧ v.ownBlock ≠ some b) x cs) : LaidF w3 (fun b => B ≤ b ∧ v'.ownBlock ≠ some b) (l ++ [x]) (xs ++ cs) :=
  LaidF.snoc (hx.conv (keep_own hgrow hloc)) (h.conv (keep_own hgrow hloc))

theorem own_kept {w w' : World} {base : Nat} {e : TypeId} {size : Nat} {v : Value} {n : Nat} {xs : List Value} (h : w.ownsRow base e size v n xs) (f : Below w.heap.size w w') : w'.ownsRow base e size v n xs :=
  own_fr (S := fun _ => False) h (Fr.of_below f) (fun _ _ => id)
theorem info65' : (Tryz.prog.info? 54).map (fun i => (i.zero, i.size, i.bytes)) = some (some (.agg #[.string ⟨#[]⟩, .int .i64 0, .bool false, .int .i64 0, .string ⟨#[]⟩, .slice none 0 0, .slice none 0 0]), 7, 104) := by kernel_rfl
theorem cells7' {w : World} {Z : Nat} {a0 a1 a2 a3 a4 a5 a6 : Value} {ty : TypeId} (h : w.heap[Z]? = some (.cells #[a0, a1, a2, a3, a4, a5, a6] ty (0, 0))) : ∀ j u, [a0, a1, a2, a3, a4, a5, a6][j]? = some u → w.cell? ((⟨Z, 0, none⟩ : Addr).add j) = some u := by
  intro j u hj
  rw [addr_add]
  simp only [World.cell?, h]
  simpa using hj
theorem own_form {w : World} {base : Nat} {e : TypeId} {size : Nat} {v : Value} {n : Nat} {xs : List Value} (h : w.ownsRow base e size v n xs) : ∃ a c, v = .slice a n c := by
  rcases h.2 with ⟨rfl, rfl⟩ | ⟨g, cap, cur, rfl, _⟩
  · exact ⟨_, _, rfl⟩
  · exact ⟨_, _, rfl⟩
/-- The two variables of copied, and that nothing old has turned. -/
structure CpAt (w : World) (c : Array Value) (w' : World) : Prop where
  v : w'.heap[w.heap.size]? = some (.cells c 25 (0, 0))
  z : w'.heap[w.heap.size + 1]? = some (.cells #[.int .i64 0, .bool false, .int .i64 0, .string ⟨#[]⟩, .slice none 0 0, .slice none 0 0] 25 (0, 0))
  b : Below w.heap.size w w'
  s : w.heap.size + 2 ≤ w'.heap.size
theorem CpAt.keep {w : World} {c : Array Value} {w1 w2 : World} (h : CpAt w c w1) (f : Below (w.heap.size + 2) w1 w2) : CpAt w c w2 :=
  ⟨(f.block _ (by omega)).trans h.v, (f.block _ (by omega)).trans h.z, h.b.trans (f.mono (by omega)), Nat.le_trans h.s f.size⟩

end Go.Proofs.YtiakidomcjpdhaaGreatDoor
