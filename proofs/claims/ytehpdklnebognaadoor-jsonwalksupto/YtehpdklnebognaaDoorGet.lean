/- What json.copied and json.Get do at every value of bounded size: contracts, by induction, and by walking their text. -/
import Derived.Test.YtehpdklnebognaaDoorCpA
import Derived.Lib.Strings
namespace Go.Proofs.YtehpdklnebognaaDoor
open Go.RowKit

theorem copied_any : ∀ (m : Nat) (x : GV), x.sz ≤ m → m ≤ 2000000 → CopyAt x
  | 0, x, h, _ => by have := x.sz_pos; omega
  | m + 1, .mk k b n t l f, h, hm => by
    have h1 : 1 + t.size + szL l + szF f ≤ m + 1 := by unfold GV.sz at h; exact h
    refine copied_step k b n t l f (by omega) (fun i hi => copied_any m _ ?_ (by omega)) (fun i hi => copied_any m _ ?_ (by omega))
    · have := szL_get l i hi
      omega
    · have := szF_get f i hi
      omega

/-- The value of the first field of a name. -/
def getF (nm : ByteArray) : List (ByteArray × GV) → Option GV
  | [] => none
  | (a, x) :: r => if a = nm then some x else getF nm r
def getS : GV → ByteArray → Option GV
  | .mk k _ _ _ _ f, nm => if k = 5 then getF nm f else none

theorem res13 {w : World} {N1 : Nat} {a0 a1 a2 a3 a4 a5 v : Value} (h : w.heap[N1]? = some (.cells #[a0, a1, a2, a3, a4, a5] 26 (0, 0))) {tmps : Array Value} (ht : tmps[4]? = some (.pointer (some ⟨N1, 0, none⟩))) (h5 : tmps[5]? = some v) :
    (results Tryd.f13 tmps).run Tryd.prog w = .ok (.tuple #[.agg #[a0, a1, a2, a3, a4, a5], v]) w := by
  obtain ⟨y0, y1, y2, y3, y4, y5⟩ := box6 h
  simp only [results, Tryd.results13]
  simp [go_sem, ht, h5, y0, y1, y2, y3, y4, y5]

/-- How Get ends. -/
def GOut (r : Option GV) (w : World) (e : Ending) (w' : World) : Prop :=
  Below w.heap.size w w' ∧ match r with
  | some y => ∃ (k : Int) (b : Bool) (n : Int) (t : ByteArray) (a1 : Option Addr) (l1 c1 : Nat) (a2 : Option Addr) (l2 c2 : Nat),
      e = .returned (.tuple #[.agg #[.int .i64 k, .bool b, .int .i64 n, .string t, .slice a1 l1 c1, .slice a2 l2 c2], .bool true]) ∧ LaidV w' (fun b => w.heap.size ≤ b) y [.int .i64 k, .bool b, .int .i64 n, .string t, .slice a1 l1 c1, .slice a2 l2 c2]
  | none => e = .returned (.tuple #[.agg #[.int .i64 0, .bool false, .int .i64 0, .string ⟨#[]⟩, .slice none 0 0, .slice none 0 0], .bool false])

set_option maxRecDepth 20000 in
set_option maxHeartbeats 2000000 in
theorem get_any (x : GV) (nm : ByteArray) (w : World) (ok : Nat → Prop) (cs : Array Value) (hx : LaidV w ok x cs.toList) (hsz : x.sz ≤ 2000000) : Calls Tryd.prog 13 #[.agg cs, .string nm] w (GOut (getS x nm) w) := by
  obtain ⟨N, hN⟩ : ∃ N, getS x nm = N := ⟨_, rfl⟩
  rw [hN]
  cases x with
  | mk k b n t l f =>
  obtain ⟨a1, c1, a2, c2, xs, ys, hcs, hs1, hs2, hl1, hf1⟩ := hx.form
  obtain rfl : cs = #[.int .i64 k, .bool b, .int .i64 n, .string t, .slice a1 l.length c1, .slice a2 f.length c2] := by
    cases cs
    simpa using hcs
  have hfl : f.length ≤ 2000000 := by have := szF_len f; unfold GV.sz at hsz; omega
  clear hcs hx
  obtain ⟨C, hC⟩ : ∃ C : Array Value, C = #[.int .i64 k, .bool b, .int .i64 n, .string t, .slice a1 l.length c1, .slice a2 f.length c2] := ⟨_, rfl⟩
  have m0 : CpAt w C ((w.alloc (.cells C 26)).alloc ZV0) :=
    ⟨(Below.heap_alloc _ _ _ (by simp)).trans (heap_alloc_new _ _), heap_new1 _ _ _, ((Below.refl _ _).alloc (Nat.le_refl _) _).alloc (by simp) _, by simp⟩
  by_cases hk : k = 5
  · have HN : Hid (N = getF nm f) := by show _ = _; rw [← hN, getS, if_pos hk]
    have hk' : (k != 5) = false := by simp [hk]
    clear hN hk
    obtain ⟨y0, y1, y2, y3, y4, y5⟩ := box6 (hC ▸ m0.v)
    rw [hC] at m0
    go_enter Tryd.func13, Tryd.ntmps13
    go_wp2
    clear y0 y1 y2 y3 y4 y5
    go_loopw [5, 15] (fun v u w' => ∃ i : Nat, v = .bool false ∧ u = .int .i64 (i : Int) ∧ i ≤ f.length ∧ Hid (N = getF nm (f.drop i)) ∧ CpAt w #[.int .i64 k, .bool b, .int .i64 n, .string t, .slice a1 l.length c1, .slice a2 f.length c2] w') (fun _ u _ => f.length - (match u with | .int _ n => n.toNat | _ => 0))
    case atStart => exact ⟨0, rfl, rfl, Nat.zero_le _, HN, m0⟩
    case round =>
      obtain ⟨i, rfl, rfl, hil, HG, m⟩ := hrel
      have hmb := m.b
      have hms := m.s
      clear m0 HN hC
      by_cases hlt : i < f.length
      · have hlt' : (i : Int) < (f.length : Int) := by omega
        have hs2' : SlAt wr (fun b => b < w.heap.size) (.slice a2 f.length c2) f.length 7 ys := hs2.conv (by decide) (fun b _ hb => ⟨hb, hmb.block b hb⟩)
        have hf1' : LaidF wr (fun b => b < w.heap.size) f ys := hf1.conv (fun b _ hb => ⟨hb, hmb.block b hb⟩)
        obtain ⟨sb, off, es, ha2, hsb, hlv, hname, hcell⟩ := hs2'.field hf1' i hlt
        have hszi := szF_get f i hlt
        have hdrop := List.drop_eq_getElem_cons hlt
        obtain ⟨⟨a, X⟩, hX⟩ : ∃ X, f[i] = X := ⟨_, rfl⟩
        rw [hX] at hlv hname hszi hdrop
        have hXs : X.sz ≤ 2000000 := by unfold GV.sz at hsz; have : a.size + X.sz ≤ szF f := hszi; omega
        cases hXc : X with
        | mk k' b' n' t' l' f' =>
        simp only [hXc] at hlv
        obtain ⟨p1, q1, p2, q2, _, _, rfl, _⟩ := hlv.form
        rw [← hXc] at hlv
        subst ha2
        have e0 := hcell 0 (by decide)
        have e1 := hcell 1 (by decide)
        have e2 := hcell 2 (by decide)
        have e3 := hcell 3 (by decide)
        have e4 := hcell 4 (by decide)
        have e5 := hcell 5 (by decide)
        simp only [List.getElem?_cons_zero, List.getElem?_cons_succ, Nat.add_zero, Nat.reduceAdd] at e0 e1 e2 e3 e4 e5
        clear hcell hs2' hf1' hXc
        by_cases hnm : a = nm
        · have HE : Hid (N = some X) := by show _ = _; rw [HG.out, hdrop, getF, if_pos hnm]
          subst hnm
          have hcall := copied_any _ X (Nat.le_refl _) hXs (wr.alloc (.cells #[.string a, .int .i64 k', .bool b', .int .i64 n', .string t', .slice p1 l'.length q1, .slice p2 f'.length q2] 65)) (fun b => b < w.heap.size) #[.int .i64 k', .bool b', .int .i64 n', .string t', .slice p1 l'.length q1, .slice p2 f'.length q2] (hlv.conv (fun b hb hl => ⟨hb, Below.heap_alloc _ _ _ hl⟩))
          clear HG hdrop
          go_wp2_with (go_at_call 29; refine hcall.mono ?_; rintro e w2 ⟨⟨kk, bb, nn, tt, r1, s1, u1, r2, s2, u2, rfl, hlx⟩, h2⟩; have hb2 := ((Below.refl wr.heap.size wr).alloc (Nat.le_refl _) _).trans (h2.mono (by simp)); have m2 := m.keep (hb2.mono hms); obtain ⟨y0, y1, y2, y3, y4, y5⟩ := box6 m2.z; have z0 := box_fz m2.z 0; have z1 := box_fz m2.z 1; have z2 := box_fz m2.z 2; have z3 := box_fz m2.z 3; have z4 := box_fz m2.z 4; have z5 := box_fz m2.z 5)
          have F : Fr (fun _ => False) w w2 := Fr.of_below m2.b
          have hz8 : ((((((w2.setCell ⟨w.heap.size + 1, 0, none⟩ (.int .i64 kk)).setCell ⟨w.heap.size + 1, 1, none⟩ (.bool bb)).setCell ⟨w.heap.size + 1, 2, none⟩ (.int .i64 nn)).setCell ⟨w.heap.size + 1, 3, none⟩ (.string tt)).setCell ⟨w.heap.size + 1, 4, none⟩ (.slice r1 s1 u1)).setCell ⟨w.heap.size + 1, 5, none⟩ (.slice r2 s2 u2)).heap[w.heap.size + 1]? = some (.cells #[.int .i64 kk, .bool bb, .int .i64 nn, .string tt, .slice r1 s1 u1, .slice r2 s2 u2] 26 (0, 0)) := heap_set (heap_set (heap_set (heap_set (heap_set (heap_set (m2.z) 0 (.int .i64 kk)) 1 (.bool bb)) 2 (.int .i64 nn)) 3 (.string tt)) 4 (.slice r1 s1 u1)) 5 (.slice r2 s2 u2)
          refine bodyPost_ret (res13 hz8 rfl rfl) rfl ⟨Fr.below ((((((F.setNew (a := ⟨w.heap.size + 1, 0, none⟩) (.int .i64 kk) (Nat.le_succ _)).setNew (a := ⟨w.heap.size + 1, 1, none⟩) (.bool bb) (Nat.le_succ _)).setNew (a := ⟨w.heap.size + 1, 2, none⟩) (.int .i64 nn) (Nat.le_succ _)).setNew (a := ⟨w.heap.size + 1, 3, none⟩) (.string tt) (Nat.le_succ _)).setNew (a := ⟨w.heap.size + 1, 4, none⟩) (.slice r1 s1 u1) (Nat.le_succ _)).setNew (a := ⟨w.heap.size + 1, 5, none⟩) (.slice r2 s2 u2) (Nat.le_succ _)) (Nat.le_refl _) (fun _ _ => id), ?_⟩
          rw [HE.out]
          refine ⟨kk, bb, nn, tt, r1, s1, u1, r2, s2, u2, rfl, hlx.conv (fun c hc hl => ⟨?_, ?_⟩)⟩
          · have : wr.heap.size + 1 ≤ c := by simpa using hc
            omega
          · have : wr.heap.size + 1 ≤ c := by simpa using hc
            rw [Below.heap_setCell _ _ _ _ (by simp; omega), Below.heap_setCell _ _ _ _ (by simp; omega), Below.heap_setCell _ _ _ _ (by simp; omega), Below.heap_setCell _ _ _ _ (by simp; omega), Below.heap_setCell _ _ _ _ (by simp; omega), Below.heap_setCell _ _ _ _ (by simp; omega)]
        · have HE : Hid (N = getF nm (f.drop (i + 1))) := by show _ = _; rw [HG.out, hdrop, getF, if_neg hnm]
          have hne : (a.toList == nm.toList) = false := by
            rw [beq_eq_false_iff_ne]
            intro h
            rw [Lib.toList_data, Lib.toList_data] at h
            cases a
            cases nm
            simp at h
            exact hnm (by rw [h])
          clear HG hdrop
          go_wp2
          refine ⟨⟨i + 1, rfl, by simp, hlt, HE, m.keep ((Below.refl _ _).alloc hms _)⟩, ?_⟩
          simp
          omega
      · have hlt' : ¬ (i : Int) < (f.length : Int) := by omega
        have HE : Hid (N = none) := by show _ = _; rw [HG.out, List.drop_eq_nil_of_le (by omega)]; rfl
        have hmz := m.z
        obtain ⟨y0, y1, y2, y3, y4, y5⟩ := box6 hmz
        have z0 := box_fz hmz 0
        have z1 := box_fz hmz 1
        have z2 := box_fz hmz 2
        have z3 := box_fz hmz 3
        have z4 := box_fz hmz 4
        have z5 := box_fz hmz 5
        clear HG
        go_wp2
        have F : Fr (fun _ => False) w wr := Fr.of_below hmb
        have hz8 : ((((((wr.setCell ⟨w.heap.size + 1, 0, none⟩ (.int .i64 0)).setCell ⟨w.heap.size + 1, 1, none⟩ (.bool false)).setCell ⟨w.heap.size + 1, 2, none⟩ (.int .i64 0)).setCell ⟨w.heap.size + 1, 3, none⟩ (.string ⟨#[]⟩)).setCell ⟨w.heap.size + 1, 4, none⟩ (.slice none 0 0)).setCell ⟨w.heap.size + 1, 5, none⟩ (.slice none 0 0)).heap[w.heap.size + 1]? = some (.cells #[.int .i64 0, .bool false, .int .i64 0, .string ⟨#[]⟩, .slice none 0 0, .slice none 0 0] 26 (0, 0)) := heap_set (heap_set (heap_set (heap_set (heap_set (heap_set (hmz) 0 (.int .i64 0)) 1 (.bool false)) 2 (.int .i64 0)) 3 (.string ⟨#[]⟩)) 4 (.slice none 0 0)) 5 (.slice none 0 0)
        refine bodyPost_ret (res13 hz8 rfl rfl) rfl ⟨Fr.below ((((((F.setNew (a := ⟨w.heap.size + 1, 0, none⟩) (.int .i64 0) (Nat.le_succ _)).setNew (a := ⟨w.heap.size + 1, 1, none⟩) (.bool false) (Nat.le_succ _)).setNew (a := ⟨w.heap.size + 1, 2, none⟩) (.int .i64 0) (Nat.le_succ _)).setNew (a := ⟨w.heap.size + 1, 3, none⟩) (.string ⟨#[]⟩) (Nat.le_succ _)).setNew (a := ⟨w.heap.size + 1, 4, none⟩) (.slice none 0 0) (Nat.le_succ _)).setNew (a := ⟨w.heap.size + 1, 5, none⟩) (.slice none 0 0) (Nat.le_succ _)) (Nat.le_refl _) (fun _ _ => id), ?_⟩
        rw [HE.out]
        rfl
  · have HE : Hid (N = none) := by show _ = _; rw [← hN, getS, if_neg hk]
    have hk' : (k != 5) = true := by simp [hk]
    obtain ⟨x0, x1, x2, x3, x4, x5⟩ := box6 (hC ▸ m0.v)
    obtain ⟨y0, y1, y2, y3, y4, y5⟩ := box6 m0.z
    have z0 := box_fz m0.z 0
    have z1 := box_fz m0.z 1
    have z2 := box_fz m0.z 2
    have z3 := box_fz m0.z 3
    have z4 := box_fz m0.z 4
    have z5 := box_fz m0.z 5
    clear hN hk
    rw [hC] at m0
    go_enter Tryd.func13, Tryd.ntmps13
    go_wp2
    refine bodyPost_ret (res13 (v := .bool false) m0.z rfl rfl) rfl ⟨m0.b, ?_⟩
    rw [HE.out]
end Go.Proofs.YtehpdklnebognaaDoor
