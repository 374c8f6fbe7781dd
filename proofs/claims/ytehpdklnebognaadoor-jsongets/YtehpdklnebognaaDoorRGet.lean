/- What the reference's Get does at every value of bounded size: a contract, by walking its text. -/
import Derived.Test.YtehpdklnebognaaDoorGet
namespace Go.Proofs.YtehpdklnebognaaDoor
open Go.RowKit
namespace GetW

theorem res14 {w : World} {N1 : Nat} {a0 a1 a2 a3 a4 a5 v : Value} (h : w.heap[N1]? = some (.cells #[a0, a1, a2, a3, a4, a5] 26 (0, 0))) {tmps : Array Value} (ht : tmps[4]? = some (.pointer (some ⟨N1, 0, none⟩))) (h5 : tmps[5]? = some v) :
    (results Tryd.f14 tmps).run Tryd.prog w = .ok (.tuple #[.agg #[a0, a1, a2, a3, a4, a5], v]) w := by
  obtain ⟨y0, y1, y2, y3, y4, y5⟩ := box6 h
  simp only [results, Tryd.results14]
  simp [go_sem, ht, h5, y0, y1, y2, y3, y4, y5]

/-- How the reference's Get ends: the field's value itself is handed back. -/
def ROut (r : Option GV) (w : World) (e : Ending) (w' : World) : Prop :=
  Below w.heap.size w w' ∧ match r with
  | some y => ∃ (k : Int) (b : Bool) (n : Int) (t : ByteArray) (a1 : Option Addr) (l1 c1 : Nat) (a2 : Option Addr) (l2 c2 : Nat),
      e = .returned (.tuple #[.agg #[.int .i64 k, .bool b, .int .i64 n, .string t, .slice a1 l1 c1, .slice a2 l2 c2], .bool true]) ∧ LaidV w' (fun b => b < w.heap.size) y [.int .i64 k, .bool b, .int .i64 n, .string t, .slice a1 l1 c1, .slice a2 l2 c2]
  | none => e = .returned (.tuple #[.agg #[.int .i64 0, .bool false, .int .i64 0, .string ⟨#[]⟩, .slice none 0 0, .slice none 0 0], .bool false])
/-- The number in a slot. -/
def numOfG : Value → Nat
  | .int _ n => n.toNat
  | _ => 0

set_option maxRecDepth 20000 in
set_option maxHeartbeats 2000000 in
theorem rget_any (x : GV) (nm : ByteArray) (w : World) (ok : Nat → Prop) (cs : Array Value) (hx : LaidV w ok x cs.toList) (hsz : x.sz ≤ 2000000) : Calls Tryd.prog 14 #[.agg cs, .string nm] w (ROut (getS x nm) w) := by
  obtain ⟨N, hN⟩ : ∃ N, getS x nm = N := ⟨_, rfl⟩
  rw [hN]
  cases x with
  | mk k b n t l f =>
  obtain ⟨a1, c1, a2, c2, xs, ys, hcs, hs1, hs2, hl1, hf1⟩ := hx.form
  obtain rfl : cs = #[.int .i64 k, .bool b, .int .i64 n, .string t, .slice a1 l.length c1, .slice a2 f.length c2] := by
    cases cs
    simpa using hcs
  have hfl : f.length ≤ 2000000 := by have := szF_len f; unfold GV.sz at hsz; omega
  clear hcs hx
  obtain ⟨C, hC⟩ : ∃ C : Array Value, C = #[.int .i64 k, .bool b, .int .i64 n, .string t, .slice a1 l.length c1, .slice a2 f.length c2] := ⟨_, rfl⟩
  have m0 : CpAt w C ((w.alloc (.cells C 26)).alloc ZV0) :=
    ⟨(Below.heap_alloc _ _ _ (by simp)).trans (heap_alloc_new _ _), heap_new1 _ _ _, ((Below.refl _ _).alloc (Nat.le_refl _) _).alloc (by simp) _, by simp⟩
  by_cases hk : k = 5
  · have HN : Hid (N = getF nm f) := by show _ = _; rw [← hN, getS, if_pos hk]
    have hk' : (k != 5) = false := by simp [hk]
    clear hN hk
    obtain ⟨y0, y1, y2, y3, y4, y5⟩ := box6 (hC ▸ m0.v)
    rw [hC] at m0
    go_enter Tryd.func14, Tryd.ntmps14
    go_wp2
    clear y0 y1 y2 y3 y4 y5
    go_loopw [6] (fun u w' => ∃ i : Nat, u = .int .i64 (i : Int) ∧ i ≤ f.length ∧ Hid (N = getF nm (f.drop i)) ∧ CpAt w #[.int .i64 k, .bool b, .int .i64 n, .string t, .slice a1 l.length c1, .slice a2 f.length c2] w') (fun u _ => f.length - numOfG u)
    case atStart => exact ⟨0, rfl, Nat.zero_le _, HN, m0⟩
    case round =>
      obtain ⟨i, rfl, hil, HG, m⟩ := hrel
      have hmb := m.b
      have hms := m.s
      have x5 := (box6 m.v).2.2.2.2.2
      clear m0 HN hC
      by_cases hlt : i < f.length
      · have hlt' : (i : Int) < (f.length : Int) := by omega
        have hs2' : SlAt wr (fun b => b < w.heap.size) (.slice a2 f.length c2) f.length 7 ys := hs2.conv (by decide) (fun b _ hb => ⟨hb, hmb.block b hb⟩)
        have hf1' : LaidF wr (fun b => b < w.heap.size) f ys := hf1.conv (fun b _ hb => ⟨hb, hmb.block b hb⟩)
        obtain ⟨sb, off, es, ha2, hsb, hlv, hname, hcell⟩ := hs2'.field hf1' i hlt
        have hdrop := List.drop_eq_getElem_cons hlt
        obtain ⟨⟨a, X⟩, hX⟩ : ∃ X, f[i] = X := ⟨_, rfl⟩
        rw [hX] at hlv hname hdrop
        cases hXc : X with
        | mk k' b' n' t' l' f' =>
        simp only [hXc] at hlv
        obtain ⟨p1, q1, p2, q2, _, _, rfl, _⟩ := hlv.form
        rw [← hXc] at hlv
        subst ha2
        have e0 := hcell 0 (by decide)
        have e1 := hcell 1 (by decide)
        have e2 := hcell 2 (by decide)
        have e3 := hcell 3 (by decide)
        have e4 := hcell 4 (by decide)
        have e5 := hcell 5 (by decide)
        simp only [List.getElem?_cons_zero, List.getElem?_cons_succ, Nat.add_zero, Nat.reduceAdd] at e0 e1 e2 e3 e4 e5
        clear hcell hs2' hf1' hXc
        by_cases hnm : a = nm
        · have HE : Hid (N = some X) := by show _ = _; rw [HG.out, hdrop, getF, if_pos hnm]
          subst hnm
          have hee : (a.toList == a.toList) = true := by simp
          clear HG hdrop
          have hmz := m.z
          obtain ⟨y0, y1, y2, y3, y4, y5⟩ := box6 hmz
          have z0 := box_fz hmz 0
          have z1 := box_fz hmz 1
          have z2 := box_fz hmz 2
          have z3 := box_fz hmz 3
          have z4 := box_fz hmz 4
          have z5 := box_fz hmz 5
          go_wp2
          have F : Fr (fun _ => False) w wr := Fr.of_below hmb
          have hz8 : ((((((wr.setCell ⟨w.heap.size + 1, 0, none⟩ (Value.int .i64 k')).setCell ⟨w.heap.size + 1, 1, none⟩ (Value.bool b')).setCell ⟨w.heap.size + 1, 2, none⟩ (Value.int .i64 n')).setCell ⟨w.heap.size + 1, 3, none⟩ (Value.string t')).setCell ⟨w.heap.size + 1, 4, none⟩ (Value.slice p1 l'.length q1)).setCell ⟨w.heap.size + 1, 5, none⟩ (Value.slice p2 f'.length q2)).heap[w.heap.size + 1]? = some (.cells #[Value.int .i64 k', Value.bool b', Value.int .i64 n', Value.string t', Value.slice p1 l'.length q1, Value.slice p2 f'.length q2] 26 (0, 0)) := (heap_set (heap_set (heap_set (heap_set (heap_set (heap_set hmz 0 (Value.int .i64 k')) 1 (Value.bool b')) 2 (Value.int .i64 n')) 3 (Value.string t')) 4 (Value.slice p1 l'.length q1)) 5 (Value.slice p2 f'.length q2))
          refine bodyPost_ret (res14 hz8 rfl rfl) rfl ⟨Fr.below ((((((F.setNew (a := ⟨w.heap.size + 1, 0, none⟩) (Value.int .i64 k') (Nat.le_succ _)).setNew (a := ⟨w.heap.size + 1, 1, none⟩) (Value.bool b') (Nat.le_succ _)).setNew (a := ⟨w.heap.size + 1, 2, none⟩) (Value.int .i64 n') (Nat.le_succ _)).setNew (a := ⟨w.heap.size + 1, 3, none⟩) (Value.string t') (Nat.le_succ _)).setNew (a := ⟨w.heap.size + 1, 4, none⟩) (Value.slice p1 l'.length q1) (Nat.le_succ _)).setNew (a := ⟨w.heap.size + 1, 5, none⟩) (Value.slice p2 f'.length q2) (Nat.le_succ _)) (Nat.le_refl _) (fun _ _ => id), ?_⟩
          rw [HE.out]
          refine ⟨k', b', n', t', p1, l'.length, q1, p2, f'.length, q2, rfl, hlv.conv (fun c hc hl => ⟨hc, ?_⟩)⟩
          rw [Below.heap_setCell _ _ _ _ (by simp; omega), Below.heap_setCell _ _ _ _ (by simp; omega), Below.heap_setCell _ _ _ _ (by simp; omega), Below.heap_setCell _ _ _ _ (by simp; omega), Below.heap_setCell _ _ _ _ (by simp; omega), Below.heap_setCell _ _ _ _ (by simp; omega)]
        · have HE : Hid (N = getF nm (f.drop (i + 1))) := by show _ = _; rw [HG.out, hdrop, getF, if_neg hnm]
          have hne : (a.toList == nm.toList) = false := by
            rw [beq_eq_false_iff_ne]
            intro h
            rw [Lib.toList_data, Lib.toList_data] at h
            cases a
            cases nm
            simp at h
            exact hnm (by rw [h])
          clear HG hdrop
          go_wp2
          go_roundw
          case rel => exact ⟨i + 1, by simp, hlt, HE, m⟩
          case measure => simp [numOfG]; omega
      · have hlt' : ¬ (i : Int) < (f.length : Int) := by omega
        have HE : Hid (N = none) := by show _ = _; rw [HG.out, List.drop_eq_nil_of_le (by omega)]; rfl
        have hmz := m.z
        obtain ⟨y0, y1, y2, y3, y4, y5⟩ := box6 hmz
        have z0 := box_fz hmz 0
        have z1 := box_fz hmz 1
        have z2 := box_fz hmz 2
        have z3 := box_fz hmz 3
        have z4 := box_fz hmz 4
        have z5 := box_fz hmz 5
        clear HG
        go_wp2
        have F : Fr (fun _ => False) w wr := Fr.of_below hmb
        have hz8 : ((((((wr.setCell ⟨w.heap.size + 1, 0, none⟩ (Value.int .i64 0)).setCell ⟨w.heap.size + 1, 1, none⟩ (Value.bool false)).setCell ⟨w.heap.size + 1, 2, none⟩ (Value.int .i64 0)).setCell ⟨w.heap.size + 1, 3, none⟩ (Value.string ⟨#[]⟩)).setCell ⟨w.heap.size + 1, 4, none⟩ (Value.slice none 0 0)).setCell ⟨w.heap.size + 1, 5, none⟩ (Value.slice none 0 0)).heap[w.heap.size + 1]? = some (.cells #[Value.int .i64 0, Value.bool false, Value.int .i64 0, Value.string ⟨#[]⟩, Value.slice none 0 0, Value.slice none 0 0] 26 (0, 0)) := (heap_set (heap_set (heap_set (heap_set (heap_set (heap_set hmz 0 (Value.int .i64 0)) 1 (Value.bool false)) 2 (Value.int .i64 0)) 3 (Value.string ⟨#[]⟩)) 4 (Value.slice none 0 0)) 5 (Value.slice none 0 0))
        refine bodyPost_ret (res14 hz8 rfl rfl) rfl ⟨Fr.below ((((((F.setNew (a := ⟨w.heap.size + 1, 0, none⟩) (Value.int .i64 0) (Nat.le_succ _)).setNew (a := ⟨w.heap.size + 1, 1, none⟩) (Value.bool false) (Nat.le_succ _)).setNew (a := ⟨w.heap.size + 1, 2, none⟩) (Value.int .i64 0) (Nat.le_succ _)).setNew (a := ⟨w.heap.size + 1, 3, none⟩) (Value.string ⟨#[]⟩) (Nat.le_succ _)).setNew (a := ⟨w.heap.size + 1, 4, none⟩) (Value.slice none 0 0) (Nat.le_succ _)).setNew (a := ⟨w.heap.size + 1, 5, none⟩) (Value.slice none 0 0) (Nat.le_succ _)) (Nat.le_refl _) (fun _ _ => id), ?_⟩
        rw [HE.out]
        rfl
  · have HE : Hid (N = none) := by show _ = _; rw [← hN, getS, if_neg hk]
    have hk' : (k != 5) = true := by simp [hk]
    have hmz := m0.z
    obtain ⟨x0, x1, x2, x3, x4, x5⟩ := box6 (hC ▸ m0.v)
    clear hN hk
    rw [hC] at m0 hmz
    obtain ⟨y0, y1, y2, y3, y4, y5⟩ := box6 hmz
    have z0 := box_fz hmz 0
    have z1 := box_fz hmz 1
    have z2 := box_fz hmz 2
    have z3 := box_fz hmz 3
    have z4 := box_fz hmz 4
    have z5 := box_fz hmz 5
    go_enter Tryd.func14, Tryd.ntmps14
    go_wp2
    refine bodyPost_ret (res14 (v := .bool false) m0.z rfl rfl) rfl ⟨m0.b, ?_⟩
    rw [HE.out]
end GetW
end Go.Proofs.YtehpdklnebognaaDoor
