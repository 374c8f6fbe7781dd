/- What canon.namesCanBeTold answers: are an object's names sound, and none there twice? What canon.allCanBeTold and canon.canBeTold answer at every value. -/
import Derived.Test.YtiakidomcjpdhaaGreatDoorG15
import Derived.Test.YtiakidomcjpdhaaGreatDoorG18
import Derived.Maps.OwnOps
import Derived.Test.YtiakidomcjpdhaaGreatDoorG07
namespace Go.Proofs.YtiakidomcjpdhaaGreatDoor
open Go.RowKit
open Go.Maps
namespace Pu
open SndW RefW EncW

/-- How often a name is there among the first. -/
def tms (f : List (ByteArray × GV)) (i : Nat) (nm : ByteArray) : Int := if (f.take i).any (fun y => decide (y.1 = nm)) then 1 else 0
theorem tms_same (f : List (ByteArray × GV)) (i : Nat) (h : i < f.length) : tms f (i + 1) (f[i]).1 = 1 := by
  unfold tms
  rw [List.take_succ_eq_append_getElem h, List.any_append, if_pos]
  rw [show List.any [f[i]] (fun y => decide (y.1 = (f[i]).1)) = true by rw [List.any_cons, decide_eq_true rfl, Bool.true_or], Bool.or_true]
theorem tms_other (f : List (ByteArray × GV)) (i : Nat) (h : i < f.length) (nm : ByteArray) (hn : nm ≠ (f[i]).1) : tms f (i + 1) nm = tms f i nm := by
  unfold tms
  rw [List.take_succ_eq_append_getElem h, List.any_append]
  rw [show List.any [f[i]] (fun y => decide (y.1 = nm)) = false by rw [List.any_cons, decide_eq_false (fun e => hn e.symm), List.any_nil, Bool.or_false], Bool.or_false]
theorem tms_one {f : List (ByteArray × GV)} {i : Nat} {nm : ByteArray} (h : tms f i nm = 1) : ∃ k, ∃ hk : k < f.length, k < i ∧ (f[k]).1 = nm := by
  unfold tms at h
  split at h
  · rename_i ha
    rw [List.any_eq_true] at ha
    obtain ⟨y, hy, he⟩ := ha
    obtain ⟨k, hk, rfl⟩ := List.mem_iff_getElem.1 hy
    have hk' := hk
    rw [List.length_take] at hk'
    refine ⟨k, by omega, by omega, ?_⟩
    rw [List.getElem_take] at he
    simpa using he
  · omega
theorem tms_none {f : List (ByteArray × GV)} {i : Nat} {nm : ByteArray} (h : tms f i nm = 0) : ∀ k (hk : k < f.length), k < i → (f[k]).1 ≠ nm := by
  intro k hk hki he
  unfold tms at h
  rw [if_pos] at h
  · omega
  · rw [List.any_eq_true]
    exact ⟨f[k], List.mem_iff_getElem.2 ⟨k, by rw [List.length_take]; omega, by rw [List.getElem_take]⟩, by simpa using he⟩
theorem tms_two (f : List (ByteArray × GV)) (i : Nat) (nm : ByteArray) : tms f i nm = 0 ∨ tms f i nm = 1 := by
  unfold tms
  split <;> simp
set_option maxRecDepth 20000 in
set_option maxHeartbeats 8000000 in
theorem namesC_any (f : List (ByteArray × GV)) (hfl : f.length ≤ 2000000) (hnm : ∀ i (h : i < f.length), (f[i]).1.size ≤ 17592186044416) (w : World) (ok : Nat → Prop) (a2 : Option Addr) (c2 : Nat) (ys : List Value) (hs2 : SlAt w ok (.slice a2 f.length c2) f.length 7 ys) (hf1 : LaidF w ok f ys) :
    Calls Tryz.prog 82 #[.slice a2 f.length c2] w fun e w' => NmOut f e ∧ Below w.heap.size w w' := by
  have hmm := @run_makeMap Tryz.prog
  go_enter Tryz.func82, Tryz.ntmps82
  go_wp2
  go_loopw [9] (fun u w' => ∃ (i n : Nat) (D : DataW Unit), u = .int .i64 (i : Int) ∧ i ≤ f.length ∧ n ≤ i ∧ w'.ownsMap Tryz.prog 9 (plainElem Tryz.prog 3) w.heap.size n D ∧ Hid (∀ nm : ByteArray, D.atKey (.string nm.data.toList) (.lit (.int .i64 0)) = .lit (.int .i64 (tms f i nm))) ∧ Hid (∀ j (h : j < f.length), j < i → badAt (f[j]).1 0 < 0 ∧ ∀ k (hk : k < f.length), k < j → (f[k]).1 ≠ (f[j]).1) ∧ Below w.heap.size w w') (fun u _ => f.length - numOf u)
  case atStart => exact ⟨0, 0, .map [], rfl, Nat.zero_le _, Nat.le_refl _, World.ownsMap_made _ _ _ _, fun nm => rfl, fun _ _ h => by omega, (Below.refl _ _).alloc (Nat.le_refl _) _⟩
  case round =>
    obtain ⟨i, n, D, rfl, hil, hni0, om, HD, HI, hmb⟩ := hrel
    have hlt0 := om.lt
    by_cases hlt : i < f.length
    · have hlt' : (i : Int) < (f.length : Int) := by omega
      obtain ⟨sb, off, es, ha2, hsb, hlv, hname, hcell⟩ := SlAt.field (hs2.conv (ok' := fun b => b < wr.heap.size) (w' := wr) (by decide) (fun b _ hb => ⟨Nat.lt_of_lt_of_le hb hmb.size, hmb.block b hb⟩)) (hf1.conv (fun b _ hb => ⟨Nat.lt_of_lt_of_le hb hmb.size, hmb.block b hb⟩)) i hlt
      have hni := hnm i hlt
      have HN : Hid (NamesOK f → badAt (f[i]).1 0 < 0 ∧ ∀ k (hk : k < f.length), k < i → (f[k]).1 ≠ (f[i]).1) := fun h => h i hlt
      have HS : Hid (badAt (f[i]).1 0 < 0 → tms f i (f[i]).1 = 0 → ∀ j (h : j < f.length), j < i + 1 → badAt (f[j]).1 0 < 0 ∧ ∀ k (hk : k < f.length), k < j → (f[k]).1 ≠ (f[j]).1) := by
        intro h1 h2 j h hj
        by_cases hji : j = i
        · subst hji; exact ⟨h1, fun k hk hkj => tms_none h2 k hk hkj⟩
        · exact HI.out j h (by omega)
      have HT : Hid (tms f (i + 1) (f[i]).1 = 1 ∧ ∀ nm, nm ≠ (f[i]).1 → tms f (i + 1) nm = tms f i nm) := ⟨tms_same f i hlt, fun nm h => tms_other f i hlt nm h⟩
      have HK := HD.out (f[i]).1
      have HTT := tms_two f i (f[i]).1
      have HO : Hid (tms f i (f[i]).1 = 1 → ¬ NamesOK f) := fun h g => by
        obtain ⟨k, hk, hki, he⟩ := tms_one h
        exact (g i hlt).2 k hk hki he
      obtain ⟨X, hX⟩ : ∃ X, (f[i]).2 = X := ⟨_, rfl⟩
      rw [hX] at hlv
      obtain ⟨nm, hN⟩ : ∃ nm, (f[i]).1 = nm := ⟨_, rfl⟩
      rw [hN] at hname hni HN HS HT HK HTT HO
      cases X with
      | mk k' b' n' t' l' f' =>
      obtain ⟨p1, q1, p2, q2, _, _, rfl, _⟩ := hlv.form
      subst ha2
      have e0 := hcell 0 (by decide)
      have e1 := hcell 1 (by decide)
      have e2 := hcell 2 (by decide)
      have e3 := hcell 3 (by decide)
      have e4 := hcell 4 (by decide)
      have e5 := hcell 5 (by decide)
      simp only [List.getElem?_cons_zero, List.getElem?_cons_succ, Nat.add_zero, Nat.reduceAdd] at e0 e1 e2 e3 e4 e5
      have hsz : nm.size ≤ maxLen := by unfold maxLen; omega
      have hkey : keyOf Tryz.prog 9 (.string nm) = some (.string nm.data.toList) := Go.WideMaps.keyOf_string_mk Tryz.underlying9 hsz
      have hnb : n < maxLen := by unfold maxLen; omega
      have hbd := badAt_bd nm
      obtain ⟨N, hNN⟩ : ∃ N, badAt nm 0 = N := ⟨_, rfl⟩
      have cS := fun W => isSound_any nm W (by omega)
      rw [hNN] at hbd HN HS
      simp only [hNN] at cS
      obtain ⟨T, hT⟩ : ∃ T, tms f i nm = T := ⟨_, rfl⟩
      rw [hT] at HS HK HTT HO
      have HT0 : Hid (tms f i nm = T) := hT
      have hsame := fun d z => atKey_put_same om.isMap (show Go.WideAt.IsKeyLit (.string nm.data.toList) by trivial) d z
      have hstep : ∀ W2 : World, (wr.alloc (.cells #[.string nm, .int .i64 k', .bool b', .int .i64 n', .string t', .slice p1 l'.length q1, .slice p2 f'.length q2] 54)).grownBy W2 (some w.heap.size) → W2.cell? ⟨wr.heap.size, 0, none⟩ = some (.string nm) ∧ Below w.heap.size w W2 := by
        intro W2 g2
        have fg : Fr (fun k => k = w.heap.size) _ W2 := Fr.grown g2 (fun k e _ => by simpa using e.symm)
        have hs1 := fg.size
        have hs2 := hmb.size
        simp only [World.size_alloc] at hs1
        refine ⟨?_, ?_⟩
        · have h1 := fg.block wr.heap.size (by simp) (by omega)
          rw [heap_alloc_new] at h1
          simp [World.cell?, h1]
        · refine ⟨fg.os.trans hmb.os, fg.tape.trans hmb.tape, fg.output.trans hmb.output, by omega, fun k hk => ?_⟩
          rw [fg.block k (by simp; omega) (by omega), Below.heap_alloc _ _ _ (by omega), hmb.block k hk]
      clear hcell hlv hX hs2 hf1 hnm HI hN hNN hmm hT
      rcases HTT with rfl | rfl
      · have HS1 : Hid (N < 0 → ∀ j (h : j < f.length), j < i + 1 → badAt (f[j]).1 0 < 0 ∧ ∀ k (hk : k < f.length), k < j → (f[k]).1 ≠ (f[j]).1) := fun h => HS.out h rfl
        have HD1 : Hid (∀ nm' : ByteArray, (D.put (.string nm.data.toList) (.lit (.int .i64 1))).atKey (.string nm'.data.toList) (.lit (.int .i64 0)) = .lit (.int .i64 (tms f (i + 1) nm'))) := by
          intro nm'
          by_cases h : nm' = nm
          · subst h
            rw [hsame, HT.out.1]
          · rw [atKey_put_other (fun e => h (str_inj e)), HD.out, HT.out.2 _ h]
        clear HS HO HT HT0 HD
        by_cases hN1 : N = -1
        · subst hN1
          go_wp2_with (first
            | (at_lookup; refine wpList_lookup_own_int _ rfl _ _ 140 rfl 9 3 .i64 law Tryz.underlying140 Tryz.underlying3 (zero3 _) w.heap.size (n + 1) _ rfl om2 _ _ rfl hkey ?_; intro c hat hwc; rw [hsame] at hat; obtain rfl : c = 1 := by (injection hat with hat; injection hat with _ hat; exact hat.symm))
            | (at_lookup; refine wpList_lookup_own_int _ rfl _ _ 140 rfl 9 3 .i64 law Tryz.underlying140 Tryz.underlying3 (zero3 _) w.heap.size n D rfl (om.alloc _) _ _ rfl hkey ?_; intro c hat hwc; obtain rfl : c = 0 := by (rw [HK] at hat; injection hat with hat; injection hat with _ hat; exact hat.symm))
            | (at_mapUpdate; refine wpList_mapUpdate_own _ rfl _ _ _ 140 rfl 9 3 law Tryz.underlying140 _ w.heap.size n D rfl (om.alloc _) hnb _ _ _ rfl rfl hkey _ [] (plainElem_int Tryz.underlying3 (WalkArith.wf_i64 (by omega))) ?_; intro w2 om2 g2; obtain ⟨cb2, hb2⟩ := hstep w2 g2)
            | (go_at_call 80; refine (cS _).mono ?_; rintro e w3 ⟨rfl, hb3⟩))
          go_roundw
          case rel =>
            obtain ⟨es, clock, h1, h2⟩ := om2
            exact ⟨i + 1, n + 1, _, by simp, hlt, by omega, ⟨es, clock, (hb3.block _ (Nat.lt_of_lt_of_le hlt0 (by have := g2.size; simp only [World.size_alloc] at this; omega))).trans h1, h2⟩, HD1, HS1.out (by decide), hb2.trans (hb3.mono hb2.size)⟩
          case measure => simp [numOf]; omega
        · have HF : Hid (¬ NamesOK f) := fun h => by
            have := (HN.out h).1
            omega
          have hN2 : (N == -1) = false := by simpa using hN1
          clear HN HS1 HD1
          go_wp2_with (first
            | (at_lookup; refine wpList_lookup_own_int _ rfl _ _ 140 rfl 9 3 .i64 law Tryz.underlying140 Tryz.underlying3 (zero3 _) w.heap.size (n + 1) _ rfl om2 _ _ rfl hkey ?_; intro c hat hwc; rw [hsame] at hat; obtain rfl : c = 1 := by (injection hat with hat; injection hat with _ hat; exact hat.symm))
            | (at_lookup; refine wpList_lookup_own_int _ rfl _ _ 140 rfl 9 3 .i64 law Tryz.underlying140 Tryz.underlying3 (zero3 _) w.heap.size n D rfl (om.alloc _) _ _ rfl hkey ?_; intro c hat hwc; obtain rfl : c = 0 := by (rw [HK] at hat; injection hat with hat; injection hat with _ hat; exact hat.symm))
            | (at_mapUpdate; refine wpList_mapUpdate_own _ rfl _ _ _ 140 rfl 9 3 law Tryz.underlying140 _ w.heap.size n D rfl (om.alloc _) hnb _ _ _ rfl rfl hkey _ [] (plainElem_int Tryz.underlying3 (WalkArith.wf_i64 (by omega))) ?_; intro w2 om2 g2; obtain ⟨cb2, hb2⟩ := hstep w2 g2)
            | (go_at_call 80; refine (cS _).mono ?_; rintro e w3 ⟨rfl, hb3⟩))
          go_ret
          exact ⟨NmOut.no HF.out, hb2.trans (hb3.mono hb2.size)⟩
      · have HF : Hid (¬ NamesOK f) := HO.out rfl
        clear HS HO HT HT0 HD HN
        go_wp2_with (first
          | (at_lookup; refine wpList_lookup_own_int _ rfl _ _ 140 rfl 9 3 .i64 law Tryz.underlying140 Tryz.underlying3 (zero3 _) w.heap.size (n + 1) _ rfl om2 _ _ rfl hkey ?_; intro c hat hwc; rw [hsame] at hat; obtain rfl : c = 2 := by (injection hat with hat; injection hat with _ hat; exact hat.symm))
          | (at_lookup; refine wpList_lookup_own_int _ rfl _ _ 140 rfl 9 3 .i64 law Tryz.underlying140 Tryz.underlying3 (zero3 _) w.heap.size n D rfl (om.alloc _) _ _ rfl hkey ?_; intro c hat hwc; obtain rfl : c = 1 := by (rw [HK] at hat; injection hat with hat; injection hat with _ hat; exact hat.symm))
          | (at_mapUpdate; refine wpList_mapUpdate_own _ rfl _ _ _ 140 rfl 9 3 law Tryz.underlying140 _ w.heap.size n D rfl (om.alloc _) hnb _ _ _ rfl rfl hkey _ [] (plainElem_int Tryz.underlying3 (WalkArith.wf_i64 (by omega))) ?_; intro w2 om2 g2; obtain ⟨cb2, hb2⟩ := hstep w2 g2))
        go_ret
        exact ⟨NmOut.no HF.out, hb2⟩
    · have hlt' : ¬ (i : Int) < (f.length : Int) := by omega
      have HF : Hid (NamesOK f) := fun j h => HI.out j h (by omega)
      clear HI
      go_wp2
      go_ret
      exact ⟨NmOut.yes HF.out, hmb⟩
end Pu
end Go.Proofs.YtiakidomcjpdhaaGreatDoor

namespace Go.Proofs.YtiakidomcjpdhaaGreatDoor
open Go.RowKit Go.Shelf
attribute [local go_sem] Oper.semAt_some
namespace Pt
open Pu

/-- All of them can be told. -/
def AllT (d : Int) (L : List GV) : Prop := ∀ y, y ∈ L → TdV y d
/-- The values that were given so far. -/
def prs {w0 : World} {ok : Nat → Prop} {Q : GV → Prop} (pre : List (Part w0 ok Q)) : List GV := pre.map (·.1.1)
theorem AllT.one {w0 : World} {ok : Nat → Prop} {Q : GV → Prop} {pre : List (Part w0 ok Q)} {d : Int} (h : AllT d (prs pre)) (p : Part w0 ok Q) : AllT d (prs (pre ++ [p])) ↔ TdV p.1.1 d := by
  unfold AllT prs at *
  rw [List.map_append]
  constructor
  · intro g
    exact g _ (by simp)
  · intro g y hy
    rw [List.mem_append] at hy
    rcases hy with hy | hy
    · exact h y hy
    · rw [List.map_cons, List.map_nil, List.mem_singleton] at hy
      subst hy
      exact g
theorem AllT.pre {d : Int} {a b : List GV} (h : AllT d b) (hp : a <+: b) : AllT d a := fun y hy => h y (hp.subset hy)
def CanAt (x : GV) : Prop := ∀ (d : Int) (w : World) (ok : Nat → Prop) (cs : Array Value), LaidV w ok x cs.toList → 0 ≤ d → d + x.sz ≤ 1000000000 → Calls Tryz.prog 58 #[.agg cs, .int .i64 d] w fun e w' => Says' (TdV x d) e ∧ Below w.heap.size w w'
set_option maxRecDepth 100000 in
set_option maxHeartbeats 2000000 in
theorem all_step (k : Int) (b : Bool) (n : Int) (t : ByteArray) (l : List GV) (f : List (ByteArray × GV)) (hsz : (GV.mk k b n t l f).sz ≤ 2000000) (hl : ∀ i (h : i < l.length), CanAt (l[i]) ∧ (l[i]).sz ≤ 2000000) (hf : ∀ i (h : i < f.length), CanAt (f[i]).2 ∧ (f[i]).2.sz ≤ 2000000)
    (d : Int) (w : World) (ok : Nat → Prop) (cs : Array Value) (hx : LaidV w ok (.mk k b n t l f) cs.toList) (hd0 : 0 ≤ d) (hd1 : d ≤ 100000000) :
    Calls Tryz.prog 81 #[.agg cs, .int .i64 d] w fun e w' => Says' (AllT d (psV (.mk k b n t l f))) e ∧ Below w.heap.size w w' := by
  obtain ⟨T, hT⟩ : ∃ T, AllT d (psV (.mk k b n t l f)) = T := ⟨_, rfl⟩
  rw [hT]
  have HT : Hid (AllT d (psV (.mk k b n t l f)) = T) := hT
  clear hT
  obtain ⟨a1, c1, a2, c2, xs, ys, hcs, -, -, -, -⟩ := hx.form
  have hcs' : cs = #[.int .i64 k, .bool b, .int .i64 n, .string t, .slice a1 l.length c1, .slice a2 f.length c2] := by
    cases cs
    simpa using hcs
  have c79 := fun W => parts79 cs W k b n t _ _ hcs'
  have HX : Hid (LaidV w ok (.mk k b n t l f) cs.toList) := hx
  subst hcs'
  clear hcs hx
  refine (callsIn_wide (n := 3)).1 ?_
  refine callsIn_of_wp_marks Tryz.func81 rfl trivial ?_ rfl
  simp only [Tryz.ntmps81, List.size_toArray, List.length_cons, List.length_nil, Nat.reduceAdd, Nat.reduceSub, Array.replicate_succ, Array.replicate_zero, List.push_toArray, List.append_toArray, List.nil_append, List.cons_append]
  gi_wp2_with (refine ⟨trivial, ?_⟩; gi_at_call 79; refine (callsIn_wide.2 (c79 _)).mono ?_; rintro e w' ⟨rfl, rfl⟩)
  obtain ⟨CS, hCS⟩ : ∃ CS : Array Value, CS = #[.int .i64 k, .bool b, .int .i64 n, .string t, .slice a1 l.length c1, .slice a2 f.length c2] := ⟨_, rfl⟩
  have HX2 : Hid (LaidV w ok (.mk k b n t l f) CS.toList) := by rw [hCS]; exact HX.out
  rw [← hCS]
  obtain ⟨W0, hW0⟩ : ∃ W0, ((((w.alloc (.cells CS 25)).alloc (.cells #[.int .i64 d] 3)).alloc (.cells #[.bool false] 4)).alloc (.cells CS 25)) = W0 := ⟨_, rfl⟩
  have hB0 : Below w.heap.size w W0 := by rw [← hW0]; exact ((((Below.refl _ w).alloc (Nat.le_refl _) _).alloc (by simp) _).alloc (by simp; omega) _).alloc (by simp; omega) _
  have hs0 : W0.heap.size = w.heap.size + 4 := by rw [← hW0]; simp
  have hn0 : W0.heap[w.heap.size + 1]? = some (.cells #[.int .i64 d] 3 (0, 0)) := by
    rw [← hW0]
    have := heap_alloc_new (w.alloc (.cells CS 25)) (.cells #[.int .i64 d] 3)
    rw [World.size_alloc] at this
    exact ((Below.heap_alloc _ _ _ (by simp)).trans (Below.heap_alloc _ _ _ (by simp))).trans this
  have hr0 : W0.heap[w.heap.size + 1 + 1]? = some (.cells #[.bool false] 4 (0, 0)) := by
    rw [← hW0]
    have := heap_alloc_new ((w.alloc (.cells CS 25)).alloc (.cells #[.int .i64 d] 3)) (.cells #[.bool false] 4)
    rw [World.size_alloc, World.size_alloc] at this
    exact (Below.heap_alloc _ _ _ (by simp)).trans this
  have hv0 : W0.heap[w.heap.size + 1 + 1 + 1]? = some (.cells CS 25 (0, 0)) := by
    rw [← hW0]
    have := heap_alloc_new (((w.alloc (.cells CS 25)).alloc (.cells #[.int .i64 d] 3)).alloc (.cells #[.bool false] 4)) (.cells CS 25)
    rw [World.size_alloc, World.size_alloc, World.size_alloc] at this
    exact this
  rw [hW0]
  obtain ⟨PS, hPS⟩ : ∃ PS, psV (.mk k b n t l f) = PS := ⟨_, rfl⟩
  have hseq := parts_any k b n t l f hsz w ok CS HX2.out (fun y => CanAt y ∧ y.sz ≤ 2000000) hl hf (w.heap.size + 1 + 1 + 1) W0 hB0 hv0 (3 - 1)
  rw [hPS] at hseq HT
  clear hW0 hCS HX HX2 hl hf hPS hv0 c79
  refine wpIn_rangeFunc_ownH (n := 3) rfl (by decide) (gf := 111) (lb := #[.pointer (some ⟨w.heap.size + 1 + 1 + 1, 0, none⟩)]) rfl trivial (enters_of Tryz.func111 (by kernel_rfl) rfl) hseq belowK_t (belowK_b (by omega)) (Below.refl _ _) (fun _ => rfl)
    (fun pre W => W.heap[w.heap.size + 1]? = some (.cells #[.int .i64 d] 3 (0, 0)) ∧ W.heap[w.heap.size + 1 + 1]? = some (.cells #[.bool false] 4 (0, 0)) ∧ AllT d (prs pre) ∧ Below w.heap.size w W ∧ w.heap.size + 4 ≤ W.heap.size)
    (fun c pre W => c = .ret ∧ W.heap[w.heap.size + 1 + 1]? = some (.cells #[.bool false] 4 (0, 0)) ∧ ¬ AllT d (prs pre) ∧ Below w.heap.size w W)
    (fun s A B row hs hg hr => ⟨cells_kept hs.1 hg (fun r e => (hr r e).2), cells_kept hs.2.1 hg (fun r e => (hr r e).2), hs.2.2.1, ownFrom_below (β := Unit) (Nat.le_refl _) (by omega) () A B row hs.2.2.2.1 hg hr, Nat.le_trans hs.2.2.2.2 hg.size⟩)
    (fun c s A B row hs hg hr => ⟨hs.1, cells_kept hs.2.1 hg (fun r e => (hr r e).2), hs.2.2.1, ownFrom_below (β := Unit) (Nat.le_refl _) (by omega) () A B row hs.2.2.2 hg hr⟩)
    ⟨hn0, hr0, fun y hy => (by cases hy), hB0, by omega⟩
    (fun x a' W => ∃ Bx, w.heap.size + 4 ≤ Bx ∧ W.heap[Bx]? = some (.cells x.1.2 25 (0, 0)) ∧ a' = { tmps := #[.agg CS, .int .i64 d, .pointer (some ⟨w.heap.size, 0, none⟩), .pointer (some ⟨w.heap.size + 1, 0, none⟩), .pointer (some ⟨w.heap.size + 1 + 1, 0, none⟩), .pointer (some ⟨Bx, 0, none⟩), .agg CS, .func (.func 111) #[] #[.pointer (some ⟨w.heap.size + 1 + 1 + 1, 0, none⟩)], .agg x.1.2, undef, undef, undef, undef], defers := [] })
    (fun x a' s A B row hs hg hr => by obtain ⟨Bx, h1, h2, h3⟩ := hs; exact ⟨Bx, h1, cells_kept h2 hg (fun r e => (hr r e).2), h3⟩) ?assign ?body ?done ?stop
  case assign =>
    rintro lp pre ⟨⟨X, cs'⟩, hX1, hX2⟩ W K ⟨hi0, hi1, hiT, hi2, hi3⟩ hK
    cases X with
    | mk kk bb nn tt ll ff =>
    obtain ⟨p1, q1, p2, q2, _, _, hc', -, -, -, -⟩ := hX1.form
    have hcc : cs' = #[.int .i64 kk, .bool bb, .int .i64 nn, .string tt, .slice p1 ll.length q1, .slice p2 ff.length q2] := by
      cases cs'
      simpa using hc'
    subst hcc
    gi_wp2
    refine hK _ _ ((KeepsOthers.alloc _ _).from _) ((Below.refl _ W).alloc hi2.size _) ⟨?_, ?_, hiT, hi2.alloc hi2.size _, by simp; omega⟩ ⟨W.heap.size, ?_, heap_alloc_new _ _, rfl⟩
    · exact (Below.heap_alloc _ _ _ (lt_of_block hi0)).trans hi0
    · exact (Below.heap_alloc _ _ _ (lt_of_block hi1)).trans hi1
    · have := hi3
      omega
  case body =>
    rintro lp pre ⟨⟨X, cs'⟩, hX1, hX2⟩ a' W hlp ⟨r, hr⟩ ⟨hc, hcr, hpT, hB, hWs⟩ ⟨Bx, hBx, hbx, rfl⟩ hlt
    have HPT : Hid (AllT d (prs pre)) := hpT
    clear hpT
    have hcall := hX2.1 d W (fun b => b < w.heap.size) cs' (hX1.conv (fun b _ hl => ⟨hl, hB.block b hl⟩)) hd0 (by have := hX2.2; omega)
    have HAP : Hid (AllT d (prs (pre ++ [⟨(X, cs'), hX1, hX2⟩])) ↔ TdV X d) := HPT.out.one _
    obtain ⟨Y, hY⟩ : ∃ Y, TdV X d = Y := ⟨_, rfl⟩
    rw [hY] at hcall HAP
    have hc2 : Calls Tryz.prog 58 #[.agg cs', .int .i64 d] W fun e w' => (e = .returned (.bool true) ∧ Hid Y ∧ Below W.heap.size W w') ∨ (e = .returned (.bool false) ∧ Hid (¬ Y) ∧ Below W.heap.size W w') := by
      refine hcall.mono ?_
      rintro e w' ⟨⟨V, e1, e2⟩, e3⟩
      cases V with
      | true => exact .inl ⟨e1, e2.1 rfl, e3⟩
      | false => exact .inr ⟨e1, (fun h => nomatch (e2.2 h) : ¬ Y), e3⟩
    clear hcall hY
    cases X with
    | mk kk bb nn tt ll ff =>
    obtain ⟨p1, q1, p2, q2, _, _, hc', -, -, -, -⟩ := hX1.form
    have hcc : cs' = #[.int .i64 kk, .bool bb, .int .i64 nn, .string tt, .slice p1 ll.length q1, .slice p2 ff.length q2] := by
      cases cs'
      simpa using hc'
    subst hcc
    obtain ⟨y0, y1, y2, y3, y4, y5⟩ := box6 hbx
    have hcn : W.cell? ⟨w.heap.size + 1, 0, none⟩ = some (.int .i64 d) := by simp [World.cell?, hc]
    gi_wp2_with (refine ⟨trivial, ?_⟩; gi_at_call 58; refine (CallsIn.inRound lp (callsIn_wide.2 hc2)).mono ?_; rintro e w5 (⟨rfl, HY, hb5⟩ | ⟨rfl, HY, hb5⟩); all_goals (have hc5 := (hb5.block _ (lt_of_block hc)).trans hc; have hcr5 := (hb5.block _ (lt_of_block hcr)).trans hcr; have hcf5 : w5.frozen? ⟨w.heap.size + 1 + 1, 0, none⟩ = false := box_fz hcr5 0; have hcc5 : w5.cell? ⟨w.heap.size + 1 + 1, 0, none⟩ = some (.bool false) := by simp [World.cell?, hcr5]))
    · exact ⟨keeps_below hb5, hb5.mono hB.size, hc5, hcr5, HAP.out.2 HY.out, hB.trans (hb5.mono hB.size), Nat.le_trans hWs hb5.size⟩
    · refine ⟨(keeps_below hb5).trans ((KeepsOthers.setCell _ _ _).from _), rfl, ?_, fun h => HY.out (HAP.out.1 h), (hB.trans (hb5.mono hB.size)).setCell (p := ⟨w.heap.size + 1 + 1, 0, none⟩) (by simp; omega) _⟩
      simp [World.setCell, Array.getElem?_modify, hcr5]
  case done =>
    rintro D ys W hD hS ⟨hc, hcr, hpT, hB, hWs⟩ hK
    have HF : Hid (Says' T (.returned (.bool true))) := Says'.of ⟨fun _ => HT.out ▸ (hS ▸ hpT : AllT d PS), fun _ => rfl⟩
    have hcf : W.frozen? ⟨w.heap.size + 1 + 1, 0, none⟩ = false := box_fz hcr 0
    have hcc : W.cell? ⟨w.heap.size + 1 + 1, 0, none⟩ = some (.bool false) := by simp [World.cell?, hcr]
    clear hpT hS hseq
    gi_wp2
    refine ⟨by simp, .inl ⟨_, _, rfl, run_takeDeferred (b := D) (by simpa [World.setCell, Array.getElem?_modify, show w.heap.size + 1 + 1 ≠ D by omega] using hK), ?_⟩⟩
    have hB2 : Below w.heap.size w (W.setCell ⟨w.heap.size + 1 + 1, 0, none⟩ (.bool true)) := hB.setCell (p := ⟨w.heap.size + 1 + 1, 0, none⟩) (by simp; omega) _
    have hK2 : (W.setCell ⟨w.heap.size + 1 + 1, 0, none⟩ (.bool true)).heap[D]? = some (.deferred (some [])) := by simpa [World.setCell, Array.getElem?_modify, show w.heap.size + 1 + 1 ≠ D by omega] using hK
    have hc3 : ((W.setCell ⟨w.heap.size + 1 + 1, 0, none⟩ (.bool true)).putObj D (.deferred none)).cell? ⟨w.heap.size + 1 + 1, 0, none⟩ = some (.bool true) := by
      simp [World.cell?, World.putObj, World.setCell, Array.getElem?_modify, hcr, show D ≠ w.heap.size + 1 + 1 by omega]
    refine ⟨_, (by simp [results, Tryz.results81, go_sem, hc3]), HF.out, hB2.trans (belowK_b (w := W0) (by omega) _ D _ _ hD hK2 rfl rfl)⟩
  case stop =>
    rintro D c pre W hD hS ⟨rfl, hcr, hnT, hB⟩ hK
    have HF : Hid (Says' T (.returned (.bool false))) := Says'.of ⟨fun h => (by cases h), fun h => absurd ((HT.out ▸ h : AllT d PS).pre hS) hnT⟩
    clear hnT hS hseq
    gi_wp2
    refine ⟨by simp, .inl ⟨_, _, rfl, run_takeDeferred hK, ?_⟩⟩
    have hc3 : (W.putObj D (.deferred none)).cell? ⟨w.heap.size + 1 + 1, 0, none⟩ = some (.bool false) := by
      simp [World.cell?, World.putObj, hcr, show D ≠ w.heap.size + 1 + 1 by omega]
    refine ⟨_, (by simp [results, Tryz.results81, go_sem, hc3]), HF.out, hB.trans (belowK_b (w := W0) (by omega) W D _ _ hD hK rfl rfl)⟩
end Pt
end Go.Proofs.YtiakidomcjpdhaaGreatDoor
