/- Rows of places: how they lie, which blocks may turn, what an append leaves; the reference's decimal is strconv's. What the reference's Walk does at every value: a contract by induction on the value: its places up to the first 200, put behind a row. -/
import Derived.Test.YtehpdklnebognaaDoorWk
import Derived.Test.YtehpdklnebognaaDoorDcm
import Derived.Deep.RegionHeld
import Derived.BigQuiet
namespace Go.Proofs.YtehpdklnebognaaDoor
open Go.RowKit
namespace WlkW

theorem dig_one (x : Nat) (h : x < 10) : (48 + x % 10).toUInt8 = UInt8.ofNat (48 + x) := by
  rw [Nat.mod_eq_of_lt h]
theorem digF_pos : ∀ (f x : Nat) (acc : List UInt8), 0 < x → x < 10 ^ f → PlnW.digF f x acc = Lib.decDigits x ++ acc
  | 0, x, acc, h, h2 => by simp at h2; omega
  | f + 1, x, acc, h, h2 => by
    rw [PlnW.digF, if_pos (.inl h), Lib.decDigits]
    by_cases h10 : x < 10
    · rw [dif_pos h10]
      have e : x / 10 = 0 := by omega
      rw [e, dig_one x h10]
      cases f with
      | zero => rfl
      | succ f => rw [PlnW.digF, if_neg (by simp)]; rfl
    · rw [dif_neg h10, digF_pos f (x / 10) _ (by omega) (by rw [Nat.pow_succ] at h2; omega), List.append_assoc]
      rfl
theorem digF_num (i : Nat) (h : i < 10 ^ 20) : (⟨(PlnW.digF 20 i []).toArray⟩ : ByteArray) = num i := by
  unfold num
  rw [Lib.itoa_nonneg]
  by_cases h0 : 0 < i
  · rw [digF_pos 20 i [] h0 h, List.append_nil]
  · obtain rfl : i = 0 := by omega
    have e : PlnW.digF 20 0 [] = Lib.decDigits 0 := by rw [Lib.decDigits_one (by decide)]; decide
    rw [e]

theorem info49 : (Tryd.prog.info? 49).map (fun i => (i.zero, i.size, i.bytes)) = some (some (.agg #[.string ⟨#[]⟩, .int .i64 0, .bool false, .int .i64 0, .string ⟨#[]⟩, .slice none 0 0, .slice none 0 0]), 7, 104) := by kernel_rfl
/-- The cells of a place. -/
def plc (x : Pt) : List Value := [.string x.s.p, .int .i64 x.s.k, .bool x.s.b, .int .i64 x.s.n, .string x.s.t, .slice x.a1 x.s.l x.c1, .slice x.a2 x.s.f x.c2]
theorem plc_len (ps : List Pt) : (ps.flatMap plc).length = ps.length * 7 := by
  induction ps with
  | nil => rfl
  | cons x r ih => simp only [List.flatMap_cons, List.length_append, List.length_cons, ih, plc, List.length_nil]; omega
theorem plc_get : ∀ (ps : List Pt) (i : Nat) (h : i < ps.length) (j : Nat), j < 7 → (ps.flatMap plc)[i * 7 + j]? = (plc ps[i])[j]?
  | [], i, h, _, _ => by simp at h
  | x :: r, 0, _, j, hj => by
    simp only [List.flatMap_cons, Nat.zero_mul, Nat.zero_add, List.getElem_cons_zero]
    rw [List.getElem?_append_left (by simpa [plc] using hj)]
  | x :: r, i + 1, h, j, hj => by
    have ih := plc_get r i (by simpa using h) j hj
    simp only [List.flatMap_cons, List.getElem_cons_succ]
    rw [List.getElem?_append_right (by simp [plc]; omega), ← ih]
    congr 1
    simp [plc]
    omega
/-- A row of places that the call owns. -/
def RowP (base : Nat) (w : World) (v : Value) (ps : List Pt) : Prop := w.ownsRow base 49 7 v ps.length (ps.flatMap plc)
/-- Blocks of places from base on. -/
def Bt9 (base : Nat) (w : World) (k : Nat) : Prop := base ≤ k ∧ ∃ cur z, w.heap[k]? = some (.cells cur 49 z)
/-- All old blocks but rows of places from base on are as they were. -/
def Bw9 (base : Nat) (w w' : World) : Prop := Fr (Bt9 base w) w w'
theorem Bw9.refl (base : Nat) (w : World) : Bw9 base w w := Fr.refl _ _
theorem Bw9.trans {base : Nat} {a b c : World} (h : Bw9 base a b) (k : Bw9 base b c) : Bw9 base a c := by
  have h1 : Fr (Bt9 base a) a b := h
  have k1 : Fr (Bt9 base b) b c := k
  refine ⟨k1.os.trans h1.os, k1.tape.trans h1.tape, k1.output.trans h1.output, Nat.le_trans h1.size k1.size, fun i hi hn => ?_⟩
  have e := h1.block i hi hn
  refine (k1.block i (Nat.lt_of_lt_of_le hi h1.size) (fun hb => hn ⟨hb.1, ?_⟩)).trans e
  obtain ⟨cur, z, hz⟩ := hb.2
  exact ⟨cur, z, e ▸ hz⟩
theorem Bw9.of_below {base : Nat} {w w' : World} (h : Below w.heap.size w w') : Bw9 base w w' := Fr.of_below h
theorem Bw9.size {base : Nat} {w w' : World} (h : Bw9 base w w') : w.heap.size ≤ w'.heap.size := (show Fr _ _ _ from h).size
theorem Bw9.below {base : Nat} {w w' : World} (h : Bw9 base w w') (hb : base ≤ w.heap.size) : Below base w w' := (show Fr _ _ _ from h).below hb (fun k hk hn => by have := hn.1; omega)
theorem Bw9.keep {base : Nat} {w w' : World} (h : Bw9 base w w') {k : Nat} {c : Array Value} {t : TypeId} {z : Nat × Nat} (ht : t ≠ 49) (hk : w.heap[k]? = some (.cells c t z)) : w'.heap[k]? = some (.cells c t z) := by
  refine ((show Fr _ _ _ from h).block k (lt_of_block hk) (fun hn => ?_)).trans hk
  obtain ⟨cur, z', hz⟩ := hn.2
  rw [hk] at hz
  simp at hz
  exact ht hz.2.1
theorem RowP.nil (base : Nat) (w : World) : RowP base w (.slice none 0 0) [] := World.ownsRow_nil _ _ _ _
theorem RowP.kept {base : Nat} {w w' : World} {v : Value} {ps : List Pt} (h : RowP base w v ps) (f : Below w.heap.size w w') : RowP base w' v ps := own_kept h f
theorem RowP.form {base : Nat} {w : World} {v : Value} {ps : List Pt} (h : RowP base w v ps) : ∃ a c, v = .slice a ps.length c := own_form h
theorem RowP.grown {base : Nat} {w w' : World} {v : Value} {n : Nat} {xs : List Value} (h : w.ownsRow base 49 7 v n xs) (g : w.grownBy w' v.ownBlock) : Bw9 base w w' := by
  refine Fr.grown g (fun k hk hl => ?_)
  rcases h.2 with ⟨rfl, _⟩ | ⟨b, cap, cur, rfl, hb, hg, _⟩
  · cases hk
  · have e : b = k := by simpa [Value.ownBlock] using hk
    subst e
    exact ⟨hb, cur, _, hg⟩
theorem RowP.more {base : Nat} {w : World} {v : Value} {ps : List Pt} {x : Pt} (h : w.ownsRow base 49 7 v (ps.length + 1) (ps.flatMap plc ++ plc x)) : RowP base w v (ps ++ [x]) := by
  unfold RowP
  rw [List.length_append, List.flatMap_append]
  have : [x].flatMap plc = plc x := by simp
  rw [this]
  exact h
theorem RowP.cell {base : Nat} {w : World} {a : Option Addr} {n c : Nat} {ps : List Pt} (h : RowP base w (.slice a n c) ps) (i : Nat) (hi : i < ps.length) : ∃ g, a = some ⟨g, 0, none⟩ ∧ base ≤ g ∧ IsC w g ∧ ∀ j, j < 7 → w.cell? ⟨g, i * 7 + j, none⟩ = (plc ps[i])[j]? := by
  rcases h.2 with ⟨he, h0⟩ | ⟨g, cap, cur, he, hb, hg, hn, hc, hz, ht⟩
  · omega
  · injection he with he _ _
    refine ⟨g, he, hb, ⟨cur, 49, (0, 0), hg⟩, fun j hj => ?_⟩
    have e2 : (cur.toList.take (ps.length * 7))[i * 7 + j]? = (ps.flatMap plc)[i * 7 + j]? := by rw [ht]
    rw [List.getElem?_take_of_lt (by omega), plc_get ps i hi j hj] at e2
    simp only [World.cell?, hg]
    rw [← e2]
    simp
theorem take_take (A B : List Sk) : ((A.take 200) ++ B).take 200 = (A ++ B).take 200 := by
  by_cases h : A.length ≤ 200
  · rw [List.take_of_length_le h]
  · rw [List.take_append_of_le_length (by rw [List.length_take]; omega), List.take_append_of_le_length (by omega), List.take_take]
    simp
end WlkW
end Go.Proofs.YtehpdklnebognaaDoor

namespace Go.Proofs.YtehpdklnebognaaDoor
open Go.RowKit
namespace WlkW

/-- The number in a slot. -/
def numR : Value → Nat
  | .int _ n => n.toNat
  | _ => 0
/-- What is asked of the reference's Walk at one value. -/
def RWalkAt (x : GV) : Prop := ∀ (base : Nat) (w : World) (v : Value) (ps : List Pt) (p : ByteArray) (cs : Array Value), RowP base w v ps → base ≤ w.heap.size → LaidV w (fun b => b < base) x cs.toList → ps.length ≤ 200 → p.size + 22 * x.sz ≤ 1000000000 →
  Calls Tryd.prog 15 #[.agg cs, .string p, v, .int .i64 200] w fun e w' => ∃ v' ps', e = .returned v' ∧ RowP base w' v' ps' ∧ ps'.map (·.s) = (ps.map (·.s) ++ wkV p x).take 200 ∧ Bw9 base w w'

theorem rwalk_full (x : GV) (base : Nat) (w : World) (v : Value) (ps : List Pt) (p : ByteArray) (cs : Array Value) (hrow : RowP base w v ps) (hx : LaidV w (fun b => b < base) x cs.toList) (hps : ps.length = 200) :
    Calls Tryd.prog 15 #[.agg cs, .string p, v, .int .i64 200] w fun e w' => ∃ v' ps', e = .returned v' ∧ RowP base w' v' ps' ∧ ps'.map (·.s) = (ps.map (·.s) ++ wkV p x).take 200 ∧ Bw9 base w w' := by
  cases x with
  | mk k b n t l f =>
  obtain ⟨a1, c1, a2, c2, xs, ys, hcs, _⟩ := hx.form
  obtain rfl : cs = #[.int .i64 k, .bool b, .int .i64 n, .string t, .slice a1 l.length c1, .slice a2 f.length c2] := by
    cases cs
    simpa using hcs
  obtain ⟨va, vc, rfl⟩ := hrow.form
  have HT : Hid (ps.map (·.s) = (ps.map (·.s) ++ wkV p (.mk k b n t l f)).take 200) := by
    show _ = _
    rw [List.take_append_of_le_length (by simp; omega), List.take_of_length_le (by simp; omega)]
  rw [hps] at hrow ⊢
  go_enter Tryd.func15, Tryd.ntmps15
  go_wp2
  go_ret
  exact ⟨_, rfl, ps, hrow.kept ((Below.refl _ _).alloc (Nat.le_refl _) _), by first | rfl | exact HT.out, Bw9.of_below ((Below.refl _ _).alloc (Nat.le_refl _) _)⟩

set_option maxRecDepth 20000 in
set_option maxHeartbeats 8000000 in
theorem rwalk_step (k : Int) (b : Bool) (n : Int) (t : ByteArray) (l : List GV) (f : List (ByteArray × GV)) (hsz : (GV.mk k b n t l f).sz ≤ 2000000) (hl : ∀ i (h : i < l.length), RWalkAt (l[i])) (hf : ∀ i (h : i < f.length), RWalkAt (f[i]).2) : RWalkAt (.mk k b n t l f) := by
  intro base w v ps p cs hrow hbase hx hps hp
  by_cases hfull : ps.length = 200
  · exact rwalk_full _ base w v ps p cs hrow hx hfull
  obtain ⟨a1, c1, a2, c2, xs, ys, hcs, hs1, hs2, hL, hF⟩ := hx.form
  obtain rfl : cs = #[.int .i64 k, .bool b, .int .i64 n, .string t, .slice a1 l.length c1, .slice a2 f.length c2] := by
    cases cs
    simpa using hcs
  obtain ⟨i0, hi, hz0, hz1, hz2⟩ := info_parts info49
  obtain ⟨va, vc, rfl⟩ := hrow.form
  have hszd : 1 + t.size + szL l + szF f ≤ 2000000 := by have h := hsz; unfold GV.sz at h; exact h
  have hpb : p.size + 22 * (1 + t.size + szL l + szF f) ≤ 1000000000 := by have h := hp; unfold GV.sz at h; exact h
  clear hp hsz hcs hx
  have hlp : ps.length < 200 := by omega
  have hlp' : ((ps.length : Nat) : Int) < 200 := by omega
  obtain ⟨PT, hPT⟩ : ∃ PT : Pt, PT = ⟨⟨p, k, b, n, t, l.length, f.length⟩, a1, c1, a2, c2⟩ := ⟨_, rfl⟩
  have hbox : (w.alloc (.cells #[.int .i64 k, .bool b, .int .i64 n, .string t, .slice a1 l.length c1, .slice a2 f.length c2] 26)).heap[w.heap.size]? = some (.cells #[.int .i64 k, .bool b, .int .i64 n, .string t, .slice a1 l.length c1, .slice a2 f.length c2] 26 (0, 0)) := heap_alloc_new _ _
  have hb1 : Below w.heap.size w (w.alloc (.cells #[.int .i64 k, .bool b, .int .i64 n, .string t, .slice a1 l.length c1, .slice a2 f.length c2] 26)) := (Below.refl _ _).alloc (Nat.le_refl _) _
  have hPL : plc PT = [.string p, .int .i64 k, .bool b, .int .i64 n, .string t, .slice a1 l.length c1, .slice a2 f.length c2] := by rw [hPT]; rfl
  have hPS : PT.s = ⟨p, k, b, n, t, l.length, f.length⟩ := by rw [hPT]
  have hps1 : (ps ++ [PT]).length ≤ 200 := by simp; omega
  clear hPT
  by_cases h4 : k = 4
  · subst h4
    have hwk : wkV p (.mk 4 b n t l f) = ⟨p, 4, b, n, t, l.length, f.length⟩ :: wkL p 0 l := by rw [wkV]; simp
    obtain ⟨T, hTT⟩ : ∃ T, (ps.map (·.s) ++ wkV p (.mk 4 b n t l f)).take 200 = T := ⟨_, rfl⟩
    have HT0 : Hid (((ps ++ [PT]).map (·.s) ++ wkL p 0 l).take 200 = T) := by
      show _ = _
      rw [← hTT, hwk, List.map_append, List.map_cons, List.map_nil, hPS, List.append_assoc]
      rfl
    have HTT : Hid ((ps.map (·.s) ++ wkV p (.mk 4 b n t l f)).take 200 = T) := hTT
    clear hTT hwk
    go_enter Tryd.func15, Tryd.ntmps15
    go_wp2_with (at_builtin; refine wpList_append_own _ rfl _ _ 42 rfl base 49 i0 _ 7 104 Tryd.underlying42 hi hz0 hz1 hz2 rfl (by decide) _ _ _ rfl (RowP.kept hrow (((Below.refl _ _).alloc (Nat.le_refl _) _).alloc (by simp) _)) ⟨w.heap.size + 1, 0, none⟩ 1 1 [.string p, .int .i64 4, .bool b, .int .i64 n, .string t, .slice a1 l.length c1, .slice a2 f.length c2] rfl rfl (cells7' (heap_new1 _ _ _)) (by simp [Value.oneCell']) (by unfold maxLen; omega) (by omega) (by simp; omega) ?_; intro v' w3 hown' hgrow3 hnil3; have hrow1 : RowP base w3 v' (ps ++ [PT]) := RowP.more (by rw [hPL]; exact hown'); have hbw1 : Bw9 base w w3 := (Bw9.of_below (((Below.refl _ _).alloc (Nat.le_refl _) _).alloc (by simp) _)).trans (RowP.grown (RowP.kept hrow (((Below.refl _ _).alloc (Nat.le_refl _) _).alloc (by simp) _)) hgrow3); have v1 := (RowP.grown (RowP.kept hrow (((Below.refl _ _).alloc (Nat.le_refl _) _).alloc (by simp) _)) hgrow3).keep (by decide) ((Below.heap_alloc _ _ _ (by simp)).trans hbox); obtain ⟨y0, y1, y2, y3, y4, y5⟩ := box6 v1)
    clear hown' hgrow3 hnil3 hbox hrow y0 y1 y2 y3 y4 y5
    obtain ⟨CB, hCB⟩ : ∃ CB : Array Value, #[.int .i64 4, .bool b, .int .i64 n, .string t, .slice a1 l.length c1, .slice a2 f.length c2] = CB := ⟨_, rfl⟩
    rw [hCB] at v1
    have HCB : Hid (#[.int .i64 4, .bool b, .int .i64 n, .string t, .slice a1 l.length c1, .slice a2 f.length c2] = CB) := hCB
    clear hCB
    go_loopw [2, 9] (fun v u wr => ∃ (i : Nat) (qs : List Pt), u = .int .i64 (i : Int) ∧ i ≤ l.length ∧ RowP base wr v qs ∧ qs.length ≤ 200 ∧ Hid ((qs.map (·.s) ++ wkL p i (l.drop i)).take 200 = T) ∧ Bw9 base w wr ∧ wr.heap[w.heap.size]? = some (.cells CB 26 (0, 0))) (fun _ u _ => l.length - numR u)
    case atStart => exact ⟨0, ps ++ [PT], rfl, Nat.zero_le _, hrow1, hps1, HT0, hbw1, v1⟩
    case round =>
      obtain ⟨i, qs, rfl, hil, hrow, hqs, HQ, hbw, v2⟩ := hrel
      clear hrow1 hbw1 v1 HT0
      rw [← HCB.out] at v2
      obtain ⟨x0, x1, x2, x3, x4, x5⟩ := box6 v2
      have hbl := hbw.below hbase
      by_cases hlt : i < l.length
      · have hlt' : (i : Int) < (l.length : Int) := by omega
        have hs1' : SlAt wr (fun b => b < base) (.slice a1 l.length c1) l.length 6 xs := hs1.conv (by decide) (fun b hb _ => ⟨hb, hbl.block b hb⟩)
        have hL' : LaidL wr (fun b => b < base) l xs := hL.conv (fun b hb _ => ⟨hb, hbl.block b hb⟩)
        obtain ⟨sb, off, es, ha1, hsb, hlv, hcell⟩ := hs1'.elem hL' i hlt
        have hszi := szL_get l i hlt
        have hW := hl i hlt
        have hcons := wkL_cons p l i hlt
        obtain ⟨X, hX⟩ : ∃ X, l[i] = X := ⟨_, rfl⟩
        rw [hX] at hlv hszi hW hcons
        cases hXc : X with
        | mk kk bb nn tt ll ff =>
        have hlv0 := hlv
        rw [hXc] at hlv0
        obtain ⟨p1', q1', p2', q2', _, _, rfl, _⟩ := hlv0.form
        subst ha1
        have e0 := hcell 0 (by decide)
        have e1 := hcell 1 (by decide)
        have e2 := hcell 2 (by decide)
        have e3 := hcell 3 (by decide)
        have e4 := hcell 4 (by decide)
        have e5 := hcell 5 (by decide)
        simp only [List.getElem?_cons_zero, List.getElem?_cons_succ, Nat.add_zero] at e0 e1 e2 e3 e4 e5
        obtain ⟨va, vc, rfl⟩ := hrow.form
        have hnum := num_size i (by have := szL_len l; omega)
        have cW : ∀ W', Below wr.heap.size wr W' → Calls Tryd.prog 15 #[.agg #[.int .i64 kk, .bool bb, .int .i64 nn, .string tt, .slice p1' ll.length q1', .slice p2' ff.length q2'], .string (p ++ ⟨#[47]⟩ ++ num i), .slice va qs.length vc, .int .i64 200] W' fun e w' => ∃ v' qs', e = .returned v' ∧ RowP base w' v' qs' ∧ qs'.map (·.s) = (qs.map (·.s) ++ wkV (p ++ slash ++ num i) X).take 200 ∧ Bw9 base W' w' := fun W' hW' =>
          hW base W' _ qs (p ++ slash ++ num i) #[.int .i64 kk, .bool bb, .int .i64 nn, .string tt, .slice p1' ll.length q1', .slice p2' ff.length q2'] (hrow.kept hW') (by have := hbl.size; have := hW'.size; omega) (hlv.conv (fun b hb hl => ⟨hb, hW'.block b hl⟩)) hqs (by simp only [ByteArray.size_append]; have : slash.size = 1 := rfl; omega)
        have cI : ∀ W', Calls Tryd.prog 30 #[.int .i64 (i : Int)] W' fun e w' => e = .returned (.string (num i)) ∧ Below W'.heap.size W' w' := fun W' => by
          have h1 := decimal_any i W' (by have := szL_len l; omega)
          rw [digF_num i (by have := szL_len l; omega)] at h1
          exact h1
        have hpz : p.size ≤ 1000000000 := by omega
        have hil2 : l.length ≤ 2000000 := by have := szL_len l; omega
        have HCN : Hid (wkL p i (l.drop i) = wkV (p ++ slash ++ num i) X ++ wkL p (i + 1) (l.drop (i + 1))) := hcons
        clear hcell hs1' hL' hlv0 hlv hW hcons hXc hX hszi
        have hwl : w.heap.size < wr.heap.size := lt_of_block v2
        have hsb' : sb < wr.heap.size := by have := hbl.size; omega
        go_wp2
        refine wp_region_held_drew (S := fun w' => ∀ a : Addr, (a.block < base ∨ a.block = w.heap.size) → w'.cell? a = wr.cell? a) (by kernel_rfl) (fun a _ => rfl) (fun hS => ?_)
        refine wpAnyH_take (i := 0) (v := .pointer (some ⟨w.heap.size, 4, none⟩)) rfl (by kernel_rfl) (by kernel_rfl) (by kernel_rfl) (fun _ _ _ h => h) (Or.inl ⟨by kernel_rfl, fun wq hS => by clear hS; go_simp⟩) hS ?_
        try simp only [Act.put, List.setIfInBounds_toArray]
        refine wpAnyH_take (i := 1) (v := .slice (some ⟨sb, off, none⟩) l.length c1) rfl (by kernel_rfl) (by kernel_rfl) (by kernel_rfl) (fun _ _ _ h => h) (Or.inl ⟨by kernel_rfl, fun wq hS => by have g := (hS ⟨w.heap.size, 4, none⟩ (.inr rfl)).trans x4; clear hS; go_simp⟩) hS ?_
        try simp only [Act.put]
        refine wpAnyH_take (i := 2) (v := .int .i64 (i : Int)) rfl (by kernel_rfl) (by kernel_rfl) (by kernel_rfl) (fun _ _ _ h => h) (Or.inl ⟨by kernel_rfl, fun wq hS => by clear hS; go_simp⟩) hS ?_
        try simp only [Act.put]
        refine wpAnyH_take (i := 3) (v := .pointer (some ⟨sb, off + i * 6, none⟩)) rfl (by kernel_rfl) (by kernel_rfl) (by kernel_rfl) (fun _ _ _ h => h) (Or.inl ⟨by kernel_rfl, fun wq hS => by clear hS; go_simp⟩) hS ?_
        try simp only [Act.put]
        refine wpAnyH_take (i := 4) (v := .agg #[.int .i64 kk, .bool bb, .int .i64 nn, .string tt, .slice p1' ll.length q1', .slice p2' ff.length q2']) rfl (by kernel_rfl) (by kernel_rfl) (by kernel_rfl) (fun _ _ _ h => h) (Or.inl ⟨by kernel_rfl, fun wq hS => by have g0 := (hS ⟨sb, off + i * 6, none⟩ (.inl hsb)).trans e0; have g1 := (hS ⟨sb, off + i * 6 + 1, none⟩ (.inl hsb)).trans e1; have g2 := (hS ⟨sb, off + i * 6 + 2, none⟩ (.inl hsb)).trans e2; have g3 := (hS ⟨sb, off + i * 6 + 3, none⟩ (.inl hsb)).trans e3; have g4 := (hS ⟨sb, off + i * 6 + 4, none⟩ (.inl hsb)).trans e4; have g5 := (hS ⟨sb, off + i * 6 + 5, none⟩ (.inl hsb)).trans e5; clear hS; go_simp⟩) hS ?_
        try simp only [Act.put]
        refine wpAnyH_take (i := 5) (v := .string p) rfl (by kernel_rfl) (by kernel_rfl) (by kernel_rfl) (fun _ _ _ h => h) (Or.inl ⟨by kernel_rfl, fun wq hS => by clear hS; go_simp⟩) hS ?_
        try simp only [Act.put]
        refine wpAnyH_take (i := 6) (v := .string (p ++ ⟨#[47]⟩)) rfl (by kernel_rfl) (by kernel_rfl) (by kernel_rfl) (fun _ _ _ h => h) (Or.inl ⟨by kernel_rfl, fun wq hS => by clear hS; go_simp; omega⟩) hS ?_
        try simp only [Act.put]
        refine wpAnyH_take (i := 7) (v := .int .i64 (i : Int)) rfl (by kernel_rfl) (by kernel_rfl) (by kernel_rfl) (fun _ _ _ h => h) (Or.inl ⟨by kernel_rfl, fun wq hS => by clear hS; go_simp⟩) hS ?_
        try simp only [Act.put]
        refine wpAnyH_take (i := 10) (v := .slice va qs.length vc) rfl (by kernel_rfl) (by kernel_rfl) (by kernel_rfl) (fun _ _ _ h => h) (Or.inl ⟨by kernel_rfl, fun wq hS => by clear hS; go_simp⟩) hS ?_
        try simp only [Act.put]
        refine wpAnyH_take (i := 11) (v := .int .i64 200) rfl (by kernel_rfl) (by kernel_rfl) (by kernel_rfl) (fun _ _ _ h => h) (Or.inl ⟨by kernel_rfl, fun wq hS => by clear hS; go_simp⟩) hS ?_
        try simp only [Act.put]
        refine wpAnyH_ready (rs := [8]) (by kernel_rfl) (by simp) ?_
        refine AllReadyH.cons rfl (fun K hK => ?_) AllReadyH.nil
        go_simp
        refine (cI _).mono ?_
        rintro e w5 ⟨rfl, hb5⟩
        have hb5' : Below wr.heap.size wr w5 := ⟨hb5.os, hb5.tape, hb5.output, hb5.size, hb5.block⟩
        refine hK.out _ _ (fun a ha => hb5'.cell (by have := hbl.size; omega)) (fun hS => ?_)
        clear hK K
        try simp only [Act.put, List.setIfInBounds_toArray, List.set_cons_zero, List.set_cons_succ]
        refine wpAnyH_take (i := 9) (v := .string (p ++ ⟨#[47]⟩ ++ num i)) rfl (by kernel_rfl) (by kernel_rfl) (by kernel_rfl) (fun _ _ _ h => h) (Or.inl ⟨by kernel_rfl, fun wq hS => by clear hS; go_simp; omega⟩) hS ?_
        try simp only [Act.put]
        refine wpAnyH_ready (rs := [12]) (by kernel_rfl) (by simp) ?_
        refine AllReadyH.cons rfl (fun K hK => ?_) AllReadyH.nil
        go_simp
        refine (cW _ hb5').mono ?_
        rintro e w6 ⟨v6, qs6, rfl, hrow6, hq6, hbw6⟩
        have hbw7 : Bw9 base wr w6 := (Bw9.of_below hb5').trans hbw6
        obtain ⟨va6, vc6, rfl⟩ := hrow6.form
        have hbw8 : Bw9 base w w6 := hbw.trans hbw7
        have v6b := hbw7.keep (by decide) v2
        have hbl6 := hbw7.below (by have := hbl.size; omega)
        have hqs6 : qs6.length ≤ 200 := by have h1 := congrArg List.length hq6; rw [List.length_map, List.length_take] at h1; omega
        have HQ2 : Hid ((qs6.map (·.s) ++ wkL p (i + 1) (l.drop (i + 1))).take 200 = T) := by
          show _ = _
          rw [hq6, take_take, List.append_assoc, ← HQ.out, HCN.out]
        refine hK.out _ _ (fun a ha => ?_) (fun hS => ?_)
        · rcases ha with ha | ha
          · exact hbl6.cell ha
          · exact World.cell?_of_block (a := a) (by rw [ha, v6b, v2])
        clear hK K
        try simp only [Act.put, List.setIfInBounds_toArray, List.set_cons_zero, List.set_cons_succ]
        refine wpAnyH_ready (rs := [13]) (by kernel_rfl) (by simp) ?_
        refine AllReadyH.cons rfl (fun K hK => ?_) AllReadyH.nil
        go_simp
        refine hK.out _ _ hS (fun hS => ?_)
        clear hK K
        try simp only [Act.put, List.setIfInBounds_toArray, List.set_cons_zero, List.set_cons_succ]
        refine wpAnyH_done (by kernel_rfl) ?_ _
        clear hS
        go_wp2
        refine ⟨⟨i + 1, qs6, by simp, hlt, hrow6, hqs6, HQ2, hbw8, by rw [← HCB.out]; exact v6b⟩, ?_⟩
        simp [numR]
        omega
      · have hlt' : ¬ (i : Int) < (l.length : Int) := by omega
        have HQ2 : Hid (qs.map (·.s) = T) := by
          show _ = _
          rw [← HQ.out, List.drop_of_length_le (by omega), wkL, List.append_nil, List.take_of_length_le (by simpa using hqs)]
        go_wp2
        go_ret
        exact ⟨_, rfl, qs, hrow, by rw [HTT.out]; exact HQ2.out, hbw⟩
  by_cases h5 : k = 5
  · subst h5
    have hwk : wkV p (.mk 5 b n t l f) = ⟨p, 5, b, n, t, l.length, f.length⟩ :: wkF p f := by rw [wkV]; simp
    obtain ⟨T, hTT⟩ : ∃ T, (ps.map (·.s) ++ wkV p (.mk 5 b n t l f)).take 200 = T := ⟨_, rfl⟩
    have HT0 : Hid (((ps ++ [PT]).map (·.s) ++ wkF p f).take 200 = T) := by
      show _ = _
      rw [← hTT, hwk, List.map_append, List.map_cons, List.map_nil, hPS, List.append_assoc]
      rfl
    have HTT : Hid ((ps.map (·.s) ++ wkV p (.mk 5 b n t l f)).take 200 = T) := hTT
    clear hTT hwk
    go_enter Tryd.func15, Tryd.ntmps15
    go_wp2_with (at_builtin; refine wpList_append_own _ rfl _ _ 42 rfl base 49 i0 _ 7 104 Tryd.underlying42 hi hz0 hz1 hz2 rfl (by decide) _ _ _ rfl (RowP.kept hrow (((Below.refl _ _).alloc (Nat.le_refl _) _).alloc (by simp) _)) ⟨w.heap.size + 1, 0, none⟩ 1 1 [.string p, .int .i64 5, .bool b, .int .i64 n, .string t, .slice a1 l.length c1, .slice a2 f.length c2] rfl rfl (cells7' (heap_new1 _ _ _)) (by simp [Value.oneCell']) (by unfold maxLen; omega) (by omega) (by simp; omega) ?_; intro v' w3 hown' hgrow3 hnil3; have hrow1 : RowP base w3 v' (ps ++ [PT]) := RowP.more (by rw [hPL]; exact hown'); have hbw1 : Bw9 base w w3 := (Bw9.of_below (((Below.refl _ _).alloc (Nat.le_refl _) _).alloc (by simp) _)).trans (RowP.grown (RowP.kept hrow (((Below.refl _ _).alloc (Nat.le_refl _) _).alloc (by simp) _)) hgrow3); have v1 := (RowP.grown (RowP.kept hrow (((Below.refl _ _).alloc (Nat.le_refl _) _).alloc (by simp) _)) hgrow3).keep (by decide) ((Below.heap_alloc _ _ _ (by simp)).trans hbox); obtain ⟨y0, y1, y2, y3, y4, y5⟩ := box6 v1)
    clear hown' hgrow3 hnil3 hbox hrow y0 y1 y2 y3 y4 y5
    obtain ⟨CB, hCB⟩ : ∃ CB : Array Value, #[.int .i64 5, .bool b, .int .i64 n, .string t, .slice a1 l.length c1, .slice a2 f.length c2] = CB := ⟨_, rfl⟩
    rw [hCB] at v1
    have HCB : Hid (#[.int .i64 5, .bool b, .int .i64 n, .string t, .slice a1 l.length c1, .slice a2 f.length c2] = CB) := hCB
    clear hCB
    go_loopw [2, 10] (fun v u wr => ∃ (i : Nat) (qs : List Pt), u = .int .i64 (i : Int) ∧ i ≤ f.length ∧ RowP base wr v qs ∧ qs.length ≤ 200 ∧ Hid ((qs.map (·.s) ++ wkF p (f.drop i)).take 200 = T) ∧ Bw9 base w wr ∧ wr.heap[w.heap.size]? = some (.cells CB 26 (0, 0))) (fun _ u _ => f.length - numR u)
    case atStart => exact ⟨0, ps ++ [PT], rfl, Nat.zero_le _, hrow1, hps1, HT0, hbw1, v1⟩
    case round =>
      obtain ⟨i, qs, rfl, hil, hrow, hqs, HQ, hbw, v2⟩ := hrel
      clear hrow1 hbw1 v1 HT0
      rw [← HCB.out] at v2
      obtain ⟨x0, x1, x2, x3, x4, x5⟩ := box6 v2
      have hbl := hbw.below hbase
      by_cases hlt : i < f.length
      · have hlt' : (i : Int) < (f.length : Int) := by omega
        have hs2' : SlAt wr (fun b => b < base) (.slice a2 f.length c2) f.length 7 ys := hs2.conv (by decide) (fun b hb _ => ⟨hb, hbl.block b hb⟩)
        have hF' : LaidF wr (fun b => b < base) f ys := hF.conv (fun b hb _ => ⟨hb, hbl.block b hb⟩)
        obtain ⟨sb, off, es, ha1, hsb, hlv, hname, hcell⟩ := hs2'.field hF' i hlt
        have hszi := szF_get f i hlt
        have hW := hf i hlt
        have hcons := wkF_cons p f i hlt
        obtain ⟨⟨nm, X⟩, hX⟩ : ∃ X, f[i] = X := ⟨_, rfl⟩
        rw [hX] at hlv hszi hW hcons hname
        simp only at hlv hszi hW hcons hname
        cases hXc : X with
        | mk kk bb nn tt ll ff =>
        have hlv0 := hlv
        rw [hXc] at hlv0
        obtain ⟨p1', q1', p2', q2', _, _, rfl, _⟩ := hlv0.form
        subst ha1
        have e0 := hcell 0 (by decide)
        have e1 := hcell 1 (by decide)
        have e2 := hcell 2 (by decide)
        have e3 := hcell 3 (by decide)
        have e4 := hcell 4 (by decide)
        have e5 := hcell 5 (by decide)
        simp only [List.getElem?_cons_zero, List.getElem?_cons_succ, Nat.add_zero, Nat.reduceAdd] at e0 e1 e2 e3 e4 e5
        obtain ⟨va, vc, rfl⟩ := hrow.form
        have cW : ∀ W', Below wr.heap.size wr W' → Calls Tryd.prog 15 #[.agg #[.int .i64 kk, .bool bb, .int .i64 nn, .string tt, .slice p1' ll.length q1', .slice p2' ff.length q2'], .string (p ++ ⟨#[47]⟩ ++ nm), .slice va qs.length vc, .int .i64 200] W' fun e w' => ∃ v' qs', e = .returned v' ∧ RowP base w' v' qs' ∧ qs'.map (·.s) = (qs.map (·.s) ++ wkV (p ++ slash ++ nm) X).take 200 ∧ Bw9 base W' w' := fun W' hW' =>
          hW base W' _ qs (p ++ slash ++ nm) #[.int .i64 kk, .bool bb, .int .i64 nn, .string tt, .slice p1' ll.length q1', .slice p2' ff.length q2'] (hrow.kept hW') (by have := hbl.size; have := hW'.size; omega) (hlv.conv (fun b hb hl => ⟨hb, hW'.block b hl⟩)) hqs (by simp only [ByteArray.size_append]; have : slash.size = 1 := rfl; omega)
        have hnz : nm.size ≤ 1000000000 := by omega
        have hpz : p.size ≤ 1000000000 := by omega
        have hil2 : f.length ≤ 2000000 := by have := szF_len f; omega
        have HCN : Hid (wkF p (f.drop i) = wkV (p ++ slash ++ nm) X ++ wkF p (f.drop (i + 1))) := hcons
        clear hcell hs2' hF' hlv0 hlv hW hcons hXc hX hszi
        have hwl : w.heap.size < wr.heap.size := lt_of_block v2
        have hsb' : sb < wr.heap.size := by have := hbl.size; omega
        go_wp2
        refine wp_region_held_drew (S := fun w' => ∀ a : Addr, (a.block < base ∨ a.block = w.heap.size) → w'.cell? a = wr.cell? a) (by kernel_rfl) (fun a _ => rfl) (fun hS => ?_)
        refine wpAnyH_take (i := 0) (v := .pointer (some ⟨w.heap.size, 5, none⟩)) rfl (by kernel_rfl) (by kernel_rfl) (by kernel_rfl) (fun _ _ _ h => h) (Or.inl ⟨by kernel_rfl, fun wq hS => by clear hS; go_simp⟩) hS ?_
        try simp only [Act.put, List.setIfInBounds_toArray]
        refine wpAnyH_take (i := 1) (v := .slice (some ⟨sb, off, none⟩) f.length c2) rfl (by kernel_rfl) (by kernel_rfl) (by kernel_rfl) (fun _ _ _ h => h) (Or.inl ⟨by kernel_rfl, fun wq hS => by have g := (hS ⟨w.heap.size, 5, none⟩ (.inr rfl)).trans x5; clear hS; go_simp⟩) hS ?_
        try simp only [Act.put]
        refine wpAnyH_take (i := 2) (v := .int .i64 (i : Int)) rfl (by kernel_rfl) (by kernel_rfl) (by kernel_rfl) (fun _ _ _ h => h) (Or.inl ⟨by kernel_rfl, fun wq hS => by clear hS; go_simp⟩) hS ?_
        try simp only [Act.put]
        refine wpAnyH_take (i := 3) (v := .pointer (some ⟨sb, off + i * 7, none⟩)) rfl (by kernel_rfl) (by kernel_rfl) (by kernel_rfl) (fun _ _ _ h => h) (Or.inl ⟨by kernel_rfl, fun wq hS => by clear hS; go_simp⟩) hS ?_
        try simp only [Act.put]
        refine wpAnyH_take (i := 4) (v := .pointer (some ⟨sb, off + i * 7 + 1, none⟩)) rfl (by kernel_rfl) (by kernel_rfl) (by kernel_rfl) (fun _ _ _ h => h) (Or.inl ⟨by kernel_rfl, fun wq hS => by clear hS; go_simp⟩) hS ?_
        try simp only [Act.put]
        refine wpAnyH_take (i := 5) (v := .agg #[.int .i64 kk, .bool bb, .int .i64 nn, .string tt, .slice p1' ll.length q1', .slice p2' ff.length q2']) rfl (by kernel_rfl) (by kernel_rfl) (by kernel_rfl) (fun _ _ _ h => h) (Or.inl ⟨by kernel_rfl, fun wq hS => by have g0 := (hS ⟨sb, off + i * 7 + 1, none⟩ (.inl hsb)).trans e0; have g1 := (hS ⟨sb, off + i * 7 + 2, none⟩ (.inl hsb)).trans e1; have g2 := (hS ⟨sb, off + i * 7 + 3, none⟩ (.inl hsb)).trans e2; have g3 := (hS ⟨sb, off + i * 7 + 4, none⟩ (.inl hsb)).trans e3; have g4 := (hS ⟨sb, off + i * 7 + 5, none⟩ (.inl hsb)).trans e4; have g5 := (hS ⟨sb, off + i * 7 + 6, none⟩ (.inl hsb)).trans e5; clear hS; go_simp⟩) hS ?_
        try simp only [Act.put]
        refine wpAnyH_take (i := 6) (v := .string p) rfl (by kernel_rfl) (by kernel_rfl) (by kernel_rfl) (fun _ _ _ h => h) (Or.inl ⟨by kernel_rfl, fun wq hS => by clear hS; go_simp⟩) hS ?_
        try simp only [Act.put]
        refine wpAnyH_take (i := 7) (v := .string (p ++ ⟨#[47]⟩)) rfl (by kernel_rfl) (by kernel_rfl) (by kernel_rfl) (fun _ _ _ h => h) (Or.inl ⟨by kernel_rfl, fun wq hS => by clear hS; go_simp; omega⟩) hS ?_
        try simp only [Act.put]
        refine wpAnyH_take (i := 8) (v := .pointer (some ⟨w.heap.size, 5, none⟩)) rfl (by kernel_rfl) (by kernel_rfl) (by kernel_rfl) (fun _ _ _ h => h) (Or.inl ⟨by kernel_rfl, fun wq hS => by clear hS; go_simp⟩) hS ?_
        try simp only [Act.put]
        refine wpAnyH_take (i := 9) (v := .slice (some ⟨sb, off, none⟩) f.length c2) rfl (by kernel_rfl) (by kernel_rfl) (by kernel_rfl) (fun _ _ _ h => h) (Or.inl ⟨by kernel_rfl, fun wq hS => by have g := (hS ⟨w.heap.size, 5, none⟩ (.inr rfl)).trans x5; clear hS; go_simp⟩) hS ?_
        try simp only [Act.put]
        refine wpAnyH_take (i := 10) (v := .int .i64 (i : Int)) rfl (by kernel_rfl) (by kernel_rfl) (by kernel_rfl) (fun _ _ _ h => h) (Or.inl ⟨by kernel_rfl, fun wq hS => by clear hS; go_simp⟩) hS ?_
        try simp only [Act.put]
        refine wpAnyH_take (i := 11) (v := .pointer (some ⟨sb, off + i * 7, none⟩)) rfl (by kernel_rfl) (by kernel_rfl) (by kernel_rfl) (fun _ _ _ h => h) (Or.inl ⟨by kernel_rfl, fun wq hS => by clear hS; go_simp⟩) hS ?_
        try simp only [Act.put]
        refine wpAnyH_take (i := 12) (v := .pointer (some ⟨sb, off + i * 7, none⟩)) rfl (by kernel_rfl) (by kernel_rfl) (by kernel_rfl) (fun _ _ _ h => h) (Or.inl ⟨by kernel_rfl, fun wq hS => by clear hS; go_simp⟩) hS ?_
        try simp only [Act.put]
        refine wpAnyH_take (i := 13) (v := .string nm) rfl (by kernel_rfl) (by kernel_rfl) (by kernel_rfl) (fun _ _ _ h => h) (Or.inl ⟨by kernel_rfl, fun wq hS => by have g := (hS ⟨sb, off + i * 7, none⟩ (.inl hsb)).trans hname; clear hS; go_simp⟩) hS ?_
        try simp only [Act.put]
        refine wpAnyH_take (i := 14) (v := .string (p ++ ⟨#[47]⟩ ++ nm)) rfl (by kernel_rfl) (by kernel_rfl) (by kernel_rfl) (fun _ _ _ h => h) (Or.inl ⟨by kernel_rfl, fun wq hS => by clear hS; go_simp; omega⟩) hS ?_
        try simp only [Act.put]
        refine wpAnyH_take (i := 15) (v := .slice va qs.length vc) rfl (by kernel_rfl) (by kernel_rfl) (by kernel_rfl) (fun _ _ _ h => h) (Or.inl ⟨by kernel_rfl, fun wq hS => by clear hS; go_simp⟩) hS ?_
        try simp only [Act.put]
        refine wpAnyH_take (i := 16) (v := .int .i64 200) rfl (by kernel_rfl) (by kernel_rfl) (by kernel_rfl) (fun _ _ _ h => h) (Or.inl ⟨by kernel_rfl, fun wq hS => by clear hS; go_simp⟩) hS ?_
        try simp only [Act.put]
        refine wpAnyH_ready (rs := [17]) (by kernel_rfl) (by simp) ?_
        refine AllReadyH.cons rfl (fun K hK => ?_) AllReadyH.nil
        go_simp
        refine (cW _ ((Below.refl wr.heap.size wr).drew)).mono ?_
        rintro e w6 ⟨v6, qs6, rfl, hrow6, hq6, hbw6⟩
        have hbw7 : Bw9 base wr w6 := (Bw9.of_below ((Below.refl wr.heap.size wr).drew)).trans hbw6
        obtain ⟨va6, vc6, rfl⟩ := hrow6.form
        have hbw8 : Bw9 base w w6 := hbw.trans hbw7
        have v6b := hbw7.keep (by decide) v2
        have hbl6 := hbw7.below (by have := hbl.size; omega)
        have hqs6 : qs6.length ≤ 200 := by have h1 := congrArg List.length hq6; rw [List.length_map, List.length_take] at h1; omega
        have HQ2 : Hid ((qs6.map (·.s) ++ wkF p (f.drop (i + 1))).take 200 = T) := by
          show _ = _
          rw [hq6, take_take, List.append_assoc, ← HQ.out, HCN.out]
        refine hK.out _ _ (fun a ha => ?_) (fun hS => ?_)
        · rcases ha with ha | ha
          · exact hbl6.cell ha
          · exact World.cell?_of_block (a := a) (by rw [ha, v6b, v2])
        clear hK K
        try simp only [Act.put, List.setIfInBounds_toArray, List.set_cons_zero, List.set_cons_succ]
        refine wpAnyH_ready (rs := [18]) (by kernel_rfl) (by simp) ?_
        refine AllReadyH.cons rfl (fun K hK => ?_) AllReadyH.nil
        go_simp
        refine hK.out _ _ hS (fun hS => ?_)
        clear hK K
        try simp only [Act.put, List.setIfInBounds_toArray, List.set_cons_zero, List.set_cons_succ]
        refine wpAnyH_done (by kernel_rfl) ?_ _
        clear hS
        go_wp2
        refine ⟨⟨i + 1, qs6, by simp, hlt, hrow6, hqs6, HQ2, hbw8, by rw [← HCB.out]; exact v6b⟩, ?_⟩
        simp [numR]
        omega
      · have hlt' : ¬ (i : Int) < (f.length : Int) := by omega
        have HQ2 : Hid (qs.map (·.s) = T) := by
          show _ = _
          rw [← HQ.out, List.drop_of_length_le (by omega), wkF, List.append_nil, List.take_of_length_le (by simpa using hqs)]
        go_wp2
        go_ret
        exact ⟨_, rfl, qs, hrow, by rw [HTT.out]; exact HQ2.out, hbw⟩
  · have h4' : (k == 4) = false := by simpa using h4
    have h5' : (k == 5) = false := by simpa using h5
    have HT0 : Hid ((ps ++ [PT]).map (·.s) = (ps.map (·.s) ++ wkV p (.mk k b n t l f)).take 200) := by
      show _ = _
      rw [wkV, if_neg h4, if_neg h5, List.take_of_length_le (by simp; omega), List.map_append, List.map_cons, List.map_nil, hPS]
    go_enter Tryd.func15, Tryd.ntmps15
    go_wp2_with (at_builtin; refine wpList_append_own _ rfl _ _ 42 rfl base 49 i0 _ 7 104 Tryd.underlying42 hi hz0 hz1 hz2 rfl (by decide) _ _ _ rfl (RowP.kept hrow (((Below.refl _ _).alloc (Nat.le_refl _) _).alloc (by simp) _)) ⟨w.heap.size + 1, 0, none⟩ 1 1 [.string p, .int .i64 k, .bool b, .int .i64 n, .string t, .slice a1 l.length c1, .slice a2 f.length c2] rfl rfl (cells7' (heap_new1 _ _ _)) (by simp [Value.oneCell']) (by unfold maxLen; omega) (by omega) (by simp; omega) ?_; intro v' w3 hown' hgrow3 hnil3; have hrow1 : RowP base w3 v' (ps ++ [PT]) := RowP.more (by rw [hPL]; exact hown'); have hbw1 : Bw9 base w w3 := (Bw9.of_below (((Below.refl _ _).alloc (Nat.le_refl _) _).alloc (by simp) _)).trans (RowP.grown (RowP.kept hrow (((Below.refl _ _).alloc (Nat.le_refl _) _).alloc (by simp) _)) hgrow3); have v1 := (RowP.grown (RowP.kept hrow (((Below.refl _ _).alloc (Nat.le_refl _) _).alloc (by simp) _)) hgrow3).keep (by decide) ((Below.heap_alloc _ _ _ (by simp)).trans hbox); obtain ⟨y0, y1, y2, y3, y4, y5⟩ := box6 v1)
    go_ret
    exact ⟨_, rfl, ps ++ [PT], hrow1, HT0.out, hbw1⟩
theorem rwalk_all : ∀ (m : Nat) (x : GV), x.sz ≤ m → m ≤ 2000000 → RWalkAt x
  | 0, x, h, _ => by have := x.sz_pos; omega
  | m + 1, .mk k b n t l f, h, hm => by
    have h1 : 1 + t.size + szL l + szF f ≤ m + 1 := by unfold GV.sz at h; exact h
    refine rwalk_step k b n t l f (by omega) (fun i hi => rwalk_all m _ ?_ (by omega)) (fun i hi => rwalk_all m _ ?_ (by omega))
    · have := szL_get l i hi
      omega
    · have := szF_get f i hi
      omega
end WlkW
end Go.Proofs.YtehpdklnebognaaDoor
