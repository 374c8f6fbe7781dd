/- CanonBack answers true: the walk of the statement. CanonOne answers true: the walk of the statement. -/
import Derived.Test.YtiakidomcjpdhaaGreatDoorGBp
import Derived.Test.YtiakidomcjpdhaaGreatDoorGSe
namespace Go.Proofs.YtiakidomcjpdhaaGreatDoor
open Go.RowKit
namespace Dc
open Pu Pt

theorem sameAt_any : ∀ (m : Nat) (x : GV), x.sz ≤ m → m ≤ 2000000 → SameAt x
  | 0, x, h, _ => by have := GV.sz_pos x; omega
  | m + 1, .mk k b n t l f, h, hm => by
    have hs : 1 + t.size + szL l + szF f ≤ m + 1 := by simpa [GV.sz] using h
    exact same_step k b n t l f (by omega) (fun i hi => sameAt_any m _ (by have := szL_get l i hi; omega) (by omega)) (fun i hi => sameAt_any m _ (by have := szF_get f i hi; omega) (by omega))
/-- A variable that holds a value. -/
structure Hold (x : GV) (b : Nat) (cs : Array Value) (W : World) : Prop where
  c : W.heap[b]? = some (.cells cs 25 (0, 0))
  l : LaidV W (fun _ => True) x cs.toList
theorem Hold.keep {x : GV} {b : Nat} {cs : Array Value} {W W' : World} (h : Hold x b cs W) (f : Below W.heap.size W W') : Hold x b cs W' :=
  ⟨(f.block _ (lt_of_block h.c)).trans h.c, h.l.conv (fun b _ hl => ⟨trivial, f.block b hl⟩)⟩
theorem Hold.new {x : GV} {cs : Array Value} {W : World} (h : LaidV W (fun _ => True) x cs.toList) : Hold x W.heap.size cs (W.alloc (.cells cs 25)) :=
  ⟨heap_alloc_new _ _, h.conv (fun _b _ hl => ⟨trivial, Below.heap_alloc _ _ _ hl⟩)⟩
theorem allocB (W : World) (o : Obj) : Below W.heap.size W (W.alloc o) := (Below.refl _ _).alloc (Nat.le_refl _) _
section
variable {w : World} (h6 : 6 ≤ w.heap.size) (hP : Pow10 w) (hT : Tabs w) (W : World) (hW : Below w.heap.size w W)
include h6 hP hT hW
theorem n16g {y : GV} (hsz : y.sz ≤ 2000000) (hok : okV y) (hG : Good y) {ds : Array Value} (hl : LaidV W (fun _ => True) y ds.toList) : Calls Tryz.prog 16 #[.agg ds] W fun e w' => ∃ (ck : Int) (cb : Bool) (cn : Int) (ct : ByteArray) (cr1 : Option Addr) (cz1 cu1 : Nat) (cr2 : Option Addr) (cz2 cu2 : Nat), e = .returned (.tuple #[.agg #[.int .i64 ck, .bool cb, .int .i64 cn, .string ct, .slice cr1 cz1 cu1, .slice cr2 cz2 cu2], .nilIface]) ∧ Hid (LaidV w' (fun _ => True) (nfV y) [.int .i64 ck, .bool cb, .int .i64 cn, .string ct, .slice cr1 cz1 cu1, .slice cr2 cz2 cu2]) ∧ Below W.heap.size W w' := by
  refine (norm_any y hsz hok W _ ds (by have := hW.size; omega) (hP.of (hW.block 0 (by omega)) (hW.block 4 (by omega))) (hT.of (hW.block 1 (by omega)) (hW.block 2 (by omega))) hl).mono ?_
  rintro e w' ⟨⟨c, h1, _⟩ | ⟨_, cs, h1, h2⟩, h3⟩
  · exact (good_bad hG h1).elim
  · cases hy : nfV y with
    | mk k b n t l f =>
    rw [hy] at h2
    obtain ⟨a1, c1, a2, c2, xs, ys, hcs, -, -, -, -⟩ := h2.form
    obtain rfl : cs = #[.int .i64 k, .bool b, .int .i64 n, .string t, .slice a1 l.length c1, .slice a2 f.length c2] := by
      cases cs
      simpa using hcs
    exact ⟨k, b, n, t, a1, l.length, c1, a2, f.length, c2, h1, h2.conv (fun b _ _ => ⟨trivial, rfl⟩), h3⟩
theorem n16b {y : GV} (hsz : y.sz ≤ 2000000) (hok : okV y) {c : Int} (hB : Bad y c) {ds : Array Value} (hl : LaidV W (fun _ => True) y ds.toList) : Calls Tryz.prog 16 #[.agg ds] W fun e w' => e = .returned (.tuple #[.agg #[.int .i64 0, .bool false, .int .i64 0, .string ⟨#[]⟩, .slice none 0 0, .slice none 0 0], .iface 31 (.int .i64 c)]) ∧ Below W.heap.size W w' := by
  refine (norm_any y hsz hok W _ ds (by have := hW.size; omega) (hP.of (hW.block 0 (by omega)) (hW.block 4 (by omega))) (hT.of (hW.block 1 (by omega)) (hW.block 2 (by omega))) hl).mono ?_
  rintro e w' ⟨⟨c', h1, h2⟩ | ⟨h1, _⟩, h3⟩
  · rw [bad_fun h1 hB] at h2
    exact ⟨h2, h3⟩
  · exact (good_bad h1 hB).elim
omit hP in
theorem p25 {y : GV} (hG : Good y) : Calls Tryz.prog 25 #[.string ⟨(txV (nfV y)).toArray⟩] W fun e w' => ∃ (ck : Int) (cb : Bool) (cn : Int) (ct : ByteArray) (cr1 : Option Addr) (cz1 cu1 : Nat) (cr2 : Option Addr) (cz2 cu2 : Nat), e = .returned (.tuple #[.agg #[.int .i64 ck, .bool cb, .int .i64 cn, .string ct, .slice cr1 cz1 cu1, .slice cr2 cz2 cu2], .nilIface]) ∧ Hid (LaidV w' (fun _ => True) (nfV y) [.int .i64 ck, .bool cb, .int .i64 cn, .string ct, .slice cr1 cz1 cu1, .slice cr2 cz2 cu2]) ∧ Below W.heap.size W w' := by
  refine (parse_any _ W (hT.of (hW.block 1 (by omega)) (hW.block 2 (by omega))) (Nat.le_trans h6 hW.size) (back_size hG)).mono ?_
  rintro e w' ⟨h1, h2⟩
  rw [back_parse hG] at h2
  obtain ⟨k, b, n, t, a1, l1, c1, a2, l2, c2, h3, h4⟩ := h2
  exact ⟨k, b, n, t, a1, l1, c1, a2, l2, c2, h3, h4.conv (fun b _ _ => ⟨trivial, rfl⟩), h1⟩
end
set_option maxRecDepth 20000 in
set_option maxHeartbeats 4000000 in
theorem back_law (x : GV) (hsz : x.sz ≤ 2000000) (hok : okV x) (w : World) (ok : Nat → Prop) (cs : Array Value) (h6 : 6 ≤ w.heap.size) (hP : Pow10 w) (hT : Tabs w) (hx : LaidV w ok x cs.toList) :
    Calls Tryz.prog 8 #[.agg cs] w fun e w' => e = .returned (.bool true) ∧ Below w.heap.size w w' := by
  have hpo := fun (W : World) (h : Below w.heap.size w W) => hP.of (h.block 0 (by omega)) (h.block 4 (by omega))
  have hta := fun (W : World) (h : Below w.heap.size w W) => hT.of (h.block 1 (by omega)) (h.block 2 (by omega))
  have Q10 : Hid (∀ W, Below w.heap.size w W → Calls Tryz.prog 10 #[] W fun e w' => e = .returned (.bool true) ∧ Below W.heap.size W w') := fun W h => shown_any W (Nat.le_trans h6 h.size) (hpo W h) (hta W h)
  obtain ⟨k, b, n, t, s1, s2, rfl⟩ := cells_of hx
  have hx' : LaidV w (fun _ => True) x #[.int .i64 k, .bool b, .int .i64 n, .string t, s1, s2].toList := hx.conv (fun b _ _ => ⟨trivial, rfl⟩)
  have v0 : Hold x w.heap.size #[.int .i64 k, .bool b, .int .i64 n, .string t, s1, s2] (w.alloc (.cells #[.int .i64 k, .bool b, .int .i64 n, .string t, s1, s2] 25)) := Hold.new hx'
  have m0 : Below w.heap.size w (w.alloc (.cells #[.int .i64 k, .bool b, .int .i64 n, .string t, s1, s2] 25)) := allocB _ _
  rcases good_or_bad x with hG | ⟨c, hB⟩
  · have hzn : (nfV x).sz ≤ 2000000 := Nat.le_trans (nf_sz _ x (Nat.le_refl _)) hsz
    have hkn := nf_ok _ x (Nat.le_refl _) hok
    have hGn := good_nf hG
    have hid := nf_idem _ x 0 (Nat.le_refl _) hG.2.1
    have Q11 : Hid (∀ W, Below w.heap.size w W → Calls Tryz.prog 11 #[.agg #[.int .i64 k, .bool b, .int .i64 n, .string t, s1, s2]] W fun e w' => e = .returned (.tuple #[.string ⟨(txV (nfV x)).toArray⟩, .nilIface]) ∧ Below W.heap.size W w') := fun W h => w11g hsz hok (by omega) hP hT hx W h hG
    have Q16 : Hid (∀ W, Below w.heap.size w W → Hold x w.heap.size #[.int .i64 k, .bool b, .int .i64 n, .string t, s1, s2] W → Calls Tryz.prog 16 #[.agg #[.int .i64 k, .bool b, .int .i64 n, .string t, s1, s2]] W fun e w' => ∃ (ck : Int) (cb : Bool) (cn : Int) (ct : ByteArray) (cr1 : Option Addr) (cz1 cu1 : Nat) (cr2 : Option Addr) (cz2 cu2 : Nat), e = .returned (.tuple #[.agg #[.int .i64 ck, .bool cb, .int .i64 cn, .string ct, .slice cr1 cz1 cu1, .slice cr2 cz2 cu2], .nilIface]) ∧ Hid (LaidV w' (fun _ => True) (nfV x) [.int .i64 ck, .bool cb, .int .i64 cn, .string ct, .slice cr1 cz1 cu1, .slice cr2 cz2 cu2]) ∧ Below W.heap.size W w') := fun W h hl => n16g h6 hP hT W h hsz hok hG hl.l
    have Q25 : Hid (∀ W, Below w.heap.size w W → Calls Tryz.prog 25 #[.string ⟨(txV (nfV x)).toArray⟩] W fun e w' => ∃ (ck : Int) (cb : Bool) (cn : Int) (ct : ByteArray) (cr1 : Option Addr) (cz1 cu1 : Nat) (cr2 : Option Addr) (cz2 cu2 : Nat), e = .returned (.tuple #[.agg #[.int .i64 ck, .bool cb, .int .i64 cn, .string ct, .slice cr1 cz1 cu1, .slice cr2 cz2 cu2], .nilIface]) ∧ Hid (LaidV w' (fun _ => True) (nfV x) [.int .i64 ck, .bool cb, .int .i64 cn, .string ct, .slice cr1 cz1 cu1, .slice cr2 cz2 cu2]) ∧ Below W.heap.size W w') := fun W h => p25 h6 hT W h hG
    have Q21 : Hid (∀ W, Below w.heap.size w W → Calls Tryz.prog 21 #[.string ⟨(txV (nfV x)).toArray⟩] W fun e w' => e = .returned (.bool true) ∧ Below W.heap.size W w') := fun W h => (is_any _ (back_size hG) W (Nat.le_trans h6 h.size) (hpo W h) (hta W h)).mono fun e w' ⟨h1, h2⟩ => ⟨says_bool (by simp [back_is hG]) h1, h2⟩
    have Q11n : Hid (∀ W bb (ds : Array Value), Below w.heap.size w W → Hold (nfV x) bb ds W → Calls Tryz.prog 11 #[.agg ds] W fun e w' => e = .returned (.tuple #[.string ⟨(txV (nfV x)).toArray⟩, .nilIface]) ∧ Below W.heap.size W w') := fun W bb ds h hl => by
      have := w11g hzn hkn (w := W) (ok := fun _ => True) (cs := ds) (by have := h.size; omega) (hpo W h) (hta W h) hl.l W (Below.refl _ _) hGn
      rw [hid] at this
      exact this
    have Q16n : Hid (∀ W bb (ds : Array Value), Below w.heap.size w W → Hold (nfV x) bb ds W → Calls Tryz.prog 16 #[.agg ds] W fun e w' => ∃ (ck : Int) (cb : Bool) (cn : Int) (ct : ByteArray) (cr1 : Option Addr) (cz1 cu1 : Nat) (cr2 : Option Addr) (cz2 cu2 : Nat), e = .returned (.tuple #[.agg #[.int .i64 ck, .bool cb, .int .i64 cn, .string ct, .slice cr1 cz1 cu1, .slice cr2 cz2 cu2], .nilIface]) ∧ Hid (LaidV w' (fun _ => True) (nfV x) [.int .i64 ck, .bool cb, .int .i64 cn, .string ct, .slice cr1 cz1 cu1, .slice cr2 cz2 cu2]) ∧ Below W.heap.size W w') := fun W bb ds h hl => by
      have := n16g h6 hP hT W h hzn hkn hGn hl.l
      rw [hid] at this
      exact this
    have Q18 : Hid (∀ W b1 b2 (c1 c2 : Array Value), Hold (nfV x) b1 c1 W → Hold (nfV x) b2 c2 W → Calls Tryz.prog 18 #[.agg c1, .agg c2] W fun e w' => e = .returned (.bool true) ∧ Below W.heap.size W w') := fun W b1 b2 c1 c2 h1 h2 => sameAt_any _ (nfV x) (Nat.le_refl _) hzn W _ _ c1 c2 h1.l h2.l
    have Q19 : Hid (∀ W b2 (c2 : Array Value), Below w.heap.size w W → Hold x w.heap.size #[.int .i64 k, .bool b, .int .i64 n, .string t, s1, s2] W → Hold (nfV x) b2 c2 W → Calls Tryz.prog 19 #[.agg #[.int .i64 k, .bool b, .int .i64 n, .string t, s1, s2], .agg c2] W fun e w' => e = .returned (.bool true) ∧ Below W.heap.size W w') := fun W b2 c2 h h1 h2 => (same_any x (nfV x) hsz hzn hok hkn W (fun _ => True) _ c2 (by have := h.size; omega) (hpo W h) (hta W h) h1.l h2.l).mono fun e w' ⟨h3, h4⟩ => ⟨says_bool (by simp [back_same hG]) h3, h4⟩
    obtain ⟨T, hT'⟩ : ∃ T : ByteArray, ⟨(txV (nfV x)).toArray⟩ = T := ⟨_, rfl⟩
    rw [hT'] at Q11 Q25 Q21 Q11n
    obtain ⟨Y, hY⟩ : ∃ Y, nfV x = Y := ⟨_, rfl⟩
    rw [hY] at Q16 Q25 Q11n Q16n Q18 Q19
    clear hG hT' hY hpo hta hx hx' hP hT hsz hok hzn hkn hGn hid
    go_enter Tryz.func8, Tryz.ntmps8
    go_wp2_with (first
      | (have hq := m9; go_at_call 19; refine (Q19.out _ _ _ m9 v9 a9).mono ?_; rintro e w10 ⟨rfl, h10⟩; have m10 := m9.trans (h10.mono m9.size); clear hq m9)
      | (have hq := m8; go_at_call 21; refine (Q21.out _ m8).mono ?_; rintro e w9 ⟨rfl, h9⟩; have v9 := v8.keep h9; have a9 := a8.keep h9; have m9 := m8.trans (h9.mono m8.size); obtain ⟨x0, x1, x2, x3, x4, x5⟩ := box6 v9.c; obtain ⟨y0, y1, y2, y3, y4, y5⟩ := box6 a9.c; clear hq m8)
      | (have hq := m7; go_at_call 18; refine (Q18.out _ _ _ _ _ d7 a7).mono ?_; rintro e w8 ⟨rfl, h8⟩; have v8 := v7.keep h8; have a8 := a7.keep h8; have m8 := m7.trans (h8.mono m7.size); clear hq m7)
      | (have hq := m6; go_at_call 18; refine (Q18.out _ _ _ _ _ b6 a6).mono ?_; rintro e w7 ⟨rfl, h7⟩; have v7 := v6.keep h7; have a7 := a6.keep h7; have d7 := d6.keep h7; have m7 := m6.trans (h7.mono m6.size); obtain ⟨x0, x1, x2, x3, x4, x5⟩ := box6 a7.c; obtain ⟨y0, y1, y2, y3, y4, y5⟩ := box6 d7.c; clear hq m6)
      | (have hq := m5; go_at_call 16; refine (Q16n.out _ _ _ m5 a5).mono ?_; rintro e w6 ⟨dk, db, dn, dt, dr1, dz1, du1, dr2, dz2, du2, rfl, HD, h6'⟩; have hh := h6'.trans ((allocB w6 (.cells #[.int .i64 dk, .bool db, .int .i64 dn, .string dt, .slice dr1 dz1 du1, .slice dr2 dz2 du2] 25)).mono h6'.size); have v6 := v5.keep hh; have a6 := a5.keep hh; have b6 := b5.keep hh; have d6 : Hold Y w6.heap.size #[.int .i64 dk, .bool db, .int .i64 dn, .string dt, .slice dr1 dz1 du1, .slice dr2 dz2 du2] (w6.alloc (.cells #[.int .i64 dk, .bool db, .int .i64 dn, .string dt, .slice dr1 dz1 du1, .slice dr2 dz2 du2] 25)) := Hold.new HD.out; have m6 := m5.trans (hh.mono m5.size); obtain ⟨x0, x1, x2, x3, x4, x5⟩ := box6 a6.c; obtain ⟨y0, y1, y2, y3, y4, y5⟩ := box6 b6.c; clear hq m5 hh)
      | (have hq := m4; go_at_call 11; refine (Q11n.out _ _ _ m4 b4).mono ?_; rintro e w5 ⟨rfl, h5⟩; have v5 := v4.keep h5; have a5 := a4.keep h5; have b5 := b4.keep h5; have m5 := m4.trans (h5.mono m4.size); obtain ⟨x0, x1, x2, x3, x4, x5⟩ := box6 a5.c; clear hq m4)
      | (have hq := m3; go_at_call 25; refine (Q25.out _ m3).mono ?_; rintro e w4 ⟨bk, bb, bn, bt, br1, bz1, bu1, br2, bz2, bu2, rfl, HE, h4⟩; have hh := h4.trans ((allocB w4 (.cells #[.int .i64 bk, .bool bb, .int .i64 bn, .string bt, .slice br1 bz1 bu1, .slice br2 bz2 bu2] 25)).mono h4.size); have v4 := v3.keep hh; have a4 := a3.keep hh; have b4 : Hold Y w4.heap.size #[.int .i64 bk, .bool bb, .int .i64 bn, .string bt, .slice br1 bz1 bu1, .slice br2 bz2 bu2] (w4.alloc (.cells #[.int .i64 bk, .bool bb, .int .i64 bn, .string bt, .slice br1 bz1 bu1, .slice br2 bz2 bu2] 25)) := Hold.new HE.out; have m4 := m3.trans (hh.mono m3.size); obtain ⟨x0, x1, x2, x3, x4, x5⟩ := box6 b4.c; clear hq m3 hh)
      | (have hq := m2; go_at_call 16; refine (Q16.out _ m2 v2).mono ?_; rintro e w3 ⟨pk, pb, pn, pt, pr1, pz1, pu1, pr2, pz2, pu2, rfl, HA, h3⟩; have hh := h3.trans ((allocB w3 (.cells #[.int .i64 pk, .bool pb, .int .i64 pn, .string pt, .slice pr1 pz1 pu1, .slice pr2 pz2 pu2] 25)).mono h3.size); have v3 := v2.keep hh; have a3 : Hold Y w3.heap.size #[.int .i64 pk, .bool pb, .int .i64 pn, .string pt, .slice pr1 pz1 pu1, .slice pr2 pz2 pu2] (w3.alloc (.cells #[.int .i64 pk, .bool pb, .int .i64 pn, .string pt, .slice pr1 pz1 pu1, .slice pr2 pz2 pu2] 25)) := Hold.new HA.out; have m3 := m2.trans (hh.mono m2.size); clear hq m2 hh)
      | (have hq := m1; go_at_call 11; refine (Q11.out _ m1).mono ?_; rintro e w2 ⟨rfl, h2⟩; have v2 := v1.keep h2; have m2 := m1.trans (h2.mono m1.size); obtain ⟨x0, x1, x2, x3, x4, x5⟩ := box6 v2.c; clear hq m1)
      | (go_at_call 10; refine (Q10.out _ m0).mono ?_; rintro e w1 ⟨rfl, h1⟩; have v1 := v0.keep h1; have m1 := m0.trans (h1.mono m0.size); obtain ⟨x0, x1, x2, x3, x4, x5⟩ := box6 v1.c))
    go_ret
    exact ⟨rfl, m10⟩
  · have Q11 : Hid (∀ W, Below w.heap.size w W → Calls Tryz.prog 11 #[.agg #[.int .i64 k, .bool b, .int .i64 n, .string t, s1, s2]] W fun e w' => e = .returned (.tuple #[.string ⟨#[]⟩, .iface 31 (.int .i64 c)]) ∧ Below W.heap.size W w') := fun W h => w11b hsz hok (by omega) hP hT hx W h hB
    have Q16 : Hid (∀ W, Below w.heap.size w W → Hold x w.heap.size #[.int .i64 k, .bool b, .int .i64 n, .string t, s1, s2] W → Calls Tryz.prog 16 #[.agg #[.int .i64 k, .bool b, .int .i64 n, .string t, s1, s2]] W fun e w' => e = .returned (.tuple #[.agg #[.int .i64 0, .bool false, .int .i64 0, .string ⟨#[]⟩, .slice none 0 0, .slice none 0 0], .iface 31 (.int .i64 c)]) ∧ Below W.heap.size W w') := fun W h hl => n16b h6 hP hT W h hsz hok hB hl.l
    have Q13 : Hid _ := fun W => code_bad hB W
    clear hB hpo hta hx hx' hP hT hsz hok
    go_enter Tryz.func8, Tryz.ntmps8
    go_wp2_with (first
      | (have hq := m3; go_at_call 13; refine (Q13.out _).mono ?_; rintro e w4 ⟨rfl, rfl⟩; clear hq)
      | (have hq := m2; go_at_call 16; refine (Q16.out _ m2 v2).mono ?_; rintro e w3 ⟨rfl, h3⟩; have m3 := m2.trans (h3.mono m2.size); clear hq m2)
      | (have hq := m1; go_at_call 11; refine (Q11.out _ m1).mono ?_; rintro e w2 ⟨rfl, h2⟩; have v2 := v1.keep h2; have m2 := m1.trans (h2.mono m1.size); obtain ⟨x0, x1, x2, x3, x4, x5⟩ := box6 v2.c; clear hq m1)
      | (go_at_call 10; refine (Q10.out _ m0).mono ?_; rintro e w1 ⟨rfl, h1⟩; have v1 := v0.keep h1; have m1 := m0.trans (h1.mono m0.size); obtain ⟨x0, x1, x2, x3, x4, x5⟩ := box6 v1.c))
    go_ret
    exact ⟨rfl, m3.alloc m3.size _⟩
end Dc
end Go.Proofs.YtiakidomcjpdhaaGreatDoor

namespace Go.Proofs.YtiakidomcjpdhaaGreatDoor
open Go.RowKit
namespace Dc
open Pu Pt SndW

/-- What the walk wants of the program's calls at a text that is read as x, the fields of which are turned round to be told, and at y, which is read then. -/
structure OneQ (w : World) (s : ByteArray) (x z y : GV) (T : ByteArray) (E : Value) (c0 : Int) (S : Bool) : Prop where
  q25 : ∀ W, Below w.heap.size w W → Calls Tryz.prog 25 #[.string s] W fun e w' => ∃ (ck : Int) (cb : Bool) (cn : Int) (ct : ByteArray) (cr1 : Option Addr) (cz1 cu1 : Nat) (cr2 : Option Addr) (cz2 cu2 : Nat), e = .returned (.tuple #[.agg #[.int .i64 ck, .bool cb, .int .i64 cn, .string ct, .slice cr1 cz1 cu1, .slice cr2 cz2 cu2], .nilIface]) ∧ Hid (LaidV w' (fun _ => True) x [.int .i64 ck, .bool cb, .int .i64 cn, .string ct, .slice cr1 cz1 cu1, .slice cr2 cz2 cu2]) ∧ Below W.heap.size W w'
  qx : ∀ W b cs, Below w.heap.size w W → Hold x b cs W → Calls Tryz.prog 11 #[.agg cs] W fun e w' => e = .returned (.tuple #[.string T, E]) ∧ Below W.heap.size W w'
  qy : ∀ W b cs, Below w.heap.size w W → Hold y b cs W → Calls Tryz.prog 11 #[.agg cs] W fun e w' => e = .returned (.tuple #[.string T, E]) ∧ Below W.heap.size W w'
  q13 : ∀ W, Calls Tryz.prog 13 #[E] W fun e w' => e = .returned (.int .i64 c0) ∧ w' = W
  q19 : ∀ W b1 b2 c1 c2, Below w.heap.size w W → Hold x b1 c1 W → Hold y b2 c2 W → Calls Tryz.prog 19 #[.agg c1, .agg c2] W fun e w' => e = .returned (.bool S) ∧ Below W.heap.size W w'
  q27 : ∀ W b cs, Hold x b cs W → Calls Tryz.prog 27 #[.agg cs] W fun e w' => ∃ (ck : Int) (cb : Bool) (cn : Int) (ct : ByteArray) (cr1 : Option Addr) (cz1 cu1 : Nat) (cr2 : Option Addr) (cz2 cu2 : Nat), e = .returned (.agg #[.int .i64 ck, .bool cb, .int .i64 cn, .string ct, .slice cr1 cz1 cu1, .slice cr2 cz2 cu2]) ∧ Hid (LaidV w' (fun _ => True) z [.int .i64 ck, .bool cb, .int .i64 cn, .string ct, .slice cr1 cz1 cu1, .slice cr2 cz2 cu2]) ∧ Below W.heap.size W w'
  q26 : ∀ (W : World) (cs : Array Value) (g : ByteArray), g.size ≤ 5 → LaidV W (fun _ => True) z cs.toList → Calls Tryz.prog 26 #[.slice none 0 0, .agg cs, .string g] W fun e w' => ∃ va vl vc, e = .returned (.slice va vl vc) ∧ (convert 49 9 (.slice va vl vc)).run Tryz.prog w' = .ok (.string ⟨(PlnW.plT g.data.toList z []).toArray⟩) w' ∧ Below W.heap.size W w'
  rd : ∀ (g : List UInt8) (b : ByteArray), RndW.Blanks g → b.data.toList = PlnW.plT g z [] → b.size ≤ 65536 → parseS b = .ok y
  len : ∀ g : List UInt8, g.length ≤ 5 → (PlnW.plT g z []).length ≤ 16000000
  snd : E = .nilIface → S = true
theorem one_facts {w : World} (h6 : 6 ≤ w.heap.size) (hP : Pow10 w) (hT : Tabs w) {s : ByteArray} {x : GV} (hs : s.size ≤ 65536) (hp : parseS s = .ok x) : ∃ T E c0 S, OneQ w s x (tnV x) (OwnW.nrmV (tnV x)) T E c0 S ∧ (E = .nilIface ∨ ∃ c, E = .iface 31 (.int .i64 c)) := by
  have hsz : x.sz ≤ 262144 := by have := sz_parse hp; omega
  have hok : okV x := cl_ok _ x 32 (Nat.le_refl _) (snd_parse hp) (cl_parse hp)
  have hTd : TdV x 0 := snd_td _ x 0 (Nat.le_refl _) (by have := snd_parse hp; simpa using this)
  have hzs : (tnV x).sz = x.sz := tn_sz _ x (Nat.le_refl _)
  have hzT : TdV (tnV x) 0 := tn_td _ x 0 (Nat.le_refl _) hTd
  have hzS : sndV (tnV x) 32 = true := by have := td_snd _ (tnV x) 0 (Nat.le_refl _) hzT; simpa using this
  have hnf : nfV (OwnW.nrmV (tnV x)) = nfV x := (nrm_nf _ (tnV x) (Nat.le_refl _)).trans (tn_nf _ x 0 (Nat.le_refl _) hTd)
  have hyT : TdV (OwnW.nrmV (tnV x)) 0 ∧ (OwnW.nrmV (tnV x)).sz ≤ 262144 ∧ okV (OwnW.nrmV (tnV x)) := by
    have h1 := nrm_td _ (tnV x) 0 (Nat.le_refl _) hzT
    have h2 := nrm_sz _ (tnV x) (Nat.le_refl _)
    exact ⟨h1.1, by omega, h1.2⟩
  have hcn : cntV (OwnW.nrmV (tnV x)) = cntV x := by rw [← nf_cnt _ _ (Nat.le_refl _), hnf, nf_cnt _ x (Nat.le_refl _)]
  have hln : (txV (OwnW.nrmV (tnV x))).length = (txV x).length := by rw [← nf_len _ _ (Nat.le_refl _), hnf, nf_len _ x (Nat.le_refl _)]
  have hpo := fun (W : World) (h : Below w.heap.size w W) => hP.of (h.block 0 (by omega)) (h.block 4 (by omega))
  have hta := fun (W : World) (h : Below w.heap.size w W) => hT.of (h.block 1 (by omega)) (h.block 2 (by omega))
  have h5 : ∀ W, Below w.heap.size w W → 5 ≤ W.heap.size := fun W h => by have := h.size; omega
  have Q25 : ∀ W, Below w.heap.size w W → Calls Tryz.prog 25 #[.string s] W fun e w' => ∃ (ck : Int) (cb : Bool) (cn : Int) (ct : ByteArray) (cr1 : Option Addr) (cz1 cu1 : Nat) (cr2 : Option Addr) (cz2 cu2 : Nat), e = .returned (.tuple #[.agg #[.int .i64 ck, .bool cb, .int .i64 cn, .string ct, .slice cr1 cz1 cu1, .slice cr2 cz2 cu2], .nilIface]) ∧ Hid (LaidV w' (fun _ => True) x [.int .i64 ck, .bool cb, .int .i64 cn, .string ct, .slice cr1 cz1 cu1, .slice cr2 cz2 cu2]) ∧ Below W.heap.size W w' := fun W h => by
    refine (parse_any s W (hta W h) (Nat.le_trans h6 h.size) hs).mono ?_
    rintro e w' ⟨h1, h2⟩
    rw [hp] at h2
    obtain ⟨k, b, n, t, a1, l1, c1, a2, l2, c2, h3, h4⟩ := h2
    exact ⟨k, b, n, t, a1, l1, c1, a2, l2, c2, h3, h4.conv (fun b _ _ => ⟨trivial, rfl⟩), h1⟩
  have Q27 : ∀ W b cs, Hold x b cs W → Calls Tryz.prog 27 #[.agg cs] W fun e w' => ∃ (ck : Int) (cb : Bool) (cn : Int) (ct : ByteArray) (cr1 : Option Addr) (cz1 cu1 : Nat) (cr2 : Option Addr) (cz2 cu2 : Nat), e = .returned (.agg #[.int .i64 ck, .bool cb, .int .i64 cn, .string ct, .slice cr1 cz1 cu1, .slice cr2 cz2 cu2]) ∧ Hid (LaidV w' (fun _ => True) (tnV x) [.int .i64 ck, .bool cb, .int .i64 cn, .string ct, .slice cr1 cz1 cu1, .slice cr2 cz2 cu2]) ∧ Below W.heap.size W w' := fun W b cs h => by
    refine (trn_any 2000000 x (by omega) (Nat.le_refl _) W _ cs h.l).mono ?_
    rintro e w' ⟨⟨k, b, n, t, a1, l1, c1, a2, l2, c2, h3, h4⟩, h1⟩
    exact ⟨k, b, n, t, a1, l1, c1, a2, l2, c2, h3, h4.conv (fun b _ _ => ⟨trivial, rfl⟩), h1⟩
  have Q26 : ∀ (W : World) (cs : Array Value) (g : ByteArray), g.size ≤ 5 → LaidV W (fun _ => True) (tnV x) cs.toList → Calls Tryz.prog 26 #[.slice none 0 0, .agg cs, .string g] W fun e w' => ∃ va vl vc, e = .returned (.slice va vl vc) ∧ (convert 49 9 (.slice va vl vc)).run Tryz.prog w' = .ok (.string ⟨(PlnW.plT g.data.toList (tnV x) []).toArray⟩) w' ∧ Below W.heap.size W w' := fun W cs g hg hl => by
    refine (plain26 (tnV x) (by omega) 32 hzS g hg W _ cs hl).mono ?_
    rintro e w' ⟨v', rfl, h1, h2⟩
    obtain ⟨va, vc, rfl⟩ := own_form h1
    exact ⟨va, _, vc, rfl, conv_row h1, h2⟩
  have RD : ∀ (g : List UInt8) (b : ByteArray), RndW.Blanks g → b.data.toList = PlnW.plT g (tnV x) [] → b.size ≤ 65536 → parseS b = .ok (OwnW.nrmV (tnV x)) := fun g b hg hb hl => RndW.rd_told hg hzS hb hl
  have LEN : ∀ g : List UInt8, g.length ≤ 5 → (PlnW.plT g (tnV x) []).length ≤ 16000000 := fun g hg => by
    have := PlnW.plT_len g hg (tnV x) []
    simp only [List.length_nil] at this
    omega
  rcases good_or_bad x with hG | ⟨c, hB⟩
  · have hGy : Good (OwnW.nrmV (tnV x)) := ⟨by rw [hcn]; exact hG.1, hyT.1, by rw [hln]; exact hG.2.2⟩
    refine ⟨⟨(txV (nfV x)).toArray⟩, .nilIface, 0, true, ⟨Q25, fun W b cs h hx => ?_, fun W b cs h hy => ?_, fun W => code0 W, fun W b1 b2 c1 c2 h hx hy => ?_, Q27, Q26, RD, LEN, fun _ => rfl⟩, .inl rfl⟩
    · refine (write_any x (by omega) hok W _ cs (h5 W h) (hpo W h) (hta W h) hx.l).mono ?_
      rintro e w' ⟨⟨c, h1, _⟩ | ⟨_, h1⟩, h2⟩
      · exact (good_bad hG h1).elim
      · exact ⟨h1, h2⟩
    · refine (write_any _ (by omega) hyT.2.2 W _ cs (h5 W h) (hpo W h) (hta W h) hy.l).mono ?_
      rintro e w' ⟨⟨c, h1, _⟩ | ⟨_, h1⟩, h2⟩
      · exact (good_bad hGy h1).elim
      · rw [hnf] at h1
        exact ⟨h1, h2⟩
    · refine (same_any x _ (by omega) (by omega) hok hyT.2.2 W _ c1 c2 (h5 W h) (hpo W h) (hta W h) hx.l hy.l).mono ?_
      rintro e w' ⟨⟨V, rfl, h1⟩, h2⟩
      rw [h1.2 ⟨hG, hGy, by rw [hnf]⟩]
      exact ⟨rfl, h2⟩
  · have hBy : Bad (OwnW.nrmV (tnV x)) c := by
      unfold Bad at hB ⊢
      rw [hcn, hln]
      rcases hB with h | ⟨_, h, _⟩ | ⟨h1, _, h2⟩
      · exact .inl h
      · exact absurd hTd h
      · exact .inr (.inr ⟨h1, hyT.1, h2⟩)
    refine ⟨⟨#[]⟩, .iface 31 (.int .i64 c), c, false, ⟨Q25, fun W b cs h hx => ?_, fun W b cs h hy => ?_, fun W => code_bad hB W, fun W b1 b2 c1 c2 h hx hy => ?_, Q27, Q26, RD, LEN, fun h => by cases h⟩, .inr ⟨c, rfl⟩⟩
    · refine (write_any x (by omega) hok W _ cs (h5 W h) (hpo W h) (hta W h) hx.l).mono ?_
      rintro e w' ⟨⟨c', h1, h3⟩ | ⟨h1, _⟩, h2⟩
      · rw [bad_fun h1 hB] at h3
        exact ⟨h3, h2⟩
      · exact (good_bad h1 hB).elim
    · refine (write_any _ (by omega) hyT.2.2 W _ cs (h5 W h) (hpo W h) (hta W h) hy.l).mono ?_
      rintro e w' ⟨⟨c', h1, h3⟩ | ⟨h1, _⟩, h2⟩
      · rw [bad_fun h1 hBy] at h3
        exact ⟨h3, h2⟩
      · exact (good_bad h1 hBy).elim
    · refine (same_any x _ (by omega) (by omega) hok hyT.2.2 W _ c1 c2 (h5 W h) (hpo W h) (hta W h) hx.l hy.l).mono ?_
      rintro e w' ⟨⟨V, rfl, h1⟩, h2⟩
      cases V with
      | false => exact ⟨rfl, h2⟩
      | true => exact (good_bad (h1.1 rfl).1 hB).elim
def gapS (m : Nat) : ByteArray := (⟨#[32, 32, 10, 9]⟩ : ByteArray).extract 0 m
theorem gapS_list (m : Nat) : (gapS m).data.toList = ([32, 32, 10, 9] : List UInt8).take m := by
  unfold gapS
  rw [ByteArray.data_extract, Array.toList_extract]
  simp
theorem gapS_blanks (m : Nat) : RndW.Blanks (gapS m).data.toList := by
  intro c hc
  rw [gapS_list] at hc
  have := List.mem_of_mem_take hc
  simp at this
  rcases this with rfl | rfl | rfl <;> decide
theorem gapS_size (m : Nat) : (gapS m).size ≤ 5 := by
  rw [Lib.size_eq, gapS_list, List.length_take]
  simp
  omega
theorem tmod4 (gap : Int) : ∃ m : Nat, m ≤ 3 ∧ ((Int.tmod gap 4 = (m : Int)) ∨ (Int.tmod gap 4 = -(m : Int) ∧ 0 < m)) := by
  refine ⟨(Int.tmod gap 4).natAbs, ?_, ?_⟩
  · have := Int.tmod_lt_of_pos gap (show (0 : Int) < 4 by decide)
    have := Int.lt_tmod_of_pos gap (show (0 : Int) < 4 by decide)
    omega
  · omega
set_option maxRecDepth 20000 in
set_option maxHeartbeats 4000000 in
theorem one_no (s : ByteArray) (gap : Int) (w : World) (h6 : 6 ≤ w.heap.size) (hP : Pow10 w) (hT : Tabs w) (Q25 : Hid (∀ W, Below w.heap.size w W → Calls Tryz.prog 25 #[.string s] W fun e w' => ∃ b, (e = .returned (.tuple #[.agg #[.int .i64 0, .bool false, .int .i64 0, .string ⟨#[]⟩, .slice none 0 0, .slice none 0 0], .iface 31 (.int .i64 2)]) ∨ e = .returned (.tuple #[.agg #[.int .i64 0, .bool false, .int .i64 0, .string ⟨#[]⟩, .slice none 0 0, .slice none 0 0], .iface 73 (.pointer b)])) ∧ Below W.heap.size W w')) :
    Calls Tryz.prog 9 #[.string s, .int .i64 gap] w fun e w' => e = .returned (.bool true) ∧ Below w.heap.size w w' := by
  have Q10 : Hid (∀ W, Below w.heap.size w W → Calls Tryz.prog 10 #[] W fun e w' => e = .returned (.bool true) ∧ Below W.heap.size W w') := fun W h => shown_any W (Nat.le_trans h6 h.size) (hP.of (h.block 0 (by omega)) (h.block 4 (by omega))) (hT.of (h.block 1 (by omega)) (h.block 2 (by omega)))
  clear hP hT
  go_enter Tryz.func9, Tryz.ntmps9
  go_wp2_with (first
    | (have hq := b1; go_at_call 25; refine (Q25.out _ b1).mono ?_; rintro e w2 ⟨bb, (rfl | rfl), h2⟩; all_goals (have b2 := b1.trans (h2.mono b1.size); clear hq b1))
    | (go_at_call 10; refine (Q10.out _ (Below.refl _ _)).mono ?_; rintro e w1 ⟨rfl, b1⟩))
  all_goals (
    go_ret
    exact ⟨rfl, b2.alloc b2.size _⟩)
set_option maxRecDepth 20000 in
set_option maxHeartbeats 8000000 in
theorem one_yesG (s : ByteArray) (gap : Int) (w : World) (h6 : 6 ≤ w.heap.size) (hP : Pow10 w) (hT : Tabs w) (x z y : GV) (T : ByteArray) (c0 : Int) (S : Bool) (Q : OneQ w s x z y T .nilIface c0 S) (hS : S = true) :
    Calls Tryz.prog 9 #[.string s, .int .i64 gap] w fun e w' => e = .returned (.bool true) ∧ Below w.heap.size w w' := by
  have Q10 : Hid (∀ W, Below w.heap.size w W → Calls Tryz.prog 10 #[] W fun e w' => e = .returned (.bool true) ∧ Below W.heap.size W w') := fun W h => shown_any W (Nat.le_trans h6 h.size) (hP.of (h.block 0 (by omega)) (h.block 4 (by omega))) (hT.of (h.block 1 (by omega)) (h.block 2 (by omega)))
  have QL : Hid (∀ (b : ByteArray) W, Below w.heap.size w W → 65536 < b.size → b.size ≤ 16000000 → Calls Tryz.prog 25 #[.string b] W fun e w' => e = .returned (.tuple #[.agg #[.int .i64 0, .bool false, .int .i64 0, .string ⟨#[]⟩, .slice none 0 0, .slice none 0 0], .iface 31 (.int .i64 2)]) ∧ Below W.heap.size W w') := fun b W h h1 h2 => (parse_long b W h1 (by omega)).mono fun e w' h => h
  have QP : Hid (∀ (b : ByteArray) W, Below w.heap.size w W → b.size ≤ 65536 → parseS b = .ok y → Calls Tryz.prog 25 #[.string b] W fun e w' => ∃ (ck : Int) (cb : Bool) (cn : Int) (ct : ByteArray) (cr1 : Option Addr) (cz1 cu1 : Nat) (cr2 : Option Addr) (cz2 cu2 : Nat), e = .returned (.tuple #[.agg #[.int .i64 ck, .bool cb, .int .i64 cn, .string ct, .slice cr1 cz1 cu1, .slice cr2 cz2 cu2], .nilIface]) ∧ Hid (LaidV w' (fun _ => True) y [.int .i64 ck, .bool cb, .int .i64 cn, .string ct, .slice cr1 cz1 cu1, .slice cr2 cz2 cu2]) ∧ Below W.heap.size W w') := fun b W h h1 hp => by
    refine (parse_any b W (hT.of (h.block 1 (by omega)) (h.block 2 (by omega))) (Nat.le_trans h6 h.size) h1).mono ?_
    rintro e w' ⟨h1, h2⟩
    rw [hp] at h2
    obtain ⟨k, b, n, t, a1, l1, c1, a2, l2, c2, h3, h4⟩ := h2
    exact ⟨k, b, n, t, a1, l1, c1, a2, l2, c2, h3, h4.conv (fun b _ _ => ⟨trivial, rfl⟩), h1⟩
  subst hS
  have HQ : Hid (OneQ w s x z y T .nilIface c0 true) := Q
  have n2 : ∀ W : World, (binOp .eql 28 (.iface 31 (.int .i64 2)) (.iface 31 (.int .i64 2))).run Tryz.prog W = .ok (.bool true) W := fun W => bin_err 2 2 W
  clear hP hT Q
  obtain ⟨m, hm3, hmod⟩ := tmod4 gap
  obtain ⟨R, hR⟩ : ∃ R, Int.tmod gap 4 = R := ⟨_, rfl⟩
  rw [hR] at hmod
  have hGb : Hid (RndW.Blanks (gapS m).data.toList) := gapS_blanks m
  have hGs := gapS_size m
  obtain ⟨G, hG⟩ : ∃ G, (⟨#[32, 32, 10, 9]⟩ : ByteArray).extract 0 m = G := ⟨_, rfl⟩
  have hG' : gapS m = G := hG
  rw [hG'] at hGb hGs
  clear hG'
  have hm0 : (0 : Int) ≤ (m : Int) := by omega
  have hm4 : (m : Int) ≤ 4 := by omega
  go_enter Tryz.func9, Tryz.ntmps9
  rcases hmod with rfl | ⟨rfl, hpos⟩
  all_goals (
    go_wp2_with (first
      | (have hq := x2; go_at_call 11; refine (HQ.out.qx _ _ _ b2 x2).mono ?_; rintro e w3 ⟨rfl, h3⟩; have b3 := b2.trans (h3.mono b2.size); have x3 := x2.keep h3; clear hq b2 x2)
      | (have hq := b1; go_at_call 25; refine (HQ.out.q25 _ b1).mono ?_; rintro e w2 ⟨pk, pb, pn, pt, pr1, pz1, pu1, pr2, pz2, pu2, rfl, HA, h2⟩; have hh := h2.trans ((allocB w2 (.cells #[.int .i64 pk, .bool pb, .int .i64 pn, .string pt, .slice pr1 pz1 pu1, .slice pr2 pz2 pu2] 25)).mono h2.size); have b2 := b1.trans (hh.mono b1.size); have x2 : Hold x w2.heap.size #[.int .i64 pk, .bool pb, .int .i64 pn, .string pt, .slice pr1 pz1 pu1, .slice pr2 pz2 pu2] (w2.alloc (.cells #[.int .i64 pk, .bool pb, .int .i64 pn, .string pt, .slice pr1 pz1 pu1, .slice pr2 pz2 pu2] 25)) := Hold.new HA.out; obtain ⟨x0, x1', x2', x3', x4', x5'⟩ := box6 x2.c; clear hq b1 hh)
      | (go_at_call 10; refine (Q10.out _ (Below.refl _ _)).mono ?_; rintro e w1 ⟨rfl, b1⟩))
    obtain ⟨x0, x1', x2', x3', x4', x5'⟩ := box6 x3.c
    have hx3 : w2.heap.size < w3.heap.size := lt_of_block x3.c
    have xd : Hold x w2.heap.size #[.int .i64 pk, .bool pb, .int .i64 pn, .string pt, .slice pr1 pz1 pu1, .slice pr2 pz2 pu2] w3.drew := x3.keep (below_drewN (Below.refl _ _) 1)
    have HR : Hid (∀ wq, Below w3.heap.size w3 wq → wq.rangeAt w2.heap.size 0 [.int .i64 pk, .bool pb, .int .i64 pn, .string pt, .slice pr1 pz1 pu1, .slice pr2 pz2 pu2]) := fun wq hq j u hu => by
      have h9 := (hq.block _ hx3).trans x3.c
      simp only [World.cell?, h9, Nat.zero_add]
      simpa using hu
    refine wp_region_held_drew (S := fun w' => Below w3.heap.size w3 w') (by kernel_rfl) (below_drewN (Below.refl _ _) 1) (fun hS => ?_)
    refine wpAnyH_take (i := 0) (v := .agg #[.int .i64 pk, .bool pb, .int .i64 pn, .string pt, .slice pr1 pz1 pu1, .slice pr2 pz2 pu2]) rfl (by kernel_rfl) (by kernel_rfl) (by kernel_rfl) (fun _ _ _ h => h) (yieldsIf_load_mid (by kernel_rfl) 25 (.tmp 6) rfl w2.heap.size 0 rfl [.int .i64 pk, .bool pb, .int .i64 pn, .string pt, .slice pr1 pz1 pu1, .slice pr2 pz2 pu2] _ (fun wq hq => HR.out wq hq) Tryz.underlying25 rfl sz25) hS ?_
    try simp only [Act.put, List.getElem_toArray, List.getElem_cons_zero, List.setIfInBounds_toArray, List.set_cons_zero, List.set_cons_succ]
    refine wpAnyH_take (i := 2) (v := .string ⟨#[32, 32, 10, 9]⟩) rfl (by kernel_rfl) (by kernel_rfl) (by kernel_rfl) (fun _ _ _ h => h) (Or.inl ⟨by kernel_rfl, fun wq hS => by clear hS; go_simp⟩) hS ?_
    try simp only [Act.put, List.getElem_toArray, List.getElem_cons_succ, List.getElem_cons_zero, List.setIfInBounds_toArray, List.set_cons_zero, List.set_cons_succ]
    refine wpAnyH_take (i := 3) (v := .int .i64 (m : Int)) rfl (by kernel_rfl) (by kernel_rfl) (by kernel_rfl) (fun _ _ _ h => h) (Or.inl ⟨by kernel_rfl, fun wq hS => by clear hS; go_simp⟩) hS ?_
    try simp only [Act.put, List.getElem_toArray, List.getElem_cons_succ, List.getElem_cons_zero, List.setIfInBounds_toArray, List.set_cons_zero, List.set_cons_succ]
    refine wpAnyH_take (i := 4) (v := .string G) rfl (by kernel_rfl) (by kernel_rfl) (by kernel_rfl) (fun _ _ _ h => h) (Or.inl ⟨by kernel_rfl, fun wq hS => by clear hS; go_simp⟩) hS ?_
    try simp only [Act.put, List.getElem_toArray, List.getElem_cons_succ, List.getElem_cons_zero, List.setIfInBounds_toArray, List.set_cons_zero, List.set_cons_succ]
    refine wpAnyH_ready (rs := [1]) (by kernel_rfl) (by simp) ?_
    refine AllReadyH.cons rfl (fun K' hK' => ?_) AllReadyH.nil
    go_simp
    refine (HQ.out.q27 _ _ _ xd).mono ?_
    rintro e w4 ⟨qk, qb, qn, qt, qr1, qz1, qu1, qr2, qz2, qu2, rfl, HZ, h4⟩
    have h4' : Below w3.heap.size w3 w4 := ⟨h4.os, h4.tape, h4.output, h4.size, h4.block⟩
    refine hK'.out _ _ h4' (fun hS => ?_)
    clear hK' K'
    try simp only [Act.put, List.getElem_toArray, List.getElem_cons_succ, List.getElem_cons_zero, List.setIfInBounds_toArray, List.set_cons_zero, List.set_cons_succ]
    refine wpAnyH_ready (rs := [5]) (by kernel_rfl) (by simp) ?_
    refine AllReadyH.cons rfl (fun K' hK' => ?_) AllReadyH.nil
    go_simp
    refine (HQ.out.q26 _ #[.int .i64 qk, .bool qb, .int .i64 qn, .string qt, .slice qr1 qz1 qu1, .slice qr2 qz2 qu2] G hGs HZ.out).mono ?_
    rintro e w5 ⟨va, vl, vc, rfl, hcv, h5⟩
    have h5' : Below w3.heap.size w3 w5 := h4'.trans (h5.mono h4'.size)
    refine hK'.out _ _ h5' (fun hS => ?_)
    clear hK' K'
    try simp only [Act.put, List.getElem_toArray, List.getElem_cons_succ, List.getElem_cons_zero, List.setIfInBounds_toArray, List.set_cons_zero, List.set_cons_succ]
    have hBl := HQ.out.len G.data.toList (by rw [← Lib.size_eq]; exact hGs)
    have HBp := fun b h => HQ.out.rd G.data.toList b hGb.out h
    obtain ⟨B, hB⟩ : ∃ B : ByteArray, ⟨(PlnW.plT G.data.toList z []).toArray⟩ = B := ⟨_, rfl⟩
    have hBs : B.size ≤ 16000000 := by rw [← hB, Lib.size_eq]; simpa using hBl
    have HBp' : Hid (B.size ≤ 65536 → parseS B = .ok y) := HBp B (by rw [← hB])
    rw [hB] at hcv
    clear hB hBl HBp
    refine wpAnyH_ready (rs := [6]) (by kernel_rfl) (by simp) ?_
    refine AllReadyH.cons rfl (fun K' hK' => ?_) AllReadyH.nil
    go_simp
    refine hK'.out _ _ h5' (fun hS => ?_)
    clear hK' K'
    try simp only [Act.put, List.getElem_toArray, List.getElem_cons_succ, List.getElem_cons_zero, List.setIfInBounds_toArray, List.set_cons_zero, List.set_cons_succ]
    refine wpAnyH_take (i := 7) (v := .string B) rfl (by kernel_rfl) (by kernel_rfl) (by kernel_rfl) (fun _ _ _ h => h) (Or.inl ⟨by kernel_rfl, fun wq hS => by clear hS; go_simp⟩) hS ?_
    try simp only [Act.put, List.getElem_toArray, List.getElem_cons_succ, List.getElem_cons_zero, List.setIfInBounds_toArray, List.set_cons_zero, List.set_cons_succ]
    refine wpAnyH_done (by kernel_rfl) ?_ _
    have b5 := b3.trans (h5'.mono b3.size)
    have x5 := x3.keep h5'
    clear hcv hS h4 h4' h5 HZ HR xd h5' b3 x3 x0 x1' x2' x3' x4' x5' hx3
    have hee : (T.toList == T.toList) = true := by simp
    by_cases hlong : 65536 < B.size
    · have hl' : (65536 : Int) < (B.size : Int) := by omega
      go_wp2_with (go_at_call 25; refine (QL.out B _ b5 hlong hBs).mono ?_; rintro e w6 ⟨rfl, h6'⟩; have b6 := b5.trans (h6'.mono b5.size))
      go_ret
      exact ⟨rfl, b6.alloc b6.size _⟩
    · have hl' : ¬ (65536 : Int) < (B.size : Int) := by omega
      have hpar := HBp'.out (by omega)
      go_wp2_with (first
        | (have hq := b8; go_at_call 13; refine (HQ.out.q13 _).mono ?_; rintro e w9 ⟨rfl, rfl⟩; clear hq)
        | (have hq := y7; go_at_call 19; refine (HQ.out.q19 _ _ _ _ _ b7 x7 y7).mono ?_; rintro e w8 ⟨rfl, h8⟩; have b8 := b7.trans (h8.mono b7.size); clear hq y7)
        | (have hq := y6; go_at_call 11; refine (HQ.out.qy _ _ _ b6 y6).mono ?_; rintro e w7 ⟨rfl, h7⟩; have b7 := b6.trans (h7.mono b6.size); have x7 := x6.keep h7; have y7 := y6.keep h7; obtain ⟨u0, u1, u2, u3, u4, u5⟩ := box6 x7.c; obtain ⟨t0, t1, t2, t3, t4, t5⟩ := box6 y7.c; clear hq y6)
        | (go_at_call 25; refine (QP.out B _ b5 (by omega) hpar).mono ?_; rintro e w6 ⟨yk, yb, yn, yt, yr1, yz1, yu1, yr2, yz2, yu2, rfl, HY, h6'⟩; have hh := h6'.trans ((allocB w6 (.cells #[.int .i64 yk, .bool yb, .int .i64 yn, .string yt, .slice yr1 yz1 yu1, .slice yr2 yz2 yu2] 25)).mono h6'.size); have b6 := b5.trans (hh.mono b5.size); have x6 := x5.keep hh; have y6 : Hold y w6.heap.size #[.int .i64 yk, .bool yb, .int .i64 yn, .string yt, .slice yr1 yz1 yu1, .slice yr2 yz2 yu2] (w6.alloc (.cells #[.int .i64 yk, .bool yb, .int .i64 yn, .string yt, .slice yr1 yz1 yu1, .slice yr2 yz2 yu2] 25)) := Hold.new HY.out; obtain ⟨s0, s1, s2, s3, s4, s5⟩ := box6 y6.c; clear hh))
      go_ret
      exact ⟨rfl, b8⟩)
set_option maxRecDepth 20000 in
set_option maxHeartbeats 8000000 in
theorem one_yesB (s : ByteArray) (gap : Int) (w : World) (h6 : 6 ≤ w.heap.size) (hP : Pow10 w) (hT : Tabs w) (x z y : GV) (T : ByteArray) (c : Int) (c0 : Int) (S : Bool) (Q : OneQ w s x z y T (.iface 31 (.int .i64 c)) c0 S) :
    Calls Tryz.prog 9 #[.string s, .int .i64 gap] w fun e w' => e = .returned (.bool true) ∧ Below w.heap.size w w' := by
  have Q10 : Hid (∀ W, Below w.heap.size w W → Calls Tryz.prog 10 #[] W fun e w' => e = .returned (.bool true) ∧ Below W.heap.size W w') := fun W h => shown_any W (Nat.le_trans h6 h.size) (hP.of (h.block 0 (by omega)) (h.block 4 (by omega))) (hT.of (h.block 1 (by omega)) (h.block 2 (by omega)))
  have QL : Hid (∀ (b : ByteArray) W, Below w.heap.size w W → 65536 < b.size → b.size ≤ 16000000 → Calls Tryz.prog 25 #[.string b] W fun e w' => e = .returned (.tuple #[.agg #[.int .i64 0, .bool false, .int .i64 0, .string ⟨#[]⟩, .slice none 0 0, .slice none 0 0], .iface 31 (.int .i64 2)]) ∧ Below W.heap.size W w') := fun b W h h1 h2 => (parse_long b W h1 (by omega)).mono fun e w' h => h
  have QP : Hid (∀ (b : ByteArray) W, Below w.heap.size w W → b.size ≤ 65536 → parseS b = .ok y → Calls Tryz.prog 25 #[.string b] W fun e w' => ∃ (ck : Int) (cb : Bool) (cn : Int) (ct : ByteArray) (cr1 : Option Addr) (cz1 cu1 : Nat) (cr2 : Option Addr) (cz2 cu2 : Nat), e = .returned (.tuple #[.agg #[.int .i64 ck, .bool cb, .int .i64 cn, .string ct, .slice cr1 cz1 cu1, .slice cr2 cz2 cu2], .nilIface]) ∧ Hid (LaidV w' (fun _ => True) y [.int .i64 ck, .bool cb, .int .i64 cn, .string ct, .slice cr1 cz1 cu1, .slice cr2 cz2 cu2]) ∧ Below W.heap.size W w') := fun b W h h1 hp => by
    refine (parse_any b W (hT.of (h.block 1 (by omega)) (h.block 2 (by omega))) (Nat.le_trans h6 h.size) h1).mono ?_
    rintro e w' ⟨h1, h2⟩
    rw [hp] at h2
    obtain ⟨k, b, n, t, a1, l1, c1, a2, l2, c2, h3, h4⟩ := h2
    exact ⟨k, b, n, t, a1, l1, c1, a2, l2, c2, h3, h4.conv (fun b _ _ => ⟨trivial, rfl⟩), h1⟩
  have HQ : Hid (OneQ w s x z y T (.iface 31 (.int .i64 c)) c0 S) := Q
  have n2 : ∀ W : World, (binOp .eql 28 (.iface 31 (.int .i64 2)) (.iface 31 (.int .i64 2))).run Tryz.prog W = .ok (.bool true) W := fun W => bin_err 2 2 W
  clear hP hT Q
  obtain ⟨m, hm3, hmod⟩ := tmod4 gap
  obtain ⟨R, hR⟩ : ∃ R, Int.tmod gap 4 = R := ⟨_, rfl⟩
  rw [hR] at hmod
  have hGb : Hid (RndW.Blanks (gapS m).data.toList) := gapS_blanks m
  have hGs := gapS_size m
  obtain ⟨G, hG⟩ : ∃ G, (⟨#[32, 32, 10, 9]⟩ : ByteArray).extract 0 m = G := ⟨_, rfl⟩
  have hG' : gapS m = G := hG
  rw [hG'] at hGb hGs
  clear hG'
  have hm0 : (0 : Int) ≤ (m : Int) := by omega
  have hm4 : (m : Int) ≤ 4 := by omega
  go_enter Tryz.func9, Tryz.ntmps9
  rcases hmod with rfl | ⟨rfl, hpos⟩
  all_goals (
    go_wp2_with (first
      | (have hq := x2; go_at_call 11; refine (HQ.out.qx _ _ _ b2 x2).mono ?_; rintro e w3 ⟨rfl, h3⟩; have b3 := b2.trans (h3.mono b2.size); have x3 := x2.keep h3; clear hq b2 x2)
      | (have hq := b1; go_at_call 25; refine (HQ.out.q25 _ b1).mono ?_; rintro e w2 ⟨pk, pb, pn, pt, pr1, pz1, pu1, pr2, pz2, pu2, rfl, HA, h2⟩; have hh := h2.trans ((allocB w2 (.cells #[.int .i64 pk, .bool pb, .int .i64 pn, .string pt, .slice pr1 pz1 pu1, .slice pr2 pz2 pu2] 25)).mono h2.size); have b2 := b1.trans (hh.mono b1.size); have x2 : Hold x w2.heap.size #[.int .i64 pk, .bool pb, .int .i64 pn, .string pt, .slice pr1 pz1 pu1, .slice pr2 pz2 pu2] (w2.alloc (.cells #[.int .i64 pk, .bool pb, .int .i64 pn, .string pt, .slice pr1 pz1 pu1, .slice pr2 pz2 pu2] 25)) := Hold.new HA.out; obtain ⟨x0, x1', x2', x3', x4', x5'⟩ := box6 x2.c; clear hq b1 hh)
      | (go_at_call 10; refine (Q10.out _ (Below.refl _ _)).mono ?_; rintro e w1 ⟨rfl, b1⟩))
    obtain ⟨x0, x1', x2', x3', x4', x5'⟩ := box6 x3.c
    have hx3 : w2.heap.size < w3.heap.size := lt_of_block x3.c
    have xd : Hold x w2.heap.size #[.int .i64 pk, .bool pb, .int .i64 pn, .string pt, .slice pr1 pz1 pu1, .slice pr2 pz2 pu2] w3.drew := x3.keep (below_drewN (Below.refl _ _) 1)
    have HR : Hid (∀ wq, Below w3.heap.size w3 wq → wq.rangeAt w2.heap.size 0 [.int .i64 pk, .bool pb, .int .i64 pn, .string pt, .slice pr1 pz1 pu1, .slice pr2 pz2 pu2]) := fun wq hq j u hu => by
      have h9 := (hq.block _ hx3).trans x3.c
      simp only [World.cell?, h9, Nat.zero_add]
      simpa using hu
    refine wp_region_held_drew (S := fun w' => Below w3.heap.size w3 w') (by kernel_rfl) (below_drewN (Below.refl _ _) 1) (fun hS => ?_)
    refine wpAnyH_take (i := 0) (v := .agg #[.int .i64 pk, .bool pb, .int .i64 pn, .string pt, .slice pr1 pz1 pu1, .slice pr2 pz2 pu2]) rfl (by kernel_rfl) (by kernel_rfl) (by kernel_rfl) (fun _ _ _ h => h) (yieldsIf_load_mid (by kernel_rfl) 25 (.tmp 6) rfl w2.heap.size 0 rfl [.int .i64 pk, .bool pb, .int .i64 pn, .string pt, .slice pr1 pz1 pu1, .slice pr2 pz2 pu2] _ (fun wq hq => HR.out wq hq) Tryz.underlying25 rfl sz25) hS ?_
    try simp only [Act.put, List.getElem_toArray, List.getElem_cons_zero, List.setIfInBounds_toArray, List.set_cons_zero, List.set_cons_succ]
    refine wpAnyH_take (i := 2) (v := .string ⟨#[32, 32, 10, 9]⟩) rfl (by kernel_rfl) (by kernel_rfl) (by kernel_rfl) (fun _ _ _ h => h) (Or.inl ⟨by kernel_rfl, fun wq hS => by clear hS; go_simp⟩) hS ?_
    try simp only [Act.put, List.getElem_toArray, List.getElem_cons_succ, List.getElem_cons_zero, List.setIfInBounds_toArray, List.set_cons_zero, List.set_cons_succ]
    refine wpAnyH_take (i := 3) (v := .int .i64 (m : Int)) rfl (by kernel_rfl) (by kernel_rfl) (by kernel_rfl) (fun _ _ _ h => h) (Or.inl ⟨by kernel_rfl, fun wq hS => by clear hS; go_simp⟩) hS ?_
    try simp only [Act.put, List.getElem_toArray, List.getElem_cons_succ, List.getElem_cons_zero, List.setIfInBounds_toArray, List.set_cons_zero, List.set_cons_succ]
    refine wpAnyH_take (i := 4) (v := .string G) rfl (by kernel_rfl) (by kernel_rfl) (by kernel_rfl) (fun _ _ _ h => h) (Or.inl ⟨by kernel_rfl, fun wq hS => by clear hS; go_simp⟩) hS ?_
    try simp only [Act.put, List.getElem_toArray, List.getElem_cons_succ, List.getElem_cons_zero, List.setIfInBounds_toArray, List.set_cons_zero, List.set_cons_succ]
    refine wpAnyH_ready (rs := [1]) (by kernel_rfl) (by simp) ?_
    refine AllReadyH.cons rfl (fun K' hK' => ?_) AllReadyH.nil
    go_simp
    refine (HQ.out.q27 _ _ _ xd).mono ?_
    rintro e w4 ⟨qk, qb, qn, qt, qr1, qz1, qu1, qr2, qz2, qu2, rfl, HZ, h4⟩
    have h4' : Below w3.heap.size w3 w4 := ⟨h4.os, h4.tape, h4.output, h4.size, h4.block⟩
    refine hK'.out _ _ h4' (fun hS => ?_)
    clear hK' K'
    try simp only [Act.put, List.getElem_toArray, List.getElem_cons_succ, List.getElem_cons_zero, List.setIfInBounds_toArray, List.set_cons_zero, List.set_cons_succ]
    refine wpAnyH_ready (rs := [5]) (by kernel_rfl) (by simp) ?_
    refine AllReadyH.cons rfl (fun K' hK' => ?_) AllReadyH.nil
    go_simp
    refine (HQ.out.q26 _ #[.int .i64 qk, .bool qb, .int .i64 qn, .string qt, .slice qr1 qz1 qu1, .slice qr2 qz2 qu2] G hGs HZ.out).mono ?_
    rintro e w5 ⟨va, vl, vc, rfl, hcv, h5⟩
    have h5' : Below w3.heap.size w3 w5 := h4'.trans (h5.mono h4'.size)
    refine hK'.out _ _ h5' (fun hS => ?_)
    clear hK' K'
    try simp only [Act.put, List.getElem_toArray, List.getElem_cons_succ, List.getElem_cons_zero, List.setIfInBounds_toArray, List.set_cons_zero, List.set_cons_succ]
    have hBl := HQ.out.len G.data.toList (by rw [← Lib.size_eq]; exact hGs)
    have HBp := fun b h => HQ.out.rd G.data.toList b hGb.out h
    obtain ⟨B, hB⟩ : ∃ B : ByteArray, ⟨(PlnW.plT G.data.toList z []).toArray⟩ = B := ⟨_, rfl⟩
    have hBs : B.size ≤ 16000000 := by rw [← hB, Lib.size_eq]; simpa using hBl
    have HBp' : Hid (B.size ≤ 65536 → parseS B = .ok y) := HBp B (by rw [← hB])
    rw [hB] at hcv
    clear hB hBl HBp
    refine wpAnyH_ready (rs := [6]) (by kernel_rfl) (by simp) ?_
    refine AllReadyH.cons rfl (fun K' hK' => ?_) AllReadyH.nil
    go_simp
    refine hK'.out _ _ h5' (fun hS => ?_)
    clear hK' K'
    try simp only [Act.put, List.getElem_toArray, List.getElem_cons_succ, List.getElem_cons_zero, List.setIfInBounds_toArray, List.set_cons_zero, List.set_cons_succ]
    refine wpAnyH_take (i := 7) (v := .string B) rfl (by kernel_rfl) (by kernel_rfl) (by kernel_rfl) (fun _ _ _ h => h) (Or.inl ⟨by kernel_rfl, fun wq hS => by clear hS; go_simp⟩) hS ?_
    try simp only [Act.put, List.getElem_toArray, List.getElem_cons_succ, List.getElem_cons_zero, List.setIfInBounds_toArray, List.set_cons_zero, List.set_cons_succ]
    refine wpAnyH_done (by kernel_rfl) ?_ _
    have b5 := b3.trans (h5'.mono b3.size)
    have x5 := x3.keep h5'
    clear hcv hS h4 h4' h5 HZ HR xd h5' b3 x3 x0 x1' x2' x3' x4' x5' hx3
    have hee : (T.toList == T.toList) = true := by simp
    by_cases hlong : 65536 < B.size
    · have hl' : (65536 : Int) < (B.size : Int) := by omega
      go_wp2_with (go_at_call 25; refine (QL.out B _ b5 hlong hBs).mono ?_; rintro e w6 ⟨rfl, h6'⟩; have b6 := b5.trans (h6'.mono b5.size))
      go_ret
      exact ⟨rfl, b6.alloc b6.size _⟩
    · have hl' : ¬ (65536 : Int) < (B.size : Int) := by omega
      have hpar := HBp'.out (by omega)
      go_wp2_with (first
        | (have hq := b8; go_at_call 13; refine (HQ.out.q13 _).mono ?_; rintro e w9 ⟨rfl, rfl⟩; clear hq)
        | (have hq := y7; go_at_call 19; refine (HQ.out.q19 _ _ _ _ _ b7 x7 y7).mono ?_; rintro e w8 ⟨rfl, h8⟩; have b8 := b7.trans (h8.mono b7.size); clear hq y7)
        | (have hq := y6; go_at_call 11; refine (HQ.out.qy _ _ _ b6 y6).mono ?_; rintro e w7 ⟨rfl, h7⟩; have b7 := b6.trans (h7.mono b6.size); have x7 := x6.keep h7; have y7 := y6.keep h7; obtain ⟨u0, u1, u2, u3, u4, u5⟩ := box6 x7.c; obtain ⟨t0, t1, t2, t3, t4, t5⟩ := box6 y7.c; clear hq y6)
        | (go_at_call 25; refine (QP.out B _ b5 (by omega) hpar).mono ?_; rintro e w6 ⟨yk, yb, yn, yt, yr1, yz1, yu1, yr2, yz2, yu2, rfl, HY, h6'⟩; have hh := h6'.trans ((allocB w6 (.cells #[.int .i64 yk, .bool yb, .int .i64 yn, .string yt, .slice yr1 yz1 yu1, .slice yr2 yz2 yu2] 25)).mono h6'.size); have b6 := b5.trans (hh.mono b5.size); have x6 := x5.keep hh; have y6 : Hold y w6.heap.size #[.int .i64 yk, .bool yb, .int .i64 yn, .string yt, .slice yr1 yz1 yu1, .slice yr2 yz2 yu2] (w6.alloc (.cells #[.int .i64 yk, .bool yb, .int .i64 yn, .string yt, .slice yr1 yz1 yu1, .slice yr2 yz2 yu2] 25)) := Hold.new HY.out; obtain ⟨s0, s1, s2, s3, s4, s5⟩ := box6 y6.c; clear hh))
      go_ret
      exact ⟨rfl, b8⟩)
theorem one_law (s : ByteArray) (gap : Int) (hs : s.size ≤ 140737488351232) (_hgr : -9223372036854775808 ≤ gap ∧ gap ≤ 9223372036854775807) (w : World) (h6 : 6 ≤ w.heap.size) (hP : Pow10 w) (hT : Tabs w) :
    Calls Tryz.prog 9 #[.string s, .int .i64 gap] w fun e w' => e = .returned (.bool true) ∧ Below w.heap.size w w' := by
  by_cases hl : 65536 < s.size
  · refine one_no s gap w h6 hP hT (fun W h => (parse_long s W hl hs).mono ?_)
    rintro e w' ⟨h1, h2⟩
    exact ⟨none, .inl h1, h2⟩
  cases hp : parseS s with
  | error q =>
    obtain ⟨q, c⟩ := q
    refine one_no s gap w h6 hP hT (fun W h => (parse_any s W (hT.of (h.block 1 (by omega)) (h.block 2 (by omega))) (Nat.le_trans h6 h.size) (by omega)).mono ?_)
    rintro e w' ⟨h1, h2⟩
    rw [hp] at h2
    obtain ⟨b, h3, _⟩ := h2
    exact ⟨_, .inr h3, h1⟩
  | ok x =>
    obtain ⟨T, E, c0, S, Q, rfl | ⟨c, rfl⟩⟩ := one_facts h6 hP hT (by omega) hp
    · exact one_yesG s gap w h6 hP hT x _ _ T c0 S Q (Q.snd rfl)
    · exact one_yesB s gap w h6 hP hT x _ _ T c c0 S Q
end Dc
end Go.Proofs.YtiakidomcjpdhaaGreatDoor
