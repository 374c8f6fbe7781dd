/- CanonBack answers true: the walk of the statement. -/
import Derived.Test.YtiakidomcjpdhaaGreatDoorGBp
import Derived.Test.YtiakidomcjpdhaaGreatDoorGSe
namespace Go.Proofs.YtiakidomcjpdhaaGreatDoor
open Go.RowKit
namespace Dc
open Pu Pt

theorem sameAt_any : ∀ (m : Nat) (x : GV), x.sz ≤ m → m ≤ 2000000 → SameAt x
  | 0, x, h, _ => by have := GV.sz_pos x; omega
  | m + 1, .mk k b n t l f, h, hm => by
    have hs : 1 + t.size + szL l + szF f ≤ m + 1 := by simpa [GV.sz] using h
    exact same_step k b n t l f (by omega) (fun i hi => sameAt_any m _ (by have := szL_get l i hi; omega) (by omega)) (fun i hi => sameAt_any m _ (by have := szF_get f i hi; omega) (by omega))
/-- A variable that holds a value. -/
structure Hold (x : GV) (b : Nat) (cs : Array Value) (W : World) : Prop where
  c : W.heap[b]? = some (.cells cs 25 (0, 0))
  l : LaidV W (fun _ => True) x cs.toList
theorem Hold.keep {x : GV} {b : Nat} {cs : Array Value} {W W' : World} (h : Hold x b cs W) (f : Below W.heap.size W W') : Hold x b cs W' :=
  ⟨(f.block _ (lt_of_block h.c)).trans h.c, h.l.conv (fun b _ hl => ⟨trivial, f.block b hl⟩)⟩
theorem Hold.new {x : GV} {cs : Array Value} {W : World} (h : LaidV W (fun _ => True) x cs.toList) : Hold x W.heap.size cs (W.alloc (.cells cs 25)) :=
  ⟨heap_alloc_new _ _, h.conv (fun _b _ hl => ⟨trivial, Below.heap_alloc _ _ _ hl⟩)⟩
theorem allocB (W : World) (o : Obj) : Below W.heap.size W (W.alloc o) := (Below.refl _ _).alloc (Nat.le_refl _) _
section
variable {w : World} (h6 : 6 ≤ w.heap.size) (hP : Pow10 w) (hT : Tabs w) (W : World) (hW : Below w.heap.size w W)
include h6 hP hT hW
theorem n16g {y : GV} (hsz : y.sz ≤ 2000000) (hok : okV y) (hG : Good y) {ds : Array Value} (hl : LaidV W (fun _ => True) y ds.toList) : Calls Tryz.prog 16 #[.agg ds] W fun e w' => ∃ (ck : Int) (cb : Bool) (cn : Int) (ct : ByteArray) (cr1 : Option Addr) (cz1 cu1 : Nat) (cr2 : Option Addr) (cz2 cu2 : Nat), e = .returned (.tuple #[.agg #[.int .i64 ck, .bool cb, .int .i64 cn, .string ct, .slice cr1 cz1 cu1, .slice cr2 cz2 cu2], .nilIface]) ∧ Hid (LaidV w' (fun _ => True) (nfV y) [.int .i64 ck, .bool cb, .int .i64 cn, .string ct, .slice cr1 cz1 cu1, .slice cr2 cz2 cu2]) ∧ Below W.heap.size W w' := by
  refine (norm_any y hsz hok W _ ds (by have := hW.size; omega) (hP.of (hW.block 0 (by omega)) (hW.block 4 (by omega))) (hT.of (hW.block 1 (by omega)) (hW.block 2 (by omega))) hl).mono ?_
  rintro e w' ⟨⟨c, h1, _⟩ | ⟨_, cs, h1, h2⟩, h3⟩
  · exact (good_bad hG h1).elim
  · cases hy : nfV y with
    | mk k b n t l f =>
    rw [hy] at h2
    obtain ⟨a1, c1, a2, c2, xs, ys, hcs, -, -, -, -⟩ := h2.form
    obtain rfl : cs = #[.int .i64 k, .bool b, .int .i64 n, .string t, .slice a1 l.length c1, .slice a2 f.length c2] := by
      cases cs
      simpa using hcs
    exact ⟨k, b, n, t, a1, l.length, c1, a2, f.length, c2, h1, h2.conv (fun b _ _ => ⟨trivial, rfl⟩), h3⟩
theorem n16b {y : GV} (hsz : y.sz ≤ 2000000) (hok : okV y) {c : Int} (hB : Bad y c) {ds : Array Value} (hl : LaidV W (fun _ => True) y ds.toList) : Calls Tryz.prog 16 #[.agg ds] W fun e w' => e = .returned (.tuple #[.agg #[.int .i64 0, .bool false, .int .i64 0, .string ⟨#[]⟩, .slice none 0 0, .slice none 0 0], .iface 31 (.int .i64 c)]) ∧ Below W.heap.size W w' := by
  refine (norm_any y hsz hok W _ ds (by have := hW.size; omega) (hP.of (hW.block 0 (by omega)) (hW.block 4 (by omega))) (hT.of (hW.block 1 (by omega)) (hW.block 2 (by omega))) hl).mono ?_
  rintro e w' ⟨⟨c', h1, h2⟩ | ⟨h1, _⟩, h3⟩
  · rw [bad_fun h1 hB] at h2
    exact ⟨h2, h3⟩
  · exact (good_bad h1 hB).elim
omit hP in
theorem p25 {y : GV} (hG : Good y) : Calls Tryz.prog 25 #[.string ⟨(txV (nfV y)).toArray⟩] W fun e w' => ∃ (ck : Int) (cb : Bool) (cn : Int) (ct : ByteArray) (cr1 : Option Addr) (cz1 cu1 : Nat) (cr2 : Option Addr) (cz2 cu2 : Nat), e = .returned (.tuple #[.agg #[.int .i64 ck, .bool cb, .int .i64 cn, .string ct, .slice cr1 cz1 cu1, .slice cr2 cz2 cu2], .nilIface]) ∧ Hid (LaidV w' (fun _ => True) (nfV y) [.int .i64 ck, .bool cb, .int .i64 cn, .string ct, .slice cr1 cz1 cu1, .slice cr2 cz2 cu2]) ∧ Below W.heap.size W w' := by
  refine (parse_any _ W (hT.of (hW.block 1 (by omega)) (hW.block 2 (by omega))) (Nat.le_trans h6 hW.size) (back_size hG)).mono ?_
  rintro e w' ⟨h1, h2⟩
  rw [back_parse hG] at h2
  obtain ⟨k, b, n, t, a1, l1, c1, a2, l2, c2, h3, h4⟩ := h2
  exact ⟨k, b, n, t, a1, l1, c1, a2, l2, c2, h3, h4.conv (fun b _ _ => ⟨trivial, rfl⟩), h1⟩
end
set_option maxRecDepth 20000 in
set_option maxHeartbeats 4000000 in
theorem back_law (x : GV) (hsz : x.sz ≤ 2000000) (hok : okV x) (w : World) (ok : Nat → Prop) (cs : Array Value) (h6 : 6 ≤ w.heap.size) (hP : Pow10 w) (hT : Tabs w) (hx : LaidV w ok x cs.toList) :
    Calls Tryz.prog 8 #[.agg cs] w fun e w' => e = .returned (.bool true) ∧ Below w.heap.size w w' := by
  have hpo := fun (W : World) (h : Below w.heap.size w W) => hP.of (h.block 0 (by omega)) (h.block 4 (by omega))
  have hta := fun (W : World) (h : Below w.heap.size w W) => hT.of (h.block 1 (by omega)) (h.block 2 (by omega))
  have Q10 : Hid (∀ W, Below w.heap.size w W → Calls Tryz.prog 10 #[] W fun e w' => e = .returned (.bool true) ∧ Below W.heap.size W w') := fun W h => shown_any W (Nat.le_trans h6 h.size) (hpo W h) (hta W h)
  obtain ⟨k, b, n, t, s1, s2, rfl⟩ := cells_of hx
  have hx' : LaidV w (fun _ => True) x #[.int .i64 k, .bool b, .int .i64 n, .string t, s1, s2].toList := hx.conv (fun b _ _ => ⟨trivial, rfl⟩)
  have v0 : Hold x w.heap.size #[.int .i64 k, .bool b, .int .i64 n, .string t, s1, s2] (w.alloc (.cells #[.int .i64 k, .bool b, .int .i64 n, .string t, s1, s2] 25)) := Hold.new hx'
  have m0 : Below w.heap.size w (w.alloc (.cells #[.int .i64 k, .bool b, .int .i64 n, .string t, s1, s2] 25)) := allocB _ _
  rcases good_or_bad x with hG | ⟨c, hB⟩
  · have hzn : (nfV x).sz ≤ 2000000 := Nat.le_trans (nf_sz _ x (Nat.le_refl _)) hsz
    have hkn := nf_ok _ x (Nat.le_refl _) hok
    have hGn := good_nf hG
    have hid := nf_idem _ x 0 (Nat.le_refl _) hG.2.1
    have Q11 : Hid (∀ W, Below w.heap.size w W → Calls Tryz.prog 11 #[.agg #[.int .i64 k, .bool b, .int .i64 n, .string t, s1, s2]] W fun e w' => e = .returned (.tuple #[.string ⟨(txV (nfV x)).toArray⟩, .nilIface]) ∧ Below W.heap.size W w') := fun W h => w11g hsz hok (by omega) hP hT hx W h hG
    have Q16 : Hid (∀ W, Below w.heap.size w W → Hold x w.heap.size #[.int .i64 k, .bool b, .int .i64 n, .string t, s1, s2] W → Calls Tryz.prog 16 #[.agg #[.int .i64 k, .bool b, .int .i64 n, .string t, s1, s2]] W fun e w' => ∃ (ck : Int) (cb : Bool) (cn : Int) (ct : ByteArray) (cr1 : Option Addr) (cz1 cu1 : Nat) (cr2 : Option Addr) (cz2 cu2 : Nat), e = .returned (.tuple #[.agg #[.int .i64 ck, .bool cb, .int .i64 cn, .string ct, .slice cr1 cz1 cu1, .slice cr2 cz2 cu2], .nilIface]) ∧ Hid (LaidV w' (fun _ => True) (nfV x) [.int .i64 ck, .bool cb, .int .i64 cn, .string ct, .slice cr1 cz1 cu1, .slice cr2 cz2 cu2]) ∧ Below W.heap.size W w') := fun W h hl => n16g h6 hP hT W h hsz hok hG hl.l
    have Q25 : Hid (∀ W, Below w.heap.size w W → Calls Tryz.prog 25 #[.string ⟨(txV (nfV x)).toArray⟩] W fun e w' => ∃ (ck : Int) (cb : Bool) (cn : Int) (ct : ByteArray) (cr1 : Option Addr) (cz1 cu1 : Nat) (cr2 : Option Addr) (cz2 cu2 : Nat), e = .returned (.tuple #[.agg #[.int .i64 ck, .bool cb, .int .i64 cn, .string ct, .slice cr1 cz1 cu1, .slice cr2 cz2 cu2], .nilIface]) ∧ Hid (LaidV w' (fun _ => True) (nfV x) [.int .i64 ck, .bool cb, .int .i64 cn, .string ct, .slice cr1 cz1 cu1, .slice cr2 cz2 cu2]) ∧ Below W.heap.size W w') := fun W h => p25 h6 hT W h hG
    have Q21 : Hid (∀ W, Below w.heap.size w W → Calls Tryz.prog 21 #[.string ⟨(txV (nfV x)).toArray⟩] W fun e w' => e = .returned (.bool true) ∧ Below W.heap.size W w') := fun W h => (is_any _ (back_size hG) W (Nat.le_trans h6 h.size) (hpo W h) (hta W h)).mono fun e w' ⟨h1, h2⟩ => ⟨says_bool (by simp [back_is hG]) h1, h2⟩
    have Q11n : Hid (∀ W bb (ds : Array Value), Below w.heap.size w W → Hold (nfV x) bb ds W → Calls Tryz.prog 11 #[.agg ds] W fun e w' => e = .returned (.tuple #[.string ⟨(txV (nfV x)).toArray⟩, .nilIface]) ∧ Below W.heap.size W w') := fun W bb ds h hl => by
      have := w11g hzn hkn (w := W) (ok := fun _ => True) (cs := ds) (by have := h.size; omega) (hpo W h) (hta W h) hl.l W (Below.refl _ _) hGn
      rw [hid] at this
      exact this
    have Q16n : Hid (∀ W bb (ds : Array Value), Below w.heap.size w W → Hold (nfV x) bb ds W → Calls Tryz.prog 16 #[.agg ds] W fun e w' => ∃ (ck : Int) (cb : Bool) (cn : Int) (ct : ByteArray) (cr1 : Option Addr) (cz1 cu1 : Nat) (cr2 : Option Addr) (cz2 cu2 : Nat), e = .returned (.tuple #[.agg #[.int .i64 ck, .bool cb, .int .i64 cn, .string ct, .slice cr1 cz1 cu1, .slice cr2 cz2 cu2], .nilIface]) ∧ Hid (LaidV w' (fun _ => True) (nfV x) [.int .i64 ck, .bool cb, .int .i64 cn, .string ct, .slice cr1 cz1 cu1, .slice cr2 cz2 cu2]) ∧ Below W.heap.size W w') := fun W bb ds h hl => by
      have := n16g h6 hP hT W h hzn hkn hGn hl.l
      rw [hid] at this
      exact this
    have Q18 : Hid (∀ W b1 b2 (c1 c2 : Array Value), Hold (nfV x) b1 c1 W → Hold (nfV x) b2 c2 W → Calls Tryz.prog 18 #[.agg c1, .agg c2] W fun e w' => e = .returned (.bool true) ∧ Below W.heap.size W w') := fun W b1 b2 c1 c2 h1 h2 => sameAt_any _ (nfV x) (Nat.le_refl _) hzn W _ _ c1 c2 h1.l h2.l
    have Q19 : Hid (∀ W b2 (c2 : Array Value), Below w.heap.size w W → Hold x w.heap.size #[.int .i64 k, .bool b, .int .i64 n, .string t, s1, s2] W → Hold (nfV x) b2 c2 W → Calls Tryz.prog 19 #[.agg #[.int .i64 k, .bool b, .int .i64 n, .string t, s1, s2], .agg c2] W fun e w' => e = .returned (.bool true) ∧ Below W.heap.size W w') := fun W b2 c2 h h1 h2 => (same_any x (nfV x) hsz hzn hok hkn W (fun _ => True) _ c2 (by have := h.size; omega) (hpo W h) (hta W h) h1.l h2.l).mono fun e w' ⟨h3, h4⟩ => ⟨says_bool (by simp [back_same hG]) h3, h4⟩
    obtain ⟨T, hT'⟩ : ∃ T : ByteArray, ⟨(txV (nfV x)).toArray⟩ = T := ⟨_, rfl⟩
    rw [hT'] at Q11 Q25 Q21 Q11n
    obtain ⟨Y, hY⟩ : ∃ Y, nfV x = Y := ⟨_, rfl⟩
    rw [hY] at Q16 Q25 Q11n Q16n Q18 Q19
    clear hG hT' hY hpo hta hx hx' hP hT hsz hok hzn hkn hGn hid
    go_enter Tryz.func8, Tryz.ntmps8
    go_wp2_with (first
      | (have hq := m9; go_at_call 19; refine (Q19.out _ _ _ m9 v9 a9).mono ?_; rintro e w10 ⟨rfl, h10⟩; have m10 := m9.trans (h10.mono m9.size); clear hq m9)
      | (have hq := m8; go_at_call 21; refine (Q21.out _ m8).mono ?_; rintro e w9 ⟨rfl, h9⟩; have v9 := v8.keep h9; have a9 := a8.keep h9; have m9 := m8.trans (h9.mono m8.size); obtain ⟨x0, x1, x2, x3, x4, x5⟩ := box6 v9.c; obtain ⟨y0, y1, y2, y3, y4, y5⟩ := box6 a9.c; clear hq m8)
      | (have hq := m7; go_at_call 18; refine (Q18.out _ _ _ _ _ d7 a7).mono ?_; rintro e w8 ⟨rfl, h8⟩; have v8 := v7.keep h8; have a8 := a7.keep h8; have m8 := m7.trans (h8.mono m7.size); clear hq m7)
      | (have hq := m6; go_at_call 18; refine (Q18.out _ _ _ _ _ b6 a6).mono ?_; rintro e w7 ⟨rfl, h7⟩; have v7 := v6.keep h7; have a7 := a6.keep h7; have d7 := d6.keep h7; have m7 := m6.trans (h7.mono m6.size); obtain ⟨x0, x1, x2, x3, x4, x5⟩ := box6 a7.c; obtain ⟨y0, y1, y2, y3, y4, y5⟩ := box6 d7.c; clear hq m6)
      | (have hq := m5; go_at_call 16; refine (Q16n.out _ _ _ m5 a5).mono ?_; rintro e w6 ⟨dk, db, dn, dt, dr1, dz1, du1, dr2, dz2, du2, rfl, HD, h6'⟩; have hh := h6'.trans ((allocB w6 (.cells #[.int .i64 dk, .bool db, .int .i64 dn, .string dt, .slice dr1 dz1 du1, .slice dr2 dz2 du2] 25)).mono h6'.size); have v6 := v5.keep hh; have a6 := a5.keep hh; have b6 := b5.keep hh; have d6 : Hold Y w6.heap.size #[.int .i64 dk, .bool db, .int .i64 dn, .string dt, .slice dr1 dz1 du1, .slice dr2 dz2 du2] (w6.alloc (.cells #[.int .i64 dk, .bool db, .int .i64 dn, .string dt, .slice dr1 dz1 du1, .slice dr2 dz2 du2] 25)) := Hold.new HD.out; have m6 := m5.trans (hh.mono m5.size); obtain ⟨x0, x1, x2, x3, x4, x5⟩ := box6 a6.c; obtain ⟨y0, y1, y2, y3, y4, y5⟩ := box6 b6.c; clear hq m5 hh)
      | (have hq := m4; go_at_call 11; refine (Q11n.out _ _ _ m4 b4).mono ?_; rintro e w5 ⟨rfl, h5⟩; have v5 := v4.keep h5; have a5 := a4.keep h5; have b5 := b4.keep h5; have m5 := m4.trans (h5.mono m4.size); obtain ⟨x0, x1, x2, x3, x4, x5⟩ := box6 a5.c; clear hq m4)
      | (have hq := m3; go_at_call 25; refine (Q25.out _ m3).mono ?_; rintro e w4 ⟨bk, bb, bn, bt, br1, bz1, bu1, br2, bz2, bu2, rfl, HE, h4⟩; have hh := h4.trans ((allocB w4 (.cells #[.int .i64 bk, .bool bb, .int .i64 bn, .string bt, .slice br1 bz1 bu1, .slice br2 bz2 bu2] 25)).mono h4.size); have v4 := v3.keep hh; have a4 := a3.keep hh; have b4 : Hold Y w4.heap.size #[.int .i64 bk, .bool bb, .int .i64 bn, .string bt, .slice br1 bz1 bu1, .slice br2 bz2 bu2] (w4.alloc (.cells #[.int .i64 bk, .bool bb, .int .i64 bn, .string bt, .slice br1 bz1 bu1, .slice br2 bz2 bu2] 25)) := Hold.new HE.out; have m4 := m3.trans (hh.mono m3.size); obtain ⟨x0, x1, x2, x3, x4, x5⟩ := box6 b4.c; clear hq m3 hh)
      | (have hq := m2; go_at_call 16; refine (Q16.out _ m2 v2).mono ?_; rintro e w3 ⟨pk, pb, pn, pt, pr1, pz1, pu1, pr2, pz2, pu2, rfl, HA, h3⟩; have hh := h3.trans ((allocB w3 (.cells #[.int .i64 pk, .bool pb, .int .i64 pn, .string pt, .slice pr1 pz1 pu1, .slice pr2 pz2 pu2] 25)).mono h3.size); have v3 := v2.keep hh; have a3 : Hold Y w3.heap.size #[.int .i64 pk, .bool pb, .int .i64 pn, .string pt, .slice pr1 pz1 pu1, .slice pr2 pz2 pu2] (w3.alloc (.cells #[.int .i64 pk, .bool pb, .int .i64 pn, .string pt, .slice pr1 pz1 pu1, .slice pr2 pz2 pu2] 25)) := Hold.new HA.out; have m3 := m2.trans (hh.mono m2.size); clear hq m2 hh)
      | (have hq := m1; go_at_call 11; refine (Q11.out _ m1).mono ?_; rintro e w2 ⟨rfl, h2⟩; have v2 := v1.keep h2; have m2 := m1.trans (h2.mono m1.size); obtain ⟨x0, x1, x2, x3, x4, x5⟩ := box6 v2.c; clear hq m1)
      | (go_at_call 10; refine (Q10.out _ m0).mono ?_; rintro e w1 ⟨rfl, h1⟩; have v1 := v0.keep h1; have m1 := m0.trans (h1.mono m0.size); obtain ⟨x0, x1, x2, x3, x4, x5⟩ := box6 v1.c))
    go_ret
    exact ⟨rfl, m10⟩
  · have Q11 : Hid (∀ W, Below w.heap.size w W → Calls Tryz.prog 11 #[.agg #[.int .i64 k, .bool b, .int .i64 n, .string t, s1, s2]] W fun e w' => e = .returned (.tuple #[.string ⟨#[]⟩, .iface 31 (.int .i64 c)]) ∧ Below W.heap.size W w') := fun W h => w11b hsz hok (by omega) hP hT hx W h hB
    have Q16 : Hid (∀ W, Below w.heap.size w W → Hold x w.heap.size #[.int .i64 k, .bool b, .int .i64 n, .string t, s1, s2] W → Calls Tryz.prog 16 #[.agg #[.int .i64 k, .bool b, .int .i64 n, .string t, s1, s2]] W fun e w' => e = .returned (.tuple #[.agg #[.int .i64 0, .bool false, .int .i64 0, .string ⟨#[]⟩, .slice none 0 0, .slice none 0 0], .iface 31 (.int .i64 c)]) ∧ Below W.heap.size W w') := fun W h hl => n16b h6 hP hT W h hsz hok hB hl.l
    have Q13 : Hid _ := fun W => code_bad hB W
    clear hB hpo hta hx hx' hP hT hsz hok
    go_enter Tryz.func8, Tryz.ntmps8
    go_wp2_with (first
      | (have hq := m3; go_at_call 13; refine (Q13.out _).mono ?_; rintro e w4 ⟨rfl, rfl⟩; clear hq)
      | (have hq := m2; go_at_call 16; refine (Q16.out _ m2 v2).mono ?_; rintro e w3 ⟨rfl, h3⟩; have m3 := m2.trans (h3.mono m2.size); clear hq m2)
      | (have hq := m1; go_at_call 11; refine (Q11.out _ m1).mono ?_; rintro e w2 ⟨rfl, h2⟩; have v2 := v1.keep h2; have m2 := m1.trans (h2.mono m1.size); obtain ⟨x0, x1, x2, x3, x4, x5⟩ := box6 v2.c; clear hq m1)
      | (go_at_call 10; refine (Q10.out _ m0).mono ?_; rintro e w1 ⟨rfl, h1⟩; have v1 := v0.keep h1; have m1 := m0.trans (h1.mono m0.size); obtain ⟨x0, x1, x2, x3, x4, x5⟩ := box6 v1.c))
    go_ret
    exact ⟨rfl, m3.alloc m3.size _⟩
end Dc
end Go.Proofs.YtiakidomcjpdhaaGreatDoor
