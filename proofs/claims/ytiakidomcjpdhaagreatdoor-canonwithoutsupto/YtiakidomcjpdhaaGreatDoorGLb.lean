/- CanonBack answers true: the walk of the statement. What the reference's Without answers at every value and every names. CanonWithouts answers true: the walk of the statement. -/
import Derived.Test.YtiakidomcjpdhaaGreatDoorGBp
import Derived.Test.YtiakidomcjpdhaaGreatDoorGSe
import Derived.Test.YtiakidomcjpdhaaGreatDoorGWb
import Derived.Test.YtiakidomcjpdhaaGreatDoorGRr
import Derived.Test.YtiakidomcjpdhaaGreatDoorGFo
namespace Go.Proofs.YtiakidomcjpdhaaGreatDoor
open Go.RowKit
namespace Dc
open Pu Pt

theorem sameAt_any : ∀ (m : Nat) (x : GV), x.sz ≤ m → m ≤ 2000000 → SameAt x
  | 0, x, h, _ => by have := GV.sz_pos x; omega
  | m + 1, .mk k b n t l f, h, hm => by
    have hs : 1 + t.size + szL l + szF f ≤ m + 1 := by simpa [GV.sz] using h
    exact same_step k b n t l f (by omega) (fun i hi => sameAt_any m _ (by have := szL_get l i hi; omega) (by omega)) (fun i hi => sameAt_any m _ (by have := szF_get f i hi; omega) (by omega))
/-- A variable that holds a value. -/
structure Hold (x : GV) (b : Nat) (cs : Array Value) (W : World) : Prop where
  c : W.heap[b]? = some (.cells cs 25 (0, 0))
  l : LaidV W (fun _ => True) x cs.toList
theorem Hold.keep {x : GV} {b : Nat} {cs : Array Value} {W W' : World} (h : Hold x b cs W) (f : Below W.heap.size W W') : Hold x b cs W' :=
  ⟨(f.block _ (lt_of_block h.c)).trans h.c, h.l.conv (fun b _ hl => ⟨trivial, f.block b hl⟩)⟩
theorem Hold.new {x : GV} {cs : Array Value} {W : World} (h : LaidV W (fun _ => True) x cs.toList) : Hold x W.heap.size cs (W.alloc (.cells cs 25)) :=
  ⟨heap_alloc_new _ _, h.conv (fun _b _ hl => ⟨trivial, Below.heap_alloc _ _ _ hl⟩)⟩
theorem allocB (W : World) (o : Obj) : Below W.heap.size W (W.alloc o) := (Below.refl _ _).alloc (Nat.le_refl _) _
section
variable {w : World} (h6 : 6 ≤ w.heap.size) (hP : Pow10 w) (hT : Tabs w) (W : World) (hW : Below w.heap.size w W)
include h6 hP hT hW
theorem n16g {y : GV} (hsz : y.sz ≤ 2000000) (hok : okV y) (hG : Good y) {ds : Array Value} (hl : LaidV W (fun _ => True) y ds.toList) : Calls Tryz.prog 16 #[.agg ds] W fun e w' => ∃ (ck : Int) (cb : Bool) (cn : Int) (ct : ByteArray) (cr1 : Option Addr) (cz1 cu1 : Nat) (cr2 : Option Addr) (cz2 cu2 : Nat), e = .returned (.tuple #[.agg #[.int .i64 ck, .bool cb, .int .i64 cn, .string ct, .slice cr1 cz1 cu1, .slice cr2 cz2 cu2], .nilIface]) ∧ Hid (LaidV w' (fun _ => True) (nfV y) [.int .i64 ck, .bool cb, .int .i64 cn, .string ct, .slice cr1 cz1 cu1, .slice cr2 cz2 cu2]) ∧ Below W.heap.size W w' := by
  refine (norm_any y hsz hok W _ ds (by have := hW.size; omega) (hP.of (hW.block 0 (by omega)) (hW.block 4 (by omega))) (hT.of (hW.block 1 (by omega)) (hW.block 2 (by omega))) hl).mono ?_
  rintro e w' ⟨⟨c, h1, _⟩ | ⟨_, cs, h1, h2⟩, h3⟩
  · exact (good_bad hG h1).elim
  · cases hy : nfV y with
    | mk k b n t l f =>
    rw [hy] at h2
    obtain ⟨a1, c1, a2, c2, xs, ys, hcs, -, -, -, -⟩ := h2.form
    obtain rfl : cs = #[.int .i64 k, .bool b, .int .i64 n, .string t, .slice a1 l.length c1, .slice a2 f.length c2] := by
      cases cs
      simpa using hcs
    exact ⟨k, b, n, t, a1, l.length, c1, a2, f.length, c2, h1, h2.conv (fun b _ _ => ⟨trivial, rfl⟩), h3⟩
theorem n16b {y : GV} (hsz : y.sz ≤ 2000000) (hok : okV y) {c : Int} (hB : Bad y c) {ds : Array Value} (hl : LaidV W (fun _ => True) y ds.toList) : Calls Tryz.prog 16 #[.agg ds] W fun e w' => e = .returned (.tuple #[.agg #[.int .i64 0, .bool false, .int .i64 0, .string ⟨#[]⟩, .slice none 0 0, .slice none 0 0], .iface 31 (.int .i64 c)]) ∧ Below W.heap.size W w' := by
  refine (norm_any y hsz hok W _ ds (by have := hW.size; omega) (hP.of (hW.block 0 (by omega)) (hW.block 4 (by omega))) (hT.of (hW.block 1 (by omega)) (hW.block 2 (by omega))) hl).mono ?_
  rintro e w' ⟨⟨c', h1, h2⟩ | ⟨h1, _⟩, h3⟩
  · rw [bad_fun h1 hB] at h2
    exact ⟨h2, h3⟩
  · exact (good_bad h1 hB).elim
omit hP in
theorem p25 {y : GV} (hG : Good y) : Calls Tryz.prog 25 #[.string ⟨(txV (nfV y)).toArray⟩] W fun e w' => ∃ (ck : Int) (cb : Bool) (cn : Int) (ct : ByteArray) (cr1 : Option Addr) (cz1 cu1 : Nat) (cr2 : Option Addr) (cz2 cu2 : Nat), e = .returned (.tuple #[.agg #[.int .i64 ck, .bool cb, .int .i64 cn, .string ct, .slice cr1 cz1 cu1, .slice cr2 cz2 cu2], .nilIface]) ∧ Hid (LaidV w' (fun _ => True) (nfV y) [.int .i64 ck, .bool cb, .int .i64 cn, .string ct, .slice cr1 cz1 cu1, .slice cr2 cz2 cu2]) ∧ Below W.heap.size W w' := by
  refine (parse_any _ W (hT.of (hW.block 1 (by omega)) (hW.block 2 (by omega))) (Nat.le_trans h6 hW.size) (back_size hG)).mono ?_
  rintro e w' ⟨h1, h2⟩
  rw [back_parse hG] at h2
  obtain ⟨k, b, n, t, a1, l1, c1, a2, l2, c2, h3, h4⟩ := h2
  exact ⟨k, b, n, t, a1, l1, c1, a2, l2, c2, h3, h4.conv (fun b _ _ => ⟨trivial, rfl⟩), h1⟩
end
set_option maxRecDepth 20000 in
set_option maxHeartbeats 4000000 in
theorem back_law (x : GV) (hsz : x.sz ≤ 2000000) (hok : okV x) (w : World) (ok : Nat → Prop) (cs : Array Value) (h6 : 6 ≤ w.heap.size) (hP : Pow10 w) (hT : Tabs w) (hx : LaidV w ok x cs.toList) :
    Calls Tryz.prog 8 #[.agg cs] w fun e w' => e = .returned (.bool true) ∧ Below w.heap.size w w' := by
  have hpo := fun (W : World) (h : Below w.heap.size w W) => hP.of (h.block 0 (by omega)) (h.block 4 (by omega))
  have hta := fun (W : World) (h : Below w.heap.size w W) => hT.of (h.block 1 (by omega)) (h.block 2 (by omega))
  have Q10 : Hid (∀ W, Below w.heap.size w W → Calls Tryz.prog 10 #[] W fun e w' => e = .returned (.bool true) ∧ Below W.heap.size W w') := fun W h => shown_any W (Nat.le_trans h6 h.size) (hpo W h) (hta W h)
  obtain ⟨k, b, n, t, s1, s2, rfl⟩ := cells_of hx
  have hx' : LaidV w (fun _ => True) x #[.int .i64 k, .bool b, .int .i64 n, .string t, s1, s2].toList := hx.conv (fun b _ _ => ⟨trivial, rfl⟩)
  have v0 : Hold x w.heap.size #[.int .i64 k, .bool b, .int .i64 n, .string t, s1, s2] (w.alloc (.cells #[.int .i64 k, .bool b, .int .i64 n, .string t, s1, s2] 25)) := Hold.new hx'
  have m0 : Below w.heap.size w (w.alloc (.cells #[.int .i64 k, .bool b, .int .i64 n, .string t, s1, s2] 25)) := allocB _ _
  rcases good_or_bad x with hG | ⟨c, hB⟩
  · have hzn : (nfV x).sz ≤ 2000000 := Nat.le_trans (nf_sz _ x (Nat.le_refl _)) hsz
    have hkn := nf_ok _ x (Nat.le_refl _) hok
    have hGn := good_nf hG
    have hid := nf_idem _ x 0 (Nat.le_refl _) hG.2.1
    have Q11 : Hid (∀ W, Below w.heap.size w W → Calls Tryz.prog 11 #[.agg #[.int .i64 k, .bool b, .int .i64 n, .string t, s1, s2]] W fun e w' => e = .returned (.tuple #[.string ⟨(txV (nfV x)).toArray⟩, .nilIface]) ∧ Below W.heap.size W w') := fun W h => w11g hsz hok (by omega) hP hT hx W h hG
    have Q16 : Hid (∀ W, Below w.heap.size w W → Hold x w.heap.size #[.int .i64 k, .bool b, .int .i64 n, .string t, s1, s2] W → Calls Tryz.prog 16 #[.agg #[.int .i64 k, .bool b, .int .i64 n, .string t, s1, s2]] W fun e w' => ∃ (ck : Int) (cb : Bool) (cn : Int) (ct : ByteArray) (cr1 : Option Addr) (cz1 cu1 : Nat) (cr2 : Option Addr) (cz2 cu2 : Nat), e = .returned (.tuple #[.agg #[.int .i64 ck, .bool cb, .int .i64 cn, .string ct, .slice cr1 cz1 cu1, .slice cr2 cz2 cu2], .nilIface]) ∧ Hid (LaidV w' (fun _ => True) (nfV x) [.int .i64 ck, .bool cb, .int .i64 cn, .string ct, .slice cr1 cz1 cu1, .slice cr2 cz2 cu2]) ∧ Below W.heap.size W w') := fun W h hl => n16g h6 hP hT W h hsz hok hG hl.l
    have Q25 : Hid (∀ W, Below w.heap.size w W → Calls Tryz.prog 25 #[.string ⟨(txV (nfV x)).toArray⟩] W fun e w' => ∃ (ck : Int) (cb : Bool) (cn : Int) (ct : ByteArray) (cr1 : Option Addr) (cz1 cu1 : Nat) (cr2 : Option Addr) (cz2 cu2 : Nat), e = .returned (.tuple #[.agg #[.int .i64 ck, .bool cb, .int .i64 cn, .string ct, .slice cr1 cz1 cu1, .slice cr2 cz2 cu2], .nilIface]) ∧ Hid (LaidV w' (fun _ => True) (nfV x) [.int .i64 ck, .bool cb, .int .i64 cn, .string ct, .slice cr1 cz1 cu1, .slice cr2 cz2 cu2]) ∧ Below W.heap.size W w') := fun W h => p25 h6 hT W h hG
    have Q21 : Hid (∀ W, Below w.heap.size w W → Calls Tryz.prog 21 #[.string ⟨(txV (nfV x)).toArray⟩] W fun e w' => e = .returned (.bool true) ∧ Below W.heap.size W w') := fun W h => (is_any _ (back_size hG) W (Nat.le_trans h6 h.size) (hpo W h) (hta W h)).mono fun e w' ⟨h1, h2⟩ => ⟨says_bool (by simp [back_is hG]) h1, h2⟩
    have Q11n : Hid (∀ W bb (ds : Array Value), Below w.heap.size w W → Hold (nfV x) bb ds W → Calls Tryz.prog 11 #[.agg ds] W fun e w' => e = .returned (.tuple #[.string ⟨(txV (nfV x)).toArray⟩, .nilIface]) ∧ Below W.heap.size W w') := fun W bb ds h hl => by
      have := w11g hzn hkn (w := W) (ok := fun _ => True) (cs := ds) (by have := h.size; omega) (hpo W h) (hta W h) hl.l W (Below.refl _ _) hGn
      rw [hid] at this
      exact this
    have Q16n : Hid (∀ W bb (ds : Array Value), Below w.heap.size w W → Hold (nfV x) bb ds W → Calls Tryz.prog 16 #[.agg ds] W fun e w' => ∃ (ck : Int) (cb : Bool) (cn : Int) (ct : ByteArray) (cr1 : Option Addr) (cz1 cu1 : Nat) (cr2 : Option Addr) (cz2 cu2 : Nat), e = .returned (.tuple #[.agg #[.int .i64 ck, .bool cb, .int .i64 cn, .string ct, .slice cr1 cz1 cu1, .slice cr2 cz2 cu2], .nilIface]) ∧ Hid (LaidV w' (fun _ => True) (nfV x) [.int .i64 ck, .bool cb, .int .i64 cn, .string ct, .slice cr1 cz1 cu1, .slice cr2 cz2 cu2]) ∧ Below W.heap.size W w') := fun W bb ds h hl => by
      have := n16g h6 hP hT W h hzn hkn hGn hl.l
      rw [hid] at this
      exact this
    have Q18 : Hid (∀ W b1 b2 (c1 c2 : Array Value), Hold (nfV x) b1 c1 W → Hold (nfV x) b2 c2 W → Calls Tryz.prog 18 #[.agg c1, .agg c2] W fun e w' => e = .returned (.bool true) ∧ Below W.heap.size W w') := fun W b1 b2 c1 c2 h1 h2 => sameAt_any _ (nfV x) (Nat.le_refl _) hzn W _ _ c1 c2 h1.l h2.l
    have Q19 : Hid (∀ W b2 (c2 : Array Value), Below w.heap.size w W → Hold x w.heap.size #[.int .i64 k, .bool b, .int .i64 n, .string t, s1, s2] W → Hold (nfV x) b2 c2 W → Calls Tryz.prog 19 #[.agg #[.int .i64 k, .bool b, .int .i64 n, .string t, s1, s2], .agg c2] W fun e w' => e = .returned (.bool true) ∧ Below W.heap.size W w') := fun W b2 c2 h h1 h2 => (same_any x (nfV x) hsz hzn hok hkn W (fun _ => True) _ c2 (by have := h.size; omega) (hpo W h) (hta W h) h1.l h2.l).mono fun e w' ⟨h3, h4⟩ => ⟨says_bool (by simp [back_same hG]) h3, h4⟩
    obtain ⟨T, hT'⟩ : ∃ T : ByteArray, ⟨(txV (nfV x)).toArray⟩ = T := ⟨_, rfl⟩
    rw [hT'] at Q11 Q25 Q21 Q11n
    obtain ⟨Y, hY⟩ : ∃ Y, nfV x = Y := ⟨_, rfl⟩
    rw [hY] at Q16 Q25 Q11n Q16n Q18 Q19
    clear hG hT' hY hpo hta hx hx' hP hT hsz hok hzn hkn hGn hid
    go_enter Tryz.func8, Tryz.ntmps8
    go_wp2_with (first
      | (have hq := m9; go_at_call 19; refine (Q19.out _ _ _ m9 v9 a9).mono ?_; rintro e w10 ⟨rfl, h10⟩; have m10 := m9.trans (h10.mono m9.size); clear hq m9)
      | (have hq := m8; go_at_call 21; refine (Q21.out _ m8).mono ?_; rintro e w9 ⟨rfl, h9⟩; have v9 := v8.keep h9; have a9 := a8.keep h9; have m9 := m8.trans (h9.mono m8.size); obtain ⟨x0, x1, x2, x3, x4, x5⟩ := box6 v9.c; obtain ⟨y0, y1, y2, y3, y4, y5⟩ := box6 a9.c; clear hq m8)
      | (have hq := m7; go_at_call 18; refine (Q18.out _ _ _ _ _ d7 a7).mono ?_; rintro e w8 ⟨rfl, h8⟩; have v8 := v7.keep h8; have a8 := a7.keep h8; have m8 := m7.trans (h8.mono m7.size); clear hq m7)
      | (have hq := m6; go_at_call 18; refine (Q18.out _ _ _ _ _ b6 a6).mono ?_; rintro e w7 ⟨rfl, h7⟩; have v7 := v6.keep h7; have a7 := a6.keep h7; have d7 := d6.keep h7; have m7 := m6.trans (h7.mono m6.size); obtain ⟨x0, x1, x2, x3, x4, x5⟩ := box6 a7.c; obtain ⟨y0, y1, y2, y3, y4, y5⟩ := box6 d7.c; clear hq m6)
      | (have hq := m5; go_at_call 16; refine (Q16n.out _ _ _ m5 a5).mono ?_; rintro e w6 ⟨dk, db, dn, dt, dr1, dz1, du1, dr2, dz2, du2, rfl, HD, h6'⟩; have hh := h6'.trans ((allocB w6 (.cells #[.int .i64 dk, .bool db, .int .i64 dn, .string dt, .slice dr1 dz1 du1, .slice dr2 dz2 du2] 25)).mono h6'.size); have v6 := v5.keep hh; have a6 := a5.keep hh; have b6 := b5.keep hh; have d6 : Hold Y w6.heap.size #[.int .i64 dk, .bool db, .int .i64 dn, .string dt, .slice dr1 dz1 du1, .slice dr2 dz2 du2] (w6.alloc (.cells #[.int .i64 dk, .bool db, .int .i64 dn, .string dt, .slice dr1 dz1 du1, .slice dr2 dz2 du2] 25)) := Hold.new HD.out; have m6 := m5.trans (hh.mono m5.size); obtain ⟨x0, x1, x2, x3, x4, x5⟩ := box6 a6.c; obtain ⟨y0, y1, y2, y3, y4, y5⟩ := box6 b6.c; clear hq m5 hh)
      | (have hq := m4; go_at_call 11; refine (Q11n.out _ _ _ m4 b4).mono ?_; rintro e w5 ⟨rfl, h5⟩; have v5 := v4.keep h5; have a5 := a4.keep h5; have b5 := b4.keep h5; have m5 := m4.trans (h5.mono m4.size); obtain ⟨x0, x1, x2, x3, x4, x5⟩ := box6 a5.c; clear hq m4)
      | (have hq := m3; go_at_call 25; refine (Q25.out _ m3).mono ?_; rintro e w4 ⟨bk, bb, bn, bt, br1, bz1, bu1, br2, bz2, bu2, rfl, HE, h4⟩; have hh := h4.trans ((allocB w4 (.cells #[.int .i64 bk, .bool bb, .int .i64 bn, .string bt, .slice br1 bz1 bu1, .slice br2 bz2 bu2] 25)).mono h4.size); have v4 := v3.keep hh; have a4 := a3.keep hh; have b4 : Hold Y w4.heap.size #[.int .i64 bk, .bool bb, .int .i64 bn, .string bt, .slice br1 bz1 bu1, .slice br2 bz2 bu2] (w4.alloc (.cells #[.int .i64 bk, .bool bb, .int .i64 bn, .string bt, .slice br1 bz1 bu1, .slice br2 bz2 bu2] 25)) := Hold.new HE.out; have m4 := m3.trans (hh.mono m3.size); obtain ⟨x0, x1, x2, x3, x4, x5⟩ := box6 b4.c; clear hq m3 hh)
      | (have hq := m2; go_at_call 16; refine (Q16.out _ m2 v2).mono ?_; rintro e w3 ⟨pk, pb, pn, pt, pr1, pz1, pu1, pr2, pz2, pu2, rfl, HA, h3⟩; have hh := h3.trans ((allocB w3 (.cells #[.int .i64 pk, .bool pb, .int .i64 pn, .string pt, .slice pr1 pz1 pu1, .slice pr2 pz2 pu2] 25)).mono h3.size); have v3 := v2.keep hh; have a3 : Hold Y w3.heap.size #[.int .i64 pk, .bool pb, .int .i64 pn, .string pt, .slice pr1 pz1 pu1, .slice pr2 pz2 pu2] (w3.alloc (.cells #[.int .i64 pk, .bool pb, .int .i64 pn, .string pt, .slice pr1 pz1 pu1, .slice pr2 pz2 pu2] 25)) := Hold.new HA.out; have m3 := m2.trans (hh.mono m2.size); clear hq m2 hh)
      | (have hq := m1; go_at_call 11; refine (Q11.out _ m1).mono ?_; rintro e w2 ⟨rfl, h2⟩; have v2 := v1.keep h2; have m2 := m1.trans (h2.mono m1.size); obtain ⟨x0, x1, x2, x3, x4, x5⟩ := box6 v2.c; clear hq m1)
      | (go_at_call 10; refine (Q10.out _ m0).mono ?_; rintro e w1 ⟨rfl, h1⟩; have v1 := v0.keep h1; have m1 := m0.trans (h1.mono m0.size); obtain ⟨x0, x1, x2, x3, x4, x5⟩ := box6 v1.c))
    go_ret
    exact ⟨rfl, m10⟩
  · have Q11 : Hid (∀ W, Below w.heap.size w W → Calls Tryz.prog 11 #[.agg #[.int .i64 k, .bool b, .int .i64 n, .string t, s1, s2]] W fun e w' => e = .returned (.tuple #[.string ⟨#[]⟩, .iface 31 (.int .i64 c)]) ∧ Below W.heap.size W w') := fun W h => w11b hsz hok (by omega) hP hT hx W h hB
    have Q16 : Hid (∀ W, Below w.heap.size w W → Hold x w.heap.size #[.int .i64 k, .bool b, .int .i64 n, .string t, s1, s2] W → Calls Tryz.prog 16 #[.agg #[.int .i64 k, .bool b, .int .i64 n, .string t, s1, s2]] W fun e w' => e = .returned (.tuple #[.agg #[.int .i64 0, .bool false, .int .i64 0, .string ⟨#[]⟩, .slice none 0 0, .slice none 0 0], .iface 31 (.int .i64 c)]) ∧ Below W.heap.size W w') := fun W h hl => n16b h6 hP hT W h hsz hok hB hl.l
    have Q13 : Hid _ := fun W => code_bad hB W
    clear hB hpo hta hx hx' hP hT hsz hok
    go_enter Tryz.func8, Tryz.ntmps8
    go_wp2_with (first
      | (have hq := m3; go_at_call 13; refine (Q13.out _).mono ?_; rintro e w4 ⟨rfl, rfl⟩; clear hq)
      | (have hq := m2; go_at_call 16; refine (Q16.out _ m2 v2).mono ?_; rintro e w3 ⟨rfl, h3⟩; have m3 := m2.trans (h3.mono m2.size); clear hq m2)
      | (have hq := m1; go_at_call 11; refine (Q11.out _ m1).mono ?_; rintro e w2 ⟨rfl, h2⟩; have v2 := v1.keep h2; have m2 := m1.trans (h2.mono m1.size); obtain ⟨x0, x1, x2, x3, x4, x5⟩ := box6 v2.c; clear hq m1)
      | (go_at_call 10; refine (Q10.out _ m0).mono ?_; rintro e w1 ⟨rfl, h1⟩; have v1 := v0.keep h1; have m1 := m0.trans (h1.mono m0.size); obtain ⟨x0, x1, x2, x3, x4, x5⟩ := box6 v1.c))
    go_ret
    exact ⟨rfl, m3.alloc m3.size _⟩
end Dc
end Go.Proofs.YtiakidomcjpdhaaGreatDoor

namespace Go.Proofs.YtiakidomcjpdhaaGreatDoor
open Go.RowKit
namespace Dc
open Pu Pt

theorem flat_at (D : List FdC) (i : Nat) (h : i < D.length) (j : Nat) (hj : j < 7) : (D.flatMap FdC.cells)[i * 7 + j]? = (D[i]).cells[j]? := by
  have e : D.flatMap FdC.cells = (D.take i).flatMap FdC.cells ++ ((D[i]).cells ++ (D.drop (i + 1)).flatMap FdC.cells) := by
    rw [← List.flatMap_cons, ← List.flatMap_append, ← List.drop_eq_getElem_cons h, List.take_append_drop]
  have hl : ((D.take i).flatMap FdC.cells).length = i * 7 := by rw [flat_len, List.length_take, Nat.min_eq_left (by omega)]
  rw [e, List.getElem?_append_right (by omega), hl, Nat.add_sub_cancel_left, List.getElem?_append_left (by rw [cells_len7]; exact hj)]
theorem cont_step (ns : List ByteArray) (k : Nat) (h : k < ns.length) (nm : ByteArray) : Lib.containsS (ns.take (k + 1)) nm = (Lib.containsS (ns.take k) nm || decide (ns[k] = nm)) := by
  rw [Bool.eq_iff_iff, Bool.or_eq_true, Lib.containsS_iff, Lib.containsS_iff, List.take_succ_eq_append_getElem h, List.mem_append, List.mem_singleton, decide_eq_true_eq, eq_comm (a := nm)]
theorem cont_nil (nm : ByteArray) : Lib.containsS [] nm = false := by
  rw [Bool.eq_false_iff]
  intro h
  rw [Lib.containsS_iff] at h
  simp at h
/-- The two variables of the reference's Without, behind Norm. -/
structure Wn (w1 : World) (d4 d5 v5 : Value) (w' : World) : Prop where
  n : w'.heap[w1.heap.size]? = some (.cells #[.int .i64 5, .bool false, .int .i64 0, .string ⟨#[]⟩, d4, d5] 25 (0, 0))
  v : w'.heap[w1.heap.size + 1]? = some (.cells #[.int .i64 5, .bool false, .int .i64 0, .string ⟨#[]⟩, .slice none 0 0, v5] 25 (0, 0))
  b : Below w1.heap.size w1 w'
  s : w1.heap.size + 2 ≤ w'.heap.size
section
variable {w1 : World} {d4 d5 v5 : Value}
theorem Wn.keep {w2 w3 : World} (h : Wn w1 d4 d5 v5 w2) (f : Below (w1.heap.size + 2) w2 w3) : Wn w1 d4 d5 v5 w3 :=
  ⟨(f.block _ (by omega)).trans h.n, (f.block _ (by omega)).trans h.v, h.b.trans (f.mono (by omega)), Nat.le_trans h.s f.size⟩
theorem Wn.set5 {w2 : World} (h : Wn w1 d4 d5 v5 w2) (u : Value) : Wn w1 d4 d5 u (w2.setCell ⟨w1.heap.size + 1, 5, none⟩ u) :=
  ⟨(Below.heap_setCell _ _ _ _ (by simp)).trans h.n, heap_set h.v 5 u, h.b.setCell (p := ⟨w1.heap.size + 1, 5, none⟩) (by simp) _, by simpa using h.s⟩
theorem Wn.new (w1 : World) (d4 d5 v5 : Value) : Wn w1 d4 d5 v5 ((w1.alloc (.cells #[.int .i64 5, .bool false, .int .i64 0, .string ⟨#[]⟩, d4, d5] 25)).alloc (.cells #[.int .i64 5, .bool false, .int .i64 0, .string ⟨#[]⟩, .slice none 0 0, v5] 25)) :=
  ⟨(Below.heap_alloc _ _ _ (by simp)).trans (heap_alloc_new _ _), heap_new1 _ _ _, ((Below.refl _ _).alloc (Nat.le_refl _) _).alloc (by simp) _, by simp⟩
end
/-- What the reference's Without answers. -/
def RoOut (ns : List ByteArray) (x : GV) (B : Nat) (e : Ending) (w' : World) : Prop := (kdV x ≠ 5 ∧ e = .returned (.tuple #[.agg #[.int .i64 0, .bool false, .int .i64 0, .string ⟨#[]⟩, .slice none 0 0, .slice none 0 0], .int .i64 8])) ∨ (kdV x = 5 ∧ ∃ c, Bad x c ∧ e = .returned (.tuple #[.agg #[.int .i64 0, .bool false, .int .i64 0, .string ⟨#[]⟩, .slice none 0 0, .slice none 0 0], .int .i64 c])) ∨ (kdV x = 5 ∧ Good x ∧ ∃ cs : Array Value, e = .returned (.tuple #[.agg cs, .int .i64 0]) ∧ LaidV w' (fun b => B ≤ b) (woV ns x) cs.toList)
theorem tx_open {w : World} {N : Nat} {nv : Value} {ns : List ByteArray} (h : TxAt w N nv ns) : ∃ na nc, nv = .slice na ns.length nc ∧ ∀ j (hj : j < ns.length), ∃ b off, na = some ⟨b, off, none⟩ ∧ b < w.heap.size ∧ w.cell? ⟨b, off + j, none⟩ = some (.string ns[j]) := by
  rcases h with ⟨a, c, rfl, rfl⟩ | ⟨b, off, c, rfl, h2, h3, h4⟩
  · exact ⟨a, c, rfl, fun j hj => by simp at hj⟩
  · exact ⟨_, c, rfl, fun j hj => ⟨b, off, rfl, h3, h4 j hj⟩⟩
set_option maxRecDepth 20000 in
set_option maxHeartbeats 8000000 in
theorem rwithout_any (ns : List ByteArray) (hl : ns.length ≤ 9223372036854775807) (x : GV) (hsz : x.sz ≤ 2000000) (w : World) (ok : Nat → Prop) (cs : Array Value) (nv : Value) (hnv : TxAt w w.heap.size nv ns) (hx : LaidV w ok x cs.toList) :
    Calls Tryz.prog 24 #[.agg cs, nv] w fun e w' => RoOut ns x w.heap.size e w' ∧ Below w.heap.size w w' := by
  obtain ⟨na, nc, rfl, HNV'⟩ := tx_open hnv
  have HNV : Hid (∀ j (hj : j < ns.length), ∃ b off, na = some ⟨b, off, none⟩ ∧ b < w.heap.size ∧ w.cell? ⟨b, off + j, none⟩ = some (.string ns[j])) := HNV'
  clear HNV' hnv
  cases x with
  | mk k bo no te li fi =>
  obtain ⟨p1, q1, p2, q2, _, _, hcs, -, -, -, -⟩ := hx.form
  obtain rfl : cs = #[.int .i64 k, .bool bo, .int .i64 no, .string te, .slice p1 li.length q1, .slice p2 fi.length q2] := by
    cases cs
    simpa using hcs
  have m0 : CpAt w #[.int .i64 k, .bool bo, .int .i64 no, .string te, .slice p1 li.length q1, .slice p2 fi.length q2] ((w.alloc (.cells #[.int .i64 k, .bool bo, .int .i64 no, .string te, .slice p1 li.length q1, .slice p2 fi.length q2] 25)).alloc (.cells #[.int .i64 0, .bool false, .int .i64 0, .string ⟨#[]⟩, .slice none 0 0, .slice none 0 0] 25)) :=
    ⟨(Below.heap_alloc _ _ _ (by simp)).trans (heap_alloc_new _ _), heap_new1 _ _ _, ((Below.refl _ _).alloc (Nat.le_refl _) _).alloc (by simp) _, by simp⟩
  by_cases hk : k = 5
  · subst hk
    obtain ⟨j0, hj, hj0, hj1, hj2⟩ := info_parts info65'
    have k17 := rnorm_any _ hsz _ ok _ (hx.conv (fun k hk hl => ⟨hk, m0.b.block k hl⟩))
    obtain ⟨G, hG⟩ : ∃ G, srt (nfF fi) = G := ⟨_, rfl⟩
    have hGl : G.length ≤ 2000000 := by
      rw [← hG, srt_len, nfF_map, List.length_map]
      have := szF_len fi
      unfold GV.sz at hsz
      omega
    have HN : Hid (nfV (.mk 5 bo no te li fi) = .mk 5 false 0 ⟨#[]⟩ [] G) := by
      show _ = _
      rw [nfV, ← hG]
      simp
    have q17 : Calls Tryz.prog 17 #[.agg #[.int .i64 5, .bool bo, .int .i64 no, .string te, .slice p1 li.length q1, .slice p2 fi.length q2]] ((w.alloc (.cells #[.int .i64 5, .bool bo, .int .i64 no, .string te, .slice p1 li.length q1, .slice p2 fi.length q2] 25)).alloc (.cells #[.int .i64 0, .bool false, .int .i64 0, .string ⟨#[]⟩, .slice none 0 0, .slice none 0 0] 25)) fun e w' => (∃ c : Int, e = .returned (.tuple #[.agg #[.int .i64 0, .bool false, .int .i64 0, .string ⟨#[]⟩, .slice none 0 0, .slice none 0 0], .int .i64 c]) ∧ c ≠ 0 ∧ Hid (Bad (.mk 5 bo no te li fi) c) ∧ CpAt w #[.int .i64 5, .bool bo, .int .i64 no, .string te, .slice p1 li.length q1, .slice p2 fi.length q2] w') ∨ (∃ (a4 : Option Addr) (c4 : Nat) (a5 : Option Addr) (c5 : Nat) (D : List FdC), e = .returned (.tuple #[.agg #[.int .i64 5, .bool false, .int .i64 0, .string ⟨#[]⟩, .slice a4 0 c4, .slice a5 D.length c5], .int .i64 0]) ∧ D.length ≤ 2000000 ∧ Hid (Good (.mk 5 bo no te li fi) ∧ D.map FdC.fd = G ∧ ∀ p ∈ D, LaidP w' (fun b => w.heap.size + 2 ≤ b) p.fd p.cells) ∧ Hid (∀ i (h : i < D.length), ∃ g off, a5 = some ⟨g, off, none⟩ ∧ g < w'.heap.size ∧ ∀ j, j < 7 → w'.cell? ⟨g, off + i * 7 + j, none⟩ = (D[i]).cells[j]?) ∧ CpAt w #[.int .i64 5, .bool bo, .int .i64 no, .string te, .slice p1 li.length q1, .slice p2 fi.length q2] w') := by
      refine k17.mono ?_
      rintro e w' ⟨⟨c, h1, h2⟩ | ⟨h1, cs, rfl, h2⟩, h4⟩
      · exact .inl ⟨c, h2, by have := bad_ne h1; omega, h1, m0.keep (h4.mono (by simp))⟩
      · rw [HN.out] at h2
        obtain ⟨u1, v1, u2, v2, _, ys, he, -, hs2, -, hf⟩ := h2.form
        obtain ⟨D, hD1, hD2, hD3⟩ := laidF_open hf
        have hDl : D.length = G.length := by rw [← hD1, List.length_map]
        obtain rfl : cs = #[.int .i64 5, .bool false, .int .i64 0, .string ⟨#[]⟩, .slice u1 0 v1, .slice u2 D.length v2] := by
          cases cs
          rw [hDl]
          simpa using he
        refine .inr ⟨u1, v1, u2, v2, D, rfl, by omega, ⟨h1, hD1, fun p hp => (hD3 p hp).conv (fun b hb hl => ⟨by simpa using hb, rfl⟩)⟩, fun i hi => ?_, m0.keep (h4.mono (by simp))⟩
        rcases hs2.2 with ⟨a, c, e1, e2⟩ | ⟨g, o, cap, e1, hb, hcap, hr⟩
        · omega
        · injection e1 with e1
          subst e1
          have h70 : ∀ j, j < 7 → w'.cell? ⟨g, o + i * 7 + j, none⟩ = (D[i]).cells[j]? := fun j hj => by
            rw [Nat.add_assoc, hr (i * 7 + j) (by omega), ← hD2, flat_at D i hi j hj]
          refine ⟨g, o, rfl, ?_, h70⟩
          have := h70 0 (by decide)
          rw [List.getElem?_eq_getElem (by rw [cells_len7]; decide)] at this
          exact World.block_lt_of_cell? w' _ this
    obtain ⟨o0, o1, o2, o3, o4, o5⟩ := box6 m0.v
    clear k17 hx hcs hsz hG m0
    go_enter Tryz.func24, Tryz.ntmps24
    go_wp2_with (go_at_call 17; refine q17.mono ?_; rintro e w1 (⟨c, rfl, hc, HB, m1⟩ | ⟨a4, c4, a5, c5, D, rfl, hDl, HB, HC, m1⟩); (all_goals have hs1 := m1.s); (all_goals have mz := m1.keep ((Below.refl (w.heap.size + 2) w1).alloc hs1 (.cells #[.int .i64 0, .bool false, .int .i64 0, .string ⟨#[]⟩, .slice none 0 0, .slice none 0 0] 25))); all_goals (obtain ⟨z0, z1, z2, z3, z4, z5⟩ := box6 mz.z; have f0 := box_fz mz.z 0; have f1 := box_fz mz.z 1; have f2 := box_fz mz.z 2; have f3 := box_fz mz.z 3; have f4 := box_fz mz.z 4; have f5 := box_fz mz.z 5))
    · refine bodyPost_ret (v := .tuple #[.agg #[.int .i64 0, .bool false, .int .i64 0, .string ⟨#[]⟩, .slice none 0 0, .slice none 0 0], .int .i64 c]) (by simp [results, Tryz.results24, go_sem, *]) rfl ⟨.inr (.inl ⟨rfl, c, HB.out, rfl⟩), ?_⟩
      have hbz := mz.b
      exact (((((hbz.setCell (p := ⟨w.heap.size + 1, 0, none⟩) (by simp) _).setCell (p := ⟨w.heap.size + 1, 1, none⟩) (by simp) _).setCell (p := ⟨w.heap.size + 1, 2, none⟩) (by simp) _).setCell (p := ⟨w.heap.size + 1, 3, none⟩) (by simp) _).setCell (p := ⟨w.heap.size + 1, 4, none⟩) (by simp) _).setCell (p := ⟨w.heap.size + 1, 5, none⟩) (by simp) _
    · clear mz z0 z1 z2 z3 z4 z5 f0 f1 f2 f3 f4 f5 o0 o1 o2 o3 o4 o5
      go_loopw [9] (fun u w' => ∃ (i : Nat) (v : Value) (E : List FdC), u = .int .i64 (i : Int) ∧ i ≤ D.length ∧ Hid (E = (D.take i).filter (fun x => !goes ns x)) ∧ w'.ownsRow (w1.heap.size + 2) 54 7 v E.length (E.flatMap FdC.cells) ∧ Wn w1 (.slice a4 0 c4) (.slice a5 D.length c5) v w') (fun u _ => D.length - numF u)
      case atStart => exact ⟨0, .slice none 0 0, [], rfl, Nat.zero_le _, rfl, World.ownsRow_nil _ _ _ _, Wn.new _ _ _ _⟩
      case round =>
        obtain ⟨i, v, E, rfl, hil, HE, hown, m⟩ := hrel
        have hms := m.s
        obtain ⟨y0, y1, y2, y3, y4, y5⟩ := box6 m.n
        have hEl : E.length ≤ D.length := by
          rw [HE.out]
          exact Nat.le_trans (List.length_filter_le _ _) (by rw [List.length_take]; omega)
        by_cases hlt : i < D.length
        · have hlt' : (i : Int) < (D.length : Int) := by omega
          obtain ⟨g, off, rfl, hg1, hcell⟩ := HC.out i hlt
          obtain ⟨w3, hw3⟩ : ∃ w3, wr = w3 := ⟨_, rfl⟩
          rw [hw3] at m hown hms y0 y1 y2 y3 y4 y5 ⊢
          clear hw3
          obtain ⟨P, hP⟩ : ∃ P, D[i] = P := ⟨_, rfl⟩
          have HST : Hid ((D.take (i + 1)).filter (fun x => !goes ns x) = E ++ (if goes ns P = true then [] else [P])) := by
            show _ = _
            rw [List.take_succ_eq_append_getElem hlt, List.filter_append, HE.out, hP]
            by_cases hgo : goes ns P = true
            · simp [hgo]
            · simp [hgo]
          rw [hP] at hcell
          clear HE hP
          have HGO : Hid (goes ns P = Lib.containsS ns P.nm) := rfl
          obtain ⟨nm, gv, k', b', n', t', s1, z1, u1, s2, z2, u2⟩ := P
          have HCE : Hid (∀ wq : World, Below w1.heap.size w1 wq → wq.rangeAt g (off + i * 7) [.string nm, .int .i64 k', .bool b', .int .i64 n', .string t', .slice s1 z1 u1, .slice s2 z2 u2]) := fun wq hq j u hu => by
            have hj : j < 7 := by
              have := (List.getElem?_eq_some_iff.1 hu).1
              simpa using this
            exact (hq.cell (p := ⟨g, off + i * 7 + j, none⟩) hg1).trans ((hcell j hj).trans hu)
          have hnm : w3.cell? ⟨g, off + i * 7, none⟩ = some (.string nm) := HCE.out w3 m.b 0 _ rfl
          clear hcell
          obtain ⟨GO, hGO⟩ : ∃ GO, goes ns ⟨nm, gv, k', b', n', t', s1, z1, u1, s2, z2, u2⟩ = GO := ⟨_, rfl⟩
          rw [hGO] at HGO HST
          clear hGO
          go_wp2
          go_loopw [10, 11] (fun u t w' => ∃ (k m : Nat), u = .bool (Lib.containsS (ns.take k) nm) ∧ t = .int .i64 (k : Int) ∧ k ≤ ns.length ∧ w' = w3.drewN m) (fun _ t _ => ns.length - numF t)
          case atStart => exact ⟨0, 0, by rw [List.take_zero, cont_nil], rfl, Nat.zero_le _, rfl⟩
          case round =>
            obtain ⟨k, mm, rfl, rfl, hkl, rfl⟩ := hrel
            by_cases hk : k < ns.length
            · have hk' : (k : Int) < (ns.length : Int) := by omega
              have hkm : (k : Int) < 9223372036854775807 := by omega
              have HSK := cont_step ns k hk nm
              obtain ⟨nb, no2, hna, hnb, hnc⟩ := HNV.out k hk
              have hn3 : w3.cell? ⟨nb, no2 + k, none⟩ = some (.string ns[k]) := ((m1.b.trans (m.b.mono m1.b.size)).cell (p := ⟨nb, no2 + k, none⟩) hnb).trans hnc
              clear hnc
              obtain ⟨kn, hkn⟩ : ∃ kn, ns[k] = kn := ⟨_, rfl⟩
              rw [hkn] at hn3 HSK
              clear hkn
              subst hna
              obtain ⟨A, hA⟩ : ∃ A, Lib.containsS (ns.take k) nm = A := ⟨_, rfl⟩
              obtain ⟨B, hB⟩ : ∃ B, Lib.containsS (ns.take (k + 1)) nm = B := ⟨_, rfl⟩
              rw [hA] at HSK ⊢
              rw [hB] at HSK
              have HBB : Hid (Lib.containsS (ns.take (k + 1)) nm = B) := hB
              clear hA hB HST HGO HCE HNV hown
              cases A with
              | true =>
                have hBt : B = true := by simpa using HSK
                subst hBt
                clear HSK
                go_wp2
                go_quiet (fail)
                go_wp2
                go_roundw
                case rel => exact ⟨k + 1, _, by rw [HBB.out], by simp, hk, rfl⟩
                case measure => simp [numF]; omega
              | false =>
                by_cases hne : kn = nm
                · subst hne
                  have hBt : B = true := by simpa using HSK
                  subst hBt
                  have hee : (kn.toList == kn.toList) = true := by simp
                  clear HSK
                  go_wp2
                  go_quiet (fail)
                  go_wp2
                  go_roundw
                  case rel => exact ⟨k + 1, _, by rw [HBB.out], by simp, hk, rfl⟩
                  case measure => simp [numF]; omega
                · have hBt : B = false := by simpa [hne] using HSK
                  subst hBt
                  have hee := bytes_ne hne
                  clear HSK
                  go_wp2
                  go_quiet (fail)
                  go_wp2
                  go_roundw
                  case rel => exact ⟨k + 1, _, by rw [HBB.out], by simp, hk, rfl⟩
                  case measure => simp [numF]; omega
            · have hk' : ¬ (k : Int) < (ns.length : Int) := by omega
              obtain rfl : k = ns.length := by omega
              rw [List.take_length, ← HGO.out]
              have m4 := m.keep (below_drewN (Below.refl _ _) mm)
              have hown4 := own_kept hown (below_drewN (Below.refl _ _) mm)
              obtain ⟨w4, hw4⟩ : ∃ w4, w3.drewN mm = w4 := ⟨_, rfl⟩
              rw [hw4] at m4 hown4 ⊢
              clear hw4 hown m HGO HNV hnm y0 y1 y2 y3 y4 y5 hms
              have hms := m4.s
              cases GO with
              | true =>
                have HEE : Hid (E = (D.take (i + 1)).filter (fun x => !goes ns x)) := by show _ = _; rw [HST.out]; simp
                clear HST HCE
                go_wp2
                go_roundw
                case rel => exact ⟨i + 1, _, E, by simp, hlt, HEE, hown4, m4⟩
                case measure => simp [numF]; omega
              | false =>
                have HEE : Hid (E ++ [⟨nm, gv, k', b', n', t', s1, z1, u1, s2, z2, u2⟩] = (D.take (i + 1)).filter (fun x => !goes ns x)) := by show _ = _; rw [HST.out]; simp
                have HS0 : Wn w1 (.slice a4 0 c4) (.slice (some ⟨g, off, none⟩) D.length c5) v w4.drew := m4.keep (below_drewN (Below.refl _ _) 1)
                clear HST
                go_wp2
                apply Rg.region_held_last (S := fun w' => Wn w1 (.slice a4 0 c4) (.slice (some ⟨g, off, none⟩) D.length c5) v w') (by kernel_rfl) HS0
                case hl => simp only [List.dropLast_cons_cons, List.dropLast_singleton]; rfl
                case ho => simp only [List.getLast?_cons_cons, List.getLast?_singleton]; rfl
                case hd => rfl
                case hg => rfl
                case hL => kernel_rfl
                case h =>
                  intro hS
                  simp only [List.cons_append, List.nil_append, Rg.idle]
                  refine wpAnyH_take (i := 0) (v := .pointer (some ⟨w1.heap.size + 1, 5, none⟩)) rfl (by kernel_rfl) (by kernel_rfl) (by kernel_rfl) (fun _ _ _ h => absurd h.1 (by simp)) (Or.inl ⟨by kernel_rfl, fun wq hS => by clear hS; go_simp⟩) hS ?_
                  try simp only [Act.put, List.getElem_toArray, List.getElem_cons_zero, List.setIfInBounds_toArray, List.set_cons_zero, List.set_cons_succ]
                  refine wpAnyH_take (i := 1) (v := v) rfl (by kernel_rfl) (by kernel_rfl) (by kernel_rfl) (fun _ _ _ h => absurd h.1 (by simp)) (Or.inl ⟨by kernel_rfl, fun wq hS => by have g5 := (box6 hS.v).2.2.2.2.2; clear hS; go_simp⟩) hS ?_
                  try simp only [Act.put, List.getElem_toArray, List.getElem_cons_succ, List.getElem_cons_zero, List.setIfInBounds_toArray, List.set_cons_zero, List.set_cons_succ]
                  refine wpAnyH_take (i := 2) (v := .pointer (some ⟨w1.heap.size, 5, none⟩)) rfl (by kernel_rfl) (by kernel_rfl) (by kernel_rfl) (fun _ _ _ h => absurd h.1 (by simp)) (Or.inl ⟨by kernel_rfl, fun wq hS => by clear hS; go_simp⟩) hS ?_
                  try simp only [Act.put, List.getElem_toArray, List.getElem_cons_succ, List.getElem_cons_zero, List.setIfInBounds_toArray, List.set_cons_zero, List.set_cons_succ]
                  refine wpAnyH_take (i := 3) (v := .slice (some ⟨g, off, none⟩) D.length c5) rfl (by kernel_rfl) (by kernel_rfl) (by kernel_rfl) (fun _ _ _ h => absurd h.1 (by simp)) (Or.inl ⟨by kernel_rfl, fun wq hS => by have g5 := (box6 hS.n).2.2.2.2.2; clear hS; go_simp⟩) hS ?_
                  try simp only [Act.put, List.getElem_toArray, List.getElem_cons_succ, List.getElem_cons_zero, List.setIfInBounds_toArray, List.set_cons_zero, List.set_cons_succ]
                  refine wpAnyH_take (i := 4) (v := .int .i64 (i : Int)) rfl (by kernel_rfl) (by kernel_rfl) (by kernel_rfl) (fun _ _ _ h => absurd h.1 (by simp)) (Or.inl ⟨by kernel_rfl, fun wq hS => by clear hS; go_simp⟩) hS ?_
                  try simp only [Act.put, List.getElem_toArray, List.getElem_cons_succ, List.getElem_cons_zero, List.setIfInBounds_toArray, List.set_cons_zero, List.set_cons_succ]
                  refine wpAnyH_take (i := 5) (v := .pointer (some ⟨g, off + i * 7, none⟩)) rfl (by kernel_rfl) (by kernel_rfl) (by kernel_rfl) (fun _ _ _ h => absurd h.1 (by simp)) (Or.inl ⟨by kernel_rfl, fun wq hS => by clear hS; go_simp⟩) hS ?_
                  try simp only [Act.put, List.getElem_toArray, List.getElem_cons_succ, List.getElem_cons_zero, List.setIfInBounds_toArray, List.set_cons_zero, List.set_cons_succ]
                  refine wpAnyH_take (i := 6) (v := .agg #[.string nm, .int .i64 k', .bool b', .int .i64 n', .string t', .slice s1 z1 u1, .slice s2 z2 u2]) rfl (by kernel_rfl) (by kernel_rfl) (by kernel_rfl) (fun _ _ _ h => absurd h.1 (by simp)) (yieldsIf_load_mid (by kernel_rfl) 54 (.tmp 60) rfl g (off + i * 7) rfl [.string nm, .int .i64 k', .bool b', .int .i64 n', .string t', .slice s1 z1 u1, .slice s2 z2 u2] _ (fun wq hq => HCE.out wq hq.b) Tryz.underlying54 rfl sz54) hS ?_
                  try simp only [Act.put, List.getElem_toArray, List.getElem_cons_succ, List.getElem_cons_zero, List.setIfInBounds_toArray, List.set_cons_zero, List.set_cons_succ]
                  refine wpAnyH_ready (rs := [7]) (by kernel_rfl) (by simp) ?_
                  refine AllReadyH.cons rfl (fun K' hK' => ?_) AllReadyH.nil
                  go_simp
                  refine hK'.out _ _ (hS.keep ((Below.refl _ _).alloc hS.s _)) (fun hS => ?_)
                  clear hK' K'
                  try simp only [Act.put, List.getElem_toArray, List.getElem_cons_succ, List.getElem_cons_zero, List.setIfInBounds_toArray, List.set_cons_zero, List.set_cons_succ]
                  have hown5 := own_kept hown4 (below_drewN (Below.refl w4.heap.size w4) 1)
                  refine wpAnyH_ready (rs := [8]) (by kernel_rfl) (by simp) ?_
                  refine AllReadyH.cons rfl (fun K' hK' => ?_) AllReadyH.nil
                  refine step_append_own rfl (.tmp 56) (.tmp 62) 23 rfl (w1.heap.size + 2) 54 j0 _ 7 104 Tryz.underlying23 hj hj0 hj1 hj2 rfl (by decide) v E.length (E.flatMap FdC.cells) rfl (hown5.alloc _) ⟨w4.heap.size, 0, none⟩ 1 1 [.string nm, .int .i64 k', .bool b', .int .i64 n', .string t', .slice s1 z1 u1, .slice s2 z2 u2] rfl rfl (cells7' (heap_alloc_new w4.drew _)) (by simp [Value.oneCell']) (by unfold maxLen; omega) (by omega) (by simp; omega) ?_
                  intro v' w6 hown' hgrow hloc
                  have m6 := m4.keep (Below.grown (((below_drewN (Below.refl w4.heap.size w4) 1).mono hms).alloc (by simp; omega) _) hgrow (by simp; omega) (fun j hj => (hown4.lt _ hj).1))
                  refine hK'.out _ _ m6 (fun hS => ?_)
                  clear hK' K'
                  try simp only [Act.put, List.getElem_toArray, List.getElem_cons_succ, List.getElem_cons_zero, List.setIfInBounds_toArray, List.set_cons_zero, List.set_cons_succ]
                  refine wpAnyH_take (i := 9) (v := .pointer (some ⟨w1.heap.size + 1, 5, none⟩)) rfl (by kernel_rfl) (by kernel_rfl) (by kernel_rfl) (fun _ _ _ h => absurd h.1 (by simp)) (Or.inl ⟨by kernel_rfl, fun wq hS => by clear hS; go_simp⟩) hS ?_
                  try simp only [Act.put, List.getElem_toArray, List.getElem_cons_succ, List.getElem_cons_zero, List.setIfInBounds_toArray, List.set_cons_zero, List.set_cons_succ]
                  refine wpAnyH_take (i := 10) (v := undef) rfl (by kernel_rfl) (by kernel_rfl) (by kernel_rfl) (fun _ _ _ h => absurd h.1 (by simp)) (Or.inl ⟨by kernel_rfl, fun wq hS => by clear hS; go_simp⟩) hS ?_
                  try simp only [Act.put, List.getElem_toArray, List.getElem_cons_succ, List.getElem_cons_zero]
                  refine wpAnyH_done (by kernel_rfl) ?_ _
                  refine ⟨rfl, ?_⟩
                  obtain ⟨fa, fc, rfl⟩ := own_form hown'
                  have c5' := (box6 m6.v).2.2.2.2.2
                  have z5' := box_fz m6.v 5
                  have H5 : Hid ((w6.setCell ⟨w1.heap.size + 1, 5, none⟩ (.slice fa (E.length + 1) fc)).ownsRow (w1.heap.size + 2) 54 7 (.slice fa (E.length + 1) fc) (E ++ [⟨nm, gv, k', b', n', t', s1, z1, u1, s2, z2, u2⟩] : List FdC).length ((E ++ [⟨nm, gv, k', b', n', t', s1, z1, u1, s2, z2, u2⟩] : List FdC).flatMap FdC.cells)) := by
                    have h1 := own_fr (S := fun k => k = w1.heap.size + 1) hown' (Fr.setCell w6 ⟨w1.heap.size + 1, 5, none⟩ (.slice fa (E.length + 1) fc) rfl) (fun k hk e => by omega)
                    show World.ownsRow _ _ _ _ _ _ _
                    rw [List.length_append, List.flatMap_append]
                    exact h1
                  have H6 : Hid _ := m6.set5 (.slice fa (E.length + 1) fc)
                  clear hown5 hgrow hloc hown' hS HS0 HCE
                  go_simp
                  go_wp2
                  go_roundw
                  case rel => exact ⟨i + 1, _, _, by simp, hlt, HEE, H5.out, H6.out⟩
                  case measure => simp [numF]; omega
        · have hlt' : ¬ (i : Int) < (D.length : Int) := by omega
          obtain rfl : i = D.length := by omega
          have HEE : Hid (E = D.filter (fun x => !goes ns x)) := by show _ = _; rw [HE.out, List.take_length]
          have hsf := slAt_of_own hown
          obtain ⟨fa, fc, rfl⟩ := own_form hown
          obtain ⟨x0, x1, x2, x3, x4, x5⟩ := box6 m.v
          have mz := (m.b.block (w.heap.size + 1) (by omega)).trans m1.z
          obtain ⟨z0, z1, z2, z3, z4, z5⟩ := box6 mz
          have g0 := box_fz mz 0
          have g1 := box_fz mz 1
          have g2 := box_fz mz 2
          have g3 := box_fz mz 3
          have g4 := box_fz mz 4
          have g5 := box_fz mz 5
          have HVV : Hid (LaidV wr (fun b => w.heap.size + 2 ≤ b) (woV ns (.mk 5 bo no te li fi)) [.int .i64 5, .bool false, .int .i64 0, .string ⟨#[]⟩, .slice none 0 0, .slice fa E.length fc]) := by
            show LaidV _ _ _ _
            unfold woV
            rw [HN.out]
            have hw : woF ns (fsV (.mk 5 false 0 ⟨#[]⟩ [] G)) = E.map FdC.fd := by
              show woF ns G = _
              unfold woF
              rw [HEE.out, ← HB.out.2.1, List.filter_map]
              rfl
            rw [hw]
            unfold LaidV
            rw [List.length_map]
            exact ⟨_, _, [], E.flatMap FdC.cells, rfl, ⟨rfl, .inl ⟨none, 0, rfl, rfl⟩⟩, hsf.conv (by decide) (fun b hb _ => ⟨by omega, rfl⟩), by unfold LaidL; rfl, laidF_shut E (fun p hp => (HB.out.2.2 p (by rw [HEE.out] at hp; exact (List.mem_filter.1 hp).1)).conv (fun b hb hl => ⟨hb, m.b.block b hl⟩))⟩
          have hmb := m1.b.trans (m.b.mono m1.b.size)
          clear HE hown hsf HC HNV hlt hil q17 hj hj0 hj1 hj2 hDl hGl hEl hl
          go_wp2
          refine bodyPost_ret (v := .tuple #[.agg #[.int .i64 5, .bool false, .int .i64 0, .string ⟨#[]⟩, .slice none 0 0, .slice fa E.length fc], .int .i64 0]) (by simp [results, Tryz.results24, go_sem, *]) rfl ⟨.inr (.inr ⟨rfl, HB.out.1, _, rfl, ?_⟩), ?_⟩
          · refine HVV.out.conv (fun b hb hl => ⟨by omega, ?_⟩)
            rw [Below.heap_setCell _ _ _ _ (by simp; omega), Below.heap_setCell _ _ _ _ (by simp; omega), Below.heap_setCell _ _ _ _ (by simp; omega), Below.heap_setCell _ _ _ _ (by simp; omega), Below.heap_setCell _ _ _ _ (by simp; omega), Below.heap_setCell _ _ _ _ (by simp; omega)]
          · exact (((((hmb.setCell (p := ⟨w.heap.size + 1, 0, none⟩) (by simp) _).setCell (p := ⟨w.heap.size + 1, 1, none⟩) (by simp) _).setCell (p := ⟨w.heap.size + 1, 2, none⟩) (by simp) _).setCell (p := ⟨w.heap.size + 1, 3, none⟩) (by simp) _).setCell (p := ⟨w.heap.size + 1, 4, none⟩) (by simp) _).setCell (p := ⟨w.heap.size + 1, 5, none⟩) (by simp) _
  · have HK : Hid (kdV (.mk k bo no te li fi) ≠ 5) := hk
    have hk' : (k == 5) = false := beq_eq_false_iff_ne.2 hk
    obtain ⟨o0, o1, o2, o3, o4, o5⟩ := box6 m0.v
    obtain ⟨z0, z1, z2, z3, z4, z5⟩ := box6 m0.z
    have f0 := box_fz m0.z 0
    have f1 := box_fz m0.z 1
    have f2 := box_fz m0.z 2
    have f3 := box_fz m0.z 3
    have f4 := box_fz m0.z 4
    have f5 := box_fz m0.z 5
    clear hx hcs hsz
    go_enter Tryz.func24, Tryz.ntmps24
    go_wp2
    refine bodyPost_ret (v := .tuple #[.agg #[.int .i64 0, .bool false, .int .i64 0, .string ⟨#[]⟩, .slice none 0 0, .slice none 0 0], .int .i64 8]) (by simp [results, Tryz.results24, go_sem, *]) rfl ⟨.inl ⟨HK.out, rfl⟩, ?_⟩
    first
      | exact m0.b
      | exact (((((m0.b.setCell (p := ⟨w.heap.size + 1, 0, none⟩) (by simp) _).setCell (p := ⟨w.heap.size + 1, 1, none⟩) (by simp) _).setCell (p := ⟨w.heap.size + 1, 2, none⟩) (by simp) _).setCell (p := ⟨w.heap.size + 1, 3, none⟩) (by simp) _).setCell (p := ⟨w.heap.size + 1, 4, none⟩) (by simp) _).setCell (p := ⟨w.heap.size + 1, 5, none⟩) (by simp) _
end Dc
end Go.Proofs.YtiakidomcjpdhaaGreatDoor

namespace Go.Proofs.YtiakidomcjpdhaaGreatDoor
open Go.RowKit
namespace Dc
open Pu Pt

theorem TxAt.later {w W : World} {nv : Value} {ns : List ByteArray} (h : TxAt w w.heap.size nv ns) (hb : Below w.heap.size w W) : TxAt W W.heap.size nv ns := by
  rcases h with h | ⟨b, off, c, h1, h2, h3, h4⟩
  · exact .inl h
  · have hs := hb.size
    exact .inr ⟨b, off, c, h1, by omega, by omega, fun j hj => (hb.cell (p := ⟨b, off + j, none⟩) h3).trans (h4 j hj)⟩
theorem flt_sum {α : Type} (g : α → Nat) (P : α → Bool) : ∀ l : List α, ((l.filter P).map g).sum ≤ (l.map g).sum
  | [] => by simp
  | x :: l => by
    have := flt_sum g P l
    rw [List.filter_cons]
    split
    · simp only [List.map_cons, List.sum_cons]
      omega
    · simp only [List.map_cons, List.sum_cons]
      omega
theorem wo_sz (ns : List ByteArray) (x : GV) : (woV ns x).sz ≤ (nfV x).sz := by
  unfold woV
  cases h : nfV x with
  | mk k b n t l f =>
  have h1 : szF (woF ns f) ≤ szF f := by
    rw [szF_sum, szF_sum]
    unfold woF
    exact flt_sum _ _ f
  simp only [fsV, GV.sz, szL]
  have : (⟨#[]⟩ : ByteArray).size = 0 := rfl
  omega
/-- What both Withouts answer: the value, the error, its number. -/
structure Wo2 (ns : List ByteArray) (x Y : GV) (E : Value) (c0 : Int) (ds : Array Value) (nv : Value) (ok : World → Prop) : Prop where
  q23 : ∀ W, ok W → Calls Tryz.prog 23 #[.agg ds, nv] W fun e w' => ∃ (ck : Int) (cb : Bool) (cn : Int) (ct : ByteArray) (cr1 : Option Addr) (cz1 cu1 : Nat) (cr2 : Option Addr) (cz2 cu2 : Nat), e = .returned (.tuple #[.agg #[.int .i64 ck, .bool cb, .int .i64 cn, .string ct, .slice cr1 cz1 cu1, .slice cr2 cz2 cu2], E]) ∧ Hid (LaidV w' (fun _ => True) Y [.int .i64 ck, .bool cb, .int .i64 cn, .string ct, .slice cr1 cz1 cu1, .slice cr2 cz2 cu2]) ∧ Below W.heap.size W w'
  q24 : ∀ W, ok W → Calls Tryz.prog 24 #[.agg ds, nv] W fun e w' => ∃ (ck : Int) (cb : Bool) (cn : Int) (ct : ByteArray) (cr1 : Option Addr) (cz1 cu1 : Nat) (cr2 : Option Addr) (cz2 cu2 : Nat), e = .returned (.tuple #[.agg #[.int .i64 ck, .bool cb, .int .i64 cn, .string ct, .slice cr1 cz1 cu1, .slice cr2 cz2 cu2], .int .i64 c0]) ∧ Hid (LaidV w' (fun _ => True) Y [.int .i64 ck, .bool cb, .int .i64 cn, .string ct, .slice cr1 cz1 cu1, .slice cr2 cz2 cu2]) ∧ Below W.heap.size W w'
  q13 : ∀ W, Calls Tryz.prog 13 #[E] W fun e w' => e = .returned (.int .i64 c0) ∧ w' = W
  q18 : ∀ W b1 b2 (c1 c2 : Array Value), Hold Y b1 c1 W → Hold Y b2 c2 W → Calls Tryz.prog 18 #[.agg c1, .agg c2] W fun e w' => e = .returned (.bool true) ∧ Below W.heap.size W w'
theorem cells_form {W : World} {ok : Nat → Prop} {y : GV} {cs : Array Value} (h : LaidV W ok y cs.toList) : ∃ (ck : Int) (cb : Bool) (cn : Int) (ct : ByteArray) (cr1 : Option Addr) (cz1 cu1 : Nat) (cr2 : Option Addr) (cz2 cu2 : Nat), cs = #[.int .i64 ck, .bool cb, .int .i64 cn, .string ct, .slice cr1 cz1 cu1, .slice cr2 cz2 cu2] := by
  cases y with
  | mk k b n t l f =>
  obtain ⟨a1, c1, a2, c2, xs, ys, hcs, -, -, -, -⟩ := h.form
  refine ⟨k, b, n, t, a1, l.length, c1, a2, f.length, c2, ?_⟩
  cases cs
  simpa using hcs
theorem wo_two (x : GV) (ns : List ByteArray) (hsz : x.sz ≤ 2000000) (hl : ns.length ≤ 9223372036854775807) (hok : okV x) (w : World) (ok : Nat → Prop) (cs : Array Value) (nv : Value) (hnv : TxAt w w.heap.size nv ns) (hn1 : nv.oneCell' = true) (h6 : 6 ≤ w.heap.size) (hP : Pow10 w) (hT : Tabs w) (hx : LaidV w ok x cs.toList) :
    ∃ Y E c0, Wo2 ns x Y E c0 cs nv (fun W => Below w.heap.size w W) := by
  have k23 := fun W (h : Below w.heap.size w W) => without_any ns hl x hsz hok W (fun _ => True) cs nv (hnv.later h) hn1 (by have := h.size; omega) (hP.of (h.block 0 (by omega)) (h.block 4 (by omega))) (hT.of (h.block 1 (by omega)) (h.block 2 (by omega))) (hx.conv (fun k _ hl => ⟨trivial, h.block k hl⟩))
  have k24 := fun W (h : Below w.heap.size w W) => rwithout_any ns hl x hsz W (fun _ => True) cs nv (hnv.later h) (hx.conv (fun k _ hl => ⟨trivial, h.block k hl⟩))
  have z18 : ∀ W b1 b2 (c1 c2 : Array Value), Hold (.mk 0 false 0 ⟨#[]⟩ [] []) b1 c1 W → Hold (.mk 0 false 0 ⟨#[]⟩ [] []) b2 c2 W → Calls Tryz.prog 18 #[.agg c1, .agg c2] W fun e w' => e = .returned (.bool true) ∧ Below W.heap.size W w' := fun W b1 b2 c1 c2 h1 h2 => sameAt_any 2000000 _ (by simp [GV.sz, szL, szF]; decide) (Nat.le_refl _) W _ _ c1 c2 h1.l h2.l
  by_cases hk : kdV x = 5
  · rcases good_or_bad x with hG | ⟨c, hB⟩
    · refine ⟨woV ns x, .nilIface, 0, fun W h => (k23 W h).mono ?_, fun W h => (k24 W h).mono ?_, fun W => code0 W, fun W b1 b2 c1 c2 h1 h2 => sameAt_any 2000000 (woV ns x) (by have := wo_sz ns x; have := nf_sz _ x (Nat.le_refl _); omega) (Nat.le_refl _) W _ _ c1 c2 h1.l h2.l⟩
      · rintro e w' ⟨⟨h1, _⟩ | ⟨_, c, h1, _⟩ | ⟨_, _, cs, h1, h2⟩, h3⟩
        · exact absurd hk h1
        · exact (good_bad hG h1).elim
        · obtain ⟨ck, cb, cn, ct, cr1, cz1, cu1, cr2, cz2, cu2, rfl⟩ := cells_form h2
          exact ⟨_, _, _, _, _, _, _, _, _, _, h1, h2.conv (fun _ _ _ => ⟨trivial, rfl⟩), h3⟩
      · rintro e w' ⟨⟨h1, _⟩ | ⟨_, c, h1, _⟩ | ⟨_, _, cs, h1, h2⟩, h3⟩
        · exact absurd hk h1
        · exact (good_bad hG h1).elim
        · obtain ⟨ck, cb, cn, ct, cr1, cz1, cu1, cr2, cz2, cu2, rfl⟩ := cells_form h2
          exact ⟨_, _, _, _, _, _, _, _, _, _, h1, h2.conv (fun _ _ _ => ⟨trivial, rfl⟩), h3⟩
    · refine ⟨.mk 0 false 0 ⟨#[]⟩ [] [], .iface 31 (.int .i64 c), c, fun W h => (k23 W h).mono ?_, fun W h => (k24 W h).mono ?_, fun W => code_bad hB W, z18⟩
      · rintro e w' ⟨⟨h1, _⟩ | ⟨_, c', h1, h2⟩ | ⟨_, h1, _⟩, h3⟩
        · exact absurd hk h1
        · rw [bad_fun h1 hB] at h2
          exact ⟨_, _, _, _, _, _, _, _, _, _, h2, small_at _ _ _ _ _ _, h3⟩
        · exact (good_bad h1 hB).elim
      · rintro e w' ⟨⟨h1, _⟩ | ⟨_, c', h1, h2⟩ | ⟨_, h1, _⟩, h3⟩
        · exact absurd hk h1
        · rw [bad_fun h1 hB] at h2
          exact ⟨_, _, _, _, _, _, _, _, _, _, h2, small_at _ _ _ _ _ _, h3⟩
        · exact (good_bad h1 hB).elim
  · refine ⟨.mk 0 false 0 ⟨#[]⟩ [] [], .iface 31 (.int .i64 8), 8, fun W h => (k23 W h).mono ?_, fun W h => (k24 W h).mono ?_, fun W => code8 W, z18⟩
    · rintro e w' ⟨⟨_, h2⟩ | ⟨h1, _⟩ | ⟨h1, _⟩, h3⟩
      · exact ⟨_, _, _, _, _, _, _, _, _, _, h2, small_at _ _ _ _ _ _, h3⟩
      · exact absurd h1 hk
      · exact absurd h1 hk
    · rintro e w' ⟨⟨_, h2⟩ | ⟨h1, _⟩ | ⟨h1, _⟩, h3⟩
      · exact ⟨_, _, _, _, _, _, _, _, _, _, h2, small_at _ _ _ _ _ _, h3⟩
      · exact absurd h1 hk
      · exact absurd h1 hk
set_option maxRecDepth 20000 in
set_option maxHeartbeats 4000000 in
theorem withouts_law (x : GV) (ns : List ByteArray) (hsz : x.sz ≤ 2000000) (hl : ns.length ≤ 9223372036854775807) (hok : okV x) (w : World) (ok : Nat → Prop) (cs : Array Value) (nv : Value) (hnv : TxAt w w.heap.size nv ns) (hn1 : nv.oneCell' = true) (h6 : 6 ≤ w.heap.size) (hP : Pow10 w) (hT : Tabs w) (hx : LaidV w ok x cs.toList) :
    Calls Tryz.prog 7 #[.agg cs, nv] w fun e w' => e = .returned (.bool true) ∧ Below w.heap.size w w' := by
  have Q10 : Hid (∀ W, Below w.heap.size w W → Calls Tryz.prog 10 #[] W fun e w' => e = .returned (.bool true) ∧ Below W.heap.size W w') := fun W h => shown_any W (Nat.le_trans h6 h.size) (hP.of (h.block 0 (by omega)) (h.block 4 (by omega))) (hT.of (h.block 1 (by omega)) (h.block 2 (by omega)))
  obtain ⟨Y, E, c0, Q⟩ := wo_two x ns hsz hl hok w ok cs nv hnv hn1 h6 hP hT hx
  have HQ : Hid (Wo2 ns x Y E c0 cs nv (fun W => Below w.heap.size w W)) := Q
  obtain ⟨k, b, n, t, s1, s2, rfl⟩ := cells_of hx
  have m0 : SndW.OneAt w #[.int .i64 k, .bool b, .int .i64 n, .string t, s1, s2] (w.alloc (.cells #[.int .i64 k, .bool b, .int .i64 n, .string t, s1, s2] 25)) := ⟨heap_alloc_new _ _, (Below.refl _ _).alloc (Nat.le_refl _) _, by simp⟩
  clear hx hP hT hsz hok Q hnv hl
  go_enter Tryz.func7, Tryz.ntmps7
  go_wp2_with (first
    | (have hq := m7; go_at_call 13; refine (HQ.out.q13 _).mono ?_; rintro e w8 ⟨rfl, rfl⟩; clear hq)
    | (have hq := m6; go_at_call 18; refine (HQ.out.q18 _ _ _ _ _ a6 b6).mono ?_; rintro e w7 ⟨rfl, h7⟩; have m7 := m6.keep h7; clear hq m6)
    | (have hq := m5; go_at_call 24; refine (HQ.out.q24 _ m5.b).mono ?_; rintro e w6 ⟨qk, qb, qn, qt, qr1, qz1, qu1, qr2, qz2, qu2, rfl, HE, h6'⟩; have hh := h6'.trans ((allocB w6 (.cells #[.int .i64 qk, .bool qb, .int .i64 qn, .string qt, .slice qr1 qz1 qu1, .slice qr2 qz2 qu2] 25)).mono h6'.size); have a6 := a5.keep hh; have b6 : Hold Y w6.heap.size #[.int .i64 qk, .bool qb, .int .i64 qn, .string qt, .slice qr1 qz1 qu1, .slice qr2 qz2 qu2] (w6.alloc (.cells #[.int .i64 qk, .bool qb, .int .i64 qn, .string qt, .slice qr1 qz1 qu1, .slice qr2 qz2 qu2] 25)) := Hold.new HE.out; have m6 := m5.keep hh; obtain ⟨x0, x1, x2, x3, x4, x5⟩ := box6 a6.c; obtain ⟨y0, y1, y2, y3, y4, y5⟩ := box6 b6.c; clear hq m5 hh)
    | (have hq := m1; go_at_call 23; refine (HQ.out.q23 _ m1.b).mono ?_; rintro e w5 ⟨pk, pb, pn, pt, pr1, pz1, pu1, pr2, pz2, pu2, rfl, HA, h5⟩; have hh := h5.trans ((allocB w5 (.cells #[.int .i64 pk, .bool pb, .int .i64 pn, .string pt, .slice pr1 pz1 pu1, .slice pr2 pz2 pu2] 25)).mono h5.size); have a5 : Hold Y w5.heap.size #[.int .i64 pk, .bool pb, .int .i64 pn, .string pt, .slice pr1 pz1 pu1, .slice pr2 pz2 pu2] (w5.alloc (.cells #[.int .i64 pk, .bool pb, .int .i64 pn, .string pt, .slice pr1 pz1 pu1, .slice pr2 pz2 pu2] 25)) := Hold.new HA.out; have m5 := m1.keep hh; obtain ⟨x0, x1, x2, x3, x4, x5⟩ := box6 m5.v; clear hq m1 hh)
    | (go_at_call 10; refine (Q10.out _ m0.b).mono ?_; rintro e w1 ⟨rfl, h1⟩; have m1 := m0.keep h1; obtain ⟨x0, x1, x2, x3, x4, x5⟩ := box6 m1.v))
  go_ret
  exact ⟨rfl, m7.b⟩
end Dc
end Go.Proofs.YtiakidomcjpdhaaGreatDoor
