/- How long a value's text can be; what canon.refusal answers at every value. utf8.DecodeRuneInString and utf.Bad, with the world that they leave: blocks laid behind, draws, nothing more. -/
import Derived.Test.YtiakidomcjpdhaaGreatDoorGCa
import Derived.Test.YtiakidomcjpdhaaGreatDoorGTe
import Derived.Test.YtiakidomcjpdhaaGreatDoorGBu
import Derived.Lib.ItoaLen
import Derived.Sort.Grow
namespace Go.Proofs.YtiakidomcjpdhaaGreatDoor
open Go.RowKit Go.Shelf
namespace Pt
open Pu SndW RefW Es

theorem txV_len : ∀ (m : Nat) (x : GV), x.sz ≤ m → okV x → (txV x).length + 4 ≤ 32 * x.sz := by
  intro m
  induction m with
  | zero =>
    intro x hx _
    have := x.sz_pos
    omega
  | succ m ih =>
    rintro ⟨k, b, n, t, l, f⟩ hx ho
    have hs : 1 + t.size + szL l + szF f ≤ m + 1 := by have h := hx; unfold GV.sz at h; exact h
    have ho' : (k = 2 → -9223372036854775808 ≤ n ∧ n ≤ 9223372036854775807) ∧ okL l ∧ okF f := by have h := ho; unfold okV at h; exact h
    obtain ⟨o1, o2, o3⟩ := ho'
    have hL : ∀ (l : List GV) (fi : Bool), szL l ≤ m → okL l → (txL l fi).length ≤ 32 * szL l := by
      intro l
      induction l with
      | nil =>
        intro fi _ _
        simp [txL]
      | cons x l ihl =>
        intro fi h1 h2
        unfold szL at h1
        unfold okL at h2
        have a1 := ih x (by omega) h2.1
        have a2 := ihl false (by omega) h2.2
        rw [txL, szL, List.length_append, List.length_append]
        split
        · simp
          omega
        · simp
          omega
    have hF : ∀ (f : List (ByteArray × GV)) (fi : Bool), szF f ≤ m → okF f → (txF f fi).length ≤ 32 * szF f := by
      intro f
      induction f with
      | nil =>
        intro fi _ _
        simp [txF]
      | cons x f ihf =>
        intro fi h1 h2
        obtain ⟨nm, x⟩ := x
        unfold szF szP at h1
        unfold okF okP at h2
        have a1 := ih x (by omega) h2.1
        have a2 := ihf false (by omega) h2.2
        have a3 := PlnW.quotedB_len nm
        rw [txF, txP, szF, szP, List.length_append, List.length_append, List.length_append, List.length_append]
        split
        · simp
          omega
        · simp
          omega
    have hsz : (GV.mk k b n t l f).sz = 1 + t.size + szL l + szF f := by unfold GV.sz; rfl
    rw [hsz, txV]
    split
    · simp; omega
    split
    · split
      · simp; omega
      · simp; omega
    split
    · rename_i h2
      have := Lib.itoa_length_le n (o1 h2).1 (o1 h2).2
      omega
    split
    · have := PlnW.quotedB_len t
      omega
    split
    · have := hL l true (by omega) o2
      simp
      omega
    split
    · have := hF f true (by omega) o3
      simp
      omega
    · simp; omega
/-- What refusal answers: by how many values there are, whether they can be told, how long the text is. -/
def RfOut (x : GV) (e : Ending) : Prop := (65536 < cntV x ∧ e = .returned (.iface 31 (.int .i64 2))) ∨ (cntV x ≤ 65536 ∧ ¬ TdV x 0 ∧ e = .returned (.iface 31 (.int .i64 8))) ∨ (cntV x ≤ 65536 ∧ TdV x 0 ∧ 65536 < (txV x).length ∧ e = .returned (.iface 31 (.int .i64 2))) ∨ (cntV x ≤ 65536 ∧ TdV x 0 ∧ (txV x).length ≤ 65536 ∧ e = .returned .nilIface)
set_option maxRecDepth 20000 in
set_option maxHeartbeats 4000000 in
theorem refusal_any (x : GV) (hsz : x.sz ≤ 2000000) (hok : okV x) (w : World) (ok : Nat → Prop) (cs : Array Value) (h5 : 5 ≤ w.heap.size) (hT : Pow10 w) (hx : LaidV w ok x cs.toList) : Calls Tryz.prog 38 #[.agg cs] w fun e w' => RfOut x e ∧ Below w.heap.size w w' := by
  have hl := txV_len _ x (Nat.le_refl _) hok
  have k57 := fun (W : World) (hW : Below w.heap.size w W) => count_any _ x (Nat.le_refl _) hsz 0 W ok cs (hx.conv (fun k hk hl => ⟨hk, hW.block k hl⟩)) (by omega) (by omega)
  have k58 := fun (W : World) (hW : Below w.heap.size w W) => can_any _ x (Nat.le_refl _) hsz 0 W ok cs (hx.conv (fun k hk hl => ⟨hk, hW.block k hl⟩)) (by omega) (by omega)
  have k59 := fun (W : World) (hW : Below w.heap.size w W) => length_any escAt x hsz hok (by omega) W ok cs (Nat.le_trans h5 hW.size) (hT.of (hW.block 0 (by omega)) (hW.block 4 (by omega))) (hx.conv (fun k hk hl => ⟨hk, hW.block k hl⟩))
  have HX : Hid (∃ k b n t s1 s2, cs = #[.int .i64 k, .bool b, .int .i64 n, .string t, s1, s2]) := by
    cases x with
    | mk k b n t l f =>
    obtain ⟨a1, c1, a2, c2, xs, ys, hcs, -, -, -, -⟩ := hx.form
    exact ⟨k, b, n, t, .slice a1 l.length c1, .slice a2 f.length c2, by cases cs; simpa using hcs⟩
  obtain ⟨k, b, n, t, s1, s2, rfl⟩ := HX.out
  clear HX hx hT hsz hok
  have m0 : SndW.OneAt w #[.int .i64 k, .bool b, .int .i64 n, .string t, s1, s2] (w.alloc (.cells #[.int .i64 k, .bool b, .int .i64 n, .string t, s1, s2] 25)) := ⟨heap_alloc_new _ _, (Below.refl _ _).alloc (Nat.le_refl _) _, by simp⟩
  have q57 := k57 _ m0.b
  obtain ⟨cn, hcn⟩ : ∃ cn, cntV x = cn := ⟨_, rfl⟩
  have HO : Hid (∀ e, RfOut x e ↔ (65536 < cn ∧ e = .returned (.iface 31 (.int .i64 2))) ∨ (cn ≤ 65536 ∧ ¬ TdV x 0 ∧ e = .returned (.iface 31 (.int .i64 8))) ∨ (cn ≤ 65536 ∧ TdV x 0 ∧ 65536 < (txV x).length ∧ e = .returned (.iface 31 (.int .i64 2))) ∨ (cn ≤ 65536 ∧ TdV x 0 ∧ (txV x).length ≤ 65536 ∧ e = .returned .nilIface)) := fun e => by rw [← hcn]; rfl
  rw [hcn] at q57
  clear k57 hcn
  obtain ⟨T, hTT⟩ : ∃ T, TdV x 0 = T := ⟨_, rfl⟩
  rw [hTT] at HO
  simp only [hTT] at k58
  obtain ⟨ln, hln⟩ : ∃ ln, (txV x).length = ln := ⟨_, rfl⟩
  rw [hln] at HO hl
  simp only [hln] at k59
  obtain ⟨RO, hRO⟩ : ∃ RO, RfOut x = RO := ⟨_, rfl⟩
  rw [hRO] at HO ⊢
  have q58 : ∀ W, SndW.OneAt w #[.int .i64 k, .bool b, .int .i64 n, .string t, s1, s2] W → Calls Tryz.prog 58 #[.agg #[.int .i64 k, .bool b, .int .i64 n, .string t, s1, s2], .int .i64 0] W fun e w' => (e = .returned (.bool true) ∧ Hid T ∧ SndW.OneAt w #[.int .i64 k, .bool b, .int .i64 n, .string t, s1, s2] w') ∨ (e = .returned (.bool false) ∧ Hid (¬ T) ∧ SndW.OneAt w #[.int .i64 k, .bool b, .int .i64 n, .string t, s1, s2] w') := by
    intro W m
    refine (k58 W m.b).mono ?_
    rintro e w' ⟨⟨V, e1, e2⟩, e3⟩
    cases V with
    | true => exact .inl ⟨e1, e2.1 rfl, m.keep e3⟩
    | false => exact .inr ⟨e1, (fun h => nomatch (e2.2 h) : ¬ T), m.keep e3⟩
  obtain ⟨x0, x1, x2, x3, x4, x5⟩ := box6 m0.v
  clear k58 hTT hln hRO
  by_cases hc : 65536 < cn
  · have ec : min (0 + (cn : Int)) 65537 = 65537 := by omega
    rw [ec] at q57
    have HR : Hid (RO (.returned (.iface 31 (.int .i64 2)))) := (HO.out _).2 (.inl ⟨hc, rfl⟩)
    clear HO q58 k59
    go_enter Tryz.func38, Tryz.ntmps38
    go_wp2_with (go_at_call 57; refine q57.mono ?_; rintro e w1 ⟨rfl, hb1⟩; have m1 := m0.keep hb1)
    go_ret
    exact ⟨HR.out, m1.b⟩
  · have ec : min (0 + (cn : Int)) 65537 = cn := by omega
    rw [ec] at q57
    have hc' : ¬ (65536 : Int) < (cn : Int) := by omega
    have HA : Hid (¬ T → RO (.returned (.iface 31 (.int .i64 8)))) := fun h => (HO.out _).2 (.inr (.inl ⟨by omega, h, rfl⟩))
    have HB : Hid (T → 65536 < ln → RO (.returned (.iface 31 (.int .i64 2)))) := fun h g => (HO.out _).2 (.inr (.inr (.inl ⟨by omega, h, g, rfl⟩)))
    have HC : Hid (T → ln ≤ 65536 → RO (.returned .nilIface)) := fun h g => (HO.out _).2 (.inr (.inr (.inr ⟨by omega, h, g, rfl⟩)))
    clear HO hc ec
    by_cases hn : 65536 < ln
    · have en : min (ln : Int) 65537 = 65537 := by omega
      rw [en] at k59
      have HB2 : Hid (T → RO (.returned (.iface 31 (.int .i64 2)))) := fun h => HB.out h hn
      clear HB HC en hn
      go_enter Tryz.func38, Tryz.ntmps38
      go_wp2_with (first
        | (go_at_call 57; refine q57.mono ?_; rintro e w1 ⟨rfl, hb1⟩; have m1 := m0.keep hb1; obtain ⟨y0, y1, y2, y3, y4, y5⟩ := box6 m1.v)
        | (go_at_call 58; refine (q58 _ m1).mono ?_; rintro e w2 (⟨rfl, HT, m2⟩ | ⟨rfl, HT, m2⟩); all_goals (obtain ⟨z0, z1, z2, z3, z4, z5⟩ := box6 m2.v))
        | (go_at_call 59; refine (k59 _ m2.b).mono ?_; rintro e w3 ⟨rfl, hb3⟩; have m3 := m2.keep hb3))
      · go_ret
        exact ⟨HB2.out HT.out, m3.b⟩
      · go_ret
        exact ⟨HA.out HT.out, m2.b⟩
    · have en : min (ln : Int) 65537 = ln := by omega
      rw [en] at k59
      have hn' : ¬ (65536 : Int) < (ln : Int) := by omega
      have HC2 : Hid (T → RO (.returned .nilIface)) := fun h => HC.out h (by omega)
      clear HB HC en hn
      go_enter Tryz.func38, Tryz.ntmps38
      go_wp2_with (first
        | (go_at_call 57; refine q57.mono ?_; rintro e w1 ⟨rfl, hb1⟩; have m1 := m0.keep hb1; obtain ⟨y0, y1, y2, y3, y4, y5⟩ := box6 m1.v)
        | (go_at_call 58; refine (q58 _ m1).mono ?_; rintro e w2 (⟨rfl, HT, m2⟩ | ⟨rfl, HT, m2⟩); all_goals (obtain ⟨z0, z1, z2, z3, z4, z5⟩ := box6 m2.v))
        | (go_at_call 59; refine (k59 _ m2.b).mono ?_; rintro e w3 ⟨rfl, hb3⟩; have m3 := m2.keep hb3))
      · go_ret
        exact ⟨HC2.out HT.out, m3.b⟩
      · go_ret
        exact ⟨HA.out HT.out, m2.b⟩
end Pt
end Go.Proofs.YtiakidomcjpdhaaGreatDoor

namespace Go.Proofs.YtiakidomcjpdhaaGreatDoor
open Go.RowKit
namespace Dc
open Go.Sort Go.Lib

/-- Nothing was done but blocks laid behind, and draws. -/
def Gr (w w' : World) : Prop := ∃ q os, w' = grow (w.drewN q) os
theorem Gr.refl (w : World) : Gr w w := ⟨0, #[], by rw [grow_empty]; rfl⟩
theorem Gr.trans {a b c : World} (h : Gr a b) (k : Gr b c) : Gr a c := by
  obtain ⟨q, os, rfl⟩ := h
  obtain ⟨q', os', rfl⟩ := k
  exact ⟨q + q', os ++ os', by rw [← grow_grow, ← World.drewN_drewN]; rfl⟩
theorem Gr.one (w : World) (x : Obj) : Gr w (w.alloc x) := ⟨0, #[x], by rw [alloc_eq_grow]; rfl⟩
theorem Gr.alloc {w w' : World} (h : Gr w w') (x : Obj) : Gr w (w'.alloc x) := h.trans (Gr.one _ x)
theorem Gr.below {w w' : World} (h : Gr w w') : Below w.heap.size w w' := by
  obtain ⟨q, os, rfl⟩ := h
  exact Pu.below_grow _ _ _

set_option maxHeartbeats 4000000 in
set_option maxRecDepth 1000000 in
theorem slow_gr (s : ByteArray) (w : World) (hT : Tabs w) (h0 : 0 < s.size) (h128 : 128 ≤ (s.get! 0).toNat) : Calls Tryz.prog 122 #[.string s] w fun e w' => e = .returned (.tuple #[.int .i32 ((Utf8.decode s 0).1 : Int), .int .i64 ((Utf8.decode s 0).2 : Int)]) ∧ Gr w w' := by
  have hz0 : (0 : Int) < (s.size : Int) := by omega
  have hz0' : ¬ ((s.size : Int) < 1) := by omega
  obtain ⟨x0, hx0⟩ : ∃ x0, s.get! 0 = x0 := ⟨_, rfl⟩
  obtain ⟨x1, hx1⟩ : ∃ x1, s.get! 1 = x1 := ⟨_, rfl⟩
  obtain ⟨x2, hx2⟩ : ∃ x2, s.get! 2 = x2 := ⟨_, rfl⟩
  obtain ⟨x3, hx3⟩ : ∃ x3, s.get! 3 = x3 := ⟨_, rfl⟩
  have hs0 : s[0]'(by omega) = x0 := by rw [← hx0]; exact (Utf8W.get!_of_lt s 0 (by omega)).symm
  have l0 := x0.toNat_lt
  have l1 := x1.toNat_lt
  have l2 := x2.toNat_lt
  have l3 := x3.toNat_lt
  rw [Lib.decode_at, Nat.sub_zero, Nat.zero_add, Nat.zero_add, Nat.zero_add, hx0, hx1, hx2, hx3]
  rw [hx0] at h128
  have hc0 := hT.1 x0.toNat (by omega)
  have hres : firstT x0.toNat < 240 → decodeN s.size x0.toNat x1.toNat x2.toNat x3.toNat = slowN s.size x0.toNat x1.toNat x2.toNat x3.toNat (firstT x0.toNat % 8) (accLo (firstT x0.toNat / 16)) (accHi (firstT x0.toNat / 16)) :=
    fun h => (Lib.slow_eq _ _ _ _ _ (by omega) (by omega) (by omega) (by omega) h).symm
  rcases Lib.firstT_cases x0.toNat with hX | hX | hX | hX | hX | hX | hX | hX | hX
  · exfalso
    unfold firstT at hX
    repeat' split at hX
    all_goals omega
  · rw [Lib.bad_eq _ _ _ _ _ (by omega) hX]
    rw [hX] at hc0
    clear hres hT hX
    go_enter Tryz.func122, Tryz.ntmps122
    go_wp2
    rw [Utf8W.mask241, Utf8W.drop_byte ⟨x0.toNat, l0⟩]
    go_ret2
    exact ⟨rfl, Gr.refl _⟩
  · replace hres := hres (by omega)
    rw [hX] at hc0 hres
    have ha0 := (hT.2 0 (by omega)).1
    have ha1 := (hT.2 0 (by omega)).2
    simp only [accLo, accHi, Nat.reduceMul, Nat.reduceAdd, Nat.reduceEqDiff, if_true, if_false, Nat.reduceMod, Nat.reduceDiv] at ha0 ha1 hres
    rw [hres]
    clear hres hT hX
    by_cases hn : s.size < 2
    · have hnz : (s.size : Int) < 2 := by omega
      go_enter Tryz.func122, Tryz.ntmps122
      go_wp2
      all_goals (go_ret2; refine ⟨?_, Gr.one _ _⟩; utf8_leaf)
    · have hnz : ¬ (s.size : Int) < 2 := by omega
      have hz1 : (1 : Int) < (s.size : Int) := by omega
      have hs1 : s[1]'(by omega) = x1 := by rw [← hx1]; exact (Utf8W.get!_of_lt s 1 (by omega)).symm
      go_enter Tryz.func122, Tryz.ntmps122
      go_wp2
      all_goals (go_ret2; refine ⟨?_, Gr.one _ _⟩; utf8_leaf)
  · replace hres := hres (by omega)
    rw [hX] at hc0 hres
    have ha0 := (hT.2 1 (by omega)).1
    have ha1 := (hT.2 1 (by omega)).2
    simp only [accLo, accHi, Nat.reduceMul, Nat.reduceAdd, Nat.reduceEqDiff, if_true, if_false, Nat.reduceMod, Nat.reduceDiv] at ha0 ha1 hres
    rw [hres]
    clear hres hT hX
    by_cases hn : s.size < 3
    · have hnz : (s.size : Int) < 3 := by omega
      go_enter Tryz.func122, Tryz.ntmps122
      go_wp2
      all_goals (go_ret2; refine ⟨?_, Gr.one _ _⟩; utf8_leaf)
    · have hnz : ¬ (s.size : Int) < 3 := by omega
      have hz1 : (1 : Int) < (s.size : Int) := by omega
      have hs1 : s[1]'(by omega) = x1 := by rw [← hx1]; exact (Utf8W.get!_of_lt s 1 (by omega)).symm
      have hz2 : (2 : Int) < (s.size : Int) := by omega
      have hs2 : s[2]'(by omega) = x2 := by rw [← hx2]; exact (Utf8W.get!_of_lt s 2 (by omega)).symm
      go_enter Tryz.func122, Tryz.ntmps122
      go_wp2
      all_goals (go_ret2; refine ⟨?_, Gr.one _ _⟩; utf8_leaf)
  · replace hres := hres (by omega)
    rw [hX] at hc0 hres
    have ha0 := (hT.2 0 (by omega)).1
    have ha1 := (hT.2 0 (by omega)).2
    simp only [accLo, accHi, Nat.reduceMul, Nat.reduceAdd, Nat.reduceEqDiff, if_true, if_false, Nat.reduceMod, Nat.reduceDiv] at ha0 ha1 hres
    rw [hres]
    clear hres hT hX
    by_cases hn : s.size < 3
    · have hnz : (s.size : Int) < 3 := by omega
      go_enter Tryz.func122, Tryz.ntmps122
      go_wp2
      all_goals (go_ret2; refine ⟨?_, Gr.one _ _⟩; utf8_leaf)
    · have hnz : ¬ (s.size : Int) < 3 := by omega
      have hz1 : (1 : Int) < (s.size : Int) := by omega
      have hs1 : s[1]'(by omega) = x1 := by rw [← hx1]; exact (Utf8W.get!_of_lt s 1 (by omega)).symm
      have hz2 : (2 : Int) < (s.size : Int) := by omega
      have hs2 : s[2]'(by omega) = x2 := by rw [← hx2]; exact (Utf8W.get!_of_lt s 2 (by omega)).symm
      go_enter Tryz.func122, Tryz.ntmps122
      go_wp2
      all_goals (go_ret2; refine ⟨?_, Gr.one _ _⟩; utf8_leaf)
  · replace hres := hres (by omega)
    rw [hX] at hc0 hres
    have ha0 := (hT.2 2 (by omega)).1
    have ha1 := (hT.2 2 (by omega)).2
    simp only [accLo, accHi, Nat.reduceMul, Nat.reduceAdd, Nat.reduceEqDiff, if_true, if_false, Nat.reduceMod, Nat.reduceDiv] at ha0 ha1 hres
    rw [hres]
    clear hres hT hX
    by_cases hn : s.size < 3
    · have hnz : (s.size : Int) < 3 := by omega
      go_enter Tryz.func122, Tryz.ntmps122
      go_wp2
      all_goals (go_ret2; refine ⟨?_, Gr.one _ _⟩; utf8_leaf)
    · have hnz : ¬ (s.size : Int) < 3 := by omega
      have hz1 : (1 : Int) < (s.size : Int) := by omega
      have hs1 : s[1]'(by omega) = x1 := by rw [← hx1]; exact (Utf8W.get!_of_lt s 1 (by omega)).symm
      have hz2 : (2 : Int) < (s.size : Int) := by omega
      have hs2 : s[2]'(by omega) = x2 := by rw [← hx2]; exact (Utf8W.get!_of_lt s 2 (by omega)).symm
      go_enter Tryz.func122, Tryz.ntmps122
      go_wp2
      all_goals (go_ret2; refine ⟨?_, Gr.one _ _⟩; utf8_leaf)
  · replace hres := hres (by omega)
    rw [hX] at hc0 hres
    have ha0 := (hT.2 3 (by omega)).1
    have ha1 := (hT.2 3 (by omega)).2
    simp only [accLo, accHi, Nat.reduceMul, Nat.reduceAdd, Nat.reduceEqDiff, if_true, if_false, Nat.reduceMod, Nat.reduceDiv] at ha0 ha1 hres
    rw [hres]
    clear hres hT hX
    by_cases hn : s.size < 4
    · have hnz : (s.size : Int) < 4 := by omega
      go_enter Tryz.func122, Tryz.ntmps122
      go_wp2
      all_goals (go_ret2; refine ⟨?_, Gr.one _ _⟩; utf8_leaf)
    · have hnz : ¬ (s.size : Int) < 4 := by omega
      have hz1 : (1 : Int) < (s.size : Int) := by omega
      have hs1 : s[1]'(by omega) = x1 := by rw [← hx1]; exact (Utf8W.get!_of_lt s 1 (by omega)).symm
      have hz2 : (2 : Int) < (s.size : Int) := by omega
      have hs2 : s[2]'(by omega) = x2 := by rw [← hx2]; exact (Utf8W.get!_of_lt s 2 (by omega)).symm
      have hz3 : (3 : Int) < (s.size : Int) := by omega
      have hs3 : s[3]'(by omega) = x3 := by rw [← hx3]; exact (Utf8W.get!_of_lt s 3 (by omega)).symm
      go_enter Tryz.func122, Tryz.ntmps122
      go_wp2
      all_goals (go_ret2; refine ⟨?_, Gr.one _ _⟩; utf8_leaf)
  · replace hres := hres (by omega)
    rw [hX] at hc0 hres
    have ha0 := (hT.2 0 (by omega)).1
    have ha1 := (hT.2 0 (by omega)).2
    simp only [accLo, accHi, Nat.reduceMul, Nat.reduceAdd, Nat.reduceEqDiff, if_true, if_false, Nat.reduceMod, Nat.reduceDiv] at ha0 ha1 hres
    rw [hres]
    clear hres hT hX
    by_cases hn : s.size < 4
    · have hnz : (s.size : Int) < 4 := by omega
      go_enter Tryz.func122, Tryz.ntmps122
      go_wp2
      all_goals (go_ret2; refine ⟨?_, Gr.one _ _⟩; utf8_leaf)
    · have hnz : ¬ (s.size : Int) < 4 := by omega
      have hz1 : (1 : Int) < (s.size : Int) := by omega
      have hs1 : s[1]'(by omega) = x1 := by rw [← hx1]; exact (Utf8W.get!_of_lt s 1 (by omega)).symm
      have hz2 : (2 : Int) < (s.size : Int) := by omega
      have hs2 : s[2]'(by omega) = x2 := by rw [← hx2]; exact (Utf8W.get!_of_lt s 2 (by omega)).symm
      have hz3 : (3 : Int) < (s.size : Int) := by omega
      have hs3 : s[3]'(by omega) = x3 := by rw [← hx3]; exact (Utf8W.get!_of_lt s 3 (by omega)).symm
      go_enter Tryz.func122, Tryz.ntmps122
      go_wp2
      all_goals (go_ret2; refine ⟨?_, Gr.one _ _⟩; utf8_leaf)
  · replace hres := hres (by omega)
    rw [hX] at hc0 hres
    have ha0 := (hT.2 4 (by omega)).1
    have ha1 := (hT.2 4 (by omega)).2
    simp only [accLo, accHi, Nat.reduceMul, Nat.reduceAdd, Nat.reduceEqDiff, if_true, if_false, Nat.reduceMod, Nat.reduceDiv] at ha0 ha1 hres
    rw [hres]
    clear hres hT hX
    by_cases hn : s.size < 4
    · have hnz : (s.size : Int) < 4 := by omega
      go_enter Tryz.func122, Tryz.ntmps122
      go_wp2
      all_goals (go_ret2; refine ⟨?_, Gr.one _ _⟩; utf8_leaf)
    · have hnz : ¬ (s.size : Int) < 4 := by omega
      have hz1 : (1 : Int) < (s.size : Int) := by omega
      have hs1 : s[1]'(by omega) = x1 := by rw [← hx1]; exact (Utf8W.get!_of_lt s 1 (by omega)).symm
      have hz2 : (2 : Int) < (s.size : Int) := by omega
      have hs2 : s[2]'(by omega) = x2 := by rw [← hx2]; exact (Utf8W.get!_of_lt s 2 (by omega)).symm
      have hz3 : (3 : Int) < (s.size : Int) := by omega
      have hs3 : s[3]'(by omega) = x3 := by rw [← hx3]; exact (Utf8W.get!_of_lt s 3 (by omega)).symm
      go_enter Tryz.func122, Tryz.ntmps122
      go_wp2
      all_goals (go_ret2; refine ⟨?_, Gr.one _ _⟩; utf8_leaf)
end Dc
end Go.Proofs.YtiakidomcjpdhaaGreatDoor
