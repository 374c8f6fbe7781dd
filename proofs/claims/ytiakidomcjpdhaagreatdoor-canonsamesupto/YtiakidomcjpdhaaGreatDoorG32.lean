/- What the reference's Count does, with its number: a contract, by walking its text. What the reference's Cmp answers at every two sound texts. -/
import Derived.Test.YtiakidomcjpdhaaGreatDoorG30
import Derived.Test.YtiakidomcjpdhaaGreatDoorG31
namespace Go.Proofs.YtiakidomcjpdhaaGreatDoor
open Go.RowKit
namespace Dc
open Pt

/-- What is asked of Count at one value. -/
def CountX (x : GV) : Prop := ∀ (w : World) (ok : Nat → Prop) (cs : Array Value) (z : Int), LaidV w ok x cs.toList → 0 ≤ z → z ≤ 65536 → Calls Tryz.prog 37 #[.agg cs, .int .i64 z] w fun e w' => e = .returned (.int .i64 (min (z + (cntV x : Int)) 65537)) ∧ Below w.heap.size w w'

theorem cntL_tk (l : List GV) (i : Nat) : cntL (l.take i) ≤ cntL l := cntL_pre (List.take_prefix i l)
theorem cntF_tk (f : List (ByteArray × GV)) (i : Nat) : cntF (f.take i) ≤ cntF f := by
  rw [cntF_map, cntF_map]
  exact cntL_pre (List.IsPrefix.map _ (List.take_prefix i f))
set_option maxRecDepth 20000 in
set_option maxHeartbeats 4000000 in
theorem countX_small (k : Int) (b : Bool) (n : Int) (t : ByteArray) (l : List GV) (f : List (ByteArray × GV)) (hk : k ≠ 4 ∧ k ≠ 5) : CountX (.mk k b n t l f) := by
  intro w ok cs z hx hz0 hz1
  obtain ⟨a1, c1, a2, c2, xs, ys, hcs, _⟩ := hx.form
  obtain rfl : cs = #[.int .i64 k, .bool b, .int .i64 n, .string t, .slice a1 l.length c1, .slice a2 f.length c2] := by
    cases cs
    simpa using hcs
  clear hcs hx
  have k4 : (k == 4) = false := by simpa using hk.1
  have k5 : (k == 5) = false := by simpa using hk.2
  have HZ : Hid (min (z + (cntV (.mk k b n t l f) : Int)) 65537 = z + 1) := by show _ = _; rw [cntV, if_neg hk.1, if_neg hk.2]; omega
  rw [HZ.out]
  clear HZ
  go_enter Tryz.func37, Tryz.ntmps37
  go_wp2
  go_ret
  exact ⟨rfl, (Below.refl _ _).alloc (Nat.le_refl _) _⟩
set_option maxRecDepth 20000 in
set_option maxHeartbeats 4000000 in
theorem countX_l (b : Bool) (n : Int) (t : ByteArray) (l : List GV) (f : List (ByteArray × GV)) (hsz : (GV.mk 4 b n t l f).sz ≤ 2000000) (hl : ∀ i (h : i < l.length), CountX (l[i])) : CountX (.mk 4 b n t l f) := by
  intro w ok cs zz hx hz0 hz1
  obtain ⟨a1, c1, a2, c2, xs, ys, hcs, hs1, hs2, hl1, hf1⟩ := hx.form
  obtain rfl : cs = #[.int .i64 4, .bool b, .int .i64 n, .string t, .slice a1 l.length c1, .slice a2 f.length c2] := by
    cases cs
    simpa using hcs
  have hll : l.length ≤ 2000000 := by have := szL_len l; have := szF_len f; unfold GV.sz at hsz; omega
  clear hcs hx hsz
  obtain ⟨R, hR⟩ : ∃ R, min (zz + (cntV (.mk 4 b n t l f) : Int)) 65537 = R := ⟨_, rfl⟩
  have HR : Hid (R = min (zz + 1 + (cntL l : Int)) 65537) := by show _ = _; rw [← hR, cntV]; simp; omega
  rw [hR]
  clear hR
  obtain ⟨C, hC⟩ : ∃ C : Array Value, C = #[.int .i64 4, .bool b, .int .i64 n, .string t, .slice a1 l.length c1, .slice a2 f.length c2] := ⟨_, rfl⟩
  have m0 : SndW.OneAt w C (w.alloc (.cells C 25)) := ⟨heap_alloc_new _ _, (Below.refl _ _).alloc (Nat.le_refl _) _, by simp⟩
  have x0 := (box6 (hC ▸ m0.v)).1
  rw [hC] at m0
  go_enter Tryz.func37, Tryz.ntmps37
  go_wp2
  clear x0
  go_loopw [1, 5] (fun y u w' => ∃ (i : Nat) (z : Int), y = .int .i64 z ∧ 0 ≤ z ∧ z ≤ 65537 ∧ Hid (z = min (zz + 1 + (cntL (l.take i) : Int)) 65537) ∧ u = .int .i64 (i : Int) ∧ i ≤ l.length ∧ SndW.OneAt w #[.int .i64 4, .bool b, .int .i64 n, .string t, .slice a1 l.length c1, .slice a2 f.length c2] w') (fun _ u _ => l.length - numF u)
  case atStart => exact ⟨0, zz + 1, rfl, by omega, by omega, by show _ = _; rw [List.take_zero, cntL]; omega, rfl, Nat.zero_le _, m0⟩
  case round =>
    obtain ⟨i, z, rfl, hz2, hz3, HZ, rfl, hil, m⟩ := hrel
    have hmb := m.b
    have hms := m.s
    obtain ⟨x0, x1, x2, x3, x4, x5⟩ := box6 m.v
    clear m0
    by_cases hlt : i < l.length
    · have hlt' : (i : Int) < (l.length : Int) := by omega
      by_cases hzz : z ≤ 65536
      · obtain ⟨sb, off, es, ha, hsb, hlv, hcell⟩ := SlAt.elem (hs1.conv (ok' := fun b => b < wr.heap.size) (w' := wr) (by decide) (fun b _ hb => ⟨Nat.lt_of_lt_of_le hb hmb.size, hmb.block b hb⟩)) (hl1.conv (fun b _ hb => ⟨Nat.lt_of_lt_of_le hb hmb.size, hmb.block b hb⟩)) i hlt
        have hcp := hl i hlt
        obtain ⟨X, hX⟩ : ∃ X, (l[i]) = X := ⟨_, rfl⟩
        rw [hX] at hlv hcp
        cases hXc : X with
        | mk k' b' n' t' l' f' =>
        rw [hXc] at hlv
        obtain ⟨p1, q1, p2, q2, _, _, rfl, _⟩ := hlv.form
        rw [← hXc] at hlv
        subst ha
        have e0 := hcell 0 (by decide)
        have e1 := hcell 1 (by decide)
        have e2 := hcell 2 (by decide)
        have e3 := hcell 3 (by decide)
        have e4 := hcell 4 (by decide)
        have e5 := hcell 5 (by decide)
        simp only [List.getElem?_cons_zero, List.getElem?_cons_succ, Nat.add_zero] at e0 e1 e2 e3 e4 e5
        have hcall := hcp wr (fun b => b < wr.heap.size) #[.int .i64 k', .bool b', .int .i64 n', .string t', .slice p1 l'.length q1, .slice p2 f'.length q2] z hlv hz2 hzz
        have HN2 : Hid (min (z + (cntV X : Int)) 65537 = min (zz + 1 + (cntL (l.take (i + 1)) : Int)) 65537) := by
          show _ = _
          rw [List.take_succ_eq_append_getElem hlt, cntL_app, hX, cntL, cntL, HZ.out]
          omega
        obtain ⟨z2, hz2'⟩ : ∃ z2, min (z + (cntV X : Int)) 65537 = z2 := ⟨_, rfl⟩
        have g1 : 0 ≤ z2 := by omega
        have g2 : z2 ≤ 65537 := by omega
        rw [hz2'] at hcall HN2
        clear hcell hXc hlv hcp hX hz2' HZ
        go_wp2_with (go_at_call 37; refine hcall.mono ?_; rintro e w2 ⟨rfl, h2⟩)
        go_roundw
        case rel => exact ⟨i + 1, z2, rfl, g1, g2, HN2, by simp, hlt, m.keep h2⟩
        case measure => simp [numF]; omega
      · have hzz' : ¬ z ≤ 65536 := hzz
        have HE : Hid (z = R) := by
          show _ = _
          have h1 := HZ.out
          have h2 := HR.out
          have h3 := cntL_tk l i
          omega
        clear HZ HR
        go_wp2
        go_ret
        rw [HE.out]
        exact ⟨rfl, hmb⟩
    · have hlt' : ¬ (i : Int) < (l.length : Int) := by omega
      have HE : Hid (z = R) := by
        show _ = _
        have h1 := HZ.out
        rw [List.take_of_length_le (by omega)] at h1
        rw [h1, HR.out]
      clear HZ HR
      go_wp2
      go_ret
      rw [HE.out]
      exact ⟨rfl, hmb⟩
set_option maxRecDepth 20000 in
set_option maxHeartbeats 4000000 in
theorem countX_f (b : Bool) (n : Int) (t : ByteArray) (l : List GV) (f : List (ByteArray × GV)) (hsz : (GV.mk 5 b n t l f).sz ≤ 2000000) (hl : ∀ i (h : i < f.length), CountX (f[i]).2) : CountX (.mk 5 b n t l f) := by
  intro w ok cs zz hx hz0 hz1
  obtain ⟨a1, c1, a2, c2, xs, ys, hcs, hs1, hs2, hl1, hf1⟩ := hx.form
  obtain rfl : cs = #[.int .i64 5, .bool b, .int .i64 n, .string t, .slice a1 l.length c1, .slice a2 f.length c2] := by
    cases cs
    simpa using hcs
  have hll : f.length ≤ 2000000 := by have := szL_len l; have := szF_len f; unfold GV.sz at hsz; omega
  clear hcs hx hsz
  obtain ⟨R, hR⟩ : ∃ R, min (zz + (cntV (.mk 5 b n t l f) : Int)) 65537 = R := ⟨_, rfl⟩
  have HR : Hid (R = min (zz + 1 + (cntF f : Int)) 65537) := by show _ = _; rw [← hR, cntV]; simp; omega
  rw [hR]
  clear hR
  obtain ⟨C, hC⟩ : ∃ C : Array Value, C = #[.int .i64 5, .bool b, .int .i64 n, .string t, .slice a1 l.length c1, .slice a2 f.length c2] := ⟨_, rfl⟩
  have m0 : SndW.OneAt w C (w.alloc (.cells C 25)) := ⟨heap_alloc_new _ _, (Below.refl _ _).alloc (Nat.le_refl _) _, by simp⟩
  have x0 := (box6 (hC ▸ m0.v)).1
  rw [hC] at m0
  go_enter Tryz.func37, Tryz.ntmps37
  go_wp2
  clear x0
  go_loopw [1, 6] (fun y u w' => ∃ (i : Nat) (z : Int), y = .int .i64 z ∧ 0 ≤ z ∧ z ≤ 65537 ∧ Hid (z = min (zz + 1 + (cntF (f.take i) : Int)) 65537) ∧ u = .int .i64 (i : Int) ∧ i ≤ f.length ∧ SndW.OneAt w #[.int .i64 5, .bool b, .int .i64 n, .string t, .slice a1 l.length c1, .slice a2 f.length c2] w') (fun _ u _ => f.length - numF u)
  case atStart => exact ⟨0, zz + 1, rfl, by omega, by omega, by show _ = _; rw [List.take_zero, cntF]; omega, rfl, Nat.zero_le _, m0⟩
  case round =>
    obtain ⟨i, z, rfl, hz2, hz3, HZ, rfl, hil, m⟩ := hrel
    have hmb := m.b
    have hms := m.s
    obtain ⟨x0, x1, x2, x3, x4, x5⟩ := box6 m.v
    clear m0
    by_cases hlt : i < f.length
    · have hlt' : (i : Int) < (f.length : Int) := by omega
      by_cases hzz : z ≤ 65536
      · obtain ⟨sb, off, es, ha, hsb, hlv, hname, hcell⟩ := SlAt.field (hs2.conv (ok' := fun b => b < wr.heap.size) (w' := wr) (by decide) (fun b _ hb => ⟨Nat.lt_of_lt_of_le hb hmb.size, hmb.block b hb⟩)) (hf1.conv (fun b _ hb => ⟨Nat.lt_of_lt_of_le hb hmb.size, hmb.block b hb⟩)) i hlt
        have hcp := hl i hlt
        obtain ⟨X, hX⟩ : ∃ X, (f[i]).2 = X := ⟨_, rfl⟩
        rw [hX] at hlv hcp
        cases hXc : X with
        | mk k' b' n' t' l' f' =>
        rw [hXc] at hlv
        obtain ⟨p1, q1, p2, q2, _, _, rfl, _⟩ := hlv.form
        rw [← hXc] at hlv
        subst ha
        have e0 := hcell 0 (by decide)
        have e1 := hcell 1 (by decide)
        have e2 := hcell 2 (by decide)
        have e3 := hcell 3 (by decide)
        have e4 := hcell 4 (by decide)
        have e5 := hcell 5 (by decide)
        simp only [List.getElem?_cons_zero, List.getElem?_cons_succ, Nat.add_zero, Nat.reduceAdd] at e0 e1 e2 e3 e4 e5
        have hcall := hcp wr (fun b => b < wr.heap.size) #[.int .i64 k', .bool b', .int .i64 n', .string t', .slice p1 l'.length q1, .slice p2 f'.length q2] z hlv hz2 hzz
        have HN2 : Hid (min (z + (cntV X : Int)) 65537 = min (zz + 1 + (cntF (f.take (i + 1)) : Int)) 65537) := by
          show _ = _
          have h1 := HZ.out
          rw [cntF_map] at h1
          rw [cntF_map, List.take_succ_eq_append_getElem hlt, List.map_append, cntL_app, List.map_cons, List.map_nil, hX, cntL, cntL, h1]
          omega
        obtain ⟨z2, hz2'⟩ : ∃ z2, min (z + (cntV X : Int)) 65537 = z2 := ⟨_, rfl⟩
        have g1 : 0 ≤ z2 := by omega
        have g2 : z2 ≤ 65537 := by omega
        rw [hz2'] at hcall HN2
        clear hcell hXc hlv hcp hX hz2' HZ
        go_wp2_with (go_at_call 37; refine hcall.mono ?_; rintro e w2 ⟨rfl, h2⟩)
        go_roundw
        case rel => exact ⟨i + 1, z2, rfl, g1, g2, HN2, by simp, hlt, m.keep h2⟩
        case measure => simp [numF]; omega
      · have hzz' : ¬ z ≤ 65536 := hzz
        have HE : Hid (z = R) := by
          show _ = _
          have h1 := HZ.out
          have h2 := HR.out
          have h3 := cntF_tk f i
          omega
        clear HZ HR
        go_wp2
        go_ret
        rw [HE.out]
        exact ⟨rfl, hmb⟩
    · have hlt' : ¬ (i : Int) < (f.length : Int) := by omega
      have HE : Hid (z = R) := by
        show _ = _
        have h1 := HZ.out
        rw [List.take_of_length_le (by omega)] at h1
        rw [h1, HR.out]
      clear HZ HR
      go_wp2
      go_ret
      rw [HE.out]
      exact ⟨rfl, hmb⟩

theorem countX_any : ∀ (m : Nat) (x : GV), x.sz ≤ m → m ≤ 2000000 → CountX x
  | 0, x, h, _ => by have := x.sz_pos; omega
  | m + 1, .mk k b n t l f, h, hm => by
    have h1 : 1 + t.size + szL l + szF f ≤ m + 1 := by unfold GV.sz at h; exact h
    by_cases h4 : k = 4
    · subst h4
      exact countX_l b n t l f (by omega) (fun i hi => countX_any m _ (by have := szL_get l i hi; omega) (by omega))
    · by_cases h5 : k = 5
      · subst h5
        exact countX_f b n t l f (by omega) (fun i hi => countX_any m _ (by have := szF_get f i hi; omega) (by omega))
      · exact countX_small k b n t l f ⟨h4, h5⟩
end Dc
end Go.Proofs.YtiakidomcjpdhaaGreatDoor

namespace Go.Proofs.YtiakidomcjpdhaaGreatDoor
open Go.RowKit
namespace Dc
open RefW

theorem own_keptX {w w' : World} {base : Nat} {e : TypeId} {size : Nat} {v : Value} {n : Nat} {xs : List Value} (h : w.ownsRow base e size v n xs) (f : Below w.heap.size w w') : w'.ownsRow base e size v n xs := RefW.own_kept h f
theorem cmpL_drop {xs ys : List Nat} {i : Nat} (hx : i < xs.length) (hy : i < ys.length) : cmpL (xs.drop i) (ys.drop i) = if xs[i] < ys[i] then -1 else if ys[i] < xs[i] then 1 else cmpL (xs.drop (i + 1)) (ys.drop (i + 1)) := by
  rw [List.drop_eq_getElem_cons hx, List.drop_eq_getElem_cons hy, cmpL]
/-- A slice of numbers that were laid: each reads so. -/
theorem nums_get {w : World} {B : Nat} {v : Value} {xs : List Nat} (h : w.ownsRow B 3 1 v xs.length (nums xs)) : ∃ a c, v = .slice a xs.length c ∧ ∀ i (hi : i < xs.length), ∃ g off, a = some ⟨g, off, none⟩ ∧ w.cell? ⟨g, off + i, none⟩ = some (.int .i64 (xs[i] : Int)) := by
  obtain ⟨a, c, rfl⟩ := own_form h
  refine ⟨a, c, rfl, fun i hi => ?_⟩
  rcases (slAt_of_own h).2 with ⟨_, _, _, h0⟩ | ⟨g, off, cap, e, _, _, hc⟩
  · omega
  · injection e with e1
    subst e1
    refine ⟨g, off, rfl, ?_⟩
    rw [hc i (by omega)]
    unfold nums
    simp [hi]
theorem pts_len : ∀ (n : Nat) (s : ByteArray) (pos : Nat), s.size ≤ pos + n → (ptsAt s pos).length ≤ s.size - pos
  | 0, s, pos, h => by rw [ptsAt_end s pos (by omega)]; simp
  | n + 1, s, pos, h => by
    by_cases hp : pos < s.size
    · have h1 := Lib.decode_width_pos s pos hp
      have h2 := pts_len n s (pos + (Utf8.decode s pos).2) (by omega)
      rw [ptsAt_next s pos hp, List.length_cons]
      omega
    · rw [ptsAt_end s pos hp]; simp
set_option maxRecDepth 20000 in
set_option maxHeartbeats 4000000 in
theorem cmpR_any (a b : ByteArray) (w : World) (ha : a.size ≤ 17592186044416) (hb : b.size ≤ 17592186044416) (h1 : badAt a 0 = -1) (h2 : badAt b 0 = -1) :
    Calls Tryz.prog 56 #[.string a, .string b] w fun e w' => e = .returned (.int .i64 (cmpL (ptsAt a 0) (ptsAt b 0))) ∧ Below w.heap.size w w' := by
  have ca : Calls Tryz.prog 78 #[.string a] w fun e w' => ∃ v m, e = .returned (.tuple #[v, m]) ∧ Hid (w'.ownsRow w.heap.size 3 1 v (ptsAt a 0).length (nums (ptsAt a 0))) ∧ Below w.heap.size w w' := by
    refine (points_any a w ha).mono ?_
    rintro e w' ⟨v, n, xs, h3, h4, h5, h6⟩
    obtain ⟨rfl, rfl⟩ := h6 h1
    exact ⟨v, _, h3, h4, h5⟩
  have cb : ∀ W, Calls Tryz.prog 78 #[.string b] W fun e w' => ∃ v m, e = .returned (.tuple #[v, m]) ∧ Hid (w'.ownsRow W.heap.size 3 1 v (ptsAt b 0).length (nums (ptsAt b 0))) ∧ Below W.heap.size W w' := by
    intro W
    refine (points_any b W hb).mono ?_
    rintro e w' ⟨v, n, xs, h3, h4, h5, h6⟩
    obtain ⟨rfl, rfl⟩ := h6 h2
    exact ⟨v, _, h3, h4, h5⟩
  obtain ⟨xs, hxs⟩ : ∃ xs, ptsAt a 0 = xs := ⟨_, rfl⟩
  obtain ⟨ys, hys⟩ : ∃ ys, ptsAt b 0 = ys := ⟨_, rfl⟩
  rw [hxs] at ca
  simp only [hys] at cb
  rw [hxs, hys]
  have HX : Hid (xs.length ≤ a.size) := by show _ ≤ _; have := pts_len a.size a 0 (by omega); rw [hxs] at this; omega
  have HY : Hid (ys.length ≤ b.size) := by show _ ≤ _; have := pts_len b.size b 0 (by omega); rw [hys] at this; omega
  have hxl : (xs.length : Int) ≤ 17592186044416 := by have := HX.out; omega
  have hyl : (ys.length : Int) ≤ 17592186044416 := by have := HY.out; omega
  clear hxs hys h1 h2 HX HY
  obtain ⟨V, hV⟩ : ∃ V, cmpL xs ys = V := ⟨_, rfl⟩
  have H0 : Hid (cmpL (xs.drop 0) (ys.drop 0) = V) := hV
  rw [hV]
  clear hV
  go_enter Tryz.func56, Tryz.ntmps56
  go_wp2_with (first
    | (go_at_call 78; refine (cb w1).mono ?_; rintro e w2 ⟨v2, m2, rfl, HB, hb2⟩)
    | (go_at_call 78; refine ca.mono ?_; rintro e w1 ⟨v1, m1, rfl, HA, hb1⟩))
  have hbb : Below w.heap.size w w2 := hb1.trans (hb2.mono hb1.size)
  obtain ⟨a1, c1, rfl, hx⟩ := nums_get (Dc.own_keptX HA.out hb2)
  obtain ⟨a2, c2, rfl, hy⟩ := nums_get HB.out
  clear HA HB ca cb hb1 hb2
  have HGX : Hid (∀ i (hi : i < xs.length), ∃ g off, a1 = some ⟨g, off, none⟩ ∧ w2.cell? ⟨g, off + i, none⟩ = some (.int .i64 (xs[i] : Int))) := hx
  have HGY : Hid (∀ i (hi : i < ys.length), ∃ g off, a2 = some ⟨g, off, none⟩ ∧ w2.cell? ⟨g, off + i, none⟩ = some (.int .i64 (ys[i] : Int))) := hy
  clear hx hy
  go_loopw [9] (fun u w' => ∃ (i m : Nat), u = .int .i64 (i : Int) ∧ i ≤ xs.length ∧ i ≤ ys.length ∧ Hid (cmpL (xs.drop i) (ys.drop i) = V) ∧ w' = w2.drewN m) (fun u _ => xs.length - numF u)
  case atStart => exact ⟨0, 0, rfl, Nat.zero_le _, Nat.zero_le _, H0, rfl⟩
  case round =>
    obtain ⟨i, m, rfl, hix, hiy, HI, rfl⟩ := hrel
    clear H0
    by_cases hlx : i < xs.length
    · have hlx' : (i : Int) < (xs.length : Int) := by omega
      by_cases hly : i < ys.length
      · have hly' : (i : Int) < (ys.length : Int) := by omega
        obtain ⟨g, off, rfl, e1⟩ := HGX.out i hlx
        obtain ⟨g', off', rfl, e2⟩ := HGY.out i hly
        have HD := cmpL_drop hlx hly
        rw [HI.out] at HD
        obtain ⟨X, hX⟩ : ∃ X, xs[i] = X := ⟨_, rfl⟩
        obtain ⟨Y, hY⟩ : ∃ Y, ys[i] = Y := ⟨_, rfl⟩
        rw [hX] at e1 HD
        rw [hY] at e2 HD
        have HDD : Hid (V = if X < Y then -1 else if Y < X then 1 else cmpL (xs.drop (i + 1)) (ys.drop (i + 1))) := HD
        clear HD HI hX hY
        by_cases h1 : X < Y
        · have h1' : (X : Int) < (Y : Int) := by omega
          have HV : Hid (V = -1) := by show _ = _; rw [HDD.out, if_pos h1]
          clear HDD
          go_wp2
          go_quiet (fail)
          go_wp2
          go_ret
          rw [HV.out]
          exact ⟨rfl, below_drewN (below_drewN hbb _) _⟩
        · have h1' : ¬ (X : Int) < (Y : Int) := by omega
          by_cases h2 : Y < X
          · have h2' : (Y : Int) < (X : Int) := by omega
            have HV : Hid (V = 1) := by show _ = _; rw [HDD.out, if_neg h1, if_pos h2]
            clear HDD
            go_wp2
            go_quiet (fail)
            go_wp2
            go_quiet (fail)
            go_wp2
            go_ret
            rw [HV.out]
            exact ⟨rfl, below_drewN (below_drewN (below_drewN hbb _) _) _⟩
          · have h2' : ¬ (Y : Int) < (X : Int) := by omega
            have HV : Hid (cmpL (xs.drop (i + 1)) (ys.drop (i + 1)) = V) := by show _ = _; rw [HDD.out, if_neg h1, if_neg h2]
            clear HDD
            go_wp2
            go_quiet (fail)
            go_wp2
            go_quiet (fail)
            go_wp2
            go_roundw
            case rel => exact ⟨i + 1, _, by simp, hlx, hly, HV, rfl⟩
            case measure => simp [numF]; omega
      · have hly' : ¬ (i : Int) < (ys.length : Int) := by omega
        have hxy : ¬ (xs.length : Int) < (ys.length : Int) := by omega
        have hyx : (ys.length : Int) < (xs.length : Int) := by omega
        have HV : Hid (V = 1) := by
          show _ = _
          rw [← HI.out, List.drop_eq_getElem_cons hlx, List.drop_of_length_le (l := ys) (by omega)]
          rfl
        clear HI
        go_wp2
        go_ret
        rw [HV.out]
        exact ⟨rfl, below_drewN hbb _⟩
    · have hlx' : ¬ (i : Int) < (xs.length : Int) := by omega
      by_cases hly : i < ys.length
      · have hxy : (xs.length : Int) < (ys.length : Int) := by omega
        have HV : Hid (V = -1) := by
          show _ = _
          rw [← HI.out, List.drop_eq_getElem_cons hly, List.drop_of_length_le (l := xs) (by omega)]
          rfl
        clear HI
        go_wp2
        go_ret
        rw [HV.out]
        exact ⟨rfl, below_drewN hbb _⟩
      · have hxy : ¬ (xs.length : Int) < (ys.length : Int) := by omega
        have hyx : ¬ (ys.length : Int) < (xs.length : Int) := by omega
        have HV : Hid (V = 0) := by
          show _ = _
          rw [← HI.out, List.drop_of_length_le (by omega), List.drop_of_length_le (by omega)]
          rfl
        clear HI
        go_wp2
        go_ret
        rw [HV.out]
        exact ⟨rfl, below_drewN hbb _⟩
end Dc
end Go.Proofs.YtiakidomcjpdhaaGreatDoor
