/- What canon.canBeTold answers at every value. What length does: how many bytes the text of a value has, told up to a bound. -/
import Derived.Test.YtiakidomcjpdhaaGreatDoorG19
import Derived.Test.YtiakidomcjpdhaaGreatDoorG15
namespace Go.Proofs.YtiakidomcjpdhaaGreatDoor
open Go.RowKit Go.Shelf
namespace Pt
open Pu SndW RefW

set_option maxRecDepth 20000 in
set_option maxHeartbeats 4000000 in
theorem can_small (k : Int) (b : Bool) (n : Int) (t : ByteArray) (l : List GV) (f : List (ByteArray × GV)) (ht : t.size ≤ 2000000) (hk : k ≠ 4 ∧ k ≠ 5) : CanAt (.mk k b n t l f) := by
  intro d w ok cs hx hd0 hd1
  obtain ⟨a1, c1, a2, c2, xs, ys, hcs, _⟩ := hx.form
  obtain rfl : cs = #[.int .i64 k, .bool b, .int .i64 n, .string t, .slice a1 l.length c1, .slice a2 f.length c2] := by
    cases cs
    simpa using hcs
  clear hcs hx
  have k4 : (k == 4) = false := by simpa using hk.1
  have k5 : (k == 5) = false := by simpa using hk.2
  have hab : Below w.heap.size w (w.alloc (.cells #[.int .i64 k, .bool b, .int .i64 n, .string t, .slice a1 l.length c1, .slice a2 f.length c2] 25)) := (Below.refl _ _).alloc (Nat.le_refl _) _
  have HAB := (show Hid _ from hab)
  clear hab
  by_cases k0 : k = 0
  · subst k0
    have HS : Hid (Says' (TdV (.mk 0 b n t l f) d) (.returned (.bool true))) := Says'.of (by simp [TdV])
    go_enter Tryz.func58, Tryz.ntmps58
    go_wp2
    go_ret
    exact ⟨HS.out, HAB.out⟩
  by_cases k1 : k = 1
  · subst k1
    have HS : Hid (Says' (TdV (.mk 1 b n t l f) d) (.returned (.bool true))) := Says'.of (by simp [TdV])
    go_enter Tryz.func58, Tryz.ntmps58
    go_wp2
    go_ret
    exact ⟨HS.out, HAB.out⟩
  have e0 : (k == 0) = false := by simpa using k0
  have e1 : (k == 1) = false := by simpa using k1
  by_cases k2 : k = 2
  · subst k2
    by_cases h1 : (-9007199254740991 : Int) ≤ n
    · by_cases h2 : n ≤ (9007199254740991 : Int)
      · have HS : Hid (Says' (TdV (.mk 2 b n t l f) d) (.returned (.bool true))) := Says'.of (by simp [TdV, h1, h2])
        go_enter Tryz.func58, Tryz.ntmps58
        go_wp2
        go_ret
        exact ⟨HS.out, HAB.out⟩
      · have HS : Hid (Says' (TdV (.mk 2 b n t l f) d) (.returned (.bool false))) := Says'.of (by simp [TdV, h1, h2])
        go_enter Tryz.func58, Tryz.ntmps58
        go_wp2
        go_ret
        exact ⟨HS.out, HAB.out⟩
    · have HS : Hid (Says' (TdV (.mk 2 b n t l f) d) (.returned (.bool false))) := Says'.of (by simp [TdV, h1])
      go_enter Tryz.func58, Tryz.ntmps58
      go_wp2
      go_ret
      exact ⟨HS.out, HAB.out⟩
  have e2 : (k == 2) = false := by simpa using k2
  by_cases k3 : k = 3
  · subst k3
    have cB := isSound_any t (w.alloc (.cells #[.int .i64 3, .bool b, .int .i64 n, .string t, .slice a1 l.length c1, .slice a2 f.length c2] 25)) (by omega)
    have HS : Hid (Says' (TdV (.mk 3 b n t l f) d) (.returned (.bool (badAt t 0 == -1)))) := Says'.of (by
      have := (badAt_bd t).1
      simp [TdV]
      omega)
    obtain ⟨V, hV⟩ : ∃ V, (badAt t 0 == -1) = V := ⟨_, rfl⟩
    rw [hV] at cB HS
    go_enter Tryz.func58, Tryz.ntmps58
    go_wp2_with (go_at_call 80; refine cB.mono ?_; rintro e w1 ⟨rfl, h1⟩)
    go_ret
    exact ⟨HS.out, HAB.out.trans (h1.mono HAB.out.size)⟩
  have e3 : (k == 3) = false := by simpa using k3
  have HS : Hid (Says' (TdV (.mk k b n t l f) d) (.returned (.bool false))) := Says'.of (by simp [TdV, k0, k1, k2, k3, hk.1, hk.2])
  go_enter Tryz.func58, Tryz.ntmps58
  go_wp2
  go_ret
  exact ⟨HS.out, HAB.out⟩
set_option maxRecDepth 20000 in
set_option maxHeartbeats 4000000 in
theorem can_l (b : Bool) (n : Int) (t : ByteArray) (l : List GV) (f : List (ByteArray × GV)) (hsz : (GV.mk 4 b n t l f).sz ≤ 2000000) (hl : ∀ i (h : i < l.length), CanAt (l[i]) ∧ (l[i]).sz ≤ 2000000) (hf : ∀ i (h : i < f.length), CanAt (f[i]).2 ∧ (f[i]).2.sz ≤ 2000000) : CanAt (.mk 4 b n t l f) := by
  intro d w ok cs hx hd0 hd1
  obtain ⟨a1, c1, a2, c2, xs, ys, hcs, _⟩ := hx.form
  obtain rfl : cs = #[.int .i64 4, .bool b, .int .i64 n, .string t, .slice a1 l.length c1, .slice a2 f.length c2] := by
    cases cs
    simpa using hcs
  have hdb : d ≤ 1000000000 := by unfold GV.sz at hd1; omega
  have hab : Below w.heap.size w (w.alloc (.cells #[.int .i64 4, .bool b, .int .i64 n, .string t, .slice a1 l.length c1, .slice a2 f.length c2] 25)) := (Below.refl _ _).alloc (Nat.le_refl _) _
  have HAB := (show Hid _ from hab)
  have HE : Hid (TdV (.mk 4 b n t l f) d ↔ AllT (d + 1) (psV (.mk 4 b n t l f)) ∧ d < 32) := by
    show _ ↔ _
    rw [show psV (.mk 4 b n t l f) = l by rw [psV, if_pos rfl]]
    unfold AllT
    rw [show (∀ y, y ∈ l → TdV y (d + 1)) ↔ TdL l (d + 1) by
      rw [TdL_get]
      exact ⟨fun h i hi => h _ (List.getElem_mem hi), fun h y hy => by obtain ⟨i, hi, rfl⟩ := List.mem_iff_getElem.1 hy; exact h i hi⟩]
    simp [TdV]
  obtain ⟨T, hT⟩ : ∃ T, TdV (.mk 4 b n t l f) d = T := ⟨_, rfl⟩
  rw [hT] at HE ⊢
  clear hT hd1
  by_cases hd : d < 32
  · have cA := all_step 4 b n t l f hsz hl hf (d + 1) (w.alloc (.cells #[.int .i64 4, .bool b, .int .i64 n, .string t, .slice a1 l.length c1, .slice a2 f.length c2] 25)) ok _ (hx.conv (fun k hk hl => ⟨hk, hab.block k hl⟩)) (by omega) (by omega)
    obtain ⟨Y, hY⟩ : ∃ Y, AllT (d + 1) (psV (.mk 4 b n t l f)) = Y := ⟨_, rfl⟩
    rw [hY] at HE cA
    have cB : Calls Tryz.prog 81 #[.agg #[.int .i64 4, .bool b, .int .i64 n, .string t, .slice a1 l.length c1, .slice a2 f.length c2], .int .i64 (d + 1)] (w.alloc (.cells #[.int .i64 4, .bool b, .int .i64 n, .string t, .slice a1 l.length c1, .slice a2 f.length c2] 25)) fun e w' => ∃ V, e = .returned (.bool V) ∧ Hid (Says' T (.returned (.bool V))) ∧ Hid (Below w.heap.size w w') := by
      refine cA.mono ?_
      rintro e w' ⟨⟨V, e1, e2⟩, e3⟩
      exact ⟨V, e1, Says'.of (e2.trans ⟨fun h => HE.out.2 ⟨h, hd⟩, fun h => (HE.out.1 h).1⟩), hab.trans (e3.mono (by simp))⟩
    clear hx hcs hsz hl hf cA hY HE hab
    go_enter Tryz.func58, Tryz.ntmps58
    go_wp2_with (go_at_call 81; refine cB.mono ?_; rintro e w1 ⟨V, rfl, HV, HB⟩)
    go_ret
    exact ⟨HV.out, HB.out⟩
  · have HF : Hid (Says' T (.returned (.bool false))) := Says'.of ⟨fun h => (by cases h), fun h => absurd (HE.out.1 h).2 hd⟩
    clear hx hcs hsz hl hf HE hab
    go_enter Tryz.func58, Tryz.ntmps58
    go_wp2
    go_ret
    exact ⟨HF.out, HAB.out⟩
set_option maxRecDepth 20000 in
set_option maxHeartbeats 4000000 in
theorem can_f (b : Bool) (n : Int) (t : ByteArray) (l : List GV) (f : List (ByteArray × GV)) (hsz : (GV.mk 5 b n t l f).sz ≤ 2000000) (hl : ∀ i (h : i < l.length), CanAt (l[i]) ∧ (l[i]).sz ≤ 2000000) (hf : ∀ i (h : i < f.length), CanAt (f[i]).2 ∧ (f[i]).2.sz ≤ 2000000) : CanAt (.mk 5 b n t l f) := by
  intro d w ok cs hx hd0 hd1
  obtain ⟨a1, c1, a2, c2, xs, ys, hcs, hs1, hs2, hl1, hf1⟩ := hx.form
  obtain rfl : cs = #[.int .i64 5, .bool b, .int .i64 n, .string t, .slice a1 l.length c1, .slice a2 f.length c2] := by
    cases cs
    simpa using hcs
  have hll : f.length ≤ 2000000 := by have := szL_len l; have := szF_len f; unfold GV.sz at hsz; omega
  have hnm : ∀ i (h : i < f.length), (f[i]).1.size ≤ 17592186044416 := fun i h => by have h9 := szF_get f i h; unfold GV.sz at hsz; omega
  have hdb : d ≤ 1000000000 := by unfold GV.sz at hd1; omega
  have hab : Below w.heap.size w (w.alloc (.cells #[.int .i64 5, .bool b, .int .i64 n, .string t, .slice a1 l.length c1, .slice a2 f.length c2] 25)) := (Below.refl _ _).alloc (Nat.le_refl _) _
  have HAB := (show Hid _ from hab)
  have HE : Hid (TdV (.mk 5 b n t l f) d ↔ NamesOK f ∧ AllT (d + 1) (psV (.mk 5 b n t l f)) ∧ d < 32) := by
    show _ ↔ _
    rw [show psV (.mk 5 b n t l f) = f.map (·.2) by rw [psV, if_neg (by decide), if_pos rfl]]
    unfold AllT
    rw [show (∀ y, y ∈ f.map (·.2) → TdV y (d + 1)) ↔ TdF f (d + 1) by
      rw [TdF_get]
      refine ⟨fun h i hi => h _ (List.mem_map.2 ⟨f[i], List.getElem_mem hi, rfl⟩), fun h y hy => ?_⟩
      obtain ⟨z, hz, rfl⟩ := List.mem_map.1 hy
      obtain ⟨i, hi, rfl⟩ := List.mem_iff_getElem.1 hz
      exact h i hi]
    simp [TdV]
  obtain ⟨T, hT⟩ : ∃ T, TdV (.mk 5 b n t l f) d = T := ⟨_, rfl⟩
  rw [hT] at HE ⊢
  clear hT hd1
  by_cases hd : d < 32
  · obtain ⟨W1, hW1⟩ : ∃ W1, w.alloc (.cells #[.int .i64 5, .bool b, .int .i64 n, .string t, .slice a1 l.length c1, .slice a2 f.length c2] 25) = W1 := ⟨_, rfl⟩
    have m0 : SndW.OneAt w #[.int .i64 5, .bool b, .int .i64 n, .string t, .slice a1 l.length c1, .slice a2 f.length c2] W1 := by rw [← hW1]; exact ⟨heap_alloc_new _ _, (Below.refl _ _).alloc (Nat.le_refl _) _, by simp⟩
    have cN := namesC_any f hll hnm W1 ok a2 c2 ys (hs2.conv (by decide) (fun k hk hl => ⟨hk, m0.b.block k hl⟩)) (hf1.conv (fun k hk hl => ⟨hk, m0.b.block k hl⟩))
    have cA := fun (W : World) (hW : Below w.heap.size w W) => all_step 5 b n t l f hsz hl hf (d + 1) W ok _ (hx.conv (fun k hk hl => ⟨hk, hW.block k hl⟩)) (by omega) (by omega)
    obtain ⟨Y, hY⟩ : ∃ Y, AllT (d + 1) (psV (.mk 5 b n t l f)) = Y := ⟨_, rfl⟩
    rw [hY] at HE
    simp only [hY] at cA
    have cN2 : Calls Tryz.prog 82 #[.slice a2 f.length c2] W1 fun e w' => (e = .returned (.bool true) ∧ Hid (NamesOK f) ∧ SndW.OneAt w #[.int .i64 5, .bool b, .int .i64 n, .string t, .slice a1 l.length c1, .slice a2 f.length c2] w') ∨ (e = .returned (.bool false) ∧ Hid (Says' T (.returned (.bool false))) ∧ SndW.OneAt w #[.int .i64 5, .bool b, .int .i64 n, .string t, .slice a1 l.length c1, .slice a2 f.length c2] w') := by
      refine cN.mono ?_
      rintro e w' ⟨⟨V, e1, e2⟩, e3⟩
      cases V with
      | true => exact .inl ⟨e1, e2.1 rfl, m0.keep e3⟩
      | false => exact .inr ⟨e1, Says'.of ⟨fun h => (by cases h), fun h => nomatch (e2.2 (HE.out.1 h).1)⟩, m0.keep e3⟩
    have cB : ∀ W, Below w.heap.size w W → Hid (NamesOK f) → Calls Tryz.prog 81 #[.agg #[.int .i64 5, .bool b, .int .i64 n, .string t, .slice a1 l.length c1, .slice a2 f.length c2], .int .i64 (d + 1)] W fun e w' => ∃ V, e = .returned (.bool V) ∧ Hid (Says' T (.returned (.bool V))) ∧ Hid (Below w.heap.size w w') := by
      intro W hW hN
      refine (cA W hW).mono ?_
      rintro e w' ⟨⟨V, e1, e2⟩, e3⟩
      exact ⟨V, e1, Says'.of (e2.trans ⟨fun h => HE.out.2 ⟨hN.out, h, hd⟩, fun h => (HE.out.1 h).2.1⟩), hW.trans (e3.mono hW.size)⟩
    have x0 := (box6 m0.v).1
    have x5 := (box6 m0.v).2.2.2.2.2
    clear hx hcs hsz hl hf cA hY HE hab hnm hs1 hs2 hl1 hf1 cN HAB m0
    subst hW1
    go_enter Tryz.func58, Tryz.ntmps58
    go_wp2_with (first
      | (go_at_call 82; refine cN2.mono ?_; rintro e w1 (⟨rfl, HN, m1⟩ | ⟨rfl, HN, m1⟩); all_goals (obtain ⟨y0, y1, y2, y3, y4, y5⟩ := box6 m1.v; have hb1 := m1.b))
      | (go_at_call 81; refine (cB _ hb1 HN).mono ?_; rintro e w2 ⟨V, rfl, HV, HB⟩))
    · go_ret
      exact ⟨HV.out, HB.out⟩
    · go_ret
      exact ⟨HN.out, hb1⟩
  · have HF : Hid (Says' T (.returned (.bool false))) := Says'.of ⟨fun h => (by cases h), fun h => absurd (HE.out.1 h).2.2 hd⟩
    clear hx hcs hsz hl hf HE hab hs1 hs2 hl1 hf1 hnm
    go_enter Tryz.func58, Tryz.ntmps58
    go_wp2
    go_ret
    exact ⟨HF.out, HAB.out⟩
/-- canBeTold, at every value of bounded size. -/
theorem can_any : ∀ (m : Nat) (x : GV), x.sz ≤ m → m ≤ 2000000 → CanAt x
  | 0, x, h, _ => by have := GV.sz_pos x; omega
  | m + 1, .mk k bo n t l fs, h, hm => by
    have hs : 1 + t.size + szL l + szF fs ≤ m + 1 := by simpa [GV.sz] using h
    have h1 : ∀ i (h : i < l.length), CanAt (l[i]) ∧ (l[i]).sz ≤ 2000000 := fun i hi => by
      have := szL_get l i hi
      exact ⟨can_any m _ (by omega) (by omega), by omega⟩
    have h2 : ∀ i (h : i < fs.length), CanAt (fs[i]).2 ∧ (fs[i]).2.sz ≤ 2000000 := fun i hi => by
      have := szF_get fs i hi
      exact ⟨can_any m _ (by omega) (by omega), by omega⟩
    by_cases k4 : k = 4
    · subst k4
      exact can_l bo n t l fs (by omega) h1 h2
    by_cases k5 : k = 5
    · subst k5
      exact can_f bo n t l fs (by omega) h1 h2
    exact can_small k bo n t l fs (by omega) ⟨k4, k5⟩
end Pt
end Go.Proofs.YtiakidomcjpdhaaGreatDoor

namespace Go.Proofs.YtiakidomcjpdhaaGreatDoor
open Go.RowKit
namespace Pu
open SndW PlnW

/-- What the function value of length holds: how many bytes it took, up to a bound. -/
def LenR (c : Nat) (b : List UInt8) (S : Nat → Prop) (w : World) : Prop := (∀ k, S k ↔ k = c) ∧ w.heap[c]? = some (.cells #[.int .i64 (min (b.length : Int) 65537)] 3 (0, 0))
theorem own83 : ∀ (args : Array Value) (w : World), Sem.run Tryz.prog (callFunc 83 args) w = .ok (.enter 83 args) w := fun args w => by go_simp
theorem len_put (c : Nat) : Putter 83 (.pointer (some ⟨c, 0, none⟩)) 4611686018427387904 (LenR c) where
  lt := fun {b S w} h k hk => by
    rw [(h.1 k).1 hk]
    exact lt_of_block h.2
  kept := fun {b S w w'} h f => ⟨h.1, (f.block c (lt_of_block h.2) (fun hn => hn ((h.1 c).2 rfl))).trans h.2⟩
  call := fun {b S w} s h hlim => by
    obtain ⟨hS, hc⟩ := h
    have x0 : w.cell? ⟨c, 0, none⟩ = some (.int .i64 (min (b.length : Int) 65537)) := by simp [World.cell?, hc]
    have fz : w.frozen? ⟨c, 0, none⟩ = false := by simp [World.frozen?, hc]
    go_enter Tryz.func83, Tryz.ntmps83
    go_wp2
    go_end0
    refine ⟨rfl, S, ⟨hS, ?_⟩, Fr.setCell w _ _ ((hS c).2 rfl), fun _ h => .inl h⟩
    have e : min (min (b.length : Int) 65537 + s.size) 65537 = min (((b ++ s.data.toList).length : Nat) : Int) 65537 := by
      rw [List.length_append, ← Lib.size_eq]
      omega
    rw [e]
    simp only [World.setCell, Array.getElem?_modify, hc]
    simp
set_option maxRecDepth 20000 in
set_option maxHeartbeats 4000000 in
/-- length, at every value of bounded size. -/
theorem length_any (hE : EscAt) (x : GV) (hsz : x.sz ≤ 2000000) (hok : okV x) (htx : (txV x).length ≤ 4611686018427387904) (w : World) (ok : Nat → Prop) (cs : Array Value) (h5 : 5 ≤ w.heap.size) (hT : Pow10 w) (hx : LaidV w ok x cs.toList) : Calls Tryz.prog 59 #[.agg cs] w fun e w' => e = .returned (.int .i64 (min ((txV x).length : Int) 65537)) ∧ Below w.heap.size w w' := by
  obtain ⟨W, hW⟩ : ∃ W, W = (w.alloc (.cells cs 25)).alloc (.cells #[.int .i64 0] 3) := ⟨_, rfl⟩
  have hb1 : Below w.heap.size w W := by rw [hW]; exact ((Below.refl _ _).alloc (Nat.le_refl _) _).alloc (by simp) _
  have hR : LenR (w.heap.size + 1) [] (fun k => k = w.heap.size + 1) W := ⟨fun _ => Iff.rfl, by
    rw [hW]
    have h := heap_alloc_new (w.alloc (.cells cs 25)) (.cells #[.int .i64 0] 3)
    have e : (w.alloc (.cells cs 25)).heap.size = w.heap.size + 1 := by simp
    rw [e] at h
    exact h⟩
  have hk : Kp (fun k => k = w.heap.size + 1) w (fun k => k = w.heap.size + 1) W := Kp.below hb1
  have hc := tell_any (len_put (w.heap.size + 1)) own83 hE _ x (Nat.le_refl _) hsz hok [] (fun k => k = w.heap.size + 1) W cs hR (Nat.le_trans h5 hb1.size) (hT.of (hb1.block 0 (by omega)) (hb1.block 4 (by omega))) (fun k hk => by omega) (hx.conv fun k _ hl => ⟨by omega, hb1.block k hl⟩) (by simpa using htx)
  have HC : Hid (Calls Tryz.prog 30 #[.agg cs, putV 83 (.pointer (some ⟨w.heap.size + 1, 0, none⟩))] W fun e w' => e = .returned (.tuple #[]) ∧ w'.cell? ⟨w.heap.size + 1, 0, none⟩ = some (.int .i64 (min ((txV x).length : Int) 65537)) ∧ Below w.heap.size w w') := by
    refine Calls.mono hc ?_
    rintro e w' ⟨q1, S', q2, q3⟩
    refine ⟨q1, ?_, ?_⟩
    · have := q2.2
      simp only [List.nil_append] at this
      simp [World.cell?, this]
    · exact (hk.trans q3).fr.below (Nat.le_refl _) (fun k hk => by omega)
  cases x with
  | mk k bo n t l fs =>
  obtain ⟨a1, c1, a2, c2, xs, ys, hcs, _⟩ := hx.form
  obtain rfl : cs = #[.int .i64 k, .bool bo, .int .i64 n, .string t, .slice a1 l.length c1, .slice a2 fs.length c2] := by
    cases cs
    simpa using hcs
  rw [hW] at HC
  obtain ⟨T, hTt⟩ : ∃ T, txV (.mk k bo n t l fs) = T := ⟨_, rfl⟩
  rw [hTt] at HC ⊢
  clear hc hR hk hb1 hx hcs hW hTt htx
  go_enter Tryz.func59, Tryz.ntmps59
  go_wp2_with (go_at_call 30; refine Calls.mono HC.out ?_; rintro e w' ⟨rfl, hcell, hb⟩)
  go_ret
  exact ⟨rfl, hb⟩
end Pu
end Go.Proofs.YtiakidomcjpdhaaGreatDoor
