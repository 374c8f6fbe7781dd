/- What the reference's Count does, with its number: a contract, by walking its text. What canon.Is answers at every text. What the reference's Cmp answers at every two sound texts. The text of the one form is as long as the text of the value. -/
import Derived.Test.YtiakidomcjpdhaaGreatDoorGWc
import Derived.Test.YtiakidomcjpdhaaGreatDoorGRefD
import Derived.Test.YtiakidomcjpdhaaGreatDoorGObD
namespace Go.Proofs.YtiakidomcjpdhaaGreatDoor
open Go.RowKit
namespace Dc
open Pt

/-- What is asked of Count at one value. -/
def CountX (x : GV) : Prop := ∀ (w : World) (ok : Nat → Prop) (cs : Array Value) (z : Int), LaidV w ok x cs.toList → 0 ≤ z → z ≤ 65536 → Calls Tryz.prog 37 #[.agg cs, .int .i64 z] w fun e w' => e = .returned (.int .i64 (min (z + (cntV x : Int)) 65537)) ∧ Below w.heap.size w w'

theorem cntL_tk (l : List GV) (i : Nat) : cntL (l.take i) ≤ cntL l := cntL_pre (List.take_prefix i l)
theorem cntF_tk (f : List (ByteArray × GV)) (i : Nat) : cntF (f.take i) ≤ cntF f := by
  rw [cntF_map, cntF_map]
  exact cntL_pre (List.IsPrefix.map _ (List.take_prefix i f))
set_option maxRecDepth 20000 in
set_option maxHeartbeats 4000000 in
theorem countX_small (k : Int) (b : Bool) (n : Int) (t : ByteArray) (l : List GV) (f : List (ByteArray × GV)) (hk : k ≠ 4 ∧ k ≠ 5) : CountX (.mk k b n t l f) := by
  intro w ok cs z hx hz0 hz1
  obtain ⟨a1, c1, a2, c2, xs, ys, hcs, _⟩ := hx.form
  obtain rfl : cs = #[.int .i64 k, .bool b, .int .i64 n, .string t, .slice a1 l.length c1, .slice a2 f.length c2] := by
    cases cs
    simpa using hcs
  clear hcs hx
  have k4 : (k == 4) = false := by simpa using hk.1
  have k5 : (k == 5) = false := by simpa using hk.2
  have HZ : Hid (min (z + (cntV (.mk k b n t l f) : Int)) 65537 = z + 1) := by show _ = _; rw [cntV, if_neg hk.1, if_neg hk.2]; omega
  rw [HZ.out]
  clear HZ
  go_enter Tryz.func37, Tryz.ntmps37
  go_wp2
  go_ret
  exact ⟨rfl, (Below.refl _ _).alloc (Nat.le_refl _) _⟩
set_option maxRecDepth 20000 in
set_option maxHeartbeats 4000000 in
theorem countX_l (b : Bool) (n : Int) (t : ByteArray) (l : List GV) (f : List (ByteArray × GV)) (hsz : (GV.mk 4 b n t l f).sz ≤ 2000000) (hl : ∀ i (h : i < l.length), CountX (l[i])) : CountX (.mk 4 b n t l f) := by
  intro w ok cs zz hx hz0 hz1
  obtain ⟨a1, c1, a2, c2, xs, ys, hcs, hs1, hs2, hl1, hf1⟩ := hx.form
  obtain rfl : cs = #[.int .i64 4, .bool b, .int .i64 n, .string t, .slice a1 l.length c1, .slice a2 f.length c2] := by
    cases cs
    simpa using hcs
  have hll : l.length ≤ 2000000 := by have := szL_len l; have := szF_len f; unfold GV.sz at hsz; omega
  clear hcs hx hsz
  obtain ⟨R, hR⟩ : ∃ R, min (zz + (cntV (.mk 4 b n t l f) : Int)) 65537 = R := ⟨_, rfl⟩
  have HR : Hid (R = min (zz + 1 + (cntL l : Int)) 65537) := by show _ = _; rw [← hR, cntV]; simp; omega
  rw [hR]
  clear hR
  obtain ⟨C, hC⟩ : ∃ C : Array Value, C = #[.int .i64 4, .bool b, .int .i64 n, .string t, .slice a1 l.length c1, .slice a2 f.length c2] := ⟨_, rfl⟩
  have m0 : SndW.OneAt w C (w.alloc (.cells C 25)) := ⟨heap_alloc_new _ _, (Below.refl _ _).alloc (Nat.le_refl _) _, by simp⟩
  have x0 := (box6 (hC ▸ m0.v)).1
  rw [hC] at m0
  go_enter Tryz.func37, Tryz.ntmps37
  go_wp2
  clear x0
  go_loopw [1, 5] (fun y u w' => ∃ (i : Nat) (z : Int), y = .int .i64 z ∧ 0 ≤ z ∧ z ≤ 65537 ∧ Hid (z = min (zz + 1 + (cntL (l.take i) : Int)) 65537) ∧ u = .int .i64 (i : Int) ∧ i ≤ l.length ∧ SndW.OneAt w #[.int .i64 4, .bool b, .int .i64 n, .string t, .slice a1 l.length c1, .slice a2 f.length c2] w') (fun _ u _ => l.length - numF u)
  case atStart => exact ⟨0, zz + 1, rfl, by omega, by omega, by show _ = _; rw [List.take_zero, cntL]; omega, rfl, Nat.zero_le _, m0⟩
  case round =>
    obtain ⟨i, z, rfl, hz2, hz3, HZ, rfl, hil, m⟩ := hrel
    have hmb := m.b
    have hms := m.s
    obtain ⟨x0, x1, x2, x3, x4, x5⟩ := box6 m.v
    clear m0
    by_cases hlt : i < l.length
    · have hlt' : (i : Int) < (l.length : Int) := by omega
      by_cases hzz : z ≤ 65536
      · obtain ⟨sb, off, es, ha, hsb, hlv, hcell⟩ := SlAt.elem (hs1.conv (ok' := fun b => b < wr.heap.size) (w' := wr) (by decide) (fun b _ hb => ⟨Nat.lt_of_lt_of_le hb hmb.size, hmb.block b hb⟩)) (hl1.conv (fun b _ hb => ⟨Nat.lt_of_lt_of_le hb hmb.size, hmb.block b hb⟩)) i hlt
        have hcp := hl i hlt
        obtain ⟨X, hX⟩ : ∃ X, (l[i]) = X := ⟨_, rfl⟩
        rw [hX] at hlv hcp
        cases hXc : X with
        | mk k' b' n' t' l' f' =>
        rw [hXc] at hlv
        obtain ⟨p1, q1, p2, q2, _, _, rfl, _⟩ := hlv.form
        rw [← hXc] at hlv
        subst ha
        have e0 := hcell 0 (by decide)
        have e1 := hcell 1 (by decide)
        have e2 := hcell 2 (by decide)
        have e3 := hcell 3 (by decide)
        have e4 := hcell 4 (by decide)
        have e5 := hcell 5 (by decide)
        simp only [List.getElem?_cons_zero, List.getElem?_cons_succ, Nat.add_zero] at e0 e1 e2 e3 e4 e5
        have hcall := hcp wr (fun b => b < wr.heap.size) #[.int .i64 k', .bool b', .int .i64 n', .string t', .slice p1 l'.length q1, .slice p2 f'.length q2] z hlv hz2 hzz
        have HN2 : Hid (min (z + (cntV X : Int)) 65537 = min (zz + 1 + (cntL (l.take (i + 1)) : Int)) 65537) := by
          show _ = _
          rw [List.take_succ_eq_append_getElem hlt, cntL_app, hX, cntL, cntL, HZ.out]
          omega
        obtain ⟨z2, hz2'⟩ : ∃ z2, min (z + (cntV X : Int)) 65537 = z2 := ⟨_, rfl⟩
        have g1 : 0 ≤ z2 := by omega
        have g2 : z2 ≤ 65537 := by omega
        rw [hz2'] at hcall HN2
        clear hcell hXc hlv hcp hX hz2' HZ
        go_wp2_with (go_at_call 37; refine hcall.mono ?_; rintro e w2 ⟨rfl, h2⟩)
        go_roundw
        case rel => exact ⟨i + 1, z2, rfl, g1, g2, HN2, by simp, hlt, m.keep h2⟩
        case measure => simp [numF]; omega
      · have hzz' : ¬ z ≤ 65536 := hzz
        have HE : Hid (z = R) := by
          show _ = _
          have h1 := HZ.out
          have h2 := HR.out
          have h3 := cntL_tk l i
          omega
        clear HZ HR
        go_wp2
        go_ret
        rw [HE.out]
        exact ⟨rfl, hmb⟩
    · have hlt' : ¬ (i : Int) < (l.length : Int) := by omega
      have HE : Hid (z = R) := by
        show _ = _
        have h1 := HZ.out
        rw [List.take_of_length_le (by omega)] at h1
        rw [h1, HR.out]
      clear HZ HR
      go_wp2
      go_ret
      rw [HE.out]
      exact ⟨rfl, hmb⟩
set_option maxRecDepth 20000 in
set_option maxHeartbeats 4000000 in
theorem countX_f (b : Bool) (n : Int) (t : ByteArray) (l : List GV) (f : List (ByteArray × GV)) (hsz : (GV.mk 5 b n t l f).sz ≤ 2000000) (hl : ∀ i (h : i < f.length), CountX (f[i]).2) : CountX (.mk 5 b n t l f) := by
  intro w ok cs zz hx hz0 hz1
  obtain ⟨a1, c1, a2, c2, xs, ys, hcs, hs1, hs2, hl1, hf1⟩ := hx.form
  obtain rfl : cs = #[.int .i64 5, .bool b, .int .i64 n, .string t, .slice a1 l.length c1, .slice a2 f.length c2] := by
    cases cs
    simpa using hcs
  have hll : f.length ≤ 2000000 := by have := szL_len l; have := szF_len f; unfold GV.sz at hsz; omega
  clear hcs hx hsz
  obtain ⟨R, hR⟩ : ∃ R, min (zz + (cntV (.mk 5 b n t l f) : Int)) 65537 = R := ⟨_, rfl⟩
  have HR : Hid (R = min (zz + 1 + (cntF f : Int)) 65537) := by show _ = _; rw [← hR, cntV]; simp; omega
  rw [hR]
  clear hR
  obtain ⟨C, hC⟩ : ∃ C : Array Value, C = #[.int .i64 5, .bool b, .int .i64 n, .string t, .slice a1 l.length c1, .slice a2 f.length c2] := ⟨_, rfl⟩
  have m0 : SndW.OneAt w C (w.alloc (.cells C 25)) := ⟨heap_alloc_new _ _, (Below.refl _ _).alloc (Nat.le_refl _) _, by simp⟩
  have x0 := (box6 (hC ▸ m0.v)).1
  rw [hC] at m0
  go_enter Tryz.func37, Tryz.ntmps37
  go_wp2
  clear x0
  go_loopw [1, 6] (fun y u w' => ∃ (i : Nat) (z : Int), y = .int .i64 z ∧ 0 ≤ z ∧ z ≤ 65537 ∧ Hid (z = min (zz + 1 + (cntF (f.take i) : Int)) 65537) ∧ u = .int .i64 (i : Int) ∧ i ≤ f.length ∧ SndW.OneAt w #[.int .i64 5, .bool b, .int .i64 n, .string t, .slice a1 l.length c1, .slice a2 f.length c2] w') (fun _ u _ => f.length - numF u)
  case atStart => exact ⟨0, zz + 1, rfl, by omega, by omega, by show _ = _; rw [List.take_zero, cntF]; omega, rfl, Nat.zero_le _, m0⟩
  case round =>
    obtain ⟨i, z, rfl, hz2, hz3, HZ, rfl, hil, m⟩ := hrel
    have hmb := m.b
    have hms := m.s
    obtain ⟨x0, x1, x2, x3, x4, x5⟩ := box6 m.v
    clear m0
    by_cases hlt : i < f.length
    · have hlt' : (i : Int) < (f.length : Int) := by omega
      by_cases hzz : z ≤ 65536
      · obtain ⟨sb, off, es, ha, hsb, hlv, hname, hcell⟩ := SlAt.field (hs2.conv (ok' := fun b => b < wr.heap.size) (w' := wr) (by decide) (fun b _ hb => ⟨Nat.lt_of_lt_of_le hb hmb.size, hmb.block b hb⟩)) (hf1.conv (fun b _ hb => ⟨Nat.lt_of_lt_of_le hb hmb.size, hmb.block b hb⟩)) i hlt
        have hcp := hl i hlt
        obtain ⟨X, hX⟩ : ∃ X, (f[i]).2 = X := ⟨_, rfl⟩
        rw [hX] at hlv hcp
        cases hXc : X with
        | mk k' b' n' t' l' f' =>
        rw [hXc] at hlv
        obtain ⟨p1, q1, p2, q2, _, _, rfl, _⟩ := hlv.form
        rw [← hXc] at hlv
        subst ha
        have e0 := hcell 0 (by decide)
        have e1 := hcell 1 (by decide)
        have e2 := hcell 2 (by decide)
        have e3 := hcell 3 (by decide)
        have e4 := hcell 4 (by decide)
        have e5 := hcell 5 (by decide)
        simp only [List.getElem?_cons_zero, List.getElem?_cons_succ, Nat.add_zero, Nat.reduceAdd] at e0 e1 e2 e3 e4 e5
        have hcall := hcp wr (fun b => b < wr.heap.size) #[.int .i64 k', .bool b', .int .i64 n', .string t', .slice p1 l'.length q1, .slice p2 f'.length q2] z hlv hz2 hzz
        have HN2 : Hid (min (z + (cntV X : Int)) 65537 = min (zz + 1 + (cntF (f.take (i + 1)) : Int)) 65537) := by
          show _ = _
          have h1 := HZ.out
          rw [cntF_map] at h1
          rw [cntF_map, List.take_succ_eq_append_getElem hlt, List.map_append, cntL_app, List.map_cons, List.map_nil, hX, cntL, cntL, h1]
          omega
        obtain ⟨z2, hz2'⟩ : ∃ z2, min (z + (cntV X : Int)) 65537 = z2 := ⟨_, rfl⟩
        have g1 : 0 ≤ z2 := by omega
        have g2 : z2 ≤ 65537 := by omega
        rw [hz2'] at hcall HN2
        clear hcell hXc hlv hcp hX hz2' HZ
        go_wp2_with (go_at_call 37; refine hcall.mono ?_; rintro e w2 ⟨rfl, h2⟩)
        go_roundw
        case rel => exact ⟨i + 1, z2, rfl, g1, g2, HN2, by simp, hlt, m.keep h2⟩
        case measure => simp [numF]; omega
      · have hzz' : ¬ z ≤ 65536 := hzz
        have HE : Hid (z = R) := by
          show _ = _
          have h1 := HZ.out
          have h2 := HR.out
          have h3 := cntF_tk f i
          omega
        clear HZ HR
        go_wp2
        go_ret
        rw [HE.out]
        exact ⟨rfl, hmb⟩
    · have hlt' : ¬ (i : Int) < (f.length : Int) := by omega
      have HE : Hid (z = R) := by
        show _ = _
        have h1 := HZ.out
        rw [List.take_of_length_le (by omega)] at h1
        rw [h1, HR.out]
      clear HZ HR
      go_wp2
      go_ret
      rw [HE.out]
      exact ⟨rfl, hmb⟩

theorem countX_any : ∀ (m : Nat) (x : GV), x.sz ≤ m → m ≤ 2000000 → CountX x
  | 0, x, h, _ => by have := x.sz_pos; omega
  | m + 1, .mk k b n t l f, h, hm => by
    have h1 : 1 + t.size + szL l + szF f ≤ m + 1 := by unfold GV.sz at h; exact h
    by_cases h4 : k = 4
    · subst h4
      exact countX_l b n t l f (by omega) (fun i hi => countX_any m _ (by have := szL_get l i hi; omega) (by omega))
    · by_cases h5 : k = 5
      · subst h5
        exact countX_f b n t l f (by omega) (fun i hi => countX_any m _ (by have := szF_get f i hi; omega) (by omega))
      · exact countX_small k b n t l f ⟨h4, h5⟩
end Dc
end Go.Proofs.YtiakidomcjpdhaaGreatDoor

namespace Go.Proofs.YtiakidomcjpdhaaGreatDoor
open Go.RowKit
namespace Dc
open Pu Pt SndW

mutual
/-- What a value's kind does not use is empty, at every depth. -/
def ClV : GV → Prop
  | .mk k _ _ _ l f => (k ≠ 4 → l = []) ∧ (k ≠ 5 → f = []) ∧ ClL l ∧ ClF f
def ClL : List GV → Prop
  | [] => True
  | x :: l => ClV x ∧ ClL l
def ClF : List (ByteArray × GV) → Prop
  | [] => True
  | x :: l => ClP x ∧ ClF l
def ClP : ByteArray × GV → Prop
  | (_, x) => ClV x
end
theorem ClL_all : ∀ {l : List GV}, ClL l ↔ ∀ x ∈ l, ClV x
  | [] => by simp [ClL]
  | x :: l => by
    rw [ClL, ClL_all (l := l)]
    simp
theorem ClF_all : ∀ {l : List (ByteArray × GV)}, ClF l ↔ ∀ x ∈ l, ClV x.2
  | [] => by simp [ClF]
  | (nm, x) :: l => by
    rw [ClF, ClP, ClF_all (l := l)]
    simp
theorem cl_elems {σ : Type} {s : ByteArray} {one : σ → Nat → Except (Nat × Nat) (σ × Nat)} {close : Nat} {I : σ → Prop} (h1 : ∀ st p st' q, I st → one st p = .ok (st', q) → I st') : ∀ (f : Nat) (st : σ) (p : Nat) (st' : σ) (q : Nat), I st → elemsF s one close f st p = .ok (st', q) → I st'
  | 0, _, _, _, _, _, h => by
    unfold elemsF at h
    cases h
  | f + 1, st, p, st', q, hI, h => by
    unfold elemsF at h
    generalize hr : one st p = r at h
    cases r with
    | error x => cases h
    | ok y =>
      obtain ⟨st2, q2⟩ := y
      have hI2 := h1 _ _ _ _ hI hr
      simp only at h
      split at h
      · injection h with h
        injection h with e1 e2
        subst e1
        exact hI2
      · split at h
        · exact cl_elems h1 f _ _ _ _ hI2 h
        · cases h
theorem cl_bracket {σ : Type} {s : ByteArray} {one : σ → Nat → Except (Nat × Nat) (σ × Nat)} {close : Nat} {I : σ → Prop} (h1 : ∀ st p st' q, I st → one st p = .ok (st', q) → I st') {st : σ} {p : Nat} {st' : σ} {q : Nat} (hI : I st) (h : bracketS s one close st p = .ok (st', q)) : I st' := by
  unfold bracketS at h
  split at h
  · injection h with h
    injection h with e1 e2
    subst e1
    exact hI
  · exact cl_elems h1 _ _ _ _ _ hI h
theorem cl_list {s : ByteArray} {val : Nat → Except (Nat × Nat) (GV × Nat)} (hv : ∀ p x q, val p = .ok (x, q) → ClV x) {p : Nat} {x : GV} {q : Nat} (h : listS s val p = .ok (x, q)) : ClV x := by
  unfold listS at h
  generalize hr : bracketS s (oneL val) 93 [] p = r at h
  cases r with
  | error y => cases h
  | ok y =>
    obtain ⟨l, q2⟩ := y
    injection h with h
    injection h with e1 e2
    subst e1
    have hl : ∀ x ∈ l, ClV x := cl_bracket (I := fun l => ∀ x ∈ l, ClV x) (fun st p st' q hI h => by
      unfold oneL at h
      generalize hr2 : val p = r2 at h
      cases r2 with
      | error y => cases h
      | ok y =>
        obtain ⟨x, q3⟩ := y
        injection h with h
        injection h with e1 e2
        subst e1
        intro z hz
        rcases List.mem_append.1 hz with hz | hz
        · exact hI z hz
        · obtain rfl : z = x := by simpa using hz
          exact hv _ _ _ hr2) (fun x hx => by cases hx) hr
    unfold ClV
    exact ⟨fun h => absurd rfl h, fun _ => rfl, ClL_all.2 hl, by unfold ClF; trivial⟩
theorem cl_obj {s : ByteArray} {bad : Int} {val : Nat → Except (Nat × Nat) (GV × Nat)} (hv : ∀ p x q, val p = .ok (x, q) → ClV x) {p : Nat} {x : GV} {q : Nat} (h : objS s bad val p = .ok (x, q)) : ClV x := by
  unfold objS at h
  generalize hr : bracketS s (oneF s bad val) 125 [] p = r at h
  cases r with
  | error y => cases h
  | ok y =>
    obtain ⟨l, q2⟩ := y
    injection h with h
    injection h with e1 e2
    subst e1
    have hl : ∀ x ∈ l, ClV x.2 := cl_bracket (I := fun l : List (ByteArray × GV) => ∀ x ∈ l, ClV x.2) (fun st p st' q hI h => by
      unfold oneF at h
      generalize hr2 : quotedS s bad p = r2 at h
      cases r2 with
      | error y => cases h
      | ok y =>
        obtain ⟨cs, q3⟩ := y
        simp only at h
        split at h
        · cases h
        split at h
        · generalize hr4 : val (bl s (bl s q3 + 1)) = r4 at h
          cases r4 with
          | error y => cases h
          | ok y =>
            obtain ⟨x, q5⟩ := y
            injection h with h
            injection h with e1 e2
            subst e1
            intro z hz
            rcases List.mem_append.1 hz with hz | hz
            · exact hI z hz
            · obtain rfl : z = (txt cs, x) := by simpa using hz
              exact hv _ _ _ hr4
        · cases h) (fun x hx => by cases hx) hr
    unfold ClV
    exact ⟨fun _ => rfl, fun h => absurd rfl h, by unfold ClL; trivial, ClF_all.2 hl⟩
theorem cl_small (k : Int) (b : Bool) (n : Int) (t : ByteArray) : ClV (.mk k b n t [] []) := by
  unfold ClV
  exact ⟨fun _ => rfl, fun _ => rfl, by unfold ClL; trivial, by unfold ClF; trivial⟩
theorem cl_valC {s : ByteArray} {bad : Int} {lst obj : Nat → Except (Nat × Nat) (GV × Nat)} (hl : ∀ p x q, lst p = .ok (x, q) → ClV x) (ho : ∀ p x q, obj p = .ok (x, q) → ClV x) {p : Nat} {x : GV} {q : Nat} (h : valC s bad lst obj p = .ok (x, q)) : ClV x := by
  have hw : ∀ (r : Except (Nat × Nat) Nat) (v : GV), ClV v → (match r with | .error x => .error x | .ok q => .ok (v, q) : Except (Nat × Nat) (GV × Nat)) = .ok (x, q) → ClV x := fun r v hv h => by
    cases r with
    | error y => cases h
    | ok y =>
      injection h with h
      injection h with e1 e2
      subst e1
      exact hv
  unfold valC at h
  split at h
  · exact hw _ _ (cl_small _ _ _ _) h
  split at h
  · exact hw _ _ (cl_small _ _ _ _) h
  split at h
  · exact hw _ _ (cl_small _ _ _ _) h
  split at h
  · generalize hr : quotedS s bad p = r at h
    cases r with
    | error y => cases h
    | ok y =>
      injection h with h
      injection h with e1 e2
      subst e1
      exact cl_small _ _ _ _
  split at h
  · exact hl _ _ _ h
  split at h
  · exact ho _ _ _ h
  split at h
  · generalize hr : numberS s p = r at h
    cases r with
    | error y => cases h
    | ok y =>
      injection h with h
      injection h with e1 e2
      subst e1
      exact cl_small _ _ _ _
  · cases h
theorem cl_val {s : ByteArray} {bad : Int} : ∀ (k : Nat) (p : Nat) (x : GV) (q : Nat), valS s bad k p = .ok (x, q) → ClV x
  | 0, p, x, q, h => by
    unfold valS at h
    exact cl_valC (fun _ _ _ h => by cases h) (fun _ _ _ h => by cases h) h
  | k + 1, p, x, q, h => by
    unfold valS at h
    exact cl_valC (fun _ _ _ h => cl_list (cl_val k) h) (fun _ _ _ h => cl_obj (cl_val k) h) h
theorem cl_parse {s : ByteArray} {x : GV} (h : parseS s = .ok x) : ClV x := by
  unfold parseS at h
  generalize hr : valS s (badAt s 0) 32 (bl s 0) = r at h
  cases r with
  | error y => cases h
  | ok y =>
    obtain ⟨z, q⟩ := y
    simp only at h
    split at h
    · cases h
    · injection h with h
      subst h
      exact cl_val 32 _ _ _ hr
theorem cl_ok : ∀ (m : Nat) (x : GV) (d : Int), x.sz ≤ m → sndV x d = true → ClV x → okV x
  | 0, x, _, h, _, _ => by have := GV.sz_pos x; omega
  | m + 1, .mk k b n t l f, d, h, hs, hc => by
    have hz : 1 + t.size + szL l + szF f ≤ m + 1 := by simpa [GV.sz] using h
    unfold ClV at hc
    obtain ⟨c1, c2, c3, c4⟩ := hc
    unfold okV
    refine ⟨fun hk => ?_, ?_, ?_⟩
    · subst hk
      have : n ≤ 9007199254740991 ∧ -9007199254740991 ≤ n := by simpa [sndV] using hs
      omega
    · by_cases hk : k = 4
      · subst hk
        have hs' : sndL l (d - 1) = true := by simp [sndV] at hs; exact hs.1
        rw [okL_all]
        intro p hp
        have hc' := ClL_all.1 c3 p hp
        obtain ⟨i, hi, rfl⟩ := List.mem_iff_getElem.1 hp
        exact cl_ok m _ (d - 1) (by have := szL_get l i hi; omega) (sndL_get.1 hs' i hi) hc'
      · rw [c1 hk]
        unfold okL
        trivial
    · by_cases hk : k = 5
      · subst hk
        have hs' : sndF f (d - 1) = true := by simp [sndV] at hs; exact hs.1.1
        rw [okF_all]
        intro p hp
        have hc' := ClF_all.1 c4 p hp
        obtain ⟨i, hi, rfl⟩ := List.mem_iff_getElem.1 hp
        exact cl_ok m _ (d - 1) (by have := szF_get f i hi; omega) (sndF_get.1 hs' i hi).2 hc'
      · rw [c2 hk]
        unfold okF
        trivial
/-- A text is canonical. -/
def IsT (s : ByteArray) : Prop := ∃ x, parseS s = .ok x ∧ Good x ∧ (⟨(txV (nfV x)).toArray⟩ : ByteArray) = s
set_option maxRecDepth 20000 in
set_option maxHeartbeats 2000000 in
theorem is_any (s : ByteArray) (hs : s.size ≤ 65536) (w : World) (h6 : 6 ≤ w.heap.size) (hP : Pow10 w) (hT : Tabs w) : Calls Tryz.prog 21 #[.string s] w fun e w' => Says' (IsT s) e ∧ Below w.heap.size w w' := by
  have k25 := parse_any s w hT h6 hs
  cases hp : parseS s with
  | error x =>
    obtain ⟨q, c⟩ := x
    have HN : Hid (Says' (IsT s) (.returned (.bool false))) := Says'.of ⟨fun h => (by cases h), fun ⟨x, h1, _⟩ => by rw [hp] at h1; cases h1⟩
    have q25 : Calls Tryz.prog 25 #[.string s] w fun e w' => ∃ b, e = .returned (.tuple #[.agg #[.int .i64 0, .bool false, .int .i64 0, .string ⟨#[]⟩, .slice none 0 0, .slice none 0 0], .iface 73 (.pointer (some ⟨b, 0, none⟩))]) ∧ Below w.heap.size w w' := by
      refine k25.mono ?_
      rintro e w' ⟨h1, h2⟩
      rw [hp] at h2
      obtain ⟨b, h3, _⟩ := h2
      exact ⟨b, h3, h1⟩
    clear k25 hp hP hT
    go_enter Tryz.func21, Tryz.ntmps21
    go_wp2_with (go_at_call 25; refine q25.mono ?_; rintro e w1 ⟨b, rfl, h1⟩)
    go_ret
    exact ⟨HN.out, h1.alloc h1.size _⟩
  | ok x =>
    have hsz : x.sz ≤ 2000000 := by have := sz_parse hp; omega
    have hok : okV x := cl_ok _ x 32 (Nat.le_refl _) (snd_parse hp) (cl_parse hp)
    have q25 : Calls Tryz.prog 25 #[.string s] w fun e w' => ∃ (k : Int) (b : Bool) (n : Int) (t : ByteArray) (a1 : Option Addr) (l1 c1 : Nat) (a2 : Option Addr) (l2 c2 : Nat), e = .returned (.tuple #[.agg #[.int .i64 k, .bool b, .int .i64 n, .string t, .slice a1 l1 c1, .slice a2 l2 c2], .nilIface]) ∧ Hid (LaidV w' (fun b => w.heap.size ≤ b) x [.int .i64 k, .bool b, .int .i64 n, .string t, .slice a1 l1 c1, .slice a2 l2 c2]) ∧ Below w.heap.size w w' := by
      refine k25.mono ?_
      rintro e w' ⟨h1, h2⟩
      rw [hp] at h2
      obtain ⟨k, b, n, t, a1, l1, c1, a2, l2, c2, h3, h4⟩ := h2
      exact ⟨k, b, n, t, a1, l1, c1, a2, l2, c2, h3, h4, h1⟩
    obtain ⟨A, hA⟩ : ∃ A : ByteArray, ⟨(txV (nfV x)).toArray⟩ = A := ⟨_, rfl⟩
    have HY : Hid (Good x → Says' (IsT s) (.returned (.bool (A.toList == s.toList)))) := fun hG => Says'.of (by
      constructor
      · intro h
        refine ⟨x, hp, hG, ?_⟩
        rw [beq_iff_eq, Lib.toList_data, Lib.toList_data] at h
        rw [hA]
        exact EncW.bytes_ext h
      · rintro ⟨y, h1, _, h3⟩
        rw [hp] at h1
        injection h1 with h1
        subst h1
        rw [hA] at h3
        rw [h3]
        simp)
    have HN : Hid (∀ c, Bad x c → Says' (IsT s) (.returned (.bool false))) := fun c hB => Says'.of ⟨fun h => (by cases h), fun ⟨y, h1, h2, _⟩ => by
      rw [hp] at h1
      injection h1 with h1
      subst h1
      exact (good_bad h2 hB).elim⟩
    have k11 : ∀ (w1 : World) (k : Int) (b : Bool) (n : Int) (t : ByteArray) (a1 : Option Addr) (l1 c1 : Nat) (a2 : Option Addr) (l2 c2 : Nat), LaidV w1 (fun b => w.heap.size ≤ b) x [.int .i64 k, .bool b, .int .i64 n, .string t, .slice a1 l1 c1, .slice a2 l2 c2] → Below w.heap.size w w1 → Calls Tryz.prog 11 #[.agg #[.int .i64 k, .bool b, .int .i64 n, .string t, .slice a1 l1 c1, .slice a2 l2 c2]] (w1.alloc (.cells #[.int .i64 k, .bool b, .int .i64 n, .string t, .slice a1 l1 c1, .slice a2 l2 c2] 25)) fun e w' => (∃ c, e = .returned (.tuple #[.string ⟨#[]⟩, .iface 31 (.int .i64 c)]) ∧ Hid (Bad x c) ∧ Below w.heap.size w w') ∨ (e = .returned (.tuple #[.string A, .nilIface]) ∧ Hid (Good x) ∧ Below w.heap.size w w') := by
      intro w1 k b n t a1 l1 c1 a2 l2 c2 hl h1
      have h2 := h1.alloc h1.size (.cells #[.int .i64 k, .bool b, .int .i64 n, .string t, .slice a1 l1 c1, .slice a2 l2 c2] 25)
      refine (write_two x hsz hok _ (fun b => w.heap.size ≤ b) #[.int .i64 k, .bool b, .int .i64 n, .string t, .slice a1 l1 c1, .slice a2 l2 c2] (by have := h2.size; omega) (hP.of (h2.block 0 (by omega)) (h2.block 4 (by omega))) (hT.of (h2.block 1 (by omega)) (h2.block 2 (by omega))) (hl.conv (fun b hb hl => ⟨hb, Below.heap_alloc _ _ _ hl⟩)) _ (Below.refl _ _)).mono ?_
      rintro e w' (⟨c, h3, h4, h5⟩ | ⟨h3, h4, h5⟩)
      · exact .inl ⟨c, h3, h4, h2.trans (h5.mono h2.size)⟩
      · rw [hA] at h3
        exact .inr ⟨h3, h4, h2.trans (h5.mono h2.size)⟩
    clear k25 hp hP hT hsz hok hA
    go_enter Tryz.func21, Tryz.ntmps21
    go_wp2_with (first
      | (go_at_call 25; refine q25.mono ?_; rintro e w1 ⟨k, b, n, t, a1, l1, c1, a2, l2, c2, rfl, HL, h1⟩; have q11 := k11 w1 k b n t a1 l1 c1 a2 l2 c2 HL.out h1; clear k11)
      | (go_at_call 11; refine q11.mono ?_; rintro e w2 (⟨c, rfl, HB, h2⟩ | ⟨rfl, HB, h2⟩)))
    · go_ret
      exact ⟨HN.out c HB.out, h2⟩
    · go_ret
      exact ⟨HY.out HB.out, h2⟩
end Dc
end Go.Proofs.YtiakidomcjpdhaaGreatDoor

namespace Go.Proofs.YtiakidomcjpdhaaGreatDoor
open Go.RowKit
namespace Dc
open RefW

theorem own_keptX {w w' : World} {base : Nat} {e : TypeId} {size : Nat} {v : Value} {n : Nat} {xs : List Value} (h : w.ownsRow base e size v n xs) (f : Below w.heap.size w w') : w'.ownsRow base e size v n xs := RefW.own_kept h f
theorem cmpL_drop {xs ys : List Nat} {i : Nat} (hx : i < xs.length) (hy : i < ys.length) : cmpL (xs.drop i) (ys.drop i) = if xs[i] < ys[i] then -1 else if ys[i] < xs[i] then 1 else cmpL (xs.drop (i + 1)) (ys.drop (i + 1)) := by
  rw [List.drop_eq_getElem_cons hx, List.drop_eq_getElem_cons hy, cmpL]
/-- A slice of numbers that were laid: each reads so. -/
theorem nums_get {w : World} {B : Nat} {v : Value} {xs : List Nat} (h : w.ownsRow B 3 1 v xs.length (nums xs)) : ∃ a c, v = .slice a xs.length c ∧ ∀ i (hi : i < xs.length), ∃ g off, a = some ⟨g, off, none⟩ ∧ w.cell? ⟨g, off + i, none⟩ = some (.int .i64 (xs[i] : Int)) := by
  obtain ⟨a, c, rfl⟩ := own_form h
  refine ⟨a, c, rfl, fun i hi => ?_⟩
  rcases (slAt_of_own h).2 with ⟨_, _, _, h0⟩ | ⟨g, off, cap, e, _, _, hc⟩
  · omega
  · injection e with e1
    subst e1
    refine ⟨g, off, rfl, ?_⟩
    rw [hc i (by omega)]
    unfold nums
    simp [hi]
theorem pts_len : ∀ (n : Nat) (s : ByteArray) (pos : Nat), s.size ≤ pos + n → (ptsAt s pos).length ≤ s.size - pos
  | 0, s, pos, h => by rw [ptsAt_end s pos (by omega)]; simp
  | n + 1, s, pos, h => by
    by_cases hp : pos < s.size
    · have h1 := Lib.decode_width_pos s pos hp
      have h2 := pts_len n s (pos + (Utf8.decode s pos).2) (by omega)
      rw [ptsAt_next s pos hp, List.length_cons]
      omega
    · rw [ptsAt_end s pos hp]; simp
set_option maxRecDepth 20000 in
set_option maxHeartbeats 4000000 in
theorem cmpR_any (a b : ByteArray) (w : World) (ha : a.size ≤ 17592186044416) (hb : b.size ≤ 17592186044416) (h1 : badAt a 0 = -1) (h2 : badAt b 0 = -1) :
    Calls Tryz.prog 56 #[.string a, .string b] w fun e w' => e = .returned (.int .i64 (cmpL (ptsAt a 0) (ptsAt b 0))) ∧ Below w.heap.size w w' := by
  have ca : Calls Tryz.prog 78 #[.string a] w fun e w' => ∃ v m, e = .returned (.tuple #[v, m]) ∧ Hid (w'.ownsRow w.heap.size 3 1 v (ptsAt a 0).length (nums (ptsAt a 0))) ∧ Below w.heap.size w w' := by
    refine (points_any a w ha).mono ?_
    rintro e w' ⟨v, n, xs, h3, h4, h5, h6⟩
    obtain ⟨rfl, rfl⟩ := h6 h1
    exact ⟨v, _, h3, h4, h5⟩
  have cb : ∀ W, Calls Tryz.prog 78 #[.string b] W fun e w' => ∃ v m, e = .returned (.tuple #[v, m]) ∧ Hid (w'.ownsRow W.heap.size 3 1 v (ptsAt b 0).length (nums (ptsAt b 0))) ∧ Below W.heap.size W w' := by
    intro W
    refine (points_any b W hb).mono ?_
    rintro e w' ⟨v, n, xs, h3, h4, h5, h6⟩
    obtain ⟨rfl, rfl⟩ := h6 h2
    exact ⟨v, _, h3, h4, h5⟩
  obtain ⟨xs, hxs⟩ : ∃ xs, ptsAt a 0 = xs := ⟨_, rfl⟩
  obtain ⟨ys, hys⟩ : ∃ ys, ptsAt b 0 = ys := ⟨_, rfl⟩
  rw [hxs] at ca
  simp only [hys] at cb
  rw [hxs, hys]
  have HX : Hid (xs.length ≤ a.size) := by show _ ≤ _; have := pts_len a.size a 0 (by omega); rw [hxs] at this; omega
  have HY : Hid (ys.length ≤ b.size) := by show _ ≤ _; have := pts_len b.size b 0 (by omega); rw [hys] at this; omega
  have hxl : (xs.length : Int) ≤ 17592186044416 := by have := HX.out; omega
  have hyl : (ys.length : Int) ≤ 17592186044416 := by have := HY.out; omega
  clear hxs hys h1 h2 HX HY
  obtain ⟨V, hV⟩ : ∃ V, cmpL xs ys = V := ⟨_, rfl⟩
  have H0 : Hid (cmpL (xs.drop 0) (ys.drop 0) = V) := hV
  rw [hV]
  clear hV
  go_enter Tryz.func56, Tryz.ntmps56
  go_wp2_with (first
    | (go_at_call 78; refine (cb w1).mono ?_; rintro e w2 ⟨v2, m2, rfl, HB, hb2⟩)
    | (go_at_call 78; refine ca.mono ?_; rintro e w1 ⟨v1, m1, rfl, HA, hb1⟩))
  have hbb : Below w.heap.size w w2 := hb1.trans (hb2.mono hb1.size)
  obtain ⟨a1, c1, rfl, hx⟩ := nums_get (Dc.own_keptX HA.out hb2)
  obtain ⟨a2, c2, rfl, hy⟩ := nums_get HB.out
  clear HA HB ca cb hb1 hb2
  have HGX : Hid (∀ i (hi : i < xs.length), ∃ g off, a1 = some ⟨g, off, none⟩ ∧ w2.cell? ⟨g, off + i, none⟩ = some (.int .i64 (xs[i] : Int))) := hx
  have HGY : Hid (∀ i (hi : i < ys.length), ∃ g off, a2 = some ⟨g, off, none⟩ ∧ w2.cell? ⟨g, off + i, none⟩ = some (.int .i64 (ys[i] : Int))) := hy
  clear hx hy
  go_loopw [9] (fun u w' => ∃ (i m : Nat), u = .int .i64 (i : Int) ∧ i ≤ xs.length ∧ i ≤ ys.length ∧ Hid (cmpL (xs.drop i) (ys.drop i) = V) ∧ w' = w2.drewN m) (fun u _ => xs.length - numF u)
  case atStart => exact ⟨0, 0, rfl, Nat.zero_le _, Nat.zero_le _, H0, rfl⟩
  case round =>
    obtain ⟨i, m, rfl, hix, hiy, HI, rfl⟩ := hrel
    clear H0
    by_cases hlx : i < xs.length
    · have hlx' : (i : Int) < (xs.length : Int) := by omega
      by_cases hly : i < ys.length
      · have hly' : (i : Int) < (ys.length : Int) := by omega
        obtain ⟨g, off, rfl, e1⟩ := HGX.out i hlx
        obtain ⟨g', off', rfl, e2⟩ := HGY.out i hly
        have HD := cmpL_drop hlx hly
        rw [HI.out] at HD
        obtain ⟨X, hX⟩ : ∃ X, xs[i] = X := ⟨_, rfl⟩
        obtain ⟨Y, hY⟩ : ∃ Y, ys[i] = Y := ⟨_, rfl⟩
        rw [hX] at e1 HD
        rw [hY] at e2 HD
        have HDD : Hid (V = if X < Y then -1 else if Y < X then 1 else cmpL (xs.drop (i + 1)) (ys.drop (i + 1))) := HD
        clear HD HI hX hY
        by_cases h1 : X < Y
        · have h1' : (X : Int) < (Y : Int) := by omega
          have HV : Hid (V = -1) := by show _ = _; rw [HDD.out, if_pos h1]
          clear HDD
          go_wp2
          go_quiet (fail)
          go_wp2
          go_ret
          rw [HV.out]
          exact ⟨rfl, below_drewN (below_drewN hbb _) _⟩
        · have h1' : ¬ (X : Int) < (Y : Int) := by omega
          by_cases h2 : Y < X
          · have h2' : (Y : Int) < (X : Int) := by omega
            have HV : Hid (V = 1) := by show _ = _; rw [HDD.out, if_neg h1, if_pos h2]
            clear HDD
            go_wp2
            go_quiet (fail)
            go_wp2
            go_quiet (fail)
            go_wp2
            go_ret
            rw [HV.out]
            exact ⟨rfl, below_drewN (below_drewN (below_drewN hbb _) _) _⟩
          · have h2' : ¬ (Y : Int) < (X : Int) := by omega
            have HV : Hid (cmpL (xs.drop (i + 1)) (ys.drop (i + 1)) = V) := by show _ = _; rw [HDD.out, if_neg h1, if_neg h2]
            clear HDD
            go_wp2
            go_quiet (fail)
            go_wp2
            go_quiet (fail)
            go_wp2
            go_roundw
            case rel => exact ⟨i + 1, _, by simp, hlx, hly, HV, rfl⟩
            case measure => simp [numF]; omega
      · have hly' : ¬ (i : Int) < (ys.length : Int) := by omega
        have hxy : ¬ (xs.length : Int) < (ys.length : Int) := by omega
        have hyx : (ys.length : Int) < (xs.length : Int) := by omega
        have HV : Hid (V = 1) := by
          show _ = _
          rw [← HI.out, List.drop_eq_getElem_cons hlx, List.drop_of_length_le (l := ys) (by omega)]
          rfl
        clear HI
        go_wp2
        go_ret
        rw [HV.out]
        exact ⟨rfl, below_drewN hbb _⟩
    · have hlx' : ¬ (i : Int) < (xs.length : Int) := by omega
      by_cases hly : i < ys.length
      · have hxy : (xs.length : Int) < (ys.length : Int) := by omega
        have HV : Hid (V = -1) := by
          show _ = _
          rw [← HI.out, List.drop_eq_getElem_cons hly, List.drop_of_length_le (l := xs) (by omega)]
          rfl
        clear HI
        go_wp2
        go_ret
        rw [HV.out]
        exact ⟨rfl, below_drewN hbb _⟩
      · have hxy : ¬ (xs.length : Int) < (ys.length : Int) := by omega
        have hyx : ¬ (ys.length : Int) < (xs.length : Int) := by omega
        have HV : Hid (V = 0) := by
          show _ = _
          rw [← HI.out, List.drop_of_length_le (by omega), List.drop_of_length_le (by omega)]
          rfl
        clear HI
        go_wp2
        go_ret
        rw [HV.out]
        exact ⟨rfl, below_drewN hbb _⟩
end Dc
end Go.Proofs.YtiakidomcjpdhaaGreatDoor

namespace Go.Proofs.YtiakidomcjpdhaaGreatDoor
open Go.RowKit
namespace Dc
open Pu Pt

theorem txL_sum : ∀ (l : List GV) (fi : Bool), (txL l fi).length = (l.map fun x => (txV x).length).sum + (if fi = true then l.length - 1 else l.length)
  | [], fi => by cases fi <;> simp [txL]
  | x :: l, fi => by
    rw [txL, List.length_append, List.length_append, txL_sum l false]
    cases fi
    · simp
      omega
    · simp
      omega
theorem txF_sum : ∀ (l : List (ByteArray × GV)) (fi : Bool), (txF l fi).length = (l.map fun x => (txP x).length).sum + (if fi = true then l.length - 1 else l.length)
  | [], fi => by cases fi <;> simp [txF]
  | x :: l, fi => by
    rw [txF, List.length_append, List.length_append, txF_sum l false]
    cases fi
    · simp
      omega
    · simp
      omega
theorem map_same {α : Type} (g h : α → Nat) (l : List α) (hl : ∀ x ∈ l, g x = h x) : (l.map g).sum = (l.map h).sum := by
  rw [List.map_congr_left hl]
theorem nf_len : ∀ (m : Nat) (x : GV), x.sz ≤ m → (txV (nfV x)).length = (txV x).length
  | 0, x, h => by have := GV.sz_pos x; omega
  | m + 1, .mk k b n t l f, h => by
    have hs : 1 + t.size + szL l + szF f ≤ m + 1 := by simpa [GV.sz] using h
    have hl : (txL (nfL l) true).length = (txL l true).length := by
      rw [txL_sum, txL_sum, nfL_map, List.map_map, List.length_map]
      rw [map_same (((fun x => (txV x).length) ∘ nfV)) (fun x => (txV x).length) l (fun x hx => by
        obtain ⟨i, hi, rfl⟩ := List.mem_iff_getElem.1 hx
        exact nf_len m _ (by have := szL_get l i hi; omega))]
    have hf : (txF (srt (nfF f)) true).length = (txF f true).length := by
      rw [txF_sum, txF_sum, ((srt_perm (nfF f)).map _).sum_nat, (srt_perm (nfF f)).length_eq, nfF_map, List.map_map, List.length_map]
      rw [map_same _ (fun x => (txP x).length) f (fun x hx => by
        obtain ⟨i, hi, rfl⟩ := List.mem_iff_getElem.1 hx
        have h1 := nf_len m (f[i]).2 (by have := szF_get f i hi; omega)
        show (txP ((f[i]).1, nfV (f[i]).2)).length = (txP ((f[i]).1, (f[i]).2)).length
        rw [txP, txP]
        simp only [List.length_append, h1])]
    rw [nfV, txV, txV]
    by_cases k0 : k = 0
    · simp [k0]
    by_cases k1 : k = 1
    · simp [k1]
    by_cases k2 : k = 2
    · simp [k2]
    by_cases k3 : k = 3
    · simp [k3]
    by_cases k4 : k = 4
    · simp [k4, hl]
    by_cases k5 : k = 5
    · simp [k5, hf]
    simp [k0, k1, k2, k3, k4, k5]
end Dc
end Go.Proofs.YtiakidomcjpdhaaGreatDoor
