/- What coveylaw02.sound answers at every value of bounded size: a contract, by induction, and by walking its text. -/
import Derived.Test.YtehpdklnebognaaDoorCpA
import Derived.Test.YtehpdklnebognaaDoorSdp
import Derived.Test.YtehpdklnebognaaDoorRefD
namespace Go.Proofs.YtehpdklnebognaaDoor
open Go.RowKit
namespace SndW
open RefW EncW

theorem sndL_get : ∀ {l : List GV} {d : Int}, sndL l d = true ↔ ∀ i (h : i < l.length), sndV l[i] d = true
  | [], d => by simp [sndL]
  | x :: l, d => by
    simp only [sndL, Bool.and_eq_true]
    rw [sndL_get (l := l)]
    constructor
    · rintro ⟨h0, h1⟩ i h
      match i, h with
      | 0, _ => exact h0
      | i + 1, h => exact h1 i (by simpa using h)
    · intro h
      exact ⟨h 0 (by simp), fun i hi => h (i + 1) (by simpa using hi)⟩
theorem sndF_get : ∀ {l : List (ByteArray × GV)} {d : Int}, sndF l d = true ↔ ∀ i (h : i < l.length), badAt (l[i]).1 0 < 0 ∧ sndV (l[i]).2 d = true
  | [], d => by simp [sndF]
  | (nm, x) :: l, d => by
    simp only [sndF, sndP, Bool.and_eq_true, decide_eq_true_eq]
    rw [sndF_get (l := l)]
    constructor
    · rintro ⟨h0, h1⟩ i h
      match i, h with
      | 0, _ => exact h0
      | i + 1, h => exact h1 i (by simpa using h)
    · intro h
      exact ⟨h 0 (by simp), fun i hi => h (i + 1) (by simpa using hi)⟩
theorem names_get {l : List (ByteArray × GV)} : (l.map (·.1)).Nodup ↔ ∀ i j (hi : i < l.length) (hj : j < l.length), i < j → (l[i]).1 ≠ (l[j]).1 := by
  unfold List.Nodup
  rw [List.pairwise_iff_getElem]
  constructor
  · intro h i j hi hj hij
    have := h i j (by simpa using hi) (by simpa using hj) hij
    simpa using this
  · intro h i j hi hj hij
    simpa using h i j (by simpa using hi) (by simpa using hj) hij

/-- What is asked of sound at one value. -/
def SndAt (x : GV) : Prop := ∀ (d : Int) (w : World) (ok : Nat → Prop) (cs : Array Value), LaidV w ok x cs.toList → -9000000000000000000 + x.sz ≤ d → d ≤ 32 → Calls Tryd.prog 18 #[.agg cs, .int .i64 d] w fun e w' => e = .returned (.bool (sndV x d)) ∧ Below w.heap.size w w'

/-- The variable of sound, and that nothing old has turned. -/
structure OneAt (w : World) (c : Array Value) (w' : World) : Prop where
  v : w'.heap[w.heap.size]? = some (.cells c 26 (0, 0))
  b : Below w.heap.size w w'
  s : w.heap.size + 1 ≤ w'.heap.size
theorem OneAt.keep {w : World} {c : Array Value} {w1 w2 : World} (h : OneAt w c w1) (f : Below w1.heap.size w1 w2) : OneAt w c w2 :=
  ⟨(f.block _ (by have := h.s; omega)).trans h.v, h.b.trans (f.mono h.b.size), Nat.le_trans h.s f.size⟩
/-- The number in a slot. -/
def numOf : Value → Nat
  | .int _ n => n.toNat
  | _ => 0

set_option maxRecDepth 20000 in
set_option maxHeartbeats 4000000 in
theorem sound_small (k : Int) (b : Bool) (n : Int) (t : ByteArray) (l : List GV) (f : List (ByteArray × GV)) (hsz : (GV.mk k b n t l f).sz ≤ 2000000) (hk : k ≠ 4 ∧ k ≠ 5) : SndAt (.mk k b n t l f) := by
  intro d w ok cs hx hd hd2
  obtain ⟨a1, c1, a2, c2, xs, ys, hcs, hs1, hs2, hl1, hf1⟩ := hx.form
  obtain rfl : cs = #[.int .i64 k, .bool b, .int .i64 n, .string t, .slice a1 l.length c1, .slice a2 f.length c2] := by
    cases cs
    simpa using hcs
  have hts : t.size ≤ 17592186044416 := by unfold GV.sz at hsz; omega
  obtain ⟨V, hV⟩ : ∃ V, sndV (.mk k b n t l f) d = V := ⟨_, rfl⟩
  rw [hV]
  clear hcs hx hsz hs1 hs2 hl1 hf1 hd hd2
  obtain ⟨C, hC⟩ : ∃ C : Array Value, C = #[.int .i64 k, .bool b, .int .i64 n, .string t, .slice a1 l.length c1, .slice a2 f.length c2] := ⟨_, rfl⟩
  have hv0 : (w.alloc (.cells C 26)).heap[w.heap.size]? = some (.cells C 26 (0, 0)) := heap_alloc_new _ _
  rw [hC] at hv0
  obtain ⟨x0, x1, x2, x3, x4, x5⟩ := box6 hv0
  clear hv0 hC C
  have hb0 : Below w.heap.size w (w.alloc (.cells #[.int .i64 k, .bool b, .int .i64 n, .string t, .slice a1 l.length c1, .slice a2 f.length c2] 26)) := (Below.refl _ _).alloc (Nat.le_refl _) _
  by_cases h0 : k = 0
  · subst h0
    have HE : V = true := by rw [← hV]; simp [sndV]
    subst HE
    clear hV
    go_enter Tryd.func18, Tryd.ntmps18
    go_wp2
    go_ret
    exact ⟨rfl, hb0⟩
  by_cases h1 : k = 1
  · subst h1
    have HE : V = true := by rw [← hV]; simp [sndV]
    subst HE
    clear hV
    go_enter Tryd.func18, Tryd.ntmps18
    go_wp2
    go_ret
    exact ⟨rfl, hb0⟩
  by_cases h2 : k = 2
  · subst h2
    have HE : Hid ((decide (n ≤ 9007199254740991) && decide (-9007199254740991 ≤ n)) = V) := by show _ = _; rw [← hV]; simp [sndV]
    clear hV
    by_cases g1 : n ≤ 9007199254740991
    · by_cases g2 : -9007199254740991 ≤ n
      · have HF : V = true := by rw [← HE.out]; simp [g1, g2]
        subst HF
        clear HE
        go_enter Tryd.func18, Tryd.ntmps18
        go_wp2
        go_ret
        exact ⟨rfl, hb0⟩
      · have HF : V = false := by rw [← HE.out]; simp [g2]
        subst HF
        clear HE
        go_enter Tryd.func18, Tryd.ntmps18
        go_wp2
        go_ret
        exact ⟨rfl, hb0⟩
    · have HF : V = false := by rw [← HE.out]; simp [g1]
      subst HF
      clear HE
      go_enter Tryd.func18, Tryd.ntmps18
      go_wp2
      go_ret
      exact ⟨rfl, hb0⟩
  by_cases h3 : k = 3
  · subst h3
    have HE : Hid (decide (badAt t 0 < 0) = V) := by show _ = _; rw [← hV]; simp [sndV]
    clear hV
    have cB := fun W => Bad_any t W hts
    obtain ⟨N, hN⟩ : ∃ N, badAt t 0 = N := ⟨_, rfl⟩
    have hbd := badAt_bd t
    rw [hN] at HE hbd
    simp only [hN] at cB
    clear hN
    by_cases g : N < 0
    · have HF : V = true := by rw [← HE.out]; simp [g]
      subst HF
      clear HE
      go_enter Tryd.func18, Tryd.ntmps18
      go_wp2_with (go_at_call 33; refine (cB _).mono ?_; rintro e w1 ⟨rfl, hb1⟩)
      go_ret
      exact ⟨rfl, hb0.trans (hb1.mono (by simp))⟩
    · have HF : V = false := by rw [← HE.out]; simp [g]
      subst HF
      clear HE
      go_enter Tryd.func18, Tryd.ntmps18
      go_wp2_with (go_at_call 33; refine (cB _).mono ?_; rintro e w1 ⟨rfl, hb1⟩)
      go_ret
      exact ⟨ret_bool (decide_eq_false (by omega)), hb0.trans (hb1.mono (by simp))⟩
  · have k0 : (k == 0) = false := by simpa using h0
    have k1 : (k == 1) = false := by simpa using h1
    have k2 : (k == 2) = false := by simpa using h2
    have k3 : (k == 3) = false := by simpa using h3
    have k4 : (k == 4) = false := by simpa using hk.1
    have k5 : (k == 5) = false := by simpa using hk.2
    have HE : V = false := by rw [← hV]; simp [sndV, h0, h1, h2, h3, hk.1, hk.2]
    subst HE
    clear hV h0 h1 h2 h3 hk
    go_enter Tryd.func18, Tryd.ntmps18
    go_wp2
    go_ret
    exact ⟨rfl, hb0⟩

set_option maxRecDepth 20000 in
set_option maxHeartbeats 4000000 in
theorem sound_list (b : Bool) (n : Int) (t : ByteArray) (l : List GV) (f : List (ByteArray × GV)) (hsz : (GV.mk 4 b n t l f).sz ≤ 2000000) (hl : ∀ i (h : i < l.length), SndAt (l[i])) : SndAt (.mk 4 b n t l f) := by
  intro d w ok cs hx hd hd2
  obtain ⟨a1, c1, a2, c2, xs, ys, hcs, hs1, hs2, hl1, hf1⟩ := hx.form
  obtain rfl : cs = #[.int .i64 4, .bool b, .int .i64 n, .string t, .slice a1 l.length c1, .slice a2 f.length c2] := by
    cases cs
    simpa using hcs
  have hll : l.length ≤ 2000000 := by have := szL_len l; unfold GV.sz at hsz; omega
  have hsub : ∀ i (h : i < l.length), -9000000000000000000 + ((l[i]).sz : Int) ≤ d - 1 := fun i h => by have h9 := szL_get l i h; unfold GV.sz at hd; omega
  obtain ⟨V, hV⟩ : ∃ V, sndV (.mk 4 b n t l f) d = V := ⟨_, rfl⟩
  rw [hV]
  have HE : Hid ((sndL l (d - 1) && decide (0 < d)) = V) := by show _ = _; rw [← hV]; simp [sndV]
  have hdl : -9000000000000000000 ≤ d := by omega
  clear hcs hx hsz hs2 hf1 hd hV
  obtain ⟨C, hC⟩ : ∃ C : Array Value, C = #[.int .i64 4, .bool b, .int .i64 n, .string t, .slice a1 l.length c1, .slice a2 f.length c2] := ⟨_, rfl⟩
  have m0 : OneAt w C (w.alloc (.cells C 26)) := ⟨heap_alloc_new _ _, (Below.refl _ _).alloc (Nat.le_refl _) _, by simp⟩
  have x0 := (box6 (hC ▸ m0.v)).1
  rw [hC] at m0
  go_enter Tryd.func18, Tryd.ntmps18
  go_wp2
  clear x0
  go_loopw [5] (fun u w' => ∃ i : Nat, u = .int .i64 (i : Int) ∧ i ≤ l.length ∧ Hid (∀ j (h : j < l.length), j < i → sndV l[j] (d - 1) = true) ∧ OneAt w #[.int .i64 4, .bool b, .int .i64 n, .string t, .slice a1 l.length c1, .slice a2 f.length c2] w') (fun u _ => l.length - numOf u)
  case atStart => exact ⟨0, rfl, Nat.zero_le _, fun _ _ h => by omega, m0⟩
  case round =>
    obtain ⟨i, rfl, hil, HI, m⟩ := hrel
    have hmb := m.b
    have hms := m.s
    have x4 := (box6 m.v).2.2.2.2.1
    clear m0
    by_cases hlt : i < l.length
    · have hlt' : (i : Int) < (l.length : Int) := by omega
      obtain ⟨sb, off, es, ha1, hsb, hlv, hcell⟩ := SlAt.elem (hs1.conv (ok' := fun b => b < wr.heap.size) (w' := wr) (by decide) (fun b _ hb => ⟨Nat.lt_of_lt_of_le hb hmb.size, hmb.block b hb⟩)) (hl1.conv (fun b _ hb => ⟨Nat.lt_of_lt_of_le hb hmb.size, hmb.block b hb⟩)) i hlt
      have hcp := hl i hlt
      have hsu := hsub i hlt
      have HJ : Hid (∀ Y, sndV l[i] (d - 1) = Y → (Y = true → ∀ j (h : j < l.length), j < i + 1 → sndV l[j] (d - 1) = true) ∧ (Y = false → V = false)) := by
        intro Y hY
        constructor
        · rintro rfl j h hj
          by_cases hji : j = i
          · subst hji; exact hY
          · exact HI.out j h (by omega)
        · rintro rfl
          rw [← HE.out]
          have : sndL l (d - 1) = false := by
            cases hq : sndL l (d - 1) with
            | false => rfl
            | true => rw [sndL_get.1 hq i hlt] at hY; cases hY
          rw [this]; rfl
      obtain ⟨X, hX⟩ : ∃ X, l[i] = X := ⟨_, rfl⟩
      rw [hX] at hlv hcp hsu HJ
      cases hXc : X with
      | mk k' b' n' t' l' f' =>
      rw [hXc] at hlv
      obtain ⟨p1, q1, p2, q2, _, _, rfl, _⟩ := hlv.form
      rw [← hXc] at hlv
      subst ha1
      have e0 := hcell 0 (by decide)
      have e1 := hcell 1 (by decide)
      have e2 := hcell 2 (by decide)
      have e3 := hcell 3 (by decide)
      have e4 := hcell 4 (by decide)
      have e5 := hcell 5 (by decide)
      simp only [List.getElem?_cons_zero, List.getElem?_cons_succ, Nat.add_zero] at e0 e1 e2 e3 e4 e5
      have hcall := hcp (d - 1) wr (fun b => b < wr.heap.size) #[.int .i64 k', .bool b', .int .i64 n', .string t', .slice p1 l'.length q1, .slice p2 f'.length q2] hlv hsu (by omega)
      obtain ⟨Y, hY⟩ : ∃ Y, sndV X (d - 1) = Y := ⟨_, rfl⟩
      have HK := HJ.out Y hY
      rw [hY] at hcall
      clear hcell hXc hlv hcp hsu HJ hY hX
      cases Y with
      | true =>
        have HK1 := HK.1 rfl
        have HK2 : Hid (∀ j (h : j < l.length), j < i + 1 → sndV l[j] (d - 1) = true) := HK1
        clear HK HK1 HI
        go_wp2_with (go_at_call 18; refine hcall.mono ?_; rintro e w2 ⟨rfl, h2⟩)
        go_roundw
        case rel => exact ⟨i + 1, by simp, hlt, HK2, m.keep h2⟩
        case measure => simp [numOf]; omega
      | false =>
        have HK1 := HK.2 rfl
        subst HK1
        clear HK HI HE
        go_wp2_with (go_at_call 18; refine hcall.mono ?_; rintro e w2 ⟨rfl, h2⟩)
        go_ret
        exact ⟨rfl, (m.keep h2).b⟩
    · have hlt' : ¬ (i : Int) < (l.length : Int) := by omega
      have HF : Hid (decide (0 < d) = V) := by
        show _ = _
        rw [← HE.out, sndL_get.2 (fun j h => HI.out j h (by omega))]
        rfl
      clear HE HI
      go_wp2
      go_ret
      exact ⟨ret_bool HF.out, hmb⟩
end SndW
end Go.Proofs.YtehpdklnebognaaDoor
