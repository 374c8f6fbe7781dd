/- What coveylaw02.sound answers at an object, and so at every value of bounded size: a contract, by walking its text, and by induction. -/
import Derived.Test.YtehpdklnebognaaDoorSnd
namespace Go.Proofs.YtehpdklnebognaaDoor
open Go.RowKit
namespace SndW
open RefW EncW

theorem bytes_ne {a b : ByteArray} (h : a ≠ b) : (a.toList == b.toList) = false := by
  rw [beq_eq_false_iff_ne]
  intro e
  rw [Lib.toList_data, Lib.toList_data] at e
  exact h (bytes_ext e)

set_option maxRecDepth 20000 in
set_option maxHeartbeats 8000000 in
theorem sound_obj (b : Bool) (n : Int) (t : ByteArray) (l : List GV) (f : List (ByteArray × GV)) (hsz : (GV.mk 5 b n t l f).sz ≤ 2000000) (hf : ∀ i (h : i < f.length), SndAt (f[i]).2) : SndAt (.mk 5 b n t l f) := by
  intro d w ok cs hx hd hd2
  obtain ⟨a1, c1, a2, c2, xs, ys, hcs, hs1, hs2, hl1, hf1⟩ := hx.form
  obtain rfl : cs = #[.int .i64 5, .bool b, .int .i64 n, .string t, .slice a1 l.length c1, .slice a2 f.length c2] := by
    cases cs
    simpa using hcs
  have hfl : f.length ≤ 2000000 := by have := szF_len f; unfold GV.sz at hsz; omega
  have hsub : ∀ i (h : i < f.length), -9000000000000000000 + ((f[i]).2.sz : Int) ≤ d - 1 := fun i h => by have h9 := szF_get f i h; unfold GV.sz at hd; omega
  have hnm : ∀ i (h : i < f.length), (f[i]).1.size ≤ 17592186044416 := fun i h => by have h9 := szF_get f i h; unfold GV.sz at hsz; omega
  obtain ⟨V, hV⟩ : ∃ V, sndV (.mk 5 b n t l f) d = V := ⟨_, rfl⟩
  rw [hV]
  have HE : Hid ((sndF f (d - 1) && decide ((f.map (·.1)).Nodup) && decide (0 < d)) = V) := by show _ = _; rw [← hV]; simp [sndV]
  have hdl : -9000000000000000000 ≤ d := by omega
  clear hcs hx hsz hs1 hl1 hd hV
  obtain ⟨C, hC⟩ : ∃ C : Array Value, C = #[.int .i64 5, .bool b, .int .i64 n, .string t, .slice a1 l.length c1, .slice a2 f.length c2] := ⟨_, rfl⟩
  have m0 : OneAt w C (w.alloc (.cells C 26)) := ⟨heap_alloc_new _ _, (Below.refl _ _).alloc (Nat.le_refl _) _, by simp⟩
  have x0 := (box6 (hC ▸ m0.v)).1
  rw [hC] at m0
  go_enter Tryd.func18, Tryd.ntmps18
  go_wp2
  clear x0
  go_loopw [7] (fun u w' => ∃ i : Nat, u = .int .i64 (i : Int) ∧ i ≤ f.length ∧ Hid (∀ j (h : j < f.length), j < i → (badAt (f[j]).1 0 < 0 ∧ sndV (f[j]).2 (d - 1) = true) ∧ ∀ k (hk : k < f.length), k < j → (f[k]).1 ≠ (f[j]).1) ∧ OneAt w #[.int .i64 5, .bool b, .int .i64 n, .string t, .slice a1 l.length c1, .slice a2 f.length c2] w') (fun u _ => f.length - numOf u)
  case atStart => exact ⟨0, rfl, Nat.zero_le _, fun _ _ h => by omega, m0⟩
  case round =>
    obtain ⟨i, rfl, hil, HI, m⟩ := hrel
    have hmb := m.b
    have hms := m.s
    have x5 := (box6 m.v).2.2.2.2.2
    clear m0
    by_cases hlt : i < f.length
    · have hlt' : (i : Int) < (f.length : Int) := by omega
      obtain ⟨sb, off, es, ha2, hsb, hlv, hname, hcell⟩ := SlAt.field (hs2.conv (ok' := fun b => b < wr.heap.size) (w' := wr) (by decide) (fun b _ hb => ⟨Nat.lt_of_lt_of_le hb hmb.size, hmb.block b hb⟩)) (hf1.conv (fun b _ hb => ⟨Nat.lt_of_lt_of_le hb hmb.size, hmb.block b hb⟩)) i hlt
      have hnames : ∀ j (h : j < f.length), wr.cell? ⟨sb, off + j * 7, none⟩ = some (.string (f[j]).1) := fun j h => by
        obtain ⟨sb', off', _, ha', _, _, hn', _⟩ := SlAt.field (hs2.conv (ok' := fun b => b < wr.heap.size) (w' := wr) (by decide) (fun b _ hb => ⟨Nat.lt_of_lt_of_le hb hmb.size, hmb.block b hb⟩)) (hf1.conv (fun b _ hb => ⟨Nat.lt_of_lt_of_le hb hmb.size, hmb.block b hb⟩)) j h
        rw [ha2] at ha'
        injection ha' with ha'
        injection ha' with e1 e2
        subst e1
        subst e2
        exact hn'
      have hcp := hf i hlt
      have hsu := hsub i hlt
      have hni := hnm i hlt
      have HJ : Hid (¬ (badAt (f[i]).1 0 < 0 ∧ sndV (f[i]).2 (d - 1) = true) → V = false) := by
        intro hY
        rw [← HE.out]
        have : sndF f (d - 1) = false := by
          cases hq : sndF f (d - 1) with
          | false => rfl
          | true => exact absurd (sndF_get.1 hq i hlt) hY
        rw [this]; rfl
      have HD : Hid (∀ k (hk : k < f.length), k < i → (f[k]).1 = (f[i]).1 → V = false) := by
        intro k hk hki he
        rw [← HE.out]
        have : decide ((f.map (·.1)).Nodup) = false := by
          rw [decide_eq_false_iff_not]
          intro hnd
          exact names_get.1 hnd k i hk hlt hki he
        rw [this]; simp
      have HS : Hid ((badAt (f[i]).1 0 < 0 ∧ sndV (f[i]).2 (d - 1) = true) → (∀ k (hk : k < f.length), k < i → (f[k]).1 ≠ (f[i]).1) → ∀ j (h : j < f.length), j < i + 1 → (badAt (f[j]).1 0 < 0 ∧ sndV (f[j]).2 (d - 1) = true) ∧ ∀ k (hk : k < f.length), k < j → (f[k]).1 ≠ (f[j]).1) := by
        intro h1 h2 j h hj
        by_cases hji : j = i
        · subst hji; exact ⟨h1, h2⟩
        · exact HI.out j h (by omega)
      clear HI
      have hnamei := hnames i hlt
      obtain ⟨⟨nm, X⟩, hX⟩ : ∃ X, f[i] = X := ⟨_, rfl⟩
      simp only [hX] at hlv hname hcp hsu hni HJ HS HD hnamei
      cases hXc : X with
      | mk k' b' n' t' l' f' =>
      rw [hXc] at hlv
      obtain ⟨p1, q1, p2, q2, _, _, rfl, _⟩ := hlv.form
      rw [← hXc] at hlv
      subst ha2
      have e0 := hcell 0 (by decide)
      have e1 := hcell 1 (by decide)
      have e2 := hcell 2 (by decide)
      have e3 := hcell 3 (by decide)
      have e4 := hcell 4 (by decide)
      have e5 := hcell 5 (by decide)
      simp only [List.getElem?_cons_zero, List.getElem?_cons_succ, Nat.add_zero, Nat.reduceAdd] at e0 e1 e2 e3 e4 e5
      have cB := Bad_any nm wr hni
      have hbd := badAt_bd nm
      obtain ⟨N, hN⟩ : ∃ N, badAt nm 0 = N := ⟨_, rfl⟩
      rw [hN] at cB hbd HJ HS
      obtain ⟨Y, hY⟩ : ∃ Y, sndV X (d - 1) = Y := ⟨_, rfl⟩
      rw [hY] at HJ HS
      have hcall : ∀ w1, Below wr.heap.size wr w1 → Calls Tryd.prog 18 #[.agg #[.int .i64 k', .bool b', .int .i64 n', .string t', .slice p1 l'.length q1, .slice p2 f'.length q2], .int .i64 (d - 1)] w1 fun e w' => e = .returned (.bool Y) ∧ Below w1.heap.size w1 w' := fun w1 h1 => by
        rw [← hY]
        exact hcp (d - 1) w1 (fun b => b < wr.heap.size) _ (hlv.conv (fun b hb hl => ⟨hb, h1.block b hl⟩)) hsu (by omega)
      have g0 : ∀ w1, Below wr.heap.size wr w1 → w1.cell? ⟨w.heap.size, 5, none⟩ = some (.slice (some ⟨sb, off, none⟩) f.length c2) := fun w1 h1 => (h1.cell (p := ⟨w.heap.size, 5, none⟩) (by show w.heap.size < _; omega)).trans x5
      have g1 : ∀ w1, Below wr.heap.size wr w1 → w1.cell? ⟨sb, off + i * 7 + 1, none⟩ = some (.int .i64 k') ∧ w1.cell? ⟨sb, off + i * 7 + 2, none⟩ = some (.bool b') ∧ w1.cell? ⟨sb, off + i * 7 + 3, none⟩ = some (.int .i64 n') ∧ w1.cell? ⟨sb, off + i * 7 + 4, none⟩ = some (.string t') ∧ w1.cell? ⟨sb, off + i * 7 + 5, none⟩ = some (.slice p1 l'.length q1) ∧ w1.cell? ⟨sb, off + i * 7 + 6, none⟩ = some (.slice p2 f'.length q2) := fun w1 h1 =>
        ⟨(h1.cell (p := ⟨sb, _, none⟩) hsb).trans e0, (h1.cell (p := ⟨sb, _, none⟩) hsb).trans e1, (h1.cell (p := ⟨sb, _, none⟩) hsb).trans e2, (h1.cell (p := ⟨sb, _, none⟩) hsb).trans e3, (h1.cell (p := ⟨sb, _, none⟩) hsb).trans e4, (h1.cell (p := ⟨sb, _, none⟩) hsb).trans e5⟩
      have g2 : ∀ w1, Below wr.heap.size wr w1 → ∀ j (h : j < f.length), w1.cell? ⟨sb, off + j * 7, none⟩ = some (.string (f[j]).1) := fun w1 h1 j h => (h1.cell (p := ⟨sb, off + j * 7, none⟩) hsb).trans (hnames j h)
      clear hcell hXc hlv hcp hsu hN hY e0 e1 e2 e3 e4 e5 hnames hf hnm hsub hs2 hf1
      by_cases hNn : N < 0
      · cases Y with
        | true =>
          have HS' : Hid ((∀ k (hk : k < f.length), k < i → (f[k]).1 ≠ nm) → ∀ j (h : j < f.length), j < i + 1 → (badAt (f[j]).1 0 < 0 ∧ sndV (f[j]).2 (d - 1) = true) ∧ ∀ k (hk : k < f.length), k < j → (f[k]).1 ≠ (f[j]).1) := HS.out ⟨hNn, rfl⟩
          have hNn' : ¬ 0 ≤ N := by omega
          clear HS HJ
          go_wp2_with (first
            | (go_at_call 33; refine cB.mono ?_; rintro e w1 ⟨rfl, h1⟩; clear cB; have z5 := g0 w1 h1; obtain ⟨y0, y1, y2, y3, y4, y5⟩ := g1 w1 h1)
            | (go_at_call 18; refine (hcall w1 h1).mono ?_; rintro e w2 ⟨rfl, h2⟩; have h3 : Below wr.heap.size wr w2 := h1.trans (h2.mono h1.size); clear h2 hcall g1 z5 y0 y1 y2 y3 y4 y5))
          go_loopw [10] (fun u w' => ∃ (k m : Nat), u = .int .i64 (k : Int) ∧ k ≤ i ∧ Hid (∀ j (h : j < f.length), j < k → (f[j]).1 ≠ nm) ∧ w' = w2.drewN m) (fun u _ => i - numOf u)
          case atStart => exact ⟨0, 0, rfl, Nat.zero_le _, fun _ _ h => by omega, rfl⟩
          case round =>
            obtain ⟨k, mm, rfl, hki, HK, rfl⟩ := hrel
            have z5 := g0 w2 h3
            have hnk := g2 w2 h3
            have hni2 := g2 w2 h3 i hlt
            rw [hX] at hni2
            by_cases hk : k < i
            · have hk' : (k : Int) < (i : Int) := by omega
              have hkf : (k : Int) < (f.length : Int) := by omega
              have hkn := hnk k (by omega)
              by_cases hne : (f[k]'(by omega)).1 = nm
              · rw [hne] at hkn
                have HF : V = false := HD.out k (by omega) hk hne
                subst HF
                have hee : (nm.toList == nm.toList) = true := by simp
                clear hnk HK HE HD HS'
                go_wp2
                go_quiet (fail)
                go_wp2
                go_ret
                exact ⟨rfl, below_drewN (below_drewN (hmb.trans (h3.mono hmb.size)) _) _⟩
              · have HK' : Hid (∀ j (h : j < f.length), j < k + 1 → (f[j]).1 ≠ nm) := by
                  intro j h hj
                  by_cases hjk : j = k
                  · subst hjk; exact hne
                  · exact HK.out j h (by omega)
                obtain ⟨om, hom⟩ : ∃ om, (f[k]'(by omega)).1 = om := ⟨_, rfl⟩
                rw [hom] at hkn hne
                have hee := bytes_ne hne
                clear hnk HK HE HD HS'
                go_wp2
                go_quiet (fail)
                go_wp2
                go_roundw
                case rel => exact ⟨k + 1, _, by simp, hk, HK', rfl⟩
                case measure => simp [numOf]; omega
            · have hk' : ¬ (k : Int) < (i : Int) := by omega
              have HI2 : Hid (∀ j (h : j < f.length), j < i + 1 → (badAt (f[j]).1 0 < 0 ∧ sndV (f[j]).2 (d - 1) = true) ∧ ∀ k (hk : k < f.length), k < j → (f[k]).1 ≠ (f[j]).1) := HS'.out (fun j h hj => HK.out j h (by omega))
              clear HK HS' HD hnk
              go_wp2
              go_roundw
              case rel => exact ⟨i + 1, by simp, hlt, HI2, m.keep (below_drewN h3 _)⟩
              case measure => simp [numOf]; omega
        | false =>
          have HF : V = false := HJ.out (fun h => by cases h.2)
          subst HF
          have hNn' : ¬ 0 ≤ N := by omega
          clear HS HJ HD HE
          go_wp2_with (first
            | (go_at_call 33; refine cB.mono ?_; rintro e w1 ⟨rfl, h1⟩; clear cB; have z5 := g0 w1 h1; obtain ⟨y0, y1, y2, y3, y4, y5⟩ := g1 w1 h1)
            | (go_at_call 18; refine (hcall w1 h1).mono ?_; rintro e w2 ⟨rfl, h2⟩; have h3 : Below wr.heap.size wr w2 := h1.trans (h2.mono h1.size); clear h2 hcall g1 z5 y0 y1 y2 y3 y4 y5))
          go_ret
          exact ⟨rfl, hmb.trans (h3.mono hmb.size)⟩
      · have HF : V = false := HJ.out (fun h => hNn h.1)
        subst HF
        have hNn' : 0 ≤ N := by omega
        clear HS HJ HD HE
        go_wp2_with (first
          | (go_at_call 33; refine cB.mono ?_; rintro e w1 ⟨rfl, h1⟩; clear cB; have z5 := g0 w1 h1; obtain ⟨y0, y1, y2, y3, y4, y5⟩ := g1 w1 h1)
          | (go_at_call 18; refine (hcall w1 h1).mono ?_; rintro e w2 ⟨rfl, h2⟩; have h3 : Below wr.heap.size wr w2 := h1.trans (h2.mono h1.size); clear h2 hcall g1 z5 y0 y1 y2 y3 y4 y5))
        go_ret
        exact ⟨rfl, hmb.trans (h3.mono hmb.size)⟩
    · have hlt' : ¬ (i : Int) < (f.length : Int) := by omega
      have HF : Hid (decide (0 < d) = V) := by
        show _ = _
        rw [← HE.out, sndF_get.2 (fun j h => (HI.out j h (by omega)).1), decide_eq_true (names_get.2 (fun k j hk hj hkj => (HI.out j hj (by omega)).2 k hk hkj))]
        rfl
      clear HE HI
      go_wp2
      go_ret
      exact ⟨ret_bool HF.out, hmb⟩

theorem sound_any : ∀ (m : Nat) (x : GV), x.sz ≤ m → m ≤ 2000000 → SndAt x
  | 0, x, h, _ => by have := x.sz_pos; omega
  | m + 1, .mk k b n t l f, h, hm => by
    have h1 : 1 + t.size + szL l + szF f ≤ m + 1 := by unfold GV.sz at h; exact h
    by_cases h4 : k = 4
    · subst h4
      exact sound_list b n t l f (by omega) (fun i hi => sound_any m _ (by have := szL_get l i hi; omega) (by omega))
    · by_cases h5 : k = 5
      · subst h5
        exact sound_obj b n t l f (by omega) (fun i hi => sound_any m _ (by have := szF_get f i hi; omega) (by omega))
      · exact sound_small k b n t l f (by omega) ⟨h4, h5⟩
end SndW
end Go.Proofs.YtehpdklnebognaaDoor
