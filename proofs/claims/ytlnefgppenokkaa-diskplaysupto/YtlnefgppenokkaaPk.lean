/- The law's stands: both stand alike. -/
import Derived.Test.YtlnefgppenokkaaPj
namespace Go.Proofs.Ytlnefgppenokkaa
open Go.RowKit
namespace Rf
open Bw Rg Dk

theorem enc_bl (s : ByteArray) : encStr (bl s) = .string s := by
  unfold encStr bl
  rfl
/-- Names in a row: its place, its cells. -/
theorem names_row {w : World} {base : Nat} {v : Value} {L : List Fl} (h : w.ownsRow base 9 1 v L.length ((L.map fun x => bl x.1).map encStr)) : ∃ a c, v = .slice a L.length c ∧ ∀ W, Below w.heap.size w W → ∀ i (hi : i < L.length), ∃ g, a = some ⟨g, 0, none⟩ ∧ W.cell? ⟨g, i, none⟩ = some (.string (L[i]).1) := by
  rcases h.2 with ⟨e, h0⟩ | ⟨g, cap, cur, e, hg, hc, hn, hx, hz, ht⟩
  · exact ⟨none, 0, by rw [e, h0], fun W hW i hi => by omega⟩
  · refine ⟨some ⟨g, 0, none⟩, cap, e, fun W hW i hi => ⟨g, rfl, ?_⟩⟩
    have h1 : (cur.toList.take (L.length * 1))[i]? = ((L.map fun x => bl x.1).map encStr)[i]? := by rw [ht]
    rw [List.getElem?_take_of_lt (by omega)] at h1
    have h2 : W.heap[g]? = some (.cells cur 9 (0, 0)) := (hW.block g (lt_of_block hc)).trans hc
    simp only [World.cell?, h2]
    rw [← Array.getElem?_toList, h1]
    simp [hi, enc_bl]
theorem readM_len {a : Ab} (hg : Good a) (s : ByteArray) : (readM a s).1.length ≤ 140737488355328 := by
  unfold readM
  split
  · exact Nat.zero_le _
  · split
    · exact Nat.zero_le _
    · rename_i x hf
      obtain ⟨h1, _⟩ := find_some hf
      obtain ⟨L1, L2, e⟩ := List.append_of_mem h1
      have h2 := hg.ok.big
      rw [e] at h2
      simp [usedA] at h2
      show x.2.1.length ≤ _
      omega
set_option maxHeartbeats 4000000 in
set_option maxRecDepth 4000 in
theorem stands_any (w : World) (d : Ds) (r : Rs) (a : Ab) (h : Pr w d r a) (hg : Good a) : Calls Try.prog 12 #[.pointer (some ⟨d.db, 0, none⟩), .pointer (some ⟨r.rb, 0, none⟩)] w fun e w' => e = .returned (.bool true) ∧ Below w.heap.size w w' := by
  have hna := dnames h.dp hg
  have hlen := h.rp.len
  obtain ⟨N, hN⟩ : ∃ n, a.L.length = n := ⟨_, rfl⟩
  have HN : Hid (a.L.length = N) := hN
  have hfew : N ≤ 1099511627775 := hN ▸ hg.few
  obtain ⟨U, hU⟩ : ∃ n, usedA a.L = n := ⟨_, rfl⟩
  have hUd := h.dp.used.trans hU
  have hUr := h.rp.used.trans hU
  have hUb : U ≤ 140737488355328 := hU ▸ hg.ok.big
  have hu1 := fun (W : World) (hW : Below w.heap.size w W) => used_any W d (h.dp.below hW).at' (by omega)
  have hu2 := fun (W : World) (hW : Below w.heap.size w W) => (rused_any W r (h.rp.below hW).at' (by omega) (by omega)).mono (R' := fun e w' => e = .returned (.int .i64 (rused r.fs : Int)) ∧ Below W.heap.size W w') (fun e w' ⟨h1, h2⟩ => ⟨h1, by rw [h2]; exact Below.refl _ _⟩)
  have hu3 := fun (W : World) (hW : Below w.heap.size w W) => (on_any W d (h.dp.below hW).at').mono (R' := fun e w' => e = .returned (.bool d.on) ∧ Below W.heap.size W w') (fun e w' ⟨h1, h2⟩ => ⟨h1, by rw [h2]; exact Below.refl _ _⟩)
  have hu4 := fun (W : World) (hW : Below w.heap.size w W) => (steps_any W d (h.dp.below hW).at').mono (R' := fun e w' => e = .returned (.int .i64 d.st) ∧ Below W.heap.size W w') (fun e w' ⟨h1, h2⟩ => ⟨h1, by rw [h2]; exact Below.refl _ _⟩)
  rw [hUd] at hu1
  rw [hUr] at hu2
  obtain ⟨la, lc, hlv, -, -⟩ := h.rp.at'.form
  rw [hlen, hN] at hlv
  have hc1 := fun (W : World) (hW : Below w.heap.size w W) => (h.rp.below hW).at'.c1
  rw [hlv] at hc1
  have hc2 := fun (W : World) (hW : Below w.heap.size w W) => (h.rp.below hW).at'.c2
  have hc5 := fun (W : World) (hW : Below w.heap.size w W) => (h.rp.below hW).at'.c5
  rw [h.rp.off, ← h.dp.on] at hc2
  rw [h.rp.st, ← h.dp.st] at hc5
  obtain ⟨O, hO⟩ : ∃ b, d.on = b := ⟨_, rfl⟩
  rw [hO] at hu3 hc2
  obtain ⟨S, hS⟩ : ∃ b, d.st = b := ⟨_, rfl⟩
  rw [hS] at hu4 hc5
  have HU1 : Hid (∀ W, Below w.heap.size w W → Calls Try.prog 20 #[.pointer (some ⟨d.db, 0, none⟩)] W fun e w' => e = .returned (.int .i64 (U : Int)) ∧ Below W.heap.size W w') := hu1
  have HU2 : Hid (∀ W, Below w.heap.size w W → Calls Try.prog 37 #[.pointer (some ⟨r.rb, 0, none⟩)] W fun e w' => e = .returned (.int .i64 (U : Int)) ∧ Below W.heap.size W w') := hu2
  have HU3 : Hid (∀ W, Below w.heap.size w W → Calls Try.prog 17 #[.pointer (some ⟨d.db, 0, none⟩)] W fun e w' => e = .returned (.bool O) ∧ Below W.heap.size W w') := hu3
  have HU4 : Hid (∀ W, Below w.heap.size w W → Calls Try.prog 38 #[.pointer (some ⟨d.db, 0, none⟩)] W fun e w' => e = .returned (.int .i64 S) ∧ Below W.heap.size W w') := hu4
  have HC1 : Hid (∀ W, Below w.heap.size w W → W.cell? ⟨r.rb, 1, none⟩ = some (.slice la N lc)) := hc1
  have HC2 : Hid (∀ W, Below w.heap.size w W → W.cell? ⟨r.rb, 2, none⟩ = some (.bool !O)) := hc2
  have HC5 : Hid (∀ W, Below w.heap.size w W → W.cell? ⟨r.rb, 5, none⟩ = some (.int .i64 S)) := hc5
  have H0 : Hid (Pr w d r a) := h
  have HLV : Hid (r.lv = .slice la N lc) := hlv
  have HNA : Hid (Calls Try.prog 36 #[.pointer (some ⟨d.db, 0, none⟩)] w fun e w' => ∃ v, e = .returned v ∧ w'.ownsRow w.heap.size 9 1 v a.L.length ((a.L.map fun x => bl x.1).map encStr) ∧ Below w.heap.size w w') := hna
  clear hna hlen hN hU hUd hUr hu1 hu2 hu3 hu4 hlv hc1 hc2 hc5 hO hS h
  go_enter Try.func12, Try.ntmps12
  go_wp2_with (go_at_call 36; refine Calls.mono HNA.out ?_; rintro e w1 ⟨v1, rfl, hr1, hb1⟩; obtain ⟨na, nc, hv1, hnm⟩ := names_row hr1; rw [HN.out] at hv1; subst hv1; have HNM : Hid (∀ W, Below w1.heap.size w1 W → ∀ i (hi : i < a.L.length), ∃ g, na = some ⟨g, 0, none⟩ ∧ W.cell? ⟨g, i, none⟩ = some (.string (a.L[i]).1)) := hnm; have HB1 : Hid (Below w.heap.size w w1) := hb1; clear hr1 hb1 hnm)
  have t1 := fun x : Cl w1.heap.size w1 => HC1.out x.u (HB1.out.trans (x.h.mono HB1.out.size))
  have t2 := fun x : Cl w1.heap.size w1 => HC2.out x.u (HB1.out.trans (x.h.mono HB1.out.size))
  have t5 := fun x : Cl w1.heap.size w1 => HC5.out x.u (HB1.out.trans (x.h.mono HB1.out.size))
  have q1 := fun x : Cl w1.heap.size w1 => HU1.out x.u (HB1.out.trans (x.h.mono HB1.out.size))
  have q2 := fun x : Cl w1.heap.size w1 => HU2.out x.u (HB1.out.trans (x.h.mono HB1.out.size))
  have q3 := fun x : Cl w1.heap.size w1 => HU3.out x.u (HB1.out.trans (x.h.mono HB1.out.size))
  have q4 := fun x : Cl w1.heap.size w1 => HU4.out x.u (HB1.out.trans (x.h.mono HB1.out.size))
  have hne := Cl.ne w1.heap.size w1
  refine region_cl (N := w1.heap.size) (W := w1) (by kernel_rfl) (by kernel_rfl) (Below.refl _ _) ?_
  cases O
  all_goals
    repeat (go_big_quiet_step (first
      | (go_at_call 20; exact cl_of (q1 _) (Nat.le_refl _))
      | (go_at_call 37; exact cl_of (q2 _) (Nat.le_refl _))
      | (go_at_call 17; exact cl_of (q3 _) (Nat.le_refl _))
      | (go_at_call 38; exact cl_of (q4 _) (Nat.le_refl _))))
    refine wpQuiet_nil ?_
    rintro _ ⟨x, rfl⟩
    have hx := x.h
    obtain ⟨w2, hw2⟩ : ∃ v, x.u = v := ⟨_, rfl⟩
    rw [hw2] at hx ⊢
    clear hw2 x t1 t2 t5 q1 q2 q3 q4 hne
    have HX : Hid (Below w1.heap.size w1 w2) := hx
    clear hx
    go_wp2
    go_loopw [6] (fun x wr => ∃ i : Nat, x = .int .i64 (i : Int) ∧ i ≤ N ∧ Hid (Below w1.heap.size w1 wr)) (fun x _ => N - Dk.numOf x)
    case atStart => exact ⟨0, rfl, Nat.zero_le _, HX.out⟩
    case round =>
      obtain ⟨i, rfl, hiN, HB⟩ := hrel
      by_cases hi2 : i < N
      · have hi3 : (i : Int) < (N : Int) := by omega
        have hiL : i < a.L.length := by rw [HN.out]; exact hi2
        obtain ⟨gn, rfl, hnm⟩ := HNM.out wr HB.out i hiL
        have HPW : Hid (∀ W, Below wr.heap.size wr W → Pr W d r a) := fun W hW => H0.out.below (HB1.out.trans ((HB.out.trans (hW.mono HB.out.size)).mono HB1.out.size))
        have HNM2 : Hid (∀ W, Below wr.heap.size wr W → W.cell? ⟨gn, i, none⟩ = some (.string (a.L[i]).1)) := fun W hW => by
          obtain ⟨g', e', h'⟩ := HNM.out W (HB.out.trans (hW.mono HB.out.size)) i hiL
          cases e'
          exact h'
        have hsz : (a.L[i]).1.size ≤ 140737488355328 := by
          obtain ⟨f, hf, e⟩ := List.mem_map.1 (H0.out.dp.fs.mem_iff.2 (List.getElem_mem hiL))
          have h1 := H0.out.dp.at'.short f hf
          rw [← e]
          show f.nm.size ≤ _
          omega
        have HRN : Hid (∀ W, Below wr.heap.size wr W → ∃ g, la = some ⟨g, 0, none⟩ ∧ W.cell? ⟨g, i * 3, none⟩ = some (.string (a.L[i]).1)) := fun W hW => by
          have hP := HPW.out W hW
          have hil : i < r.fs.length := by rw [hP.rp.len]; exact hiL
          obtain ⟨g, c, e, -, h1, -⟩ := hP.rp.at'.file i hil
          rw [HLV.out] at e
          cases e
          refine ⟨g, rfl, h1.trans ?_⟩
          have e2 : (a.L[i]) = (r.fs[i]).ab := by
            have := hP.rp.fs
            simp only [← this, List.getElem_map]
          rw [e2]
          rfl
        obtain ⟨gl, rfl, -⟩ := HRN.out wr (Below.refl _ _)
        have HRN2 : Hid (∀ W, Below wr.heap.size wr W → W.cell? ⟨gl, i * 3, none⟩ = some (.string (a.L[i]).1)) := fun W hW => by
          obtain ⟨g', e', h'⟩ := HRN.out W hW
          cases e'
          exact h'
        obtain ⟨sx, hsx⟩ : ∃ s, (a.L[i]).1 = s := ⟨_, rfl⟩
        rw [hsx] at hnm HNM2 HRN2 hsz
        clear hsx HRN
        have HD : Hid (∀ W, DP W d a → Calls Try.prog 15 #[.pointer (some ⟨d.db, 0, none⟩), .string sx] W fun e w' => ∃ v, e = .returned (.tuple #[v, codeV (readM a sx).2]) ∧ RowB W.heap.size w' v (readM a sx).1 ∧ Below W.heap.size W w') := fun W hW => dread hW hg sx hsz
        have HR : Hid (∀ W, RP W r a → Calls Try.prog 35 #[.pointer (some ⟨r.rb, 0, none⟩), .string sx] W fun e w' => ∃ v, e = .returned (.tuple #[v, .int .i64 (readM a sx).2]) ∧ SlM W v (readM a sx).1 ∧ (∀ x l c, v = .slice (some x) l c → 0 < l → x.block ∈ r.foot) ∧ w' = W) := fun W hW => rreadP hW hg sx
        have HCD : Hid (Cd (readM a sx).2) := cd_read
        have HLN : Hid ((readM a sx).1.length ≤ 140737488355328) := readM_len hg sx
        obtain ⟨RES, hRES⟩ : ∃ x, readM a sx = x := ⟨_, rfl⟩
        rw [hRES] at HD HR HCD HLN
        clear hRES
        obtain ⟨bs, M⟩ := RES
        go_wp2_with (first
          | (go_at_call 15; refine (HD.out _ (HPW.out _ (Below.refl _ _)).dp).mono ?_; rintro e w3 ⟨v3, rfl, hr3, hb3⟩; obtain ⟨ba, bc, hv3, hlt3, hby3⟩ := RowB.bytes hr3; obtain ⟨BL, hBL⟩ : ∃ n, bs.length = n := ⟨_, rfl⟩; rw [hBL] at hv3 hby3; have HBL : Hid (bs.length = BL) := hBL; have hBLb : BL ≤ 140737488355328 := hBL ▸ HLN.out; clear hBL; subst hv3; have R3 : Hid (SlM w3 (.slice ba BL bc) bs) := hr3.slm; have HB3 : Hid (Below wr.heap.size wr w3) := hb3; have HLT3 : Hid (∀ k, (Value.slice ba BL bc).ownBlock = some k → wr.heap.size ≤ k ∧ k < w3.heap.size) := hlt3; have HBY3 : Hid (BL = 0 ∨ ∃ G, ba = some ⟨G, 0, none⟩ ∧ (Value.slice ba BL bc).ownBlock = some G ∧ Bytes w3 G BL) := hby3; clear hr3 hb3 hlt3 hby3; have hnm3 := HNM2.out w3 HB3.out)
          | (go_at_call 35; refine (HR.out _ (HPW.out _ HB3.out).rp).mono ?_; rintro e w4 ⟨v4, rfl, hs4, -, rfl⟩; have S4 : Hid (SlM w4 v4 bs) := hs4; clear hs4))
        have t1 := fun x : Cl w4.heap.size w4 => HC1.out x.u (HB1.out.trans ((HB.out.trans ((HB3.out.trans (x.h.mono HB3.out.size)).mono HB.out.size)).mono HB1.out.size))
        have t2 := fun x : Cl w4.heap.size w4 => HNM2.out x.u (HB3.out.trans (x.h.mono HB3.out.size))
        have t3 := fun x : Cl w4.heap.size w4 => HRN2.out x.u (HB3.out.trans (x.h.mono HB3.out.size))
        have q1 := fun x : Cl w4.heap.size w4 => (same_any (.slice ba BL bc) v4 bs bs x.u (R3.out.below x.h (Nat.le_refl _)) (S4.out.below x.h (Nat.le_refl _))).mono (R' := fun e w' => e = .returned (.bool true) ∧ Below x.u.heap.size x.u w') (fun e w' ⟨h1, h2⟩ => ⟨by rw [h1]; simp, by rw [h2]; exact Below.refl _ _⟩)
        have q2 := fun x : Cl w4.heap.size w4 => (code_any HCD.out x.u).mono (R' := fun e w' => e = .returned (.int .i64 M) ∧ Below x.u.heap.size x.u w') (fun e w' ⟨h1, h2⟩ => ⟨h1, by rw [h2]; exact Below.refl _ _⟩)
        have hne := Cl.ne w4.heap.size w4
        clear hnm hnm3
        refine region_cl (N := w4.heap.size) (W := w4) (by kernel_rfl) (by kernel_rfl) (Below.refl _ _) ?_
        repeat (go_big_quiet_step (first
          | (go_at_call 16; exact cl_of (q1 _) (Nat.le_refl _))
          | (go_at_call 25; exact cl_of (q2 _) (Nat.le_refl _))))
        refine wpQuiet_nil ?_
        rintro _ ⟨x, rfl⟩
        have hx := x.h
        obtain ⟨w5, hw5⟩ : ∃ v, x.u = v := ⟨_, rfl⟩
        rw [hw5] at hx ⊢
        clear hw5 x t1 t2 t3 q1 q2 hne
        have HX5 : Hid (Below w4.heap.size w4 w5) := hx
        clear hx
        have HBY5 : Hid (BL = 0 ∨ ∃ G, ba = some ⟨G, 0, none⟩ ∧ (Value.slice ba BL bc).ownBlock = some G ∧ Bytes w5 G BL) := by
          rcases HBY3.out with h | ⟨G, h1, h2, cur, h3, h4⟩
          · exact .inl h
          · exact .inr ⟨G, h1, h2, cur, (HX5.out.block G (HLT3.out G h2).2).trans h3, h4⟩
        clear HBY3
        have HFIN : Hid (∀ W, Fr (fun j => (Value.slice ba BL bc).ownBlock = some j) w5 W → Below w1.heap.size w1 W) := fun W hW =>
          HB.out.trans (((HB3.out.trans (HX5.out.mono HB3.out.size)).trans (hW.below (Nat.le_trans HB3.out.size HX5.out.size) (fun k hk e => by have := (HLT3.out k e).1; omega))).mono HB.out.size)
        go_wp2
        go_loopw [11] (fun x wi => ∃ k : Nat, x = .int .i64 (k : Int) ∧ k ≤ BL ∧ Hid (Fr (fun j => (Value.slice ba BL bc).ownBlock = some j) w5 wi) ∧ Hid (BL = 0 ∨ ∃ G, ba = some ⟨G, 0, none⟩ ∧ (Value.slice ba BL bc).ownBlock = some G ∧ Bytes wi G BL)) (fun x _ => BL - Dk.numOf x)
        case atStart => exact ⟨0, rfl, Nat.zero_le _, Fr.refl _ _, HBY5.out⟩
        case round =>
          obtain ⟨k, rfl, hkL, HF, HBI⟩ := hrel
          by_cases hk2 : k < BL
          · have hk3 : (k : Int) < (BL : Int) := by omega
            rcases HBI.out with h0 | ⟨G, rfl, hG, hBy⟩
            · omega
            · obtain ⟨y, hy, hz⟩ := hBy.at k hk2
              have HBy : Hid (Bytes wr G BL) := hBy
              clear hBy
              go_wp2
              go_roundw
              case rel => exact ⟨k + 1, by go_num, hk2, HF.out.and (Fr.setCell (S := fun j => (Value.slice (some ⟨G, 0, none⟩) BL bc).ownBlock = some j) _ _ _ hG) (fun _ _ e => e), .inr ⟨G, rfl, hG, HBy.out.set k _⟩⟩
              case measure => simp [Dk.numOf]; omega
          · have hk3 : ¬ (k : Int) < (BL : Int) := by omega
            go_wp2
            go_roundw
            case rel => exact ⟨i + 1, by go_num, hi2, HFIN.out _ HF.out⟩
            case measure => simp [Dk.numOf]; omega
      · have hi3 : ¬ (i : Int) < (N : Int) := by omega
        go_wp2
        go_ret
        exact ⟨rfl, HB1.out.trans (HB.out.mono HB1.out.size)⟩
end Rf
end Go.Proofs.Ytlnefgppenokkaa
