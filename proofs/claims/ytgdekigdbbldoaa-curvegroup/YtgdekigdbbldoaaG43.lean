/- What the statements' some answers every third time. The sum of points is associative, and a point's neighbours: the nought, the opposite. -/
import Derived.Test.YtgdekigdbbldoaaG41
import Derived.Test.YtgdekigdbbldoaaG32
namespace Go.Proofs.Ytgdekigdbbldoaa
open Go.RowKit
namespace Fd
open Rg Cv Bx

set_option maxHeartbeats 8000000 in
set_option maxRecDepth 8000 in
theorem some_third (k : Nat) (w : World) (h3 : by_ k 0 % 3 = 0) :
    Calls Try.prog 33 #[bv k] w fun e w' => e = .returned (.tuple #[pv (someP k).x.val (someP k).y.val, .bool true]) ∧ Below w.heap.size w w' := by
  have c1 : ∀ W : World, Calls Try.prog 30 #[] W fun e w' => e = .returned (pv baseX baseY) ∧ Below W.heap.size W w' := base_any
  have c2 : ∀ W : World, Calls Try.prog 41 #[bv k, pv baseX baseY] W fun e w' => e = .returned (.tuple #[pv (ptm k B 256).x.val (ptm k B 256).y.val, .nilIface]) ∧ Below W.heap.size W w' := fun W => times_pt k baseX baseY W bx_lt by_lt' base_on
  have hon := pt_C (ptm_on k B_on 256)
  have lx := big (ptm k B 256).x
  have ly := big (ptm k B 256).y
  have c5 : ∀ W : World, Calls Try.prog 35 #[pv (ptm k B 256).x.val (ptm k B 256).y.val, pv 0 (p - 1)] W fun e w' => e = .returned (.tuple #[pv (someP k).x.val (someP k).y.val, .nilIface]) ∧ Below W.heap.size W w' := fun W => by
    have h := add_pt (ptm k B 256).x.val (ptm k B 256).y.val 0 (p - 1) W lx ly (by decide) (by decide) hon t2C
    rw [tf_of, tf_of] at h
    have e : someP k = add (ptm k B 256) T2 := by unfold someP; rw [if_pos h3]
    rw [e]
    exact h
  have CS : Hid (∀ (W : World) (u v : Value), Dt.Num W u 0 → Dt.Num W v 1 → Calls Try.prog 19 #[u, v] W fun e w' => ∃ r, e = .returned r ∧ Dt.Num w' r (p - 1) ∧ Below W.heap.size W w') := fun W u v h1 h2 => by have h := Dt.sub_num h1 h2 (by decide) (by decide); rwa [show (0 + p - 1) % p = p - 1 from by decide] at h
  have CB : Hid (∀ (W : World) (u : Value), Dt.Num W u (p - 1) → Calls Try.prog 16 #[u] W fun e w' => e = .returned (.agg (bvc (p - 1)).toArray) ∧ Below W.heap.size W w') := fun W u h => Dt.bytes_num h
  have ez : zl 32 = bvc 0 := by rfl
  have HBP : Hid (Try.prog.built 43 [(1, .agg (bvc (p - 1)).toArray)] = some (bvc 0 ++ bvc (p - 1)).toArray) := by have h := build_pointY (bvc (p - 1)) (bvc_len _); rwa [ez] at h
  obtain ⟨sx, hsx⟩ : ∃ v, (someP k).x.val = v := ⟨_, rfl⟩
  obtain ⟨sy, hsy⟩ : ∃ v, (someP k).y.val = v := ⟨_, rfl⟩
  rw [hsx, hsy] at c5 ⊢
  have hm3 : Int.tmod ((by_ k 0 : Nat) : Int) 3 = 0 := by rw [Int.tmod_eq_emod_of_nonneg (by omega)]; omega
  obtain ⟨tx, htx⟩ : ∃ v, (ptm k B 256).x.val = v := ⟨_, rfl⟩
  obtain ⟨ty, hty⟩ : ∃ v, (ptm k B 256).y.val = v := ⟨_, rfl⟩
  rw [htx, hty] at c2 c5
  have en := eq_nil
  have HCK : Hid (∀ {W : World} {b : Nat}, Rp W b 0 (bvc k) → W.cell? ⟨b, 0, none⟩ = some (.int .u8 ((by_ k 0 : Nat) : Int))) := fun {W b} h => by have h2 := h.1 0 _ (bvc_at k 0 (by decide)); rwa [Nat.zero_add] at h2
  unfold pv at c1 c2 c5 ⊢
  unfold bv at c2 ⊢
  have LK : Hid (L32 (bvc k)) := l32 k
  have LT : Hid (L64 (bvc tx ++ bvc ty)) := l64 _ _
  have LS : Hid (L64 (bvc sx ++ bvc sy)) := l64 _ _
  have HS := (show Hid _ from start22p w (bvc k))
  obtain ⟨V, hV⟩ : ∃ X, bvc baseX ++ bvc baseY = X := ⟨_, rfl⟩
  rw [hV] at c1 c2
  obtain ⟨T, hT⟩ : ∃ X, bvc tx ++ bvc ty = X := ⟨_, rfl⟩
  rw [hT] at c2 LT c5
  obtain ⟨S, hS⟩ : ∃ X, bvc sx ++ bvc sy = X := ⟨_, rfl⟩
  rw [hS] at c5 LS ⊢
  obtain ⟨Q, hQ⟩ : ∃ X, bvc 0 ++ bvc (p - 1) = X := ⟨_, rfl⟩
  rw [hQ] at c5 HBP
  obtain ⟨M, hM⟩ : ∃ X, bvc (p - 1) = X := ⟨_, rfl⟩
  rw [hM] at CB HBP
  obtain ⟨K, hK⟩ : ∃ X, bvc k = X := ⟨_, rfl⟩
  rw [hK] at c2 LK HS HCK ⊢
  obtain ⟨b0, hb0⟩ : ∃ b, by_ k 0 = b := ⟨_, rfl⟩
  rw [hb0] at hm3 HCK
  clear hV hT hS hQ hM hK hb0 htx hty hon lx ly hsx hsy ez
  have hz22 := zero22
  have hz43 := zero43
  have HTT43 : Hid _ := there43
  obtain ⟨Z43, hZ43⟩ : ∃ Z, z43 = Z := ⟨_, rfl⟩
  rw [hZ43] at hz43 HTT43 HS
  clear hZ43 hz22
  obtain ⟨n, hn⟩ : ∃ n, w.heap.size = n := ⟨_, rfl⟩
  have HN : Hid (w.heap.size = n) := hn
  obtain ⟨we, hwe⟩ : ∃ v, (w.alloc (.cells K.toArray 22)).alloc (.cells Z43 43) = v := ⟨_, rfl⟩
  have BK : Hid (Rp we n 0 K) := by have h := HS.out.1; rw [hwe, HN.out] at h; exact h
  have AO : Hid (Ao w.heap.size we (n + 1) 64) := by have h := HS.out.2.1; rw [hwe, HN.out] at h; show Ao _ _ _ _; rw [HN.out]; exact h
  have HBE : Hid (Below w.heap.size w we) := by have h := HS.out.2.2; rw [hwe] at h; exact h
  clear HS
  go_enter Try.func33, Try.ntmps33
  go_upto_region 1 with (fail)
  clear hwe
  go_cut [4, 5] from 8 to 13 (fun s e wx => ∃ g, s = .pointer (some ⟨g, 0, none⟩) ∧ e = .nilIface ∧ Hid (Below we.heap.size we wx ∧ Rp wx g 0 T))
  case first =>
    refine wp_region_held_drew (S := fun w' => Below we.heap.size we w') (by kernel_rfl) (drewB we) (fun hS => ?_)
    obtain ⟨wd, hwd⟩ : ∃ v, World.drew we = v := ⟨_, rfl⟩
    rw [hwd] at hS ⊢
    clear hwd
    refine wpAnyH_take (i := 0) (v := .agg K.toArray) rfl (by kernel_rfl) (by kernel_rfl) (by kernel_rfl) (fun _ _ _ h => h) (yieldsIf_load_mid (by kernel_rfl) 22 (.tmp 1) rfl n 0 rfl K _ (fun wq hq => Rg.Below.range hq BK.out.1 BK.out.2) Try.underlying22 rfl LK.out.i) hS ?_
    try simp only [Act.put, List.setIfInBounds_toArray, List.set_cons_zero, List.set_cons_succ, List.getElem_toArray, List.getElem_cons_zero]
    refine wpAnyH_ready (rs := [1, 6]) (by kernel_rfl) (by simp) ?_
    refine AllReadyH.cons rfl (fun K hK => ?_) (AllReadyH.cons rfl (fun K hK => ?_) AllReadyH.nil)
    · go_simp
      refine (c1 _).mono ?_
      rintro e wf1 ⟨rfl, hb⟩
      have hS2 : Below we.heap.size we wf1 := hS.trans (hb.mono hS.size)
      refine hK.out _ _ hS2 (fun hS => ?_)
      clear hK K hb hS2 
      try simp only [Act.put, List.setIfInBounds_toArray, List.set_cons_zero, List.set_cons_succ, List.getElem_toArray, List.getElem_cons_succ, List.getElem_cons_zero]
      refine wpAnyH_ready (rs := [2, 6]) (by kernel_rfl) (by simp) ?_
      refine AllReadyH.cons rfl (fun K hK => ?_) (AllReadyH.cons rfl (fun K hK => ?_) AllReadyH.nil)
      · go_simp
        refine (c2 _).mono ?_
        rintro e wf2 ⟨rfl, hb⟩
        have hS2 : Below we.heap.size we wf2 := hS.trans (hb.mono hS.size)
        refine hK.out _ _ hS2 (fun hS => ?_)
        clear hK K hb hS2 
        try simp only [Act.put, List.setIfInBounds_toArray, List.set_cons_zero, List.set_cons_succ, List.getElem_toArray, List.getElem_cons_succ, List.getElem_cons_zero]
        refine wpAnyH_take (i := 3) (v := .tuple #[.agg T.toArray, .nilIface]) rfl (by kernel_rfl) (by kernel_rfl) (by kernel_rfl) (fun _ _ _ h => h) (Or.inl ⟨by kernel_rfl, fun wq hS => by go_simp⟩) hS ?_
        try simp only [Act.put, List.setIfInBounds_toArray, List.set_cons_zero, List.set_cons_succ, List.getElem_toArray, List.getElem_cons_succ, List.getElem_cons_zero]
        refine wpAnyH_take (i := 4) (v := .agg T.toArray) rfl (by kernel_rfl) (by kernel_rfl) (by kernel_rfl) (fun _ _ _ h => h) (Or.inl ⟨by kernel_rfl, fun wq hS => by go_simp⟩) hS ?_
        try simp only [Act.put, List.setIfInBounds_toArray, List.set_cons_zero, List.set_cons_succ, List.getElem_toArray, List.getElem_cons_succ, List.getElem_cons_zero]
        refine wpAnyH_take (i := 5) (v := .nilIface) rfl (by kernel_rfl) (by kernel_rfl) (by kernel_rfl) (fun _ _ _ h => h) (Or.inl ⟨by kernel_rfl, fun wq hS => by go_simp⟩) hS ?_
        try simp only [Act.put, List.setIfInBounds_toArray, List.set_cons_zero, List.set_cons_succ, List.getElem_toArray, List.getElem_cons_succ, List.getElem_cons_zero]
        refine wpAnyH_ready (rs := [6]) (by kernel_rfl) (by simp) ?_
        refine AllReadyH.cons rfl (fun K hK => ?_) AllReadyH.nil
        go_simp
        have HT := (show Hid _ from HTT43.out wf2)
        have HL : Hid (we.heap.size ≤ wf2.heap.size ∧ wf2.heap.size < (wf2.alloc (.cells Z43 43)).heap.size) := ⟨hS.size, by rw [size_alloc]; omega⟩
        have hb : Below wf2.heap.size wf2 (wf2.alloc (.cells Z43 43)) := (Below.refl _ _).alloc (Nat.le_refl _) _
        refine hK.out _ _ (hS.alloc hS.size _) (fun hS => ?_)
        clear hK K
        try simp only [Act.put, List.setIfInBounds_toArray, List.set_cons_zero, List.set_cons_succ, List.getElem_toArray, List.getElem_cons_succ, List.getElem_cons_zero]
        obtain ⟨wf3, hwf3⟩ : ∃ v, wf2.alloc (.cells Z43 43) = v := ⟨_, rfl⟩
        rw [hwf3] at HT HL hb hS ⊢
        obtain ⟨g, hg⟩ : ∃ g, wf2.heap.size = g := ⟨_, rfl⟩
        rw [hg] at HT HL ⊢
        clear hg hwf3 hb
        refine wpAnyH_ready (rs := [7]) (by kernel_rfl) (by simp) ?_
        refine AllReadyH.cons rfl (fun K hK => ?_) AllReadyH.nil
        refine want_it (by kernel_rfl) ?_
        refine wp_store_mid 43 (.tmp 4) (.tmp 12) rfl g 0 T.toArray rfl rfl (LT.out.t (N := we.heap.size) ⟨HL.out.1, HL.out.2, HT.out⟩) LT.out.j LT.out.o ?_
        simp only
        have hS2 : Below we.heap.size we (wf3.setCells g 0 T) := below_setCells hS HL.out.1
        refine hK.out _ _ hS2 (fun hS => ?_)
        clear hK K hS2
        try simp only [Act.put, List.getElem_toArray, List.getElem_cons_succ, List.getElem_cons_zero]
        refine wpAnyH_ready (rs := [8]) (by kernel_rfl) (by simp) ?_
        refine AllReadyH.cons rfl (fun K hK => ?_) AllReadyH.nil
        go_simp
        refine hK.out _ _ hS (fun hS => ?_)
        clear hK K
        try simp only [Act.put, List.setIfInBounds_toArray, List.set_cons_zero, List.set_cons_succ, List.getElem_toArray, List.getElem_cons_succ, List.getElem_cons_zero]
        refine wpAnyH_done (by kernel_rfl) ?_ _
        go_wp2
        go_meet
        case rel => exact ⟨g, rfl, rfl, ⟨hS, float_box43 LT.out HT.out HL.out.2⟩⟩
      · go_simp
        have HT := (show Hid _ from HTT43.out wf1)
        have HL : Hid (we.heap.size ≤ wf1.heap.size ∧ wf1.heap.size < (wf1.alloc (.cells Z43 43)).heap.size) := ⟨hS.size, by rw [size_alloc]; omega⟩
        have hb : Below wf1.heap.size wf1 (wf1.alloc (.cells Z43 43)) := (Below.refl _ _).alloc (Nat.le_refl _) _
        refine hK.out _ _ (hS.alloc hS.size _) (fun hS => ?_)
        clear hK K
        try simp only [Act.put, List.setIfInBounds_toArray, List.set_cons_zero, List.set_cons_succ, List.getElem_toArray, List.getElem_cons_succ, List.getElem_cons_zero]
        obtain ⟨wf4, hwf4⟩ : ∃ v, wf1.alloc (.cells Z43 43) = v := ⟨_, rfl⟩
        rw [hwf4] at HT HL hb hS ⊢
        obtain ⟨g, hg⟩ : ∃ g, wf1.heap.size = g := ⟨_, rfl⟩
        rw [hg] at HT HL ⊢
        clear hg hwf4 hb
        refine wpAnyH_ready (rs := [2]) (by kernel_rfl) (by simp) ?_
        refine AllReadyH.cons rfl (fun K hK => ?_) AllReadyH.nil
        go_simp
        refine (c2 _).mono ?_
        rintro e wf5 ⟨rfl, hb⟩
        replace HT := (show Hid (wf5.there g 0 64) from there_below hb HT.out HL.out.2)
        replace HL := (show Hid (we.heap.size ≤ g ∧ g < wf5.heap.size) from ⟨HL.out.1, Nat.lt_of_lt_of_le HL.out.2 hb.size⟩)
        have hS2 : Below we.heap.size we wf5 := hS.trans (hb.mono hS.size)
        refine hK.out _ _ hS2 (fun hS => ?_)
        clear hK K hb hS2 
        try simp only [Act.put, List.setIfInBounds_toArray, List.set_cons_zero, List.set_cons_succ, List.getElem_toArray, List.getElem_cons_succ, List.getElem_cons_zero]
        refine wpAnyH_take (i := 3) (v := .tuple #[.agg T.toArray, .nilIface]) rfl (by kernel_rfl) (by kernel_rfl) (by kernel_rfl) (fun _ _ _ h => h) (Or.inl ⟨by kernel_rfl, fun wq hS => by go_simp⟩) hS ?_
        try simp only [Act.put, List.setIfInBounds_toArray, List.set_cons_zero, List.set_cons_succ, List.getElem_toArray, List.getElem_cons_succ, List.getElem_cons_zero]
        refine wpAnyH_take (i := 4) (v := .agg T.toArray) rfl (by kernel_rfl) (by kernel_rfl) (by kernel_rfl) (fun _ _ _ h => h) (Or.inl ⟨by kernel_rfl, fun wq hS => by go_simp⟩) hS ?_
        try simp only [Act.put, List.setIfInBounds_toArray, List.set_cons_zero, List.set_cons_succ, List.getElem_toArray, List.getElem_cons_succ, List.getElem_cons_zero]
        refine wpAnyH_take (i := 5) (v := .nilIface) rfl (by kernel_rfl) (by kernel_rfl) (by kernel_rfl) (fun _ _ _ h => h) (Or.inl ⟨by kernel_rfl, fun wq hS => by go_simp⟩) hS ?_
        try simp only [Act.put, List.setIfInBounds_toArray, List.set_cons_zero, List.set_cons_succ, List.getElem_toArray, List.getElem_cons_succ, List.getElem_cons_zero]
        refine wpAnyH_ready (rs := [7]) (by kernel_rfl) (by simp) ?_
        refine AllReadyH.cons rfl (fun K hK => ?_) AllReadyH.nil
        refine want_it (by kernel_rfl) ?_
        refine wp_store_mid 43 (.tmp 4) (.tmp 12) rfl g 0 T.toArray rfl rfl (LT.out.t (N := we.heap.size) ⟨HL.out.1, HL.out.2, HT.out⟩) LT.out.j LT.out.o ?_
        simp only
        have hS2 : Below we.heap.size we (wf5.setCells g 0 T) := below_setCells hS HL.out.1
        refine hK.out _ _ hS2 (fun hS => ?_)
        clear hK K hS2
        try simp only [Act.put, List.getElem_toArray, List.getElem_cons_succ, List.getElem_cons_zero]
        refine wpAnyH_ready (rs := [8]) (by kernel_rfl) (by simp) ?_
        refine AllReadyH.cons rfl (fun K hK => ?_) AllReadyH.nil
        go_simp
        refine hK.out _ _ hS (fun hS => ?_)
        clear hK K
        try simp only [Act.put, List.setIfInBounds_toArray, List.set_cons_zero, List.set_cons_succ, List.getElem_toArray, List.getElem_cons_succ, List.getElem_cons_zero]
        refine wpAnyH_done (by kernel_rfl) ?_ _
        go_wp2
        go_meet
        case rel => exact ⟨g, rfl, rfl, ⟨hS, float_box43 LT.out HT.out HL.out.2⟩⟩
    · go_simp
      have HT := (show Hid _ from HTT43.out wd)
      have HL : Hid (we.heap.size ≤ wd.heap.size ∧ wd.heap.size < (wd.alloc (.cells Z43 43)).heap.size) := ⟨hS.size, by rw [size_alloc]; omega⟩
      have hb : Below wd.heap.size wd (wd.alloc (.cells Z43 43)) := (Below.refl _ _).alloc (Nat.le_refl _) _
      refine hK.out _ _ (hS.alloc hS.size _) (fun hS => ?_)
      clear hK K
      try simp only [Act.put, List.setIfInBounds_toArray, List.set_cons_zero, List.set_cons_succ, List.getElem_toArray, List.getElem_cons_succ, List.getElem_cons_zero]
      obtain ⟨wf6, hwf6⟩ : ∃ v, wd.alloc (.cells Z43 43) = v := ⟨_, rfl⟩
      rw [hwf6] at HT HL hb hS ⊢
      obtain ⟨g, hg⟩ : ∃ g, wd.heap.size = g := ⟨_, rfl⟩
      rw [hg] at HT HL ⊢
      clear hg hwf6 hb
      refine wpAnyH_ready (rs := [1]) (by kernel_rfl) (by simp) ?_
      refine AllReadyH.cons rfl (fun K hK => ?_) AllReadyH.nil
      go_simp
      refine (c1 _).mono ?_
      rintro e wf7 ⟨rfl, hb⟩
      replace HT := (show Hid (wf7.there g 0 64) from there_below hb HT.out HL.out.2)
      replace HL := (show Hid (we.heap.size ≤ g ∧ g < wf7.heap.size) from ⟨HL.out.1, Nat.lt_of_lt_of_le HL.out.2 hb.size⟩)
      have hS2 : Below we.heap.size we wf7 := hS.trans (hb.mono hS.size)
      refine hK.out _ _ hS2 (fun hS => ?_)
      clear hK K hb hS2 
      try simp only [Act.put, List.setIfInBounds_toArray, List.set_cons_zero, List.set_cons_succ, List.getElem_toArray, List.getElem_cons_succ, List.getElem_cons_zero]
      refine wpAnyH_ready (rs := [2]) (by kernel_rfl) (by simp) ?_
      refine AllReadyH.cons rfl (fun K hK => ?_) AllReadyH.nil
      go_simp
      refine (c2 _).mono ?_
      rintro e wf8 ⟨rfl, hb⟩
      replace HT := (show Hid (wf8.there g 0 64) from there_below hb HT.out HL.out.2)
      replace HL := (show Hid (we.heap.size ≤ g ∧ g < wf8.heap.size) from ⟨HL.out.1, Nat.lt_of_lt_of_le HL.out.2 hb.size⟩)
      have hS2 : Below we.heap.size we wf8 := hS.trans (hb.mono hS.size)
      refine hK.out _ _ hS2 (fun hS => ?_)
      clear hK K hb hS2 
      try simp only [Act.put, List.setIfInBounds_toArray, List.set_cons_zero, List.set_cons_succ, List.getElem_toArray, List.getElem_cons_succ, List.getElem_cons_zero]
      refine wpAnyH_take (i := 3) (v := .tuple #[.agg T.toArray, .nilIface]) rfl (by kernel_rfl) (by kernel_rfl) (by kernel_rfl) (fun _ _ _ h => h) (Or.inl ⟨by kernel_rfl, fun wq hS => by go_simp⟩) hS ?_
      try simp only [Act.put, List.setIfInBounds_toArray, List.set_cons_zero, List.set_cons_succ, List.getElem_toArray, List.getElem_cons_succ, List.getElem_cons_zero]
      refine wpAnyH_take (i := 4) (v := .agg T.toArray) rfl (by kernel_rfl) (by kernel_rfl) (by kernel_rfl) (fun _ _ _ h => h) (Or.inl ⟨by kernel_rfl, fun wq hS => by go_simp⟩) hS ?_
      try simp only [Act.put, List.setIfInBounds_toArray, List.set_cons_zero, List.set_cons_succ, List.getElem_toArray, List.getElem_cons_succ, List.getElem_cons_zero]
      refine wpAnyH_take (i := 5) (v := .nilIface) rfl (by kernel_rfl) (by kernel_rfl) (by kernel_rfl) (fun _ _ _ h => h) (Or.inl ⟨by kernel_rfl, fun wq hS => by go_simp⟩) hS ?_
      try simp only [Act.put, List.setIfInBounds_toArray, List.set_cons_zero, List.set_cons_succ, List.getElem_toArray, List.getElem_cons_succ, List.getElem_cons_zero]
      refine wpAnyH_ready (rs := [7]) (by kernel_rfl) (by simp) ?_
      refine AllReadyH.cons rfl (fun K hK => ?_) AllReadyH.nil
      refine want_it (by kernel_rfl) ?_
      refine wp_store_mid 43 (.tmp 4) (.tmp 12) rfl g 0 T.toArray rfl rfl (LT.out.t (N := we.heap.size) ⟨HL.out.1, HL.out.2, HT.out⟩) LT.out.j LT.out.o ?_
      simp only
      have hS2 : Below we.heap.size we (wf8.setCells g 0 T) := below_setCells hS HL.out.1
      refine hK.out _ _ hS2 (fun hS => ?_)
      clear hK K hS2
      try simp only [Act.put, List.getElem_toArray, List.getElem_cons_succ, List.getElem_cons_zero]
      refine wpAnyH_ready (rs := [8]) (by kernel_rfl) (by simp) ?_
      refine AllReadyH.cons rfl (fun K hK => ?_) AllReadyH.nil
      go_simp
      refine hK.out _ _ hS (fun hS => ?_)
      clear hK K
      try simp only [Act.put, List.setIfInBounds_toArray, List.set_cons_zero, List.set_cons_succ, List.getElem_toArray, List.getElem_cons_succ, List.getElem_cons_zero]
      refine wpAnyH_done (by kernel_rfl) ?_ _
      go_wp2
      go_meet
      case rel => exact ⟨g, rfl, rfl, ⟨hS, float_box43 LT.out HT.out HL.out.2⟩⟩
  case rest =>
    obtain ⟨g, rfl, rfl, HR⟩ := hcut
    have BK2 := (show Hid (Rp wc n 0 K) from BK.out.below HR.out.1)
    have AO2 := (show Hid (Ao w.heap.size wc (n + 1) 64) from AO.out.below HR.out.1)
    have BT2 := (show Hid (Rp wc g 0 T) from HR.out.2)
    have HB3 := (show Hid (Below w.heap.size w wc) from HBE.out.trans (HR.out.1.mono HBE.out.size))
    have r0 := HCK.out BK2.out
    clear HR BK AO HBE c1 c2 HCK
    go_upto_region 5 with (fail)
    clear r0
    go_cut [6, 7] from 21 to 29 (fun s e wx => ∃ g2, s = .pointer (some ⟨g2, 0, none⟩) ∧ e = .nilIface ∧ Hid (Below wc.heap.size wc wx ∧ Rp wx g2 0 S ∧ wc.heap.size ≤ g2))
    case first =>
      refine wp_region_held_drew (S := fun w' => Below wc.heap.size wc w') (by kernel_rfl) (drewB wc) (fun hS => ?_)
      obtain ⟨wd, hwd⟩ : ∃ v, World.drew wc = v := ⟨_, rfl⟩
      rw [hwd] at hS ⊢
      clear hwd
      refine wpAnyH_take (i := 0) (v := .agg T.toArray) rfl (by kernel_rfl) (by kernel_rfl) (by kernel_rfl) (fun _ _ _ h => h) (yieldsIf_load_mid (by kernel_rfl) 43 (.tmp 4) rfl g 0 rfl T _ (fun wq hq => Rg.Below.range hq BT2.out.1 BT2.out.2) Try.underlying43 rfl LT.out.i) hS ?_
      try simp only [Act.put, List.setIfInBounds_toArray, List.set_cons_zero, List.set_cons_succ, List.getElem_toArray, List.getElem_cons_zero]
      refine wpAnyH_ready (rs := [1, 9]) (by kernel_rfl) (by simp) ?_
      refine AllReadyH.cons rfl (fun K hK => ?_) (AllReadyH.cons rfl (fun K hK => ?_) AllReadyH.nil)
      · go_simp
        have NL := (show Hid (Dt.Num (wd.alloc (.cells #[.int .i64 1] 3)) (.slice (some ⟨wd.heap.size, 0, none⟩) 1 1) 1) from Dt.lit_num wd 1 (by decide) (by decide))
        have hb : Below wd.heap.size wd (wd.alloc (.cells #[.int .i64 1] 3)) := (Below.refl _ _).alloc (Nat.le_refl _) _
        refine hK.out _ _ (hS.alloc hS.size _) (fun hS => ?_)
        clear hK K
        try simp only [Act.put, List.setIfInBounds_toArray, List.set_cons_zero, List.set_cons_succ, List.getElem_toArray, List.getElem_cons_succ, List.getElem_cons_zero]
        obtain ⟨wf1, hwf1⟩ : ∃ v, wd.alloc (.cells #[.int .i64 1] 3) = v := ⟨_, rfl⟩
        rw [hwf1] at NL hb hS ⊢
        obtain ⟨blNL, hblNL⟩ : ∃ b, wd.heap.size = b := ⟨_, rfl⟩
        rw [hblNL] at NL ⊢
        clear hblNL hwf1 hb
        refine wpAnyH_ready (rs := [2, 9]) (by kernel_rfl) (by simp) ?_
        refine AllReadyH.cons rfl (fun K hK => ?_) (AllReadyH.cons rfl (fun K hK => ?_) AllReadyH.nil)
        · go_simp
          refine (CS.out _ _ _ (Dt.Num.zero _) (NL.out)).mono ?_
          rintro e wf2 ⟨vm, rfl, hn1, hb⟩
          replace NL := (show Hid (Dt.Num wf2 (.slice (some ⟨blNL, 0, none⟩) 1 1) 1) from NL.out.below hb)
          have NM := (show Hid (Dt.Num wf2 vm (p - 1)) from hn1)
          have hS2 : Below wc.heap.size wc wf2 := hS.trans (hb.mono hS.size)
          refine hK.out _ _ hS2 (fun hS => ?_)
          clear hK K hb hS2 hn1
          try simp only [Act.put, List.setIfInBounds_toArray, List.set_cons_zero, List.set_cons_succ, List.getElem_toArray, List.getElem_cons_succ, List.getElem_cons_zero]
          refine wpAnyH_ready (rs := [3, 9]) (by kernel_rfl) (by simp) ?_
          refine AllReadyH.cons rfl (fun K hK => ?_) (AllReadyH.cons rfl (fun K hK => ?_) AllReadyH.nil)
          · go_simp
            refine (CB.out _ _ (NM.out)).mono ?_
            rintro e wf3 ⟨rfl, hb⟩
            replace NM := (show Hid (Dt.Num wf3 vm (p - 1)) from NM.out.below hb)
            have hS2 : Below wc.heap.size wc wf3 := hS.trans (hb.mono hS.size)
            refine hK.out _ _ hS2 (fun hS => ?_)
            clear hK K hb hS2 
            try simp only [Act.put, List.setIfInBounds_toArray, List.set_cons_zero, List.set_cons_succ, List.getElem_toArray, List.getElem_cons_succ, List.getElem_cons_zero]
            refine wpAnyH_take (i := 4) (v := .agg Q.toArray) rfl (by kernel_rfl) (by kernel_rfl) (by kernel_rfl) (fun _ _ _ h => h) (yieldsIf_build (by kernel_rfl) 43 _ rfl [(1, .agg M.toArray)] (by kernel_rfl) Q HBP.out) hS ?_
            try simp only [Act.put, List.setIfInBounds_toArray, List.set_cons_zero, List.set_cons_succ, List.getElem_toArray, List.getElem_cons_succ, List.getElem_cons_zero]
            refine wpAnyH_ready (rs := [5, 9]) (by kernel_rfl) (by simp) ?_
            refine AllReadyH.cons rfl (fun K hK => ?_) (AllReadyH.cons rfl (fun K hK => ?_) AllReadyH.nil)
            · go_simp
              refine (c5 _).mono ?_
              rintro e wf4 ⟨rfl, hb⟩
              have hS2 : Below wc.heap.size wc wf4 := hS.trans (hb.mono hS.size)
              refine hK.out _ _ hS2 (fun hS => ?_)
              clear hK K hb hS2 
              try simp only [Act.put, List.setIfInBounds_toArray, List.set_cons_zero, List.set_cons_succ, List.getElem_toArray, List.getElem_cons_succ, List.getElem_cons_zero]
              refine wpAnyH_take (i := 6) (v := .tuple #[.agg S.toArray, .nilIface]) rfl (by kernel_rfl) (by kernel_rfl) (by kernel_rfl) (fun _ _ _ h => h) (Or.inl ⟨by kernel_rfl, fun wq hS => by go_simp⟩) hS ?_
              try simp only [Act.put, List.setIfInBounds_toArray, List.set_cons_zero, List.set_cons_succ, List.getElem_toArray, List.getElem_cons_succ, List.getElem_cons_zero]
              refine wpAnyH_take (i := 7) (v := .agg S.toArray) rfl (by kernel_rfl) (by kernel_rfl) (by kernel_rfl) (fun _ _ _ h => h) (Or.inl ⟨by kernel_rfl, fun wq hS => by go_simp⟩) hS ?_
              try simp only [Act.put, List.setIfInBounds_toArray, List.set_cons_zero, List.set_cons_succ, List.getElem_toArray, List.getElem_cons_succ, List.getElem_cons_zero]
              refine wpAnyH_take (i := 8) (v := .nilIface) rfl (by kernel_rfl) (by kernel_rfl) (by kernel_rfl) (fun _ _ _ h => h) (Or.inl ⟨by kernel_rfl, fun wq hS => by go_simp⟩) hS ?_
              try simp only [Act.put, List.setIfInBounds_toArray, List.set_cons_zero, List.set_cons_succ, List.getElem_toArray, List.getElem_cons_succ, List.getElem_cons_zero]
              refine wpAnyH_ready (rs := [9]) (by kernel_rfl) (by simp) ?_
              refine AllReadyH.cons rfl (fun K hK => ?_) AllReadyH.nil
              go_simp
              have HT := (show Hid _ from HTT43.out wf4)
              have HL : Hid (wc.heap.size ≤ wf4.heap.size ∧ wf4.heap.size < (wf4.alloc (.cells Z43 43)).heap.size) := ⟨hS.size, by rw [size_alloc]; omega⟩
              have hb : Below wf4.heap.size wf4 (wf4.alloc (.cells Z43 43)) := (Below.refl _ _).alloc (Nat.le_refl _) _
              refine hK.out _ _ (hS.alloc hS.size _) (fun hS => ?_)
              clear hK K
              try simp only [Act.put, List.setIfInBounds_toArray, List.set_cons_zero, List.set_cons_succ, List.getElem_toArray, List.getElem_cons_succ, List.getElem_cons_zero]
              obtain ⟨wf5, hwf5⟩ : ∃ v, wf4.alloc (.cells Z43 43) = v := ⟨_, rfl⟩
              rw [hwf5] at HT HL hb hS ⊢
              obtain ⟨g3, hg⟩ : ∃ g, wf4.heap.size = g := ⟨_, rfl⟩
              rw [hg] at HT HL ⊢
              clear hg hwf5 hb
              refine wpAnyH_ready (rs := [10]) (by kernel_rfl) (by simp) ?_
              refine AllReadyH.cons rfl (fun K hK => ?_) AllReadyH.nil
              refine want_it (by kernel_rfl) ?_
              refine wp_store_mid 43 (.tmp 6) (.tmp 28) rfl g3 0 S.toArray rfl rfl (LS.out.t (N := wc.heap.size) ⟨HL.out.1, HL.out.2, HT.out⟩) LS.out.j LS.out.o ?_
              simp only
              have hS2 : Below wc.heap.size wc (wf5.setCells g3 0 S) := below_setCells hS HL.out.1
              refine hK.out _ _ hS2 (fun hS => ?_)
              clear hK K hS2
              try simp only [Act.put, List.getElem_toArray, List.getElem_cons_succ, List.getElem_cons_zero]
              refine wpAnyH_ready (rs := [11]) (by kernel_rfl) (by simp) ?_
              refine AllReadyH.cons rfl (fun K hK => ?_) AllReadyH.nil
              go_simp
              refine hK.out _ _ hS (fun hS => ?_)
              clear hK K
              try simp only [Act.put, List.setIfInBounds_toArray, List.set_cons_zero, List.set_cons_succ, List.getElem_toArray, List.getElem_cons_succ, List.getElem_cons_zero]
              refine wpAnyH_done (by kernel_rfl) ?_ _
              go_wp2
              go_meet
              case rel => exact ⟨g3, rfl, rfl, hS, float_box43 LS.out HT.out HL.out.2, HL.out.1⟩
            · go_simp
              have HT := (show Hid _ from HTT43.out wf3)
              have HL : Hid (wc.heap.size ≤ wf3.heap.size ∧ wf3.heap.size < (wf3.alloc (.cells Z43 43)).heap.size) := ⟨hS.size, by rw [size_alloc]; omega⟩
              have hb : Below wf3.heap.size wf3 (wf3.alloc (.cells Z43 43)) := (Below.refl _ _).alloc (Nat.le_refl _) _
              refine hK.out _ _ (hS.alloc hS.size _) (fun hS => ?_)
              clear hK K
              try simp only [Act.put, List.setIfInBounds_toArray, List.set_cons_zero, List.set_cons_succ, List.getElem_toArray, List.getElem_cons_succ, List.getElem_cons_zero]
              obtain ⟨wf6, hwf6⟩ : ∃ v, wf3.alloc (.cells Z43 43) = v := ⟨_, rfl⟩
              rw [hwf6] at HT HL hb hS ⊢
              obtain ⟨g3, hg⟩ : ∃ g, wf3.heap.size = g := ⟨_, rfl⟩
              rw [hg] at HT HL ⊢
              clear hg hwf6 hb
              refine wpAnyH_ready (rs := [5]) (by kernel_rfl) (by simp) ?_
              refine AllReadyH.cons rfl (fun K hK => ?_) AllReadyH.nil
              go_simp
              refine (c5 _).mono ?_
              rintro e wf7 ⟨rfl, hb⟩
              replace HT := (show Hid (wf7.there g3 0 64) from there_below hb HT.out HL.out.2)
              replace HL := (show Hid (wc.heap.size ≤ g3 ∧ g3 < wf7.heap.size) from ⟨HL.out.1, Nat.lt_of_lt_of_le HL.out.2 hb.size⟩)
              have hS2 : Below wc.heap.size wc wf7 := hS.trans (hb.mono hS.size)
              refine hK.out _ _ hS2 (fun hS => ?_)
              clear hK K hb hS2 
              try simp only [Act.put, List.setIfInBounds_toArray, List.set_cons_zero, List.set_cons_succ, List.getElem_toArray, List.getElem_cons_succ, List.getElem_cons_zero]
              refine wpAnyH_take (i := 6) (v := .tuple #[.agg S.toArray, .nilIface]) rfl (by kernel_rfl) (by kernel_rfl) (by kernel_rfl) (fun _ _ _ h => h) (Or.inl ⟨by kernel_rfl, fun wq hS => by go_simp⟩) hS ?_
              try simp only [Act.put, List.setIfInBounds_toArray, List.set_cons_zero, List.set_cons_succ, List.getElem_toArray, List.getElem_cons_succ, List.getElem_cons_zero]
              refine wpAnyH_take (i := 7) (v := .agg S.toArray) rfl (by kernel_rfl) (by kernel_rfl) (by kernel_rfl) (fun _ _ _ h => h) (Or.inl ⟨by kernel_rfl, fun wq hS => by go_simp⟩) hS ?_
              try simp only [Act.put, List.setIfInBounds_toArray, List.set_cons_zero, List.set_cons_succ, List.getElem_toArray, List.getElem_cons_succ, List.getElem_cons_zero]
              refine wpAnyH_take (i := 8) (v := .nilIface) rfl (by kernel_rfl) (by kernel_rfl) (by kernel_rfl) (fun _ _ _ h => h) (Or.inl ⟨by kernel_rfl, fun wq hS => by go_simp⟩) hS ?_
              try simp only [Act.put, List.setIfInBounds_toArray, List.set_cons_zero, List.set_cons_succ, List.getElem_toArray, List.getElem_cons_succ, List.getElem_cons_zero]
              refine wpAnyH_ready (rs := [10]) (by kernel_rfl) (by simp) ?_
              refine AllReadyH.cons rfl (fun K hK => ?_) AllReadyH.nil
              refine want_it (by kernel_rfl) ?_
              refine wp_store_mid 43 (.tmp 6) (.tmp 28) rfl g3 0 S.toArray rfl rfl (LS.out.t (N := wc.heap.size) ⟨HL.out.1, HL.out.2, HT.out⟩) LS.out.j LS.out.o ?_
              simp only
              have hS2 : Below wc.heap.size wc (wf7.setCells g3 0 S) := below_setCells hS HL.out.1
              refine hK.out _ _ hS2 (fun hS => ?_)
              clear hK K hS2
              try simp only [Act.put, List.getElem_toArray, List.getElem_cons_succ, List.getElem_cons_zero]
              refine wpAnyH_ready (rs := [11]) (by kernel_rfl) (by simp) ?_
              refine AllReadyH.cons rfl (fun K hK => ?_) AllReadyH.nil
              go_simp
              refine hK.out _ _ hS (fun hS => ?_)
              clear hK K
              try simp only [Act.put, List.setIfInBounds_toArray, List.set_cons_zero, List.set_cons_succ, List.getElem_toArray, List.getElem_cons_succ, List.getElem_cons_zero]
              refine wpAnyH_done (by kernel_rfl) ?_ _
              go_wp2
              go_meet
              case rel => exact ⟨g3, rfl, rfl, hS, float_box43 LS.out HT.out HL.out.2, HL.out.1⟩
          · go_simp
            have HT := (show Hid _ from HTT43.out wf2)
            have HL : Hid (wc.heap.size ≤ wf2.heap.size ∧ wf2.heap.size < (wf2.alloc (.cells Z43 43)).heap.size) := ⟨hS.size, by rw [size_alloc]; omega⟩
            have hb : Below wf2.heap.size wf2 (wf2.alloc (.cells Z43 43)) := (Below.refl _ _).alloc (Nat.le_refl _) _
            refine hK.out _ _ (hS.alloc hS.size _) (fun hS => ?_)
            clear hK K
            try simp only [Act.put, List.setIfInBounds_toArray, List.set_cons_zero, List.set_cons_succ, List.getElem_toArray, List.getElem_cons_succ, List.getElem_cons_zero]
            obtain ⟨wf8, hwf8⟩ : ∃ v, wf2.alloc (.cells Z43 43) = v := ⟨_, rfl⟩
            rw [hwf8] at HT HL hb hS ⊢
            replace NM := (show Hid (Dt.Num wf8 vm (p - 1)) from NM.out.below hb)
            obtain ⟨g3, hg⟩ : ∃ g, wf2.heap.size = g := ⟨_, rfl⟩
            rw [hg] at HT HL ⊢
            clear hg hwf8 hb
            refine wpAnyH_ready (rs := [3]) (by kernel_rfl) (by simp) ?_
            refine AllReadyH.cons rfl (fun K hK => ?_) AllReadyH.nil
            go_simp
            refine (CB.out _ _ (NM.out)).mono ?_
            rintro e wf9 ⟨rfl, hb⟩
            replace NM := (show Hid (Dt.Num wf9 vm (p - 1)) from NM.out.below hb)
            replace HT := (show Hid (wf9.there g3 0 64) from there_below hb HT.out HL.out.2)
            replace HL := (show Hid (wc.heap.size ≤ g3 ∧ g3 < wf9.heap.size) from ⟨HL.out.1, Nat.lt_of_lt_of_le HL.out.2 hb.size⟩)
            have hS2 : Below wc.heap.size wc wf9 := hS.trans (hb.mono hS.size)
            refine hK.out _ _ hS2 (fun hS => ?_)
            clear hK K hb hS2 
            try simp only [Act.put, List.setIfInBounds_toArray, List.set_cons_zero, List.set_cons_succ, List.getElem_toArray, List.getElem_cons_succ, List.getElem_cons_zero]
            refine wpAnyH_take (i := 4) (v := .agg Q.toArray) rfl (by kernel_rfl) (by kernel_rfl) (by kernel_rfl) (fun _ _ _ h => h) (yieldsIf_build (by kernel_rfl) 43 _ rfl [(1, .agg M.toArray)] (by kernel_rfl) Q HBP.out) hS ?_
            try simp only [Act.put, List.setIfInBounds_toArray, List.set_cons_zero, List.set_cons_succ, List.getElem_toArray, List.getElem_cons_succ, List.getElem_cons_zero]
            refine wpAnyH_ready (rs := [5]) (by kernel_rfl) (by simp) ?_
            refine AllReadyH.cons rfl (fun K hK => ?_) AllReadyH.nil
            go_simp
            refine (c5 _).mono ?_
            rintro e wf10 ⟨rfl, hb⟩
            replace HT := (show Hid (wf10.there g3 0 64) from there_below hb HT.out HL.out.2)
            replace HL := (show Hid (wc.heap.size ≤ g3 ∧ g3 < wf10.heap.size) from ⟨HL.out.1, Nat.lt_of_lt_of_le HL.out.2 hb.size⟩)
            have hS2 : Below wc.heap.size wc wf10 := hS.trans (hb.mono hS.size)
            refine hK.out _ _ hS2 (fun hS => ?_)
            clear hK K hb hS2 
            try simp only [Act.put, List.setIfInBounds_toArray, List.set_cons_zero, List.set_cons_succ, List.getElem_toArray, List.getElem_cons_succ, List.getElem_cons_zero]
            refine wpAnyH_take (i := 6) (v := .tuple #[.agg S.toArray, .nilIface]) rfl (by kernel_rfl) (by kernel_rfl) (by kernel_rfl) (fun _ _ _ h => h) (Or.inl ⟨by kernel_rfl, fun wq hS => by go_simp⟩) hS ?_
            try simp only [Act.put, List.setIfInBounds_toArray, List.set_cons_zero, List.set_cons_succ, List.getElem_toArray, List.getElem_cons_succ, List.getElem_cons_zero]
            refine wpAnyH_take (i := 7) (v := .agg S.toArray) rfl (by kernel_rfl) (by kernel_rfl) (by kernel_rfl) (fun _ _ _ h => h) (Or.inl ⟨by kernel_rfl, fun wq hS => by go_simp⟩) hS ?_
            try simp only [Act.put, List.setIfInBounds_toArray, List.set_cons_zero, List.set_cons_succ, List.getElem_toArray, List.getElem_cons_succ, List.getElem_cons_zero]
            refine wpAnyH_take (i := 8) (v := .nilIface) rfl (by kernel_rfl) (by kernel_rfl) (by kernel_rfl) (fun _ _ _ h => h) (Or.inl ⟨by kernel_rfl, fun wq hS => by go_simp⟩) hS ?_
            try simp only [Act.put, List.setIfInBounds_toArray, List.set_cons_zero, List.set_cons_succ, List.getElem_toArray, List.getElem_cons_succ, List.getElem_cons_zero]
            refine wpAnyH_ready (rs := [10]) (by kernel_rfl) (by simp) ?_
            refine AllReadyH.cons rfl (fun K hK => ?_) AllReadyH.nil
            refine want_it (by kernel_rfl) ?_
            refine wp_store_mid 43 (.tmp 6) (.tmp 28) rfl g3 0 S.toArray rfl rfl (LS.out.t (N := wc.heap.size) ⟨HL.out.1, HL.out.2, HT.out⟩) LS.out.j LS.out.o ?_
            simp only
            have hS2 : Below wc.heap.size wc (wf10.setCells g3 0 S) := below_setCells hS HL.out.1
            refine hK.out _ _ hS2 (fun hS => ?_)
            clear hK K hS2
            try simp only [Act.put, List.getElem_toArray, List.getElem_cons_succ, List.getElem_cons_zero]
            refine wpAnyH_ready (rs := [11]) (by kernel_rfl) (by simp) ?_
            refine AllReadyH.cons rfl (fun K hK => ?_) AllReadyH.nil
            go_simp
            refine hK.out _ _ hS (fun hS => ?_)
            clear hK K
            try simp only [Act.put, List.setIfInBounds_toArray, List.set_cons_zero, List.set_cons_succ, List.getElem_toArray, List.getElem_cons_succ, List.getElem_cons_zero]
            refine wpAnyH_done (by kernel_rfl) ?_ _
            go_wp2
            go_meet
            case rel => exact ⟨g3, rfl, rfl, hS, float_box43 LS.out HT.out HL.out.2, HL.out.1⟩
        · go_simp
          have HT := (show Hid _ from HTT43.out wf1)
          have HL : Hid (wc.heap.size ≤ wf1.heap.size ∧ wf1.heap.size < (wf1.alloc (.cells Z43 43)).heap.size) := ⟨hS.size, by rw [size_alloc]; omega⟩
          have hb : Below wf1.heap.size wf1 (wf1.alloc (.cells Z43 43)) := (Below.refl _ _).alloc (Nat.le_refl _) _
          refine hK.out _ _ (hS.alloc hS.size _) (fun hS => ?_)
          clear hK K
          try simp only [Act.put, List.setIfInBounds_toArray, List.set_cons_zero, List.set_cons_succ, List.getElem_toArray, List.getElem_cons_succ, List.getElem_cons_zero]
          obtain ⟨wf11, hwf11⟩ : ∃ v, wf1.alloc (.cells Z43 43) = v := ⟨_, rfl⟩
          rw [hwf11] at HT HL hb hS ⊢
          replace NL := (show Hid (Dt.Num wf11 (.slice (some ⟨blNL, 0, none⟩) 1 1) 1) from NL.out.below hb)
          obtain ⟨g3, hg⟩ : ∃ g, wf1.heap.size = g := ⟨_, rfl⟩
          rw [hg] at HT HL ⊢
          clear hg hwf11 hb
          refine wpAnyH_ready (rs := [2]) (by kernel_rfl) (by simp) ?_
          refine AllReadyH.cons rfl (fun K hK => ?_) AllReadyH.nil
          go_simp
          refine (CS.out _ _ _ (Dt.Num.zero _) (NL.out)).mono ?_
          rintro e wf12 ⟨vm, rfl, hn1, hb⟩
          replace NL := (show Hid (Dt.Num wf12 (.slice (some ⟨blNL, 0, none⟩) 1 1) 1) from NL.out.below hb)
          replace HT := (show Hid (wf12.there g3 0 64) from there_below hb HT.out HL.out.2)
          replace HL := (show Hid (wc.heap.size ≤ g3 ∧ g3 < wf12.heap.size) from ⟨HL.out.1, Nat.lt_of_lt_of_le HL.out.2 hb.size⟩)
          have NM := (show Hid (Dt.Num wf12 vm (p - 1)) from hn1)
          have hS2 : Below wc.heap.size wc wf12 := hS.trans (hb.mono hS.size)
          refine hK.out _ _ hS2 (fun hS => ?_)
          clear hK K hb hS2 hn1
          try simp only [Act.put, List.setIfInBounds_toArray, List.set_cons_zero, List.set_cons_succ, List.getElem_toArray, List.getElem_cons_succ, List.getElem_cons_zero]
          refine wpAnyH_ready (rs := [3]) (by kernel_rfl) (by simp) ?_
          refine AllReadyH.cons rfl (fun K hK => ?_) AllReadyH.nil
          go_simp
          refine (CB.out _ _ (NM.out)).mono ?_
          rintro e wf13 ⟨rfl, hb⟩
          replace NM := (show Hid (Dt.Num wf13 vm (p - 1)) from NM.out.below hb)
          replace HT := (show Hid (wf13.there g3 0 64) from there_below hb HT.out HL.out.2)
          replace HL := (show Hid (wc.heap.size ≤ g3 ∧ g3 < wf13.heap.size) from ⟨HL.out.1, Nat.lt_of_lt_of_le HL.out.2 hb.size⟩)
          have hS2 : Below wc.heap.size wc wf13 := hS.trans (hb.mono hS.size)
          refine hK.out _ _ hS2 (fun hS => ?_)
          clear hK K hb hS2 
          try simp only [Act.put, List.setIfInBounds_toArray, List.set_cons_zero, List.set_cons_succ, List.getElem_toArray, List.getElem_cons_succ, List.getElem_cons_zero]
          refine wpAnyH_take (i := 4) (v := .agg Q.toArray) rfl (by kernel_rfl) (by kernel_rfl) (by kernel_rfl) (fun _ _ _ h => h) (yieldsIf_build (by kernel_rfl) 43 _ rfl [(1, .agg M.toArray)] (by kernel_rfl) Q HBP.out) hS ?_
          try simp only [Act.put, List.setIfInBounds_toArray, List.set_cons_zero, List.set_cons_succ, List.getElem_toArray, List.getElem_cons_succ, List.getElem_cons_zero]
          refine wpAnyH_ready (rs := [5]) (by kernel_rfl) (by simp) ?_
          refine AllReadyH.cons rfl (fun K hK => ?_) AllReadyH.nil
          go_simp
          refine (c5 _).mono ?_
          rintro e wf14 ⟨rfl, hb⟩
          replace HT := (show Hid (wf14.there g3 0 64) from there_below hb HT.out HL.out.2)
          replace HL := (show Hid (wc.heap.size ≤ g3 ∧ g3 < wf14.heap.size) from ⟨HL.out.1, Nat.lt_of_lt_of_le HL.out.2 hb.size⟩)
          have hS2 : Below wc.heap.size wc wf14 := hS.trans (hb.mono hS.size)
          refine hK.out _ _ hS2 (fun hS => ?_)
          clear hK K hb hS2 
          try simp only [Act.put, List.setIfInBounds_toArray, List.set_cons_zero, List.set_cons_succ, List.getElem_toArray, List.getElem_cons_succ, List.getElem_cons_zero]
          refine wpAnyH_take (i := 6) (v := .tuple #[.agg S.toArray, .nilIface]) rfl (by kernel_rfl) (by kernel_rfl) (by kernel_rfl) (fun _ _ _ h => h) (Or.inl ⟨by kernel_rfl, fun wq hS => by go_simp⟩) hS ?_
          try simp only [Act.put, List.setIfInBounds_toArray, List.set_cons_zero, List.set_cons_succ, List.getElem_toArray, List.getElem_cons_succ, List.getElem_cons_zero]
          refine wpAnyH_take (i := 7) (v := .agg S.toArray) rfl (by kernel_rfl) (by kernel_rfl) (by kernel_rfl) (fun _ _ _ h => h) (Or.inl ⟨by kernel_rfl, fun wq hS => by go_simp⟩) hS ?_
          try simp only [Act.put, List.setIfInBounds_toArray, List.set_cons_zero, List.set_cons_succ, List.getElem_toArray, List.getElem_cons_succ, List.getElem_cons_zero]
          refine wpAnyH_take (i := 8) (v := .nilIface) rfl (by kernel_rfl) (by kernel_rfl) (by kernel_rfl) (fun _ _ _ h => h) (Or.inl ⟨by kernel_rfl, fun wq hS => by go_simp⟩) hS ?_
          try simp only [Act.put, List.setIfInBounds_toArray, List.set_cons_zero, List.set_cons_succ, List.getElem_toArray, List.getElem_cons_succ, List.getElem_cons_zero]
          refine wpAnyH_ready (rs := [10]) (by kernel_rfl) (by simp) ?_
          refine AllReadyH.cons rfl (fun K hK => ?_) AllReadyH.nil
          refine want_it (by kernel_rfl) ?_
          refine wp_store_mid 43 (.tmp 6) (.tmp 28) rfl g3 0 S.toArray rfl rfl (LS.out.t (N := wc.heap.size) ⟨HL.out.1, HL.out.2, HT.out⟩) LS.out.j LS.out.o ?_
          simp only
          have hS2 : Below wc.heap.size wc (wf14.setCells g3 0 S) := below_setCells hS HL.out.1
          refine hK.out _ _ hS2 (fun hS => ?_)
          clear hK K hS2
          try simp only [Act.put, List.getElem_toArray, List.getElem_cons_succ, List.getElem_cons_zero]
          refine wpAnyH_ready (rs := [11]) (by kernel_rfl) (by simp) ?_
          refine AllReadyH.cons rfl (fun K hK => ?_) AllReadyH.nil
          go_simp
          refine hK.out _ _ hS (fun hS => ?_)
          clear hK K
          try simp only [Act.put, List.setIfInBounds_toArray, List.set_cons_zero, List.set_cons_succ, List.getElem_toArray, List.getElem_cons_succ, List.getElem_cons_zero]
          refine wpAnyH_done (by kernel_rfl) ?_ _
          go_wp2
          go_meet
          case rel => exact ⟨g3, rfl, rfl, hS, float_box43 LS.out HT.out HL.out.2, HL.out.1⟩
      · go_simp
        have HT := (show Hid _ from HTT43.out wd)
        have HL : Hid (wc.heap.size ≤ wd.heap.size ∧ wd.heap.size < (wd.alloc (.cells Z43 43)).heap.size) := ⟨hS.size, by rw [size_alloc]; omega⟩
        have hb : Below wd.heap.size wd (wd.alloc (.cells Z43 43)) := (Below.refl _ _).alloc (Nat.le_refl _) _
        refine hK.out _ _ (hS.alloc hS.size _) (fun hS => ?_)
        clear hK K
        try simp only [Act.put, List.setIfInBounds_toArray, List.set_cons_zero, List.set_cons_succ, List.getElem_toArray, List.getElem_cons_succ, List.getElem_cons_zero]
        obtain ⟨wf15, hwf15⟩ : ∃ v, wd.alloc (.cells Z43 43) = v := ⟨_, rfl⟩
        rw [hwf15] at HT HL hb hS ⊢
        obtain ⟨g3, hg⟩ : ∃ g, wd.heap.size = g := ⟨_, rfl⟩
        rw [hg] at HT HL ⊢
        clear hg hwf15 hb
        refine wpAnyH_ready (rs := [1]) (by kernel_rfl) (by simp) ?_
        refine AllReadyH.cons rfl (fun K hK => ?_) AllReadyH.nil
        go_simp
        have NL := (show Hid (Dt.Num (wf15.alloc (.cells #[.int .i64 1] 3)) (.slice (some ⟨wf15.heap.size, 0, none⟩) 1 1) 1) from Dt.lit_num wf15 1 (by decide) (by decide))
        have hb : Below wf15.heap.size wf15 (wf15.alloc (.cells #[.int .i64 1] 3)) := (Below.refl _ _).alloc (Nat.le_refl _) _
        refine hK.out _ _ (hS.alloc hS.size _) (fun hS => ?_)
        clear hK K
        try simp only [Act.put, List.setIfInBounds_toArray, List.set_cons_zero, List.set_cons_succ, List.getElem_toArray, List.getElem_cons_succ, List.getElem_cons_zero]
        obtain ⟨wf16, hwf16⟩ : ∃ v, wf15.alloc (.cells #[.int .i64 1] 3) = v := ⟨_, rfl⟩
        rw [hwf16] at NL hb hS ⊢
        replace HT := (show Hid (wf16.there g3 0 64) from there_below hb HT.out HL.out.2)
        replace HL := (show Hid (wc.heap.size ≤ g3 ∧ g3 < wf16.heap.size) from ⟨HL.out.1, Nat.lt_of_lt_of_le HL.out.2 hb.size⟩)
        obtain ⟨blNL, hblNL⟩ : ∃ b, wf15.heap.size = b := ⟨_, rfl⟩
        rw [hblNL] at NL ⊢
        clear hblNL hwf16 hb
        refine wpAnyH_ready (rs := [2]) (by kernel_rfl) (by simp) ?_
        refine AllReadyH.cons rfl (fun K hK => ?_) AllReadyH.nil
        go_simp
        refine (CS.out _ _ _ (Dt.Num.zero _) (NL.out)).mono ?_
        rintro e wf17 ⟨vm, rfl, hn1, hb⟩
        replace NL := (show Hid (Dt.Num wf17 (.slice (some ⟨blNL, 0, none⟩) 1 1) 1) from NL.out.below hb)
        replace HT := (show Hid (wf17.there g3 0 64) from there_below hb HT.out HL.out.2)
        replace HL := (show Hid (wc.heap.size ≤ g3 ∧ g3 < wf17.heap.size) from ⟨HL.out.1, Nat.lt_of_lt_of_le HL.out.2 hb.size⟩)
        have NM := (show Hid (Dt.Num wf17 vm (p - 1)) from hn1)
        have hS2 : Below wc.heap.size wc wf17 := hS.trans (hb.mono hS.size)
        refine hK.out _ _ hS2 (fun hS => ?_)
        clear hK K hb hS2 hn1
        try simp only [Act.put, List.setIfInBounds_toArray, List.set_cons_zero, List.set_cons_succ, List.getElem_toArray, List.getElem_cons_succ, List.getElem_cons_zero]
        refine wpAnyH_ready (rs := [3]) (by kernel_rfl) (by simp) ?_
        refine AllReadyH.cons rfl (fun K hK => ?_) AllReadyH.nil
        go_simp
        refine (CB.out _ _ (NM.out)).mono ?_
        rintro e wf18 ⟨rfl, hb⟩
        replace NM := (show Hid (Dt.Num wf18 vm (p - 1)) from NM.out.below hb)
        replace HT := (show Hid (wf18.there g3 0 64) from there_below hb HT.out HL.out.2)
        replace HL := (show Hid (wc.heap.size ≤ g3 ∧ g3 < wf18.heap.size) from ⟨HL.out.1, Nat.lt_of_lt_of_le HL.out.2 hb.size⟩)
        have hS2 : Below wc.heap.size wc wf18 := hS.trans (hb.mono hS.size)
        refine hK.out _ _ hS2 (fun hS => ?_)
        clear hK K hb hS2 
        try simp only [Act.put, List.setIfInBounds_toArray, List.set_cons_zero, List.set_cons_succ, List.getElem_toArray, List.getElem_cons_succ, List.getElem_cons_zero]
        refine wpAnyH_take (i := 4) (v := .agg Q.toArray) rfl (by kernel_rfl) (by kernel_rfl) (by kernel_rfl) (fun _ _ _ h => h) (yieldsIf_build (by kernel_rfl) 43 _ rfl [(1, .agg M.toArray)] (by kernel_rfl) Q HBP.out) hS ?_
        try simp only [Act.put, List.setIfInBounds_toArray, List.set_cons_zero, List.set_cons_succ, List.getElem_toArray, List.getElem_cons_succ, List.getElem_cons_zero]
        refine wpAnyH_ready (rs := [5]) (by kernel_rfl) (by simp) ?_
        refine AllReadyH.cons rfl (fun K hK => ?_) AllReadyH.nil
        go_simp
        refine (c5 _).mono ?_
        rintro e wf19 ⟨rfl, hb⟩
        replace HT := (show Hid (wf19.there g3 0 64) from there_below hb HT.out HL.out.2)
        replace HL := (show Hid (wc.heap.size ≤ g3 ∧ g3 < wf19.heap.size) from ⟨HL.out.1, Nat.lt_of_lt_of_le HL.out.2 hb.size⟩)
        have hS2 : Below wc.heap.size wc wf19 := hS.trans (hb.mono hS.size)
        refine hK.out _ _ hS2 (fun hS => ?_)
        clear hK K hb hS2 
        try simp only [Act.put, List.setIfInBounds_toArray, List.set_cons_zero, List.set_cons_succ, List.getElem_toArray, List.getElem_cons_succ, List.getElem_cons_zero]
        refine wpAnyH_take (i := 6) (v := .tuple #[.agg S.toArray, .nilIface]) rfl (by kernel_rfl) (by kernel_rfl) (by kernel_rfl) (fun _ _ _ h => h) (Or.inl ⟨by kernel_rfl, fun wq hS => by go_simp⟩) hS ?_
        try simp only [Act.put, List.setIfInBounds_toArray, List.set_cons_zero, List.set_cons_succ, List.getElem_toArray, List.getElem_cons_succ, List.getElem_cons_zero]
        refine wpAnyH_take (i := 7) (v := .agg S.toArray) rfl (by kernel_rfl) (by kernel_rfl) (by kernel_rfl) (fun _ _ _ h => h) (Or.inl ⟨by kernel_rfl, fun wq hS => by go_simp⟩) hS ?_
        try simp only [Act.put, List.setIfInBounds_toArray, List.set_cons_zero, List.set_cons_succ, List.getElem_toArray, List.getElem_cons_succ, List.getElem_cons_zero]
        refine wpAnyH_take (i := 8) (v := .nilIface) rfl (by kernel_rfl) (by kernel_rfl) (by kernel_rfl) (fun _ _ _ h => h) (Or.inl ⟨by kernel_rfl, fun wq hS => by go_simp⟩) hS ?_
        try simp only [Act.put, List.setIfInBounds_toArray, List.set_cons_zero, List.set_cons_succ, List.getElem_toArray, List.getElem_cons_succ, List.getElem_cons_zero]
        refine wpAnyH_ready (rs := [10]) (by kernel_rfl) (by simp) ?_
        refine AllReadyH.cons rfl (fun K hK => ?_) AllReadyH.nil
        refine want_it (by kernel_rfl) ?_
        refine wp_store_mid 43 (.tmp 6) (.tmp 28) rfl g3 0 S.toArray rfl rfl (LS.out.t (N := wc.heap.size) ⟨HL.out.1, HL.out.2, HT.out⟩) LS.out.j LS.out.o ?_
        simp only
        have hS2 : Below wc.heap.size wc (wf19.setCells g3 0 S) := below_setCells hS HL.out.1
        refine hK.out _ _ hS2 (fun hS => ?_)
        clear hK K hS2
        try simp only [Act.put, List.getElem_toArray, List.getElem_cons_succ, List.getElem_cons_zero]
        refine wpAnyH_ready (rs := [11]) (by kernel_rfl) (by simp) ?_
        refine AllReadyH.cons rfl (fun K hK => ?_) AllReadyH.nil
        go_simp
        refine hK.out _ _ hS (fun hS => ?_)
        clear hK K
        try simp only [Act.put, List.setIfInBounds_toArray, List.set_cons_zero, List.set_cons_succ, List.getElem_toArray, List.getElem_cons_succ, List.getElem_cons_zero]
        refine wpAnyH_done (by kernel_rfl) ?_ _
        go_wp2
        go_meet
        case rel => exact ⟨g3, rfl, rfl, hS, float_box43 LS.out HT.out HL.out.2, HL.out.1⟩
    case rest =>
      obtain ⟨g2, rfl, rfl, HR⟩ := hcut
      have AO3 := (show Hid (Ao w.heap.size wc (n + 1) 64) from AO2.out.below HR.out.1)
      have BS3 := (show Hid (Rp wc g2 0 S) from HR.out.2.1)
      have HB4 := (show Hid (Below w.heap.size w wc) from HB3.out.trans (HR.out.1.mono HB3.out.size))
      have HNE : Hid (g2 ≠ n + 1) := by have h1 := HR.out.2.2; have h2 := AO2.out.2.1; show _ ≠ _; omega
      clear HR AO2 BT2 HB3 BK2
      go_wp2
      refine wp_region_held_drew (S := fun w' => Below w.heap.size w w' ∧ Rp w' g2 0 S ∧ Ao w.heap.size w' (n + 1) 64) (by kernel_rfl) ⟨HB4.out.trans ((drewB wc).mono HB4.out.size), BS3.out.below (drewB wc), AO3.out.below (drewB wc)⟩ (fun hS => ?_)
      refine wpAnyH_take (i := 0) (v := .agg S.toArray) rfl (by kernel_rfl) (by kernel_rfl) (by kernel_rfl) (fun _ _ _ h => h) (yieldsIf_load_mid (by kernel_rfl) 43 (.tmp 6) rfl g2 0 rfl S _ (fun wq hq => hq.2.1.1) Try.underlying43 rfl LS.out.i) hS ?_
      try simp only [Act.put, List.setIfInBounds_toArray, List.set_cons_zero, List.set_cons_succ, List.getElem_toArray, List.getElem_cons_zero]
      refine wpAnyH_take (i := 1) (v := .nilIface) rfl (by kernel_rfl) (by kernel_rfl) (by kernel_rfl) (fun _ _ _ h => h) (Or.inl ⟨by kernel_rfl, fun wq hS => by go_simp⟩) hS ?_
      try simp only [Act.put, List.setIfInBounds_toArray, List.set_cons_zero, List.set_cons_succ, List.getElem_toArray, List.getElem_cons_succ, List.getElem_cons_zero]
      refine wpAnyH_take (i := 2) (v := .bool true) rfl (by kernel_rfl) (by kernel_rfl) (by kernel_rfl) (fun _ _ _ h => h) (Or.inl ⟨by kernel_rfl, fun wq hS => by go_simp⟩) hS ?_
      try simp only [Act.put, List.setIfInBounds_toArray, List.set_cons_zero, List.set_cons_succ, List.getElem_toArray, List.getElem_cons_succ, List.getElem_cons_zero]
      refine wpAnyH_ready (rs := [3]) (by kernel_rfl) (by simp) ?_
      refine AllReadyH.cons rfl (fun K hK => ?_) AllReadyH.nil
      refine want_it (by kernel_rfl) ?_
      refine wp_store_mid 43 (.tmp 2) (.tmp 30) rfl (n + 1) 0 S.toArray rfl rfl (LS.out.t hS.2.2) LS.out.j LS.out.o ?_
      simp only
      have AO5 := (show Hid _ from hS.2.2)
      have HB5 := (show Hid _ from hS.1)
      refine hK.out _ _ ⟨below_setCells hS.1 hS.2.2.1, ⟨World.rangeAt_setCells_apart hS.2.1.1 _ _ _ (.inl HNE.out), by rw [size_setCells]; exact hS.2.1.2⟩, hS.2.2.1, by rw [size_setCells]; exact hS.2.2.2.1, World.there_setCells hS.2.2.2.2 _ _ _⟩ (fun hS => ?_)
      clear hK K
      try simp only [Act.put, List.getElem_toArray, List.getElem_cons_succ, List.getElem_cons_zero]
      refine wpAnyH_ready (rs := [4]) (by kernel_rfl) (by simp) ?_
      refine AllReadyH.cons rfl (fun K hK => ?_) AllReadyH.nil
      go_simp
      refine hK.out _ _ hS (fun hS => ?_)
      clear hK K
      try simp only [Act.put, List.setIfInBounds_toArray, List.set_cons_zero, List.set_cons_succ, List.getElem_toArray, List.getElem_cons_succ, List.getElem_cons_zero]
      refine wpAnyH_done (by kernel_rfl) ?_ _
      go_wp2
      exact bodyPost_ret (res_ct Try.results33 rfl (end43 LS.out AO5.out) rfl) rfl ⟨rfl, below_setCells HB5.out AO5.out.1⟩
end Fd
end Go.Proofs.Ytgdekigdbbldoaa

namespace Go.Proofs.Ytgdekigdbbldoaa
open Go.RowKit
namespace Fd
namespace Cv
open Pratt

section
open Lean.Grind
theorem assoc_xa {R : Type} [CommRing R] (d x1 y1 x2 y2 x3 y3 k l : R) (h1 : y1 * y1 - x1 * x1 = 1 + d * (x1 * x1) * (y1 * y1)) (h2 : y2 * y2 - x2 * x2 = 1 + d * (x2 * x2) * (y2 * y2)) (h3 : y3 * y3 - x3 * x3 = 1 + d * (x3 * x3) * (y3 * y3)) (hk : k = d * x1 * x2 * y1 * y2) (hl : l = d * x2 * x3 * y2 * y3) :
    ((x1 * y2 + x2 * y1) * (1 - k) * y3 + x3 * ((y1 * y2 + x1 * x2) * (1 + k))) * ((1 - l) * (1 + l) + d * x1 * y1 * ((x2 * y3 + x3 * y2) * (y2 * y3 + x2 * x3))) = (x1 * ((y2 * y3 + x2 * x3) * (1 + l)) + (x2 * y3 + x3 * y2) * (1 - l) * y1) * ((1 - k) * (1 + k) + d * x3 * y3 * ((x1 * y2 + x2 * y1) * (y1 * y2 + x1 * x2))) := by grind
theorem assoc_ya {R : Type} [CommRing R] (d x1 y1 x2 y2 x3 y3 k l : R) (h1 : y1 * y1 - x1 * x1 = 1 + d * (x1 * x1) * (y1 * y1)) (h2 : y2 * y2 - x2 * x2 = 1 + d * (x2 * x2) * (y2 * y2)) (h3 : y3 * y3 - x3 * x3 = 1 + d * (x3 * x3) * (y3 * y3)) (hk : k = d * x1 * x2 * y1 * y2) (hl : l = d * x2 * x3 * y2 * y3) :
    ((y1 * y2 + x1 * x2) * (1 + k) * y3 + (x1 * y2 + x2 * y1) * (1 - k) * x3) * ((1 - l) * (1 + l) - d * x1 * y1 * ((x2 * y3 + x3 * y2) * (y2 * y3 + x2 * x3))) = (y1 * ((y2 * y3 + x2 * x3) * (1 + l)) + x1 * ((x2 * y3 + x3 * y2) * (1 - l))) * ((1 - k) * (1 + k) - d * x3 * y3 * ((x1 * y2 + x2 * y1) * (y1 * y2 + x1 * x2))) := by grind
/-- A sum's first coordinate over one denominator. -/
theorem clear_x {R : Type} [CommRing R] (d s t a b k x y X : R) (hs : s = a * (1 + k)) (ht : t = b * (1 - k)) (hX : a * y + x * b = X * (1 + d * a * x * b * y)) :
    X * ((1 - k) * (1 + k) + d * x * y * (s * t)) = s * (1 - k) * y + x * (t * (1 + k)) := by
  subst hs
  subst ht
  have e : X * ((1 - k) * (1 + k) + d * x * y * (a * (1 + k) * (b * (1 - k)))) = X * (1 + d * a * x * b * y) * ((1 - k) * (1 + k)) := by grind
  rw [e, ← hX]
  grind
theorem clear_y {R : Type} [CommRing R] (d s t a b k x y Y : R) (hs : s = a * (1 + k)) (ht : t = b * (1 - k)) (hY : b * y + a * x = Y * (1 - d * a * x * b * y)) :
    Y * ((1 - k) * (1 + k) - d * x * y * (s * t)) = t * (1 + k) * y + s * (1 - k) * x := by
  subst hs
  subst ht
  have e : Y * ((1 - k) * (1 + k) - d * x * y * (a * (1 + k) * (b * (1 - k)))) = Y * (1 - d * a * x * b * y) * ((1 - k) * (1 + k)) := by grind
  rw [e, ← hY]
  grind
theorem den_cut {R : Type} [CommRing R] (d s t a b k x y : R) (hs : s = a * (1 + k)) (ht : t = b * (1 - k)) :
    (1 - k) * (1 + k) + d * x * y * (s * t) = (1 + d * a * x * b * y) * ((1 - k) * (1 + k)) ∧ (1 - k) * (1 + k) - d * x * y * (s * t) = (1 - d * a * x * b * y) * ((1 - k) * (1 + k)) := by
  subst hs
  subst ht
  constructor <;> grind
end
theorem add_comm' (P Q : Pt) : add P Q = add Q P := by
  have e : D * P.x * Q.x * P.y * Q.y = D * Q.x * P.x * Q.y * P.y := by grind
  have e1 : P.x * Q.y + Q.x * P.y = Q.x * P.y + P.x * Q.y := by grind
  have e2 : P.y * Q.y + P.x * Q.x = Q.y * P.y + Q.x * P.x := by grind
  unfold add
  rw [e, e1, e2]
theorem cancel {a b c : F} (hc : c ≠ 0) (h : a * c = b * c) : a = b := by
  have h1 := mul_inv hc
  have h2 : a * c * inv c = b * c * inv c := by rw [h]
  grind
theorem add_assoc' {P Q R : Pt} (hP : P.on) (hQ : Q.on) (hR : R.on) : add (add P Q) R = add P (add Q R) := by
  have hA := add_on hP hQ
  have hB := add_on hQ hR
  obtain ⟨k, hk⟩ : ∃ k, k = D * P.x * Q.x * P.y * Q.y := ⟨_, rfl⟩
  obtain ⟨l, hl⟩ : ∃ l, l = D * Q.x * R.x * Q.y * R.y := ⟨_, rfl⟩
  have ax := add_x hP hQ
  have ay := add_y hP hQ
  have bx := add_x hQ hR
  have b_y := add_y hQ hR
  have kp := den_p hP hQ
  have km := den_m hP hQ
  have lp := den_p hQ hR
  have lm := den_m hQ hR
  rw [← hk] at ax ay kp km
  rw [← hl] at bx b_y lp lm
  have c1 := den_cut D _ _ _ _ k R.x R.y ax ay
  have c2 := den_cut D _ _ _ _ l P.x P.y bx b_y
  have m1 : (1 - k) * (1 + k) + D * R.x * R.y * ((P.x * Q.y + Q.x * P.y) * (P.y * Q.y + P.x * Q.x)) ≠ 0 := by
    rw [c1.1]; exact mul_ne (den_p hA hR) (mul_ne km kp)
  have m1' : (1 - k) * (1 + k) - D * R.x * R.y * ((P.x * Q.y + Q.x * P.y) * (P.y * Q.y + P.x * Q.x)) ≠ 0 := by
    rw [c1.2]; exact mul_ne (den_m hA hR) (mul_ne km kp)
  have m2 : (1 - l) * (1 + l) + D * P.x * P.y * ((Q.x * R.y + R.x * Q.y) * (Q.y * R.y + Q.x * R.x)) ≠ 0 := by
    rw [c2.1]; exact mul_ne (den_p hB hP) (mul_ne lm lp)
  have m2' : (1 - l) * (1 + l) - D * P.x * P.y * ((Q.x * R.y + R.x * Q.y) * (Q.y * R.y + Q.x * R.x)) ≠ 0 := by
    rw [c2.2]; exact mul_ne (den_m hB hP) (mul_ne lm lp)
  have n1 := clear_x D _ _ _ _ k R.x R.y _ ax ay (add_x hA hR)
  have n1' := clear_y D _ _ _ _ k R.x R.y _ ax ay (add_y hA hR)
  have n2 := clear_x D _ _ _ _ l P.x P.y _ bx b_y (add_x hB hP)
  have n2' := clear_y D _ _ _ _ l P.x P.y _ bx b_y (add_y hB hP)
  have ex := assoc_xa D P.x P.y Q.x Q.y R.x R.y k l hP hQ hR hk hl
  have ey := assoc_ya D P.x P.y Q.x Q.y R.x R.y k l hP hQ hR hk hl
  rw [add_comm' P (add Q R)]
  have gx : (add (add P Q) R).x = (add (add Q R) P).x := by
    refine cancel (mul_ne m1 m2) ?_
    generalize (1 - k) * (1 + k) + D * R.x * R.y * ((P.x * Q.y + Q.x * P.y) * (P.y * Q.y + P.x * Q.x)) = M1 at *
    generalize (1 - l) * (1 + l) + D * P.x * P.y * ((Q.x * R.y + R.x * Q.y) * (Q.y * R.y + Q.x * R.x)) = M2 at *
    have e1 : (add (add P Q) R).x * (M1 * M2) = (add (add P Q) R).x * M1 * M2 := by grind
    have e2 : (add (add Q R) P).x * (M1 * M2) = (add (add Q R) P).x * M2 * M1 := by grind
    rw [e1, e2, n1, n2, ex]
    congr 1
    grind
  have gy : (add (add P Q) R).y = (add (add Q R) P).y := by
    refine cancel (mul_ne m1' m2') ?_
    generalize (1 - k) * (1 + k) - D * R.x * R.y * ((P.x * Q.y + Q.x * P.y) * (P.y * Q.y + P.x * Q.x)) = M1 at *
    generalize (1 - l) * (1 + l) - D * P.x * P.y * ((Q.x * R.y + R.x * Q.y) * (Q.y * R.y + Q.x * R.x)) = M2 at *
    have e1 : (add (add P Q) R).y * (M1 * M2) = (add (add P Q) R).y * M1 * M2 := by grind
    have e2 : (add (add Q R) P).y * (M1 * M2) = (add (add Q R) P).y * M2 * M1 := by grind
    rw [e1, e2, n1', n2', ey]
    congr 1
    grind
  revert gx gy
  generalize add (add P Q) R = S
  generalize add (add Q R) P = T
  intro gx gy
  cases S
  cases T
  exact congr (congrArg Pt.mk gx) gy
end Cv
end Fd
end Go.Proofs.Ytgdekigdbbldoaa
