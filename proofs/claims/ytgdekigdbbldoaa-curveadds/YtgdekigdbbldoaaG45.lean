/- What the statements' some answers every third time. CurveAdds: what both sides reckon; the walk. -/
import Derived.Test.YtgdekigdbbldoaaG42
import Derived.Test.YtgdekigdbbldoaaG43
import Derived.Test.YtgdekigdbbldoaaG41
namespace Go.Proofs.Ytgdekigdbbldoaa
open Go.RowKit
namespace Fd
open Rg Cv Bx

set_option maxHeartbeats 8000000 in
set_option maxRecDepth 8000 in
theorem some_third (k : Nat) (w : World) (h3 : by_ k 0 % 3 = 0) :
    Calls Try.prog 33 #[bv k] w fun e w' => e = .returned (.tuple #[pv (someP k).x.val (someP k).y.val, .bool true]) ∧ Below w.heap.size w w' := by
  have c1 : ∀ W : World, Calls Try.prog 30 #[] W fun e w' => e = .returned (pv baseX baseY) ∧ Below W.heap.size W w' := base_any
  have c2 : ∀ W : World, Calls Try.prog 41 #[bv k, pv baseX baseY] W fun e w' => e = .returned (.tuple #[pv (ptm k B 256).x.val (ptm k B 256).y.val, .nilIface]) ∧ Below W.heap.size W w' := fun W => times_pt k baseX baseY W bx_lt by_lt' base_on
  have hon := pt_C (ptm_on k B_on 256)
  have lx := big (ptm k B 256).x
  have ly := big (ptm k B 256).y
  have c5 : ∀ W : World, Calls Try.prog 35 #[pv (ptm k B 256).x.val (ptm k B 256).y.val, pv 0 (p - 1)] W fun e w' => e = .returned (.tuple #[pv (someP k).x.val (someP k).y.val, .nilIface]) ∧ Below W.heap.size W w' := fun W => by
    have h := add_pt (ptm k B 256).x.val (ptm k B 256).y.val 0 (p - 1) W lx ly (by decide) (by decide) hon t2C
    rw [tf_of, tf_of] at h
    have e : someP k = add (ptm k B 256) T2 := by unfold someP; rw [if_pos h3]
    rw [e]
    exact h
  have CS : Hid (∀ (W : World) (u v : Value), Dt.Num W u 0 → Dt.Num W v 1 → Calls Try.prog 19 #[u, v] W fun e w' => ∃ r, e = .returned r ∧ Dt.Num w' r (p - 1) ∧ Below W.heap.size W w') := fun W u v h1 h2 => by have h := Dt.sub_num h1 h2 (by decide) (by decide); rwa [show (0 + p - 1) % p = p - 1 from by decide] at h
  have CB : Hid (∀ (W : World) (u : Value), Dt.Num W u (p - 1) → Calls Try.prog 16 #[u] W fun e w' => e = .returned (.agg (bvc (p - 1)).toArray) ∧ Below W.heap.size W w') := fun W u h => Dt.bytes_num h
  have ez : zl 32 = bvc 0 := by rfl
  have HBP : Hid (Try.prog.built 43 [(1, .agg (bvc (p - 1)).toArray)] = some (bvc 0 ++ bvc (p - 1)).toArray) := by have h := build_pointY (bvc (p - 1)) (bvc_len _); rwa [ez] at h
  obtain ⟨sx, hsx⟩ : ∃ v, (someP k).x.val = v := ⟨_, rfl⟩
  obtain ⟨sy, hsy⟩ : ∃ v, (someP k).y.val = v := ⟨_, rfl⟩
  rw [hsx, hsy] at c5 ⊢
  have hm3 : Int.tmod ((by_ k 0 : Nat) : Int) 3 = 0 := by rw [Int.tmod_eq_emod_of_nonneg (by omega)]; omega
  obtain ⟨tx, htx⟩ : ∃ v, (ptm k B 256).x.val = v := ⟨_, rfl⟩
  obtain ⟨ty, hty⟩ : ∃ v, (ptm k B 256).y.val = v := ⟨_, rfl⟩
  rw [htx, hty] at c2 c5
  have en := eq_nil
  have HCK : Hid (∀ {W : World} {b : Nat}, Rp W b 0 (bvc k) → W.cell? ⟨b, 0, none⟩ = some (.int .u8 ((by_ k 0 : Nat) : Int))) := fun {W b} h => by have h2 := h.1 0 _ (bvc_at k 0 (by decide)); rwa [Nat.zero_add] at h2
  unfold pv at c1 c2 c5 ⊢
  unfold bv at c2 ⊢
  have LK : Hid (L32 (bvc k)) := l32 k
  have LT : Hid (L64 (bvc tx ++ bvc ty)) := l64 _ _
  have LS : Hid (L64 (bvc sx ++ bvc sy)) := l64 _ _
  have HS := (show Hid _ from start22p w (bvc k))
  obtain ⟨V, hV⟩ : ∃ X, bvc baseX ++ bvc baseY = X := ⟨_, rfl⟩
  rw [hV] at c1 c2
  obtain ⟨T, hT⟩ : ∃ X, bvc tx ++ bvc ty = X := ⟨_, rfl⟩
  rw [hT] at c2 LT c5
  obtain ⟨S, hS⟩ : ∃ X, bvc sx ++ bvc sy = X := ⟨_, rfl⟩
  rw [hS] at c5 LS ⊢
  obtain ⟨Q, hQ⟩ : ∃ X, bvc 0 ++ bvc (p - 1) = X := ⟨_, rfl⟩
  rw [hQ] at c5 HBP
  obtain ⟨M, hM⟩ : ∃ X, bvc (p - 1) = X := ⟨_, rfl⟩
  rw [hM] at CB HBP
  obtain ⟨K, hK⟩ : ∃ X, bvc k = X := ⟨_, rfl⟩
  rw [hK] at c2 LK HS HCK ⊢
  obtain ⟨b0, hb0⟩ : ∃ b, by_ k 0 = b := ⟨_, rfl⟩
  rw [hb0] at hm3 HCK
  clear hV hT hS hQ hM hK hb0 htx hty hon lx ly hsx hsy ez
  have hz22 := zero22
  have hz43 := zero43
  have HTT43 : Hid _ := there43
  obtain ⟨Z43, hZ43⟩ : ∃ Z, z43 = Z := ⟨_, rfl⟩
  rw [hZ43] at hz43 HTT43 HS
  clear hZ43 hz22
  obtain ⟨n, hn⟩ : ∃ n, w.heap.size = n := ⟨_, rfl⟩
  have HN : Hid (w.heap.size = n) := hn
  obtain ⟨we, hwe⟩ : ∃ v, (w.alloc (.cells K.toArray 22)).alloc (.cells Z43 43) = v := ⟨_, rfl⟩
  have BK : Hid (Rp we n 0 K) := by have h := HS.out.1; rw [hwe, HN.out] at h; exact h
  have AO : Hid (Ao w.heap.size we (n + 1) 64) := by have h := HS.out.2.1; rw [hwe, HN.out] at h; show Ao _ _ _ _; rw [HN.out]; exact h
  have HBE : Hid (Below w.heap.size w we) := by have h := HS.out.2.2; rw [hwe] at h; exact h
  clear HS
  go_enter Try.func33, Try.ntmps33
  go_upto_region 1 with (fail)
  clear hwe
  go_cut [4, 5] from 8 to 13 (fun s e wx => ∃ g, s = .pointer (some ⟨g, 0, none⟩) ∧ e = .nilIface ∧ Hid (Below we.heap.size we wx ∧ Rp wx g 0 T))
  case first =>
    refine wp_region_held_drew (S := fun w' => Below we.heap.size we w') (by kernel_rfl) (drewB we) (fun hS => ?_)
    obtain ⟨wd, hwd⟩ : ∃ v, World.drew we = v := ⟨_, rfl⟩
    rw [hwd] at hS ⊢
    clear hwd
    refine wpAnyH_take (i := 0) (v := .agg K.toArray) rfl (by kernel_rfl) (by kernel_rfl) (by kernel_rfl) (fun _ _ _ h => h) (yieldsIf_load_mid (by kernel_rfl) 22 (.tmp 1) rfl n 0 rfl K _ (fun wq hq => Rg.Below.range hq BK.out.1 BK.out.2) Try.underlying22 rfl LK.out.i) hS ?_
    try simp only [Act.put, List.setIfInBounds_toArray, List.set_cons_zero, List.set_cons_succ, List.getElem_toArray, List.getElem_cons_zero]
    refine wpAnyH_ready (rs := [1, 6]) (by kernel_rfl) (by simp) ?_
    refine AllReadyH.cons rfl (fun K hK => ?_) (AllReadyH.cons rfl (fun K hK => ?_) AllReadyH.nil)
    · go_simp
      refine (c1 _).mono ?_
      rintro e wf1 ⟨rfl, hb⟩
      have hS2 : Below we.heap.size we wf1 := hS.trans (hb.mono hS.size)
      refine hK.out _ _ hS2 (fun hS => ?_)
      clear hK K hb hS2 
      try simp only [Act.put, List.setIfInBounds_toArray, List.set_cons_zero, List.set_cons_succ, List.getElem_toArray, List.getElem_cons_succ, List.getElem_cons_zero]
      refine wpAnyH_ready (rs := [2, 6]) (by kernel_rfl) (by simp) ?_
      refine AllReadyH.cons rfl (fun K hK => ?_) (AllReadyH.cons rfl (fun K hK => ?_) AllReadyH.nil)
      · go_simp
        refine (c2 _).mono ?_
        rintro e wf2 ⟨rfl, hb⟩
        have hS2 : Below we.heap.size we wf2 := hS.trans (hb.mono hS.size)
        refine hK.out _ _ hS2 (fun hS => ?_)
        clear hK K hb hS2 
        try simp only [Act.put, List.setIfInBounds_toArray, List.set_cons_zero, List.set_cons_succ, List.getElem_toArray, List.getElem_cons_succ, List.getElem_cons_zero]
        refine wpAnyH_take (i := 3) (v := .tuple #[.agg T.toArray, .nilIface]) rfl (by kernel_rfl) (by kernel_rfl) (by kernel_rfl) (fun _ _ _ h => h) (Or.inl ⟨by kernel_rfl, fun wq hS => by go_simp⟩) hS ?_
        try simp only [Act.put, List.setIfInBounds_toArray, List.set_cons_zero, List.set_cons_succ, List.getElem_toArray, List.getElem_cons_succ, List.getElem_cons_zero]
        refine wpAnyH_take (i := 4) (v := .agg T.toArray) rfl (by kernel_rfl) (by kernel_rfl) (by kernel_rfl) (fun _ _ _ h => h) (Or.inl ⟨by kernel_rfl, fun wq hS => by go_simp⟩) hS ?_
        try simp only [Act.put, List.setIfInBounds_toArray, List.set_cons_zero, List.set_cons_succ, List.getElem_toArray, List.getElem_cons_succ, List.getElem_cons_zero]
        refine wpAnyH_take (i := 5) (v := .nilIface) rfl (by kernel_rfl) (by kernel_rfl) (by kernel_rfl) (fun _ _ _ h => h) (Or.inl ⟨by kernel_rfl, fun wq hS => by go_simp⟩) hS ?_
        try simp only [Act.put, List.setIfInBounds_toArray, List.set_cons_zero, List.set_cons_succ, List.getElem_toArray, List.getElem_cons_succ, List.getElem_cons_zero]
        refine wpAnyH_ready (rs := [6]) (by kernel_rfl) (by simp) ?_
        refine AllReadyH.cons rfl (fun K hK => ?_) AllReadyH.nil
        go_simp
        have HT := (show Hid _ from HTT43.out wf2)
        have HL : Hid (we.heap.size ≤ wf2.heap.size ∧ wf2.heap.size < (wf2.alloc (.cells Z43 43)).heap.size) := ⟨hS.size, by rw [size_alloc]; omega⟩
        have hb : Below wf2.heap.size wf2 (wf2.alloc (.cells Z43 43)) := (Below.refl _ _).alloc (Nat.le_refl _) _
        refine hK.out _ _ (hS.alloc hS.size _) (fun hS => ?_)
        clear hK K
        try simp only [Act.put, List.setIfInBounds_toArray, List.set_cons_zero, List.set_cons_succ, List.getElem_toArray, List.getElem_cons_succ, List.getElem_cons_zero]
        obtain ⟨wf3, hwf3⟩ : ∃ v, wf2.alloc (.cells Z43 43) = v := ⟨_, rfl⟩
        rw [hwf3] at HT HL hb hS ⊢
        obtain ⟨g, hg⟩ : ∃ g, wf2.heap.size = g := ⟨_, rfl⟩
        rw [hg] at HT HL ⊢
        clear hg hwf3 hb
        refine wpAnyH_ready (rs := [7]) (by kernel_rfl) (by simp) ?_
        refine AllReadyH.cons rfl (fun K hK => ?_) AllReadyH.nil
        refine want_it (by kernel_rfl) ?_
        refine wp_store_mid 43 (.tmp 4) (.tmp 12) rfl g 0 T.toArray rfl rfl (LT.out.t (N := we.heap.size) ⟨HL.out.1, HL.out.2, HT.out⟩) LT.out.j LT.out.o ?_
        simp only
        have hS2 : Below we.heap.size we (wf3.setCells g 0 T) := below_setCells hS HL.out.1
        refine hK.out _ _ hS2 (fun hS => ?_)
        clear hK K hS2
        try simp only [Act.put, List.getElem_toArray, List.getElem_cons_succ, List.getElem_cons_zero]
        refine wpAnyH_ready (rs := [8]) (by kernel_rfl) (by simp) ?_
        refine AllReadyH.cons rfl (fun K hK => ?_) AllReadyH.nil
        go_simp
        refine hK.out _ _ hS (fun hS => ?_)
        clear hK K
        try simp only [Act.put, List.setIfInBounds_toArray, List.set_cons_zero, List.set_cons_succ, List.getElem_toArray, List.getElem_cons_succ, List.getElem_cons_zero]
        refine wpAnyH_done (by kernel_rfl) ?_ _
        go_wp2
        go_meet
        case rel => exact ⟨g, rfl, rfl, ⟨hS, float_box43 LT.out HT.out HL.out.2⟩⟩
      · go_simp
        have HT := (show Hid _ from HTT43.out wf1)
        have HL : Hid (we.heap.size ≤ wf1.heap.size ∧ wf1.heap.size < (wf1.alloc (.cells Z43 43)).heap.size) := ⟨hS.size, by rw [size_alloc]; omega⟩
        have hb : Below wf1.heap.size wf1 (wf1.alloc (.cells Z43 43)) := (Below.refl _ _).alloc (Nat.le_refl _) _
        refine hK.out _ _ (hS.alloc hS.size _) (fun hS => ?_)
        clear hK K
        try simp only [Act.put, List.setIfInBounds_toArray, List.set_cons_zero, List.set_cons_succ, List.getElem_toArray, List.getElem_cons_succ, List.getElem_cons_zero]
        obtain ⟨wf4, hwf4⟩ : ∃ v, wf1.alloc (.cells Z43 43) = v := ⟨_, rfl⟩
        rw [hwf4] at HT HL hb hS ⊢
        obtain ⟨g, hg⟩ : ∃ g, wf1.heap.size = g := ⟨_, rfl⟩
        rw [hg] at HT HL ⊢
        clear hg hwf4 hb
        refine wpAnyH_ready (rs := [2]) (by kernel_rfl) (by simp) ?_
        refine AllReadyH.cons rfl (fun K hK => ?_) AllReadyH.nil
        go_simp
        refine (c2 _).mono ?_
        rintro e wf5 ⟨rfl, hb⟩
        replace HT := (show Hid (wf5.there g 0 64) from there_below hb HT.out HL.out.2)
        replace HL := (show Hid (we.heap.size ≤ g ∧ g < wf5.heap.size) from ⟨HL.out.1, Nat.lt_of_lt_of_le HL.out.2 hb.size⟩)
        have hS2 : Below we.heap.size we wf5 := hS.trans (hb.mono hS.size)
        refine hK.out _ _ hS2 (fun hS => ?_)
        clear hK K hb hS2 
        try simp only [Act.put, List.setIfInBounds_toArray, List.set_cons_zero, List.set_cons_succ, List.getElem_toArray, List.getElem_cons_succ, List.getElem_cons_zero]
        refine wpAnyH_take (i := 3) (v := .tuple #[.agg T.toArray, .nilIface]) rfl (by kernel_rfl) (by kernel_rfl) (by kernel_rfl) (fun _ _ _ h => h) (Or.inl ⟨by kernel_rfl, fun wq hS => by go_simp⟩) hS ?_
        try simp only [Act.put, List.setIfInBounds_toArray, List.set_cons_zero, List.set_cons_succ, List.getElem_toArray, List.getElem_cons_succ, List.getElem_cons_zero]
        refine wpAnyH_take (i := 4) (v := .agg T.toArray) rfl (by kernel_rfl) (by kernel_rfl) (by kernel_rfl) (fun _ _ _ h => h) (Or.inl ⟨by kernel_rfl, fun wq hS => by go_simp⟩) hS ?_
        try simp only [Act.put, List.setIfInBounds_toArray, List.set_cons_zero, List.set_cons_succ, List.getElem_toArray, List.getElem_cons_succ, List.getElem_cons_zero]
        refine wpAnyH_take (i := 5) (v := .nilIface) rfl (by kernel_rfl) (by kernel_rfl) (by kernel_rfl) (fun _ _ _ h => h) (Or.inl ⟨by kernel_rfl, fun wq hS => by go_simp⟩) hS ?_
        try simp only [Act.put, List.setIfInBounds_toArray, List.set_cons_zero, List.set_cons_succ, List.getElem_toArray, List.getElem_cons_succ, List.getElem_cons_zero]
        refine wpAnyH_ready (rs := [7]) (by kernel_rfl) (by simp) ?_
        refine AllReadyH.cons rfl (fun K hK => ?_) AllReadyH.nil
        refine want_it (by kernel_rfl) ?_
        refine wp_store_mid 43 (.tmp 4) (.tmp 12) rfl g 0 T.toArray rfl rfl (LT.out.t (N := we.heap.size) ⟨HL.out.1, HL.out.2, HT.out⟩) LT.out.j LT.out.o ?_
        simp only
        have hS2 : Below we.heap.size we (wf5.setCells g 0 T) := below_setCells hS HL.out.1
        refine hK.out _ _ hS2 (fun hS => ?_)
        clear hK K hS2
        try simp only [Act.put, List.getElem_toArray, List.getElem_cons_succ, List.getElem_cons_zero]
        refine wpAnyH_ready (rs := [8]) (by kernel_rfl) (by simp) ?_
        refine AllReadyH.cons rfl (fun K hK => ?_) AllReadyH.nil
        go_simp
        refine hK.out _ _ hS (fun hS => ?_)
        clear hK K
        try simp only [Act.put, List.setIfInBounds_toArray, List.set_cons_zero, List.set_cons_succ, List.getElem_toArray, List.getElem_cons_succ, List.getElem_cons_zero]
        refine wpAnyH_done (by kernel_rfl) ?_ _
        go_wp2
        go_meet
        case rel => exact ⟨g, rfl, rfl, ⟨hS, float_box43 LT.out HT.out HL.out.2⟩⟩
    · go_simp
      have HT := (show Hid _ from HTT43.out wd)
      have HL : Hid (we.heap.size ≤ wd.heap.size ∧ wd.heap.size < (wd.alloc (.cells Z43 43)).heap.size) := ⟨hS.size, by rw [size_alloc]; omega⟩
      have hb : Below wd.heap.size wd (wd.alloc (.cells Z43 43)) := (Below.refl _ _).alloc (Nat.le_refl _) _
      refine hK.out _ _ (hS.alloc hS.size _) (fun hS => ?_)
      clear hK K
      try simp only [Act.put, List.setIfInBounds_toArray, List.set_cons_zero, List.set_cons_succ, List.getElem_toArray, List.getElem_cons_succ, List.getElem_cons_zero]
      obtain ⟨wf6, hwf6⟩ : ∃ v, wd.alloc (.cells Z43 43) = v := ⟨_, rfl⟩
      rw [hwf6] at HT HL hb hS ⊢
      obtain ⟨g, hg⟩ : ∃ g, wd.heap.size = g := ⟨_, rfl⟩
      rw [hg] at HT HL ⊢
      clear hg hwf6 hb
      refine wpAnyH_ready (rs := [1]) (by kernel_rfl) (by simp) ?_
      refine AllReadyH.cons rfl (fun K hK => ?_) AllReadyH.nil
      go_simp
      refine (c1 _).mono ?_
      rintro e wf7 ⟨rfl, hb⟩
      replace HT := (show Hid (wf7.there g 0 64) from there_below hb HT.out HL.out.2)
      replace HL := (show Hid (we.heap.size ≤ g ∧ g < wf7.heap.size) from ⟨HL.out.1, Nat.lt_of_lt_of_le HL.out.2 hb.size⟩)
      have hS2 : Below we.heap.size we wf7 := hS.trans (hb.mono hS.size)
      refine hK.out _ _ hS2 (fun hS => ?_)
      clear hK K hb hS2 
      try simp only [Act.put, List.setIfInBounds_toArray, List.set_cons_zero, List.set_cons_succ, List.getElem_toArray, List.getElem_cons_succ, List.getElem_cons_zero]
      refine wpAnyH_ready (rs := [2]) (by kernel_rfl) (by simp) ?_
      refine AllReadyH.cons rfl (fun K hK => ?_) AllReadyH.nil
      go_simp
      refine (c2 _).mono ?_
      rintro e wf8 ⟨rfl, hb⟩
      replace HT := (show Hid (wf8.there g 0 64) from there_below hb HT.out HL.out.2)
      replace HL := (show Hid (we.heap.size ≤ g ∧ g < wf8.heap.size) from ⟨HL.out.1, Nat.lt_of_lt_of_le HL.out.2 hb.size⟩)
      have hS2 : Below we.heap.size we wf8 := hS.trans (hb.mono hS.size)
      refine hK.out _ _ hS2 (fun hS => ?_)
      clear hK K hb hS2 
      try simp only [Act.put, List.setIfInBounds_toArray, List.set_cons_zero, List.set_cons_succ, List.getElem_toArray, List.getElem_cons_succ, List.getElem_cons_zero]
      refine wpAnyH_take (i := 3) (v := .tuple #[.agg T.toArray, .nilIface]) rfl (by kernel_rfl) (by kernel_rfl) (by kernel_rfl) (fun _ _ _ h => h) (Or.inl ⟨by kernel_rfl, fun wq hS => by go_simp⟩) hS ?_
      try simp only [Act.put, List.setIfInBounds_toArray, List.set_cons_zero, List.set_cons_succ, List.getElem_toArray, List.getElem_cons_succ, List.getElem_cons_zero]
      refine wpAnyH_take (i := 4) (v := .agg T.toArray) rfl (by kernel_rfl) (by kernel_rfl) (by kernel_rfl) (fun _ _ _ h => h) (Or.inl ⟨by kernel_rfl, fun wq hS => by go_simp⟩) hS ?_
      try simp only [Act.put, List.setIfInBounds_toArray, List.set_cons_zero, List.set_cons_succ, List.getElem_toArray, List.getElem_cons_succ, List.getElem_cons_zero]
      refine wpAnyH_take (i := 5) (v := .nilIface) rfl (by kernel_rfl) (by kernel_rfl) (by kernel_rfl) (fun _ _ _ h => h) (Or.inl ⟨by kernel_rfl, fun wq hS => by go_simp⟩) hS ?_
      try simp only [Act.put, List.setIfInBounds_toArray, List.set_cons_zero, List.set_cons_succ, List.getElem_toArray, List.getElem_cons_succ, List.getElem_cons_zero]
      refine wpAnyH_ready (rs := [7]) (by kernel_rfl) (by simp) ?_
      refine AllReadyH.cons rfl (fun K hK => ?_) AllReadyH.nil
      refine want_it (by kernel_rfl) ?_
      refine wp_store_mid 43 (.tmp 4) (.tmp 12) rfl g 0 T.toArray rfl rfl (LT.out.t (N := we.heap.size) ⟨HL.out.1, HL.out.2, HT.out⟩) LT.out.j LT.out.o ?_
      simp only
      have hS2 : Below we.heap.size we (wf8.setCells g 0 T) := below_setCells hS HL.out.1
      refine hK.out _ _ hS2 (fun hS => ?_)
      clear hK K hS2
      try simp only [Act.put, List.getElem_toArray, List.getElem_cons_succ, List.getElem_cons_zero]
      refine wpAnyH_ready (rs := [8]) (by kernel_rfl) (by simp) ?_
      refine AllReadyH.cons rfl (fun K hK => ?_) AllReadyH.nil
      go_simp
      refine hK.out _ _ hS (fun hS => ?_)
      clear hK K
      try simp only [Act.put, List.setIfInBounds_toArray, List.set_cons_zero, List.set_cons_succ, List.getElem_toArray, List.getElem_cons_succ, List.getElem_cons_zero]
      refine wpAnyH_done (by kernel_rfl) ?_ _
      go_wp2
      go_meet
      case rel => exact ⟨g, rfl, rfl, ⟨hS, float_box43 LT.out HT.out HL.out.2⟩⟩
  case rest =>
    obtain ⟨g, rfl, rfl, HR⟩ := hcut
    have BK2 := (show Hid (Rp wc n 0 K) from BK.out.below HR.out.1)
    have AO2 := (show Hid (Ao w.heap.size wc (n + 1) 64) from AO.out.below HR.out.1)
    have BT2 := (show Hid (Rp wc g 0 T) from HR.out.2)
    have HB3 := (show Hid (Below w.heap.size w wc) from HBE.out.trans (HR.out.1.mono HBE.out.size))
    have r0 := HCK.out BK2.out
    clear HR BK AO HBE c1 c2 HCK
    go_upto_region 5 with (fail)
    clear r0
    go_cut [6, 7] from 21 to 29 (fun s e wx => ∃ g2, s = .pointer (some ⟨g2, 0, none⟩) ∧ e = .nilIface ∧ Hid (Below wc.heap.size wc wx ∧ Rp wx g2 0 S ∧ wc.heap.size ≤ g2))
    case first =>
      refine wp_region_held_drew (S := fun w' => Below wc.heap.size wc w') (by kernel_rfl) (drewB wc) (fun hS => ?_)
      obtain ⟨wd, hwd⟩ : ∃ v, World.drew wc = v := ⟨_, rfl⟩
      rw [hwd] at hS ⊢
      clear hwd
      refine wpAnyH_take (i := 0) (v := .agg T.toArray) rfl (by kernel_rfl) (by kernel_rfl) (by kernel_rfl) (fun _ _ _ h => h) (yieldsIf_load_mid (by kernel_rfl) 43 (.tmp 4) rfl g 0 rfl T _ (fun wq hq => Rg.Below.range hq BT2.out.1 BT2.out.2) Try.underlying43 rfl LT.out.i) hS ?_
      try simp only [Act.put, List.setIfInBounds_toArray, List.set_cons_zero, List.set_cons_succ, List.getElem_toArray, List.getElem_cons_zero]
      refine wpAnyH_ready (rs := [1, 9]) (by kernel_rfl) (by simp) ?_
      refine AllReadyH.cons rfl (fun K hK => ?_) (AllReadyH.cons rfl (fun K hK => ?_) AllReadyH.nil)
      · go_simp
        have NL := (show Hid (Dt.Num (wd.alloc (.cells #[.int .i64 1] 3)) (.slice (some ⟨wd.heap.size, 0, none⟩) 1 1) 1) from Dt.lit_num wd 1 (by decide) (by decide))
        have hb : Below wd.heap.size wd (wd.alloc (.cells #[.int .i64 1] 3)) := (Below.refl _ _).alloc (Nat.le_refl _) _
        refine hK.out _ _ (hS.alloc hS.size _) (fun hS => ?_)
        clear hK K
        try simp only [Act.put, List.setIfInBounds_toArray, List.set_cons_zero, List.set_cons_succ, List.getElem_toArray, List.getElem_cons_succ, List.getElem_cons_zero]
        obtain ⟨wf1, hwf1⟩ : ∃ v, wd.alloc (.cells #[.int .i64 1] 3) = v := ⟨_, rfl⟩
        rw [hwf1] at NL hb hS ⊢
        obtain ⟨blNL, hblNL⟩ : ∃ b, wd.heap.size = b := ⟨_, rfl⟩
        rw [hblNL] at NL ⊢
        clear hblNL hwf1 hb
        refine wpAnyH_ready (rs := [2, 9]) (by kernel_rfl) (by simp) ?_
        refine AllReadyH.cons rfl (fun K hK => ?_) (AllReadyH.cons rfl (fun K hK => ?_) AllReadyH.nil)
        · go_simp
          refine (CS.out _ _ _ (Dt.Num.zero _) (NL.out)).mono ?_
          rintro e wf2 ⟨vm, rfl, hn1, hb⟩
          replace NL := (show Hid (Dt.Num wf2 (.slice (some ⟨blNL, 0, none⟩) 1 1) 1) from NL.out.below hb)
          have NM := (show Hid (Dt.Num wf2 vm (p - 1)) from hn1)
          have hS2 : Below wc.heap.size wc wf2 := hS.trans (hb.mono hS.size)
          refine hK.out _ _ hS2 (fun hS => ?_)
          clear hK K hb hS2 hn1
          try simp only [Act.put, List.setIfInBounds_toArray, List.set_cons_zero, List.set_cons_succ, List.getElem_toArray, List.getElem_cons_succ, List.getElem_cons_zero]
          refine wpAnyH_ready (rs := [3, 9]) (by kernel_rfl) (by simp) ?_
          refine AllReadyH.cons rfl (fun K hK => ?_) (AllReadyH.cons rfl (fun K hK => ?_) AllReadyH.nil)
          · go_simp
            refine (CB.out _ _ (NM.out)).mono ?_
            rintro e wf3 ⟨rfl, hb⟩
            replace NM := (show Hid (Dt.Num wf3 vm (p - 1)) from NM.out.below hb)
            have hS2 : Below wc.heap.size wc wf3 := hS.trans (hb.mono hS.size)
            refine hK.out _ _ hS2 (fun hS => ?_)
            clear hK K hb hS2 
            try simp only [Act.put, List.setIfInBounds_toArray, List.set_cons_zero, List.set_cons_succ, List.getElem_toArray, List.getElem_cons_succ, List.getElem_cons_zero]
            refine wpAnyH_take (i := 4) (v := .agg Q.toArray) rfl (by kernel_rfl) (by kernel_rfl) (by kernel_rfl) (fun _ _ _ h => h) (yieldsIf_build (by kernel_rfl) 43 _ rfl [(1, .agg M.toArray)] (by kernel_rfl) Q HBP.out) hS ?_
            try simp only [Act.put, List.setIfInBounds_toArray, List.set_cons_zero, List.set_cons_succ, List.getElem_toArray, List.getElem_cons_succ, List.getElem_cons_zero]
            refine wpAnyH_ready (rs := [5, 9]) (by kernel_rfl) (by simp) ?_
            refine AllReadyH.cons rfl (fun K hK => ?_) (AllReadyH.cons rfl (fun K hK => ?_) AllReadyH.nil)
            · go_simp
              refine (c5 _).mono ?_
              rintro e wf4 ⟨rfl, hb⟩
              have hS2 : Below wc.heap.size wc wf4 := hS.trans (hb.mono hS.size)
              refine hK.out _ _ hS2 (fun hS => ?_)
              clear hK K hb hS2 
              try simp only [Act.put, List.setIfInBounds_toArray, List.set_cons_zero, List.set_cons_succ, List.getElem_toArray, List.getElem_cons_succ, List.getElem_cons_zero]
              refine wpAnyH_take (i := 6) (v := .tuple #[.agg S.toArray, .nilIface]) rfl (by kernel_rfl) (by kernel_rfl) (by kernel_rfl) (fun _ _ _ h => h) (Or.inl ⟨by kernel_rfl, fun wq hS => by go_simp⟩) hS ?_
              try simp only [Act.put, List.setIfInBounds_toArray, List.set_cons_zero, List.set_cons_succ, List.getElem_toArray, List.getElem_cons_succ, List.getElem_cons_zero]
              refine wpAnyH_take (i := 7) (v := .agg S.toArray) rfl (by kernel_rfl) (by kernel_rfl) (by kernel_rfl) (fun _ _ _ h => h) (Or.inl ⟨by kernel_rfl, fun wq hS => by go_simp⟩) hS ?_
              try simp only [Act.put, List.setIfInBounds_toArray, List.set_cons_zero, List.set_cons_succ, List.getElem_toArray, List.getElem_cons_succ, List.getElem_cons_zero]
              refine wpAnyH_take (i := 8) (v := .nilIface) rfl (by kernel_rfl) (by kernel_rfl) (by kernel_rfl) (fun _ _ _ h => h) (Or.inl ⟨by kernel_rfl, fun wq hS => by go_simp⟩) hS ?_
              try simp only [Act.put, List.setIfInBounds_toArray, List.set_cons_zero, List.set_cons_succ, List.getElem_toArray, List.getElem_cons_succ, List.getElem_cons_zero]
              refine wpAnyH_ready (rs := [9]) (by kernel_rfl) (by simp) ?_
              refine AllReadyH.cons rfl (fun K hK => ?_) AllReadyH.nil
              go_simp
              have HT := (show Hid _ from HTT43.out wf4)
              have HL : Hid (wc.heap.size ≤ wf4.heap.size ∧ wf4.heap.size < (wf4.alloc (.cells Z43 43)).heap.size) := ⟨hS.size, by rw [size_alloc]; omega⟩
              have hb : Below wf4.heap.size wf4 (wf4.alloc (.cells Z43 43)) := (Below.refl _ _).alloc (Nat.le_refl _) _
              refine hK.out _ _ (hS.alloc hS.size _) (fun hS => ?_)
              clear hK K
              try simp only [Act.put, List.setIfInBounds_toArray, List.set_cons_zero, List.set_cons_succ, List.getElem_toArray, List.getElem_cons_succ, List.getElem_cons_zero]
              obtain ⟨wf5, hwf5⟩ : ∃ v, wf4.alloc (.cells Z43 43) = v := ⟨_, rfl⟩
              rw [hwf5] at HT HL hb hS ⊢
              obtain ⟨g3, hg⟩ : ∃ g, wf4.heap.size = g := ⟨_, rfl⟩
              rw [hg] at HT HL ⊢
              clear hg hwf5 hb
              refine wpAnyH_ready (rs := [10]) (by kernel_rfl) (by simp) ?_
              refine AllReadyH.cons rfl (fun K hK => ?_) AllReadyH.nil
              refine want_it (by kernel_rfl) ?_
              refine wp_store_mid 43 (.tmp 6) (.tmp 28) rfl g3 0 S.toArray rfl rfl (LS.out.t (N := wc.heap.size) ⟨HL.out.1, HL.out.2, HT.out⟩) LS.out.j LS.out.o ?_
              simp only
              have hS2 : Below wc.heap.size wc (wf5.setCells g3 0 S) := below_setCells hS HL.out.1
              refine hK.out _ _ hS2 (fun hS => ?_)
              clear hK K hS2
              try simp only [Act.put, List.getElem_toArray, List.getElem_cons_succ, List.getElem_cons_zero]
              refine wpAnyH_ready (rs := [11]) (by kernel_rfl) (by simp) ?_
              refine AllReadyH.cons rfl (fun K hK => ?_) AllReadyH.nil
              go_simp
              refine hK.out _ _ hS (fun hS => ?_)
              clear hK K
              try simp only [Act.put, List.setIfInBounds_toArray, List.set_cons_zero, List.set_cons_succ, List.getElem_toArray, List.getElem_cons_succ, List.getElem_cons_zero]
              refine wpAnyH_done (by kernel_rfl) ?_ _
              go_wp2
              go_meet
              case rel => exact ⟨g3, rfl, rfl, hS, float_box43 LS.out HT.out HL.out.2, HL.out.1⟩
            · go_simp
              have HT := (show Hid _ from HTT43.out wf3)
              have HL : Hid (wc.heap.size ≤ wf3.heap.size ∧ wf3.heap.size < (wf3.alloc (.cells Z43 43)).heap.size) := ⟨hS.size, by rw [size_alloc]; omega⟩
              have hb : Below wf3.heap.size wf3 (wf3.alloc (.cells Z43 43)) := (Below.refl _ _).alloc (Nat.le_refl _) _
              refine hK.out _ _ (hS.alloc hS.size _) (fun hS => ?_)
              clear hK K
              try simp only [Act.put, List.setIfInBounds_toArray, List.set_cons_zero, List.set_cons_succ, List.getElem_toArray, List.getElem_cons_succ, List.getElem_cons_zero]
              obtain ⟨wf6, hwf6⟩ : ∃ v, wf3.alloc (.cells Z43 43) = v := ⟨_, rfl⟩
              rw [hwf6] at HT HL hb hS ⊢
              obtain ⟨g3, hg⟩ : ∃ g, wf3.heap.size = g := ⟨_, rfl⟩
              rw [hg] at HT HL ⊢
              clear hg hwf6 hb
              refine wpAnyH_ready (rs := [5]) (by kernel_rfl) (by simp) ?_
              refine AllReadyH.cons rfl (fun K hK => ?_) AllReadyH.nil
              go_simp
              refine (c5 _).mono ?_
              rintro e wf7 ⟨rfl, hb⟩
              replace HT := (show Hid (wf7.there g3 0 64) from there_below hb HT.out HL.out.2)
              replace HL := (show Hid (wc.heap.size ≤ g3 ∧ g3 < wf7.heap.size) from ⟨HL.out.1, Nat.lt_of_lt_of_le HL.out.2 hb.size⟩)
              have hS2 : Below wc.heap.size wc wf7 := hS.trans (hb.mono hS.size)
              refine hK.out _ _ hS2 (fun hS => ?_)
              clear hK K hb hS2 
              try simp only [Act.put, List.setIfInBounds_toArray, List.set_cons_zero, List.set_cons_succ, List.getElem_toArray, List.getElem_cons_succ, List.getElem_cons_zero]
              refine wpAnyH_take (i := 6) (v := .tuple #[.agg S.toArray, .nilIface]) rfl (by kernel_rfl) (by kernel_rfl) (by kernel_rfl) (fun _ _ _ h => h) (Or.inl ⟨by kernel_rfl, fun wq hS => by go_simp⟩) hS ?_
              try simp only [Act.put, List.setIfInBounds_toArray, List.set_cons_zero, List.set_cons_succ, List.getElem_toArray, List.getElem_cons_succ, List.getElem_cons_zero]
              refine wpAnyH_take (i := 7) (v := .agg S.toArray) rfl (by kernel_rfl) (by kernel_rfl) (by kernel_rfl) (fun _ _ _ h => h) (Or.inl ⟨by kernel_rfl, fun wq hS => by go_simp⟩) hS ?_
              try simp only [Act.put, List.setIfInBounds_toArray, List.set_cons_zero, List.set_cons_succ, List.getElem_toArray, List.getElem_cons_succ, List.getElem_cons_zero]
              refine wpAnyH_take (i := 8) (v := .nilIface) rfl (by kernel_rfl) (by kernel_rfl) (by kernel_rfl) (fun _ _ _ h => h) (Or.inl ⟨by kernel_rfl, fun wq hS => by go_simp⟩) hS ?_
              try simp only [Act.put, List.setIfInBounds_toArray, List.set_cons_zero, List.set_cons_succ, List.getElem_toArray, List.getElem_cons_succ, List.getElem_cons_zero]
              refine wpAnyH_ready (rs := [10]) (by kernel_rfl) (by simp) ?_
              refine AllReadyH.cons rfl (fun K hK => ?_) AllReadyH.nil
              refine want_it (by kernel_rfl) ?_
              refine wp_store_mid 43 (.tmp 6) (.tmp 28) rfl g3 0 S.toArray rfl rfl (LS.out.t (N := wc.heap.size) ⟨HL.out.1, HL.out.2, HT.out⟩) LS.out.j LS.out.o ?_
              simp only
              have hS2 : Below wc.heap.size wc (wf7.setCells g3 0 S) := below_setCells hS HL.out.1
              refine hK.out _ _ hS2 (fun hS => ?_)
              clear hK K hS2
              try simp only [Act.put, List.getElem_toArray, List.getElem_cons_succ, List.getElem_cons_zero]
              refine wpAnyH_ready (rs := [11]) (by kernel_rfl) (by simp) ?_
              refine AllReadyH.cons rfl (fun K hK => ?_) AllReadyH.nil
              go_simp
              refine hK.out _ _ hS (fun hS => ?_)
              clear hK K
              try simp only [Act.put, List.setIfInBounds_toArray, List.set_cons_zero, List.set_cons_succ, List.getElem_toArray, List.getElem_cons_succ, List.getElem_cons_zero]
              refine wpAnyH_done (by kernel_rfl) ?_ _
              go_wp2
              go_meet
              case rel => exact ⟨g3, rfl, rfl, hS, float_box43 LS.out HT.out HL.out.2, HL.out.1⟩
          · go_simp
            have HT := (show Hid _ from HTT43.out wf2)
            have HL : Hid (wc.heap.size ≤ wf2.heap.size ∧ wf2.heap.size < (wf2.alloc (.cells Z43 43)).heap.size) := ⟨hS.size, by rw [size_alloc]; omega⟩
            have hb : Below wf2.heap.size wf2 (wf2.alloc (.cells Z43 43)) := (Below.refl _ _).alloc (Nat.le_refl _) _
            refine hK.out _ _ (hS.alloc hS.size _) (fun hS => ?_)
            clear hK K
            try simp only [Act.put, List.setIfInBounds_toArray, List.set_cons_zero, List.set_cons_succ, List.getElem_toArray, List.getElem_cons_succ, List.getElem_cons_zero]
            obtain ⟨wf8, hwf8⟩ : ∃ v, wf2.alloc (.cells Z43 43) = v := ⟨_, rfl⟩
            rw [hwf8] at HT HL hb hS ⊢
            replace NM := (show Hid (Dt.Num wf8 vm (p - 1)) from NM.out.below hb)
            obtain ⟨g3, hg⟩ : ∃ g, wf2.heap.size = g := ⟨_, rfl⟩
            rw [hg] at HT HL ⊢
            clear hg hwf8 hb
            refine wpAnyH_ready (rs := [3]) (by kernel_rfl) (by simp) ?_
            refine AllReadyH.cons rfl (fun K hK => ?_) AllReadyH.nil
            go_simp
            refine (CB.out _ _ (NM.out)).mono ?_
            rintro e wf9 ⟨rfl, hb⟩
            replace NM := (show Hid (Dt.Num wf9 vm (p - 1)) from NM.out.below hb)
            replace HT := (show Hid (wf9.there g3 0 64) from there_below hb HT.out HL.out.2)
            replace HL := (show Hid (wc.heap.size ≤ g3 ∧ g3 < wf9.heap.size) from ⟨HL.out.1, Nat.lt_of_lt_of_le HL.out.2 hb.size⟩)
            have hS2 : Below wc.heap.size wc wf9 := hS.trans (hb.mono hS.size)
            refine hK.out _ _ hS2 (fun hS => ?_)
            clear hK K hb hS2 
            try simp only [Act.put, List.setIfInBounds_toArray, List.set_cons_zero, List.set_cons_succ, List.getElem_toArray, List.getElem_cons_succ, List.getElem_cons_zero]
            refine wpAnyH_take (i := 4) (v := .agg Q.toArray) rfl (by kernel_rfl) (by kernel_rfl) (by kernel_rfl) (fun _ _ _ h => h) (yieldsIf_build (by kernel_rfl) 43 _ rfl [(1, .agg M.toArray)] (by kernel_rfl) Q HBP.out) hS ?_
            try simp only [Act.put, List.setIfInBounds_toArray, List.set_cons_zero, List.set_cons_succ, List.getElem_toArray, List.getElem_cons_succ, List.getElem_cons_zero]
            refine wpAnyH_ready (rs := [5]) (by kernel_rfl) (by simp) ?_
            refine AllReadyH.cons rfl (fun K hK => ?_) AllReadyH.nil
            go_simp
            refine (c5 _).mono ?_
            rintro e wf10 ⟨rfl, hb⟩
            replace HT := (show Hid (wf10.there g3 0 64) from there_below hb HT.out HL.out.2)
            replace HL := (show Hid (wc.heap.size ≤ g3 ∧ g3 < wf10.heap.size) from ⟨HL.out.1, Nat.lt_of_lt_of_le HL.out.2 hb.size⟩)
            have hS2 : Below wc.heap.size wc wf10 := hS.trans (hb.mono hS.size)
            refine hK.out _ _ hS2 (fun hS => ?_)
            clear hK K hb hS2 
            try simp only [Act.put, List.setIfInBounds_toArray, List.set_cons_zero, List.set_cons_succ, List.getElem_toArray, List.getElem_cons_succ, List.getElem_cons_zero]
            refine wpAnyH_take (i := 6) (v := .tuple #[.agg S.toArray, .nilIface]) rfl (by kernel_rfl) (by kernel_rfl) (by kernel_rfl) (fun _ _ _ h => h) (Or.inl ⟨by kernel_rfl, fun wq hS => by go_simp⟩) hS ?_
            try simp only [Act.put, List.setIfInBounds_toArray, List.set_cons_zero, List.set_cons_succ, List.getElem_toArray, List.getElem_cons_succ, List.getElem_cons_zero]
            refine wpAnyH_take (i := 7) (v := .agg S.toArray) rfl (by kernel_rfl) (by kernel_rfl) (by kernel_rfl) (fun _ _ _ h => h) (Or.inl ⟨by kernel_rfl, fun wq hS => by go_simp⟩) hS ?_
            try simp only [Act.put, List.setIfInBounds_toArray, List.set_cons_zero, List.set_cons_succ, List.getElem_toArray, List.getElem_cons_succ, List.getElem_cons_zero]
            refine wpAnyH_take (i := 8) (v := .nilIface) rfl (by kernel_rfl) (by kernel_rfl) (by kernel_rfl) (fun _ _ _ h => h) (Or.inl ⟨by kernel_rfl, fun wq hS => by go_simp⟩) hS ?_
            try simp only [Act.put, List.setIfInBounds_toArray, List.set_cons_zero, List.set_cons_succ, List.getElem_toArray, List.getElem_cons_succ, List.getElem_cons_zero]
            refine wpAnyH_ready (rs := [10]) (by kernel_rfl) (by simp) ?_
            refine AllReadyH.cons rfl (fun K hK => ?_) AllReadyH.nil
            refine want_it (by kernel_rfl) ?_
            refine wp_store_mid 43 (.tmp 6) (.tmp 28) rfl g3 0 S.toArray rfl rfl (LS.out.t (N := wc.heap.size) ⟨HL.out.1, HL.out.2, HT.out⟩) LS.out.j LS.out.o ?_
            simp only
            have hS2 : Below wc.heap.size wc (wf10.setCells g3 0 S) := below_setCells hS HL.out.1
            refine hK.out _ _ hS2 (fun hS => ?_)
            clear hK K hS2
            try simp only [Act.put, List.getElem_toArray, List.getElem_cons_succ, List.getElem_cons_zero]
            refine wpAnyH_ready (rs := [11]) (by kernel_rfl) (by simp) ?_
            refine AllReadyH.cons rfl (fun K hK => ?_) AllReadyH.nil
            go_simp
            refine hK.out _ _ hS (fun hS => ?_)
            clear hK K
            try simp only [Act.put, List.setIfInBounds_toArray, List.set_cons_zero, List.set_cons_succ, List.getElem_toArray, List.getElem_cons_succ, List.getElem_cons_zero]
            refine wpAnyH_done (by kernel_rfl) ?_ _
            go_wp2
            go_meet
            case rel => exact ⟨g3, rfl, rfl, hS, float_box43 LS.out HT.out HL.out.2, HL.out.1⟩
        · go_simp
          have HT := (show Hid _ from HTT43.out wf1)
          have HL : Hid (wc.heap.size ≤ wf1.heap.size ∧ wf1.heap.size < (wf1.alloc (.cells Z43 43)).heap.size) := ⟨hS.size, by rw [size_alloc]; omega⟩
          have hb : Below wf1.heap.size wf1 (wf1.alloc (.cells Z43 43)) := (Below.refl _ _).alloc (Nat.le_refl _) _
          refine hK.out _ _ (hS.alloc hS.size _) (fun hS => ?_)
          clear hK K
          try simp only [Act.put, List.setIfInBounds_toArray, List.set_cons_zero, List.set_cons_succ, List.getElem_toArray, List.getElem_cons_succ, List.getElem_cons_zero]
          obtain ⟨wf11, hwf11⟩ : ∃ v, wf1.alloc (.cells Z43 43) = v := ⟨_, rfl⟩
          rw [hwf11] at HT HL hb hS ⊢
          replace NL := (show Hid (Dt.Num wf11 (.slice (some ⟨blNL, 0, none⟩) 1 1) 1) from NL.out.below hb)
          obtain ⟨g3, hg⟩ : ∃ g, wf1.heap.size = g := ⟨_, rfl⟩
          rw [hg] at HT HL ⊢
          clear hg hwf11 hb
          refine wpAnyH_ready (rs := [2]) (by kernel_rfl) (by simp) ?_
          refine AllReadyH.cons rfl (fun K hK => ?_) AllReadyH.nil
          go_simp
          refine (CS.out _ _ _ (Dt.Num.zero _) (NL.out)).mono ?_
          rintro e wf12 ⟨vm, rfl, hn1, hb⟩
          replace NL := (show Hid (Dt.Num wf12 (.slice (some ⟨blNL, 0, none⟩) 1 1) 1) from NL.out.below hb)
          replace HT := (show Hid (wf12.there g3 0 64) from there_below hb HT.out HL.out.2)
          replace HL := (show Hid (wc.heap.size ≤ g3 ∧ g3 < wf12.heap.size) from ⟨HL.out.1, Nat.lt_of_lt_of_le HL.out.2 hb.size⟩)
          have NM := (show Hid (Dt.Num wf12 vm (p - 1)) from hn1)
          have hS2 : Below wc.heap.size wc wf12 := hS.trans (hb.mono hS.size)
          refine hK.out _ _ hS2 (fun hS => ?_)
          clear hK K hb hS2 hn1
          try simp only [Act.put, List.setIfInBounds_toArray, List.set_cons_zero, List.set_cons_succ, List.getElem_toArray, List.getElem_cons_succ, List.getElem_cons_zero]
          refine wpAnyH_ready (rs := [3]) (by kernel_rfl) (by simp) ?_
          refine AllReadyH.cons rfl (fun K hK => ?_) AllReadyH.nil
          go_simp
          refine (CB.out _ _ (NM.out)).mono ?_
          rintro e wf13 ⟨rfl, hb⟩
          replace NM := (show Hid (Dt.Num wf13 vm (p - 1)) from NM.out.below hb)
          replace HT := (show Hid (wf13.there g3 0 64) from there_below hb HT.out HL.out.2)
          replace HL := (show Hid (wc.heap.size ≤ g3 ∧ g3 < wf13.heap.size) from ⟨HL.out.1, Nat.lt_of_lt_of_le HL.out.2 hb.size⟩)
          have hS2 : Below wc.heap.size wc wf13 := hS.trans (hb.mono hS.size)
          refine hK.out _ _ hS2 (fun hS => ?_)
          clear hK K hb hS2 
          try simp only [Act.put, List.setIfInBounds_toArray, List.set_cons_zero, List.set_cons_succ, List.getElem_toArray, List.getElem_cons_succ, List.getElem_cons_zero]
          refine wpAnyH_take (i := 4) (v := .agg Q.toArray) rfl (by kernel_rfl) (by kernel_rfl) (by kernel_rfl) (fun _ _ _ h => h) (yieldsIf_build (by kernel_rfl) 43 _ rfl [(1, .agg M.toArray)] (by kernel_rfl) Q HBP.out) hS ?_
          try simp only [Act.put, List.setIfInBounds_toArray, List.set_cons_zero, List.set_cons_succ, List.getElem_toArray, List.getElem_cons_succ, List.getElem_cons_zero]
          refine wpAnyH_ready (rs := [5]) (by kernel_rfl) (by simp) ?_
          refine AllReadyH.cons rfl (fun K hK => ?_) AllReadyH.nil
          go_simp
          refine (c5 _).mono ?_
          rintro e wf14 ⟨rfl, hb⟩
          replace HT := (show Hid (wf14.there g3 0 64) from there_below hb HT.out HL.out.2)
          replace HL := (show Hid (wc.heap.size ≤ g3 ∧ g3 < wf14.heap.size) from ⟨HL.out.1, Nat.lt_of_lt_of_le HL.out.2 hb.size⟩)
          have hS2 : Below wc.heap.size wc wf14 := hS.trans (hb.mono hS.size)
          refine hK.out _ _ hS2 (fun hS => ?_)
          clear hK K hb hS2 
          try simp only [Act.put, List.setIfInBounds_toArray, List.set_cons_zero, List.set_cons_succ, List.getElem_toArray, List.getElem_cons_succ, List.getElem_cons_zero]
          refine wpAnyH_take (i := 6) (v := .tuple #[.agg S.toArray, .nilIface]) rfl (by kernel_rfl) (by kernel_rfl) (by kernel_rfl) (fun _ _ _ h => h) (Or.inl ⟨by kernel_rfl, fun wq hS => by go_simp⟩) hS ?_
          try simp only [Act.put, List.setIfInBounds_toArray, List.set_cons_zero, List.set_cons_succ, List.getElem_toArray, List.getElem_cons_succ, List.getElem_cons_zero]
          refine wpAnyH_take (i := 7) (v := .agg S.toArray) rfl (by kernel_rfl) (by kernel_rfl) (by kernel_rfl) (fun _ _ _ h => h) (Or.inl ⟨by kernel_rfl, fun wq hS => by go_simp⟩) hS ?_
          try simp only [Act.put, List.setIfInBounds_toArray, List.set_cons_zero, List.set_cons_succ, List.getElem_toArray, List.getElem_cons_succ, List.getElem_cons_zero]
          refine wpAnyH_take (i := 8) (v := .nilIface) rfl (by kernel_rfl) (by kernel_rfl) (by kernel_rfl) (fun _ _ _ h => h) (Or.inl ⟨by kernel_rfl, fun wq hS => by go_simp⟩) hS ?_
          try simp only [Act.put, List.setIfInBounds_toArray, List.set_cons_zero, List.set_cons_succ, List.getElem_toArray, List.getElem_cons_succ, List.getElem_cons_zero]
          refine wpAnyH_ready (rs := [10]) (by kernel_rfl) (by simp) ?_
          refine AllReadyH.cons rfl (fun K hK => ?_) AllReadyH.nil
          refine want_it (by kernel_rfl) ?_
          refine wp_store_mid 43 (.tmp 6) (.tmp 28) rfl g3 0 S.toArray rfl rfl (LS.out.t (N := wc.heap.size) ⟨HL.out.1, HL.out.2, HT.out⟩) LS.out.j LS.out.o ?_
          simp only
          have hS2 : Below wc.heap.size wc (wf14.setCells g3 0 S) := below_setCells hS HL.out.1
          refine hK.out _ _ hS2 (fun hS => ?_)
          clear hK K hS2
          try simp only [Act.put, List.getElem_toArray, List.getElem_cons_succ, List.getElem_cons_zero]
          refine wpAnyH_ready (rs := [11]) (by kernel_rfl) (by simp) ?_
          refine AllReadyH.cons rfl (fun K hK => ?_) AllReadyH.nil
          go_simp
          refine hK.out _ _ hS (fun hS => ?_)
          clear hK K
          try simp only [Act.put, List.setIfInBounds_toArray, List.set_cons_zero, List.set_cons_succ, List.getElem_toArray, List.getElem_cons_succ, List.getElem_cons_zero]
          refine wpAnyH_done (by kernel_rfl) ?_ _
          go_wp2
          go_meet
          case rel => exact ⟨g3, rfl, rfl, hS, float_box43 LS.out HT.out HL.out.2, HL.out.1⟩
      · go_simp
        have HT := (show Hid _ from HTT43.out wd)
        have HL : Hid (wc.heap.size ≤ wd.heap.size ∧ wd.heap.size < (wd.alloc (.cells Z43 43)).heap.size) := ⟨hS.size, by rw [size_alloc]; omega⟩
        have hb : Below wd.heap.size wd (wd.alloc (.cells Z43 43)) := (Below.refl _ _).alloc (Nat.le_refl _) _
        refine hK.out _ _ (hS.alloc hS.size _) (fun hS => ?_)
        clear hK K
        try simp only [Act.put, List.setIfInBounds_toArray, List.set_cons_zero, List.set_cons_succ, List.getElem_toArray, List.getElem_cons_succ, List.getElem_cons_zero]
        obtain ⟨wf15, hwf15⟩ : ∃ v, wd.alloc (.cells Z43 43) = v := ⟨_, rfl⟩
        rw [hwf15] at HT HL hb hS ⊢
        obtain ⟨g3, hg⟩ : ∃ g, wd.heap.size = g := ⟨_, rfl⟩
        rw [hg] at HT HL ⊢
        clear hg hwf15 hb
        refine wpAnyH_ready (rs := [1]) (by kernel_rfl) (by simp) ?_
        refine AllReadyH.cons rfl (fun K hK => ?_) AllReadyH.nil
        go_simp
        have NL := (show Hid (Dt.Num (wf15.alloc (.cells #[.int .i64 1] 3)) (.slice (some ⟨wf15.heap.size, 0, none⟩) 1 1) 1) from Dt.lit_num wf15 1 (by decide) (by decide))
        have hb : Below wf15.heap.size wf15 (wf15.alloc (.cells #[.int .i64 1] 3)) := (Below.refl _ _).alloc (Nat.le_refl _) _
        refine hK.out _ _ (hS.alloc hS.size _) (fun hS => ?_)
        clear hK K
        try simp only [Act.put, List.setIfInBounds_toArray, List.set_cons_zero, List.set_cons_succ, List.getElem_toArray, List.getElem_cons_succ, List.getElem_cons_zero]
        obtain ⟨wf16, hwf16⟩ : ∃ v, wf15.alloc (.cells #[.int .i64 1] 3) = v := ⟨_, rfl⟩
        rw [hwf16] at NL hb hS ⊢
        replace HT := (show Hid (wf16.there g3 0 64) from there_below hb HT.out HL.out.2)
        replace HL := (show Hid (wc.heap.size ≤ g3 ∧ g3 < wf16.heap.size) from ⟨HL.out.1, Nat.lt_of_lt_of_le HL.out.2 hb.size⟩)
        obtain ⟨blNL, hblNL⟩ : ∃ b, wf15.heap.size = b := ⟨_, rfl⟩
        rw [hblNL] at NL ⊢
        clear hblNL hwf16 hb
        refine wpAnyH_ready (rs := [2]) (by kernel_rfl) (by simp) ?_
        refine AllReadyH.cons rfl (fun K hK => ?_) AllReadyH.nil
        go_simp
        refine (CS.out _ _ _ (Dt.Num.zero _) (NL.out)).mono ?_
        rintro e wf17 ⟨vm, rfl, hn1, hb⟩
        replace NL := (show Hid (Dt.Num wf17 (.slice (some ⟨blNL, 0, none⟩) 1 1) 1) from NL.out.below hb)
        replace HT := (show Hid (wf17.there g3 0 64) from there_below hb HT.out HL.out.2)
        replace HL := (show Hid (wc.heap.size ≤ g3 ∧ g3 < wf17.heap.size) from ⟨HL.out.1, Nat.lt_of_lt_of_le HL.out.2 hb.size⟩)
        have NM := (show Hid (Dt.Num wf17 vm (p - 1)) from hn1)
        have hS2 : Below wc.heap.size wc wf17 := hS.trans (hb.mono hS.size)
        refine hK.out _ _ hS2 (fun hS => ?_)
        clear hK K hb hS2 hn1
        try simp only [Act.put, List.setIfInBounds_toArray, List.set_cons_zero, List.set_cons_succ, List.getElem_toArray, List.getElem_cons_succ, List.getElem_cons_zero]
        refine wpAnyH_ready (rs := [3]) (by kernel_rfl) (by simp) ?_
        refine AllReadyH.cons rfl (fun K hK => ?_) AllReadyH.nil
        go_simp
        refine (CB.out _ _ (NM.out)).mono ?_
        rintro e wf18 ⟨rfl, hb⟩
        replace NM := (show Hid (Dt.Num wf18 vm (p - 1)) from NM.out.below hb)
        replace HT := (show Hid (wf18.there g3 0 64) from there_below hb HT.out HL.out.2)
        replace HL := (show Hid (wc.heap.size ≤ g3 ∧ g3 < wf18.heap.size) from ⟨HL.out.1, Nat.lt_of_lt_of_le HL.out.2 hb.size⟩)
        have hS2 : Below wc.heap.size wc wf18 := hS.trans (hb.mono hS.size)
        refine hK.out _ _ hS2 (fun hS => ?_)
        clear hK K hb hS2 
        try simp only [Act.put, List.setIfInBounds_toArray, List.set_cons_zero, List.set_cons_succ, List.getElem_toArray, List.getElem_cons_succ, List.getElem_cons_zero]
        refine wpAnyH_take (i := 4) (v := .agg Q.toArray) rfl (by kernel_rfl) (by kernel_rfl) (by kernel_rfl) (fun _ _ _ h => h) (yieldsIf_build (by kernel_rfl) 43 _ rfl [(1, .agg M.toArray)] (by kernel_rfl) Q HBP.out) hS ?_
        try simp only [Act.put, List.setIfInBounds_toArray, List.set_cons_zero, List.set_cons_succ, List.getElem_toArray, List.getElem_cons_succ, List.getElem_cons_zero]
        refine wpAnyH_ready (rs := [5]) (by kernel_rfl) (by simp) ?_
        refine AllReadyH.cons rfl (fun K hK => ?_) AllReadyH.nil
        go_simp
        refine (c5 _).mono ?_
        rintro e wf19 ⟨rfl, hb⟩
        replace HT := (show Hid (wf19.there g3 0 64) from there_below hb HT.out HL.out.2)
        replace HL := (show Hid (wc.heap.size ≤ g3 ∧ g3 < wf19.heap.size) from ⟨HL.out.1, Nat.lt_of_lt_of_le HL.out.2 hb.size⟩)
        have hS2 : Below wc.heap.size wc wf19 := hS.trans (hb.mono hS.size)
        refine hK.out _ _ hS2 (fun hS => ?_)
        clear hK K hb hS2 
        try simp only [Act.put, List.setIfInBounds_toArray, List.set_cons_zero, List.set_cons_succ, List.getElem_toArray, List.getElem_cons_succ, List.getElem_cons_zero]
        refine wpAnyH_take (i := 6) (v := .tuple #[.agg S.toArray, .nilIface]) rfl (by kernel_rfl) (by kernel_rfl) (by kernel_rfl) (fun _ _ _ h => h) (Or.inl ⟨by kernel_rfl, fun wq hS => by go_simp⟩) hS ?_
        try simp only [Act.put, List.setIfInBounds_toArray, List.set_cons_zero, List.set_cons_succ, List.getElem_toArray, List.getElem_cons_succ, List.getElem_cons_zero]
        refine wpAnyH_take (i := 7) (v := .agg S.toArray) rfl (by kernel_rfl) (by kernel_rfl) (by kernel_rfl) (fun _ _ _ h => h) (Or.inl ⟨by kernel_rfl, fun wq hS => by go_simp⟩) hS ?_
        try simp only [Act.put, List.setIfInBounds_toArray, List.set_cons_zero, List.set_cons_succ, List.getElem_toArray, List.getElem_cons_succ, List.getElem_cons_zero]
        refine wpAnyH_take (i := 8) (v := .nilIface) rfl (by kernel_rfl) (by kernel_rfl) (by kernel_rfl) (fun _ _ _ h => h) (Or.inl ⟨by kernel_rfl, fun wq hS => by go_simp⟩) hS ?_
        try simp only [Act.put, List.setIfInBounds_toArray, List.set_cons_zero, List.set_cons_succ, List.getElem_toArray, List.getElem_cons_succ, List.getElem_cons_zero]
        refine wpAnyH_ready (rs := [10]) (by kernel_rfl) (by simp) ?_
        refine AllReadyH.cons rfl (fun K hK => ?_) AllReadyH.nil
        refine want_it (by kernel_rfl) ?_
        refine wp_store_mid 43 (.tmp 6) (.tmp 28) rfl g3 0 S.toArray rfl rfl (LS.out.t (N := wc.heap.size) ⟨HL.out.1, HL.out.2, HT.out⟩) LS.out.j LS.out.o ?_
        simp only
        have hS2 : Below wc.heap.size wc (wf19.setCells g3 0 S) := below_setCells hS HL.out.1
        refine hK.out _ _ hS2 (fun hS => ?_)
        clear hK K hS2
        try simp only [Act.put, List.getElem_toArray, List.getElem_cons_succ, List.getElem_cons_zero]
        refine wpAnyH_ready (rs := [11]) (by kernel_rfl) (by simp) ?_
        refine AllReadyH.cons rfl (fun K hK => ?_) AllReadyH.nil
        go_simp
        refine hK.out _ _ hS (fun hS => ?_)
        clear hK K
        try simp only [Act.put, List.setIfInBounds_toArray, List.set_cons_zero, List.set_cons_succ, List.getElem_toArray, List.getElem_cons_succ, List.getElem_cons_zero]
        refine wpAnyH_done (by kernel_rfl) ?_ _
        go_wp2
        go_meet
        case rel => exact ⟨g3, rfl, rfl, hS, float_box43 LS.out HT.out HL.out.2, HL.out.1⟩
    case rest =>
      obtain ⟨g2, rfl, rfl, HR⟩ := hcut
      have AO3 := (show Hid (Ao w.heap.size wc (n + 1) 64) from AO2.out.below HR.out.1)
      have BS3 := (show Hid (Rp wc g2 0 S) from HR.out.2.1)
      have HB4 := (show Hid (Below w.heap.size w wc) from HB3.out.trans (HR.out.1.mono HB3.out.size))
      have HNE : Hid (g2 ≠ n + 1) := by have h1 := HR.out.2.2; have h2 := AO2.out.2.1; show _ ≠ _; omega
      clear HR AO2 BT2 HB3 BK2
      go_wp2
      refine wp_region_held_drew (S := fun w' => Below w.heap.size w w' ∧ Rp w' g2 0 S ∧ Ao w.heap.size w' (n + 1) 64) (by kernel_rfl) ⟨HB4.out.trans ((drewB wc).mono HB4.out.size), BS3.out.below (drewB wc), AO3.out.below (drewB wc)⟩ (fun hS => ?_)
      refine wpAnyH_take (i := 0) (v := .agg S.toArray) rfl (by kernel_rfl) (by kernel_rfl) (by kernel_rfl) (fun _ _ _ h => h) (yieldsIf_load_mid (by kernel_rfl) 43 (.tmp 6) rfl g2 0 rfl S _ (fun wq hq => hq.2.1.1) Try.underlying43 rfl LS.out.i) hS ?_
      try simp only [Act.put, List.setIfInBounds_toArray, List.set_cons_zero, List.set_cons_succ, List.getElem_toArray, List.getElem_cons_zero]
      refine wpAnyH_take (i := 1) (v := .nilIface) rfl (by kernel_rfl) (by kernel_rfl) (by kernel_rfl) (fun _ _ _ h => h) (Or.inl ⟨by kernel_rfl, fun wq hS => by go_simp⟩) hS ?_
      try simp only [Act.put, List.setIfInBounds_toArray, List.set_cons_zero, List.set_cons_succ, List.getElem_toArray, List.getElem_cons_succ, List.getElem_cons_zero]
      refine wpAnyH_take (i := 2) (v := .bool true) rfl (by kernel_rfl) (by kernel_rfl) (by kernel_rfl) (fun _ _ _ h => h) (Or.inl ⟨by kernel_rfl, fun wq hS => by go_simp⟩) hS ?_
      try simp only [Act.put, List.setIfInBounds_toArray, List.set_cons_zero, List.set_cons_succ, List.getElem_toArray, List.getElem_cons_succ, List.getElem_cons_zero]
      refine wpAnyH_ready (rs := [3]) (by kernel_rfl) (by simp) ?_
      refine AllReadyH.cons rfl (fun K hK => ?_) AllReadyH.nil
      refine want_it (by kernel_rfl) ?_
      refine wp_store_mid 43 (.tmp 2) (.tmp 30) rfl (n + 1) 0 S.toArray rfl rfl (LS.out.t hS.2.2) LS.out.j LS.out.o ?_
      simp only
      have AO5 := (show Hid _ from hS.2.2)
      have HB5 := (show Hid _ from hS.1)
      refine hK.out _ _ ⟨below_setCells hS.1 hS.2.2.1, ⟨World.rangeAt_setCells_apart hS.2.1.1 _ _ _ (.inl HNE.out), by rw [size_setCells]; exact hS.2.1.2⟩, hS.2.2.1, by rw [size_setCells]; exact hS.2.2.2.1, World.there_setCells hS.2.2.2.2 _ _ _⟩ (fun hS => ?_)
      clear hK K
      try simp only [Act.put, List.getElem_toArray, List.getElem_cons_succ, List.getElem_cons_zero]
      refine wpAnyH_ready (rs := [4]) (by kernel_rfl) (by simp) ?_
      refine AllReadyH.cons rfl (fun K hK => ?_) AllReadyH.nil
      go_simp
      refine hK.out _ _ hS (fun hS => ?_)
      clear hK K
      try simp only [Act.put, List.setIfInBounds_toArray, List.set_cons_zero, List.set_cons_succ, List.getElem_toArray, List.getElem_cons_succ, List.getElem_cons_zero]
      refine wpAnyH_done (by kernel_rfl) ?_ _
      go_wp2
      exact bodyPost_ret (res_ct Try.results33 rfl (end43 LS.out AO5.out) rfl) rfl ⟨rfl, below_setCells HB5.out AO5.out.1⟩
end Fd
end Go.Proofs.Ytgdekigdbbldoaa

namespace Go.Proofs.Ytgdekigdbbldoaa
open Go.RowKit
namespace Fd
open Rg Cv Bx

theorem rsub_p {a b : Nat} (ha : a < p) (hb : b < p) : (a + p - b) % p = subp a b := by unfold subp; rw [Nat.mod_eq_of_lt ha, Nat.mod_eq_of_lt hb]
theorem radd_p {a b : Nat} (ha : a < p) (hb : b < p) : (a + b) % p = addp a b := by unfold addp; rw [Nat.mod_eq_of_lt ha, Nat.mod_eq_of_lt hb]
theorem addR_tf (a b : Frac) : tf (Dt.addR a b).x = tf (sumF a b).x ∧ tf (Dt.addR a b).y = tf (sumF a b).y ∧ tf (Dt.addR a b).u = tf (sumF a b).u := by
  have m : ∀ a b, a * b % p = mulp a b := fun _ _ => rfl
  have l : ∀ a b, mulp a b < p := fun _ _ => Nat.mod_lt _ (by decide)
  unfold Dt.addR sumF
  simp only [m, rsub_p (l _ _) (l _ _), radd_p (l _ _) (l _ _), tf_mul, tf_add, tf_sub]
  refine ⟨by grind, by grind, by grind⟩
theorem addR_is {f g : Frac} {P Q : Pt} (hf : Is f P) (hg : Is g Q) (hP : P.on) (hQ : Q.on) : Is (Dt.addR f g) (add P Q) := by
  have h := sum_is hf hg hP hQ
  have e := addR_tf f g
  unfold Is at h ⊢
  rw [e.1, e.2.1, e.2.2]
  exact h
theorem add_comm' (P Q : Pt) : add P Q = add Q P := by
  unfold add
  have e1 : P.x * Q.y + Q.x * P.y = Q.x * P.y + P.x * Q.y := by grind
  have e2 : D * P.x * Q.x * P.y * Q.y = D * Q.x * P.x * Q.y * P.y := by grind
  have e3 : P.y * Q.y + P.x * Q.x = Q.y * P.y + Q.x * P.x := by grind
  rw [e1, e2, e3]
/-- The reference's Out, in terms of points. -/
theorem out_pt {ux uy uz : Value} {f : Frac} {P : Pt} {w : World} (nx : Dt.Num w ux f.x) (ny : Dt.Num w uy f.y) (nz : Dt.Num w uz f.u) (lf : Dt.Frac.ltp f) (h : Is f P) :
    Calls Try.prog 37 #[.agg #[ux, uy, uz]] w fun e w' => e = .returned (pv P.x.val P.y.val) ∧ Below w.heap.size w w' := by
  have h2 := Dt.rout_any nx ny nz lf.1 lf.2.1 lf.2.2
  have hd := div_is h
  have e : f.u ^ (p - 2) % p = invp f.u := by unfold invp; rw [Nat.mod_eq_of_lt lf.2.2, inverseExponent_eq]
  rw [e] at h2
  have m : ∀ a b, a * b % p = mulp a b := fun _ _ => rfl
  rw [m, m, hd.1, hd.2.1] at h2
  exact h2
theorem some_any (k : Nat) (w : World) : Calls Try.prog 33 #[bv k] w fun e w' => e = .returned (.tuple #[pv (someP k).x.val (someP k).y.val, .bool true]) ∧ Below w.heap.size w w' :=
  if h : by_ k 0 % 3 = 0 then some_third k w h else some_plain k w h
def fr1 (x y : Nat) : Frac := ⟨x % p, y % p, 1⟩
theorem fr1_lt (x y : Nat) : Dt.Frac.ltp (fr1 x y) := ⟨Nat.mod_lt _ (by decide), Nat.mod_lt _ (by decide), by show 1 < p; decide⟩
theorem tf_mod (x : Nat) : tf (x % p) = tf x := tf_eq.2 (Nat.mod_mod _ _)
theorem fr1_is (x y : Nat) : Is (fr1 x y) ⟨tf x, tf y⟩ := by
  have h := one_is (x % p) (y % p)
  rw [tf_mod, tf_mod] at h
  exact h
/-- Three boxes: two of 32 bytes, one of a point. -/
theorem start3p (w : World) (X Y Z : List Value) :
    let e := ((w.alloc (.cells X.toArray 22)).alloc (.cells Y.toArray 22)).alloc (.cells Z.toArray 43)
    Rp e w.heap.size 0 X ∧ Rp e (w.heap.size + 1) 0 Y ∧ Rp e (w.heap.size + 2) 0 Z ∧ Below w.heap.size w e := by
  intro e
  have s2 : ((w.alloc (.cells X.toArray 22)).alloc (.cells Y.toArray 22)).heap.size = w.heap.size + 2 := by rw [size_alloc, size_alloc]
  have s3 : e.heap.size = w.heap.size + 3 := by show (World.alloc _ _).heap.size = _; rw [size_alloc, s2]
  have r3 := Rg.range_new ((w.alloc (.cells X.toArray 22)).alloc (.cells Y.toArray 22)) Z 43
  rw [s2] at r3
  exact ⟨⟨World.rangeAt_alloc (World.rangeAt_alloc (Rg.range_new w X 22) _) _, by omega⟩, ⟨World.rangeAt_alloc (range_new1 w _ Y 22) _, by omega⟩, ⟨r3, by omega⟩, (((Below.refl _ _).alloc (Nat.le_refl _) _).alloc (by simp) _).alloc (by rw [s2]; omega) _⟩
set_option maxHeartbeats 8000000 in
set_option maxRecDepth 8000 in
theorem adds_off (j k x y : Nat) (lx : x < 115792089237316195423570985008687907853269984665640564039457584007913129639936) (ly : y < 115792089237316195423570985008687907853269984665640564039457584007913129639936) (hon : ¬ OnC x y) (w : World) :
    Calls Try.prog 8 #[bv j, bv k, pv x y] w fun e w' => e = .returned (.bool true) ∧ Below w.heap.size w w' := by
  have HP := someP_on j
  have HQ := someP_on k
  have cP : ∀ W : World, Calls Try.prog 33 #[bv j] W fun e w' => e = .returned (.tuple #[pv (someP j).x.val (someP j).y.val, .bool true]) ∧ Below W.heap.size W w' := some_any j
  have cQ : ∀ W : World, Calls Try.prog 33 #[bv k] W fun e w' => e = .returned (.tuple #[pv (someP k).x.val (someP k).y.val, .bool true]) ∧ Below W.heap.size W w' := some_any k
  have hPC := pt_C HP
  have hQC := pt_C HQ
  have lpx := big (someP j).x
  have lpy := big (someP j).y
  have lqx := big (someP k).x
  have lqy := big (someP k).y
  have vpx := (someP j).x.isLt
  have vpy := (someP j).y.isLt
  have cS : ∀ W : World, Calls Try.prog 35 #[pv (someP j).x.val (someP j).y.val, pv (someP k).x.val (someP k).y.val] W fun e w' => e = .returned (.tuple #[pv (add (someP j) (someP k)).x.val (add (someP j) (someP k)).y.val, .nilIface]) ∧ Below W.heap.size W w' := fun W => by
    have h := add_pt (someP j).x.val (someP j).y.val (someP k).x.val (someP k).y.val W lpx lpy lqx lqy hPC hQC
    rw [tf_of, tf_of, tf_of, tf_of] at h
    exact h
  have cN : ∀ W : World, Calls Try.prog 36 #[pv (someP j).x.val (someP j).y.val] W fun e w' => e = .returned (.tuple #[pv (subp 0 (someP j).x.val) (redp (someP j).y.val), .nilIface]) ∧ Below W.heap.size W w' := fun W => neg_ok _ _ W lpx lpy hPC
  have cM : ∀ W : World, Calls Try.prog 40 #[pv (someP j).x.val (someP j).y.val] W fun e w' => e = .returned (pv (subp 0 (someP j).x.val) (redp (someP j).y.val)) ∧ Below W.heap.size W w' := fun W => Dt.rneg_any _ _ W lpx lpy
  have CIP : Hid (∀ W : World, Calls Try.prog 39 #[pv (someP j).x.val (someP j).y.val] W fun e w' => ∃ rx ry rz, e = .returned (.agg #[rx, ry, rz]) ∧ (Dt.Num w' rx (fr1 (someP j).x.val (someP j).y.val).x ∧ Dt.Num w' ry (fr1 (someP j).x.val (someP j).y.val).y ∧ Dt.Num w' rz (fr1 (someP j).x.val (someP j).y.val).u) ∧ Below W.heap.size W w') := fun W => Dt.rin_any _ _ W lpx lpy
  have CIQ : Hid (∀ W : World, Calls Try.prog 39 #[pv (someP k).x.val (someP k).y.val] W fun e w' => ∃ rx ry rz, e = .returned (.agg #[rx, ry, rz]) ∧ (Dt.Num w' rx (fr1 (someP k).x.val (someP k).y.val).x ∧ Dt.Num w' ry (fr1 (someP k).x.val (someP k).y.val).y ∧ Dt.Num w' rz (fr1 (someP k).x.val (someP k).y.val).u) ∧ Below W.heap.size W w') := fun W => Dt.rin_any _ _ W lqx lqy
  have iP := fr1_is (someP j).x.val (someP j).y.val
  have iQ := fr1_is (someP k).x.val (someP k).y.val
  rw [tf_of, tf_of] at iP iQ
  have iS := addR_is iP iQ HP HQ
  have lfP := fr1_lt (someP j).x.val (someP j).y.val
  have lfQ := fr1_lt (someP k).x.val (someP k).y.val
  have cT : ∀ W : World, Calls Try.prog 35 #[pv (someP j).x.val (someP j).y.val, pv x y] W fun e w' => e = .returned (.tuple #[pv 0 0, .iface 35 (.int .i64 29)]) ∧ Below W.heap.size W w' := fun W => add_no2 _ _ x y W lpx lpy lx ly hPC hon
  have cU : ∀ W : World, Calls Try.prog 35 #[pv x y, pv (someP j).x.val (someP j).y.val] W fun e w' => e = .returned (.tuple #[pv 0 0, .iface 35 (.int .i64 29)]) ∧ Below W.heap.size W w' := fun W => add_no1 x y _ _ W lx ly hon
  have cW : ∀ W : World, Calls Try.prog 36 #[pv x y] W fun e w' => e = .returned (.tuple #[pv 0 0, .iface 35 (.int .i64 29)]) ∧ Below W.heap.size W w' := fun W => neg_no x y W lx ly hon
  have cJ : ∀ W : World, Calls Try.prog 31 #[pv x y] W fun e w' => e = .returned (.bool false) ∧ Below W.heap.size W w' := fun W => by have h := Dt.ris_any x y W lx ly; rwa [decide_eq_false hon] at h
  obtain ⟨PP, hPP⟩ : ∃ f, someP j = f := ⟨_, rfl⟩
  obtain ⟨PQ, hPQ⟩ : ∃ f, someP k = f := ⟨_, rfl⟩
  rw [hPP] at cP cS cN cM CIP iP iS lfP lpx lpy vpx vpy HP cT cU
  rw [hPQ] at cQ cS CIQ iQ iS lfQ lqx lqy HQ
  obtain ⟨PS, hPS⟩ : ∃ f, add PP PQ = f := ⟨_, rfl⟩
  rw [hPS] at cS iS
  have lsx := big PS.x
  have lsy := big PS.y
  obtain ⟨fP, hfP⟩ : ∃ f, fr1 PP.x.val PP.y.val = f := ⟨_, rfl⟩
  obtain ⟨fQ, hfQ⟩ : ∃ f, fr1 PQ.x.val PQ.y.val = f := ⟨_, rfl⟩
  rw [hfP] at CIP iP iS lfP
  rw [hfQ] at CIQ iQ iS lfQ
  have CA : Hid (∀ (W : World) (ux uy uz tx ty tz vd : Value), Dt.Num W ux fP.x → Dt.Num W uy fP.y → Dt.Num W uz fP.u → Dt.Num W tx fQ.x → Dt.Num W ty fQ.y → Dt.Num W tz fQ.u → Dt.Num W vd factor → Calls Try.prog 38 #[.agg #[ux, uy, uz], .agg #[tx, ty, tz], vd] W fun e w' => ∃ rx ry rz, e = .returned (.agg #[rx, ry, rz]) ∧ (Dt.Num w' rx (Dt.addR fP fQ).x ∧ Dt.Num w' ry (Dt.addR fP fQ).y ∧ Dt.Num w' rz (Dt.addR fP fQ).u) ∧ Below W.heap.size W w') := fun W ux uy uz tx ty tz vd h1 h2 h3 h4 h5 h6 h7 => Dt.radd_any h1 h2 h3 h4 h5 h6 h7 lfP lfQ
  have CO : Hid (∀ (W : World) (ux uy uz : Value), Dt.Num W ux (Dt.addR fP fQ).x → Dt.Num W uy (Dt.addR fP fQ).y → Dt.Num W uz (Dt.addR fP fQ).u → Calls Try.prog 37 #[.agg #[ux, uy, uz]] W fun e w' => e = .returned (pv PS.x.val PS.y.val) ∧ Below W.heap.size W w') := fun W ux uy uz h1 h2 h3 => out_pt h1 h2 h3 (Dt.addR_lt _ _) iS
  obtain ⟨fS, hfS⟩ : ∃ f, Dt.addR fP fQ = f := ⟨_, rfl⟩
  rw [hfS] at CA CO
  have q_0 := eq43_same 0 0 (by decide) (by decide)
  have HBN : Hid (Try.prog.built 43 [] = some (bvc 0 ++ bvc 0).toArray) := build_none
  have e29 : ∀ W : World, (binOp .eql 32 (.iface 35 (.int .i64 29)) (.iface 35 (.int .i64 29))).run Try.prog W = .ok (.bool true) W := fun W => bin_err 29 29 W
  have ex := eq_err_nil
  have q_S := eq43_same PS.x.val PS.y.val lsx lsy
  have q_N := eq43_same (subp 0 PP.x.val) (redp PP.y.val) (subp_lt _ _) (redp_lt _)
  have cH := shown7_any
  have en := eq_nil
  have LJ : Hid (L32 (bvc j)) := l32 j
  have LKk : Hid (L32 (bvc k)) := l32 k
  have LR : Hid (L64 (bvc x ++ bvc y)) := l64 x y
  have LP : Hid (L64 (bvc PP.x.val ++ bvc PP.y.val)) := l64 _ _
  have LQ : Hid (L64 (bvc PQ.x.val ++ bvc PQ.y.val)) := l64 _ _
  have LS : Hid (L64 (bvc PS.x.val ++ bvc PS.y.val)) := l64 _ _
  have LM : Hid (L64 (bvc (subp 0 PP.x.val) ++ bvc (redp PP.y.val))) := l64 _ _
  have LE : Hid (L64 (bvc 0 ++ bvc 0)) := l64 _ _
  unfold pv at cP cQ cS cN cM CIP CIQ CO cT cU cW cJ ⊢
  unfold bv at cP cQ ⊢
  have HS := (show Hid _ from start3p w (bvc j) (bvc k) (bvc x ++ bvc y))
  obtain ⟨R, hR⟩ : ∃ X, bvc x ++ bvc y = X := ⟨_, rfl⟩
  rw [hR] at cT cU cW cJ LR HS ⊢
  obtain ⟨P, hP⟩ : ∃ X, bvc PP.x.val ++ bvc PP.y.val = X := ⟨_, rfl⟩
  rw [hP] at cP cS cN cM CIP cT cU LP
  obtain ⟨Q, hQ⟩ : ∃ X, bvc PQ.x.val ++ bvc PQ.y.val = X := ⟨_, rfl⟩
  rw [hQ] at cQ cS CIQ LQ
  obtain ⟨S, hS⟩ : ∃ X, bvc PS.x.val ++ bvc PS.y.val = X := ⟨_, rfl⟩
  rw [hS] at cS CO q_S LS
  obtain ⟨M, hM⟩ : ∃ X, bvc (subp 0 PP.x.val) ++ bvc (redp PP.y.val) = X := ⟨_, rfl⟩
  rw [hM] at cN cM q_N LM
  obtain ⟨E, hE⟩ : ∃ X, bvc 0 ++ bvc 0 = X := ⟨_, rfl⟩
  rw [hE] at cT cU cW q_0 HBN LE
  obtain ⟨J, hJ⟩ : ∃ X, bvc j = X := ⟨_, rfl⟩
  rw [hJ] at cP LJ HS ⊢
  obtain ⟨Kk, hKk⟩ : ∃ X, bvc k = X := ⟨_, rfl⟩
  rw [hKk] at cQ LKk HS ⊢
  clear hR hP hQ hS hM hE hJ hKk hPP hPQ hPS hfP hfQ hfS iP iQ iS lfP lfQ lpx lpy lqx lqy lsx lsy vpx vpy HP HQ hPC hQC hon lx ly
  have hz43 := zero43
  have HBN43 : Hid _ := box43
  have HTH43 : Hid _ := th43
  have HTT43 : Hid _ := there43
  obtain ⟨Z43, hZ43⟩ : ∃ Z, z43 = Z := ⟨_, rfl⟩
  rw [hZ43] at hz43 HBN43 HTH43 HTT43
  clear hZ43
  obtain ⟨n, hn⟩ : ∃ n, w.heap.size = n := ⟨_, rfl⟩
  have HN : Hid (w.heap.size = n) := hn
  obtain ⟨we, hwe⟩ : ∃ v, ((w.alloc (.cells J.toArray 22)).alloc (.cells Kk.toArray 22)).alloc (.cells R.toArray 43) = v := ⟨_, rfl⟩
  have BJ : Hid (Rp we n 0 J) := by have h := HS.out.1; rw [hwe, HN.out] at h; exact h
  have BK : Hid (Rp we (n + 1) 0 Kk) := by have h := HS.out.2.1; rw [hwe, HN.out] at h; exact h
  have BR : Hid (Rp we (n + 2) 0 R) := by have h := HS.out.2.2.1; rw [hwe, HN.out] at h; exact h
  have HBE : Hid (Below w.heap.size w we) := by have h := HS.out.2.2.2; rw [hwe] at h; exact h
  clear HS
  have BJ_0 := BJ
  have BK_0 := BK
  have BR_0 := BR
  have HB_0 := (show Hid (Below we.heap.size we we) from Below.refl _ _)
  have TK_0 := (show Hid True from trivial)
  clear BJ BK BR
  go_enter Try.func8, Try.ntmps8
  go_wp2_with (first
    | (refine wpList_load_mid rfl 22 (.tmp 3) rfl n 0 rfl J _ BJ_0.out.1 Try.underlying22 rfl LJ.out.i ?_)
    | (refine wpList_load_mid rfl 22 (.tmp 4) rfl (n + 1) 0 rfl Kk _ BK_0.out.1 Try.underlying22 rfl LKk.out.i ?_)
    | (refine wpList_load_mid rfl 43 (.tmp 5) rfl (n + 2) 0 rfl R _ BR_0.out.1 Try.underlying43 rfl LR.out.i ?_)
    | (refine wpList_load_mid rfl 22 (.tmp 3) rfl n 0 rfl J _ BJ_1.out.1 Try.underlying22 rfl LJ.out.i ?_)
    | (refine wpList_load_mid rfl 22 (.tmp 4) rfl (n + 1) 0 rfl Kk _ BK_1.out.1 Try.underlying22 rfl LKk.out.i ?_)
    | (refine wpList_load_mid rfl 43 (.tmp 5) rfl (n + 2) 0 rfl R _ BR_1.out.1 Try.underlying43 rfl LR.out.i ?_)
    | (refine wpList_load_mid rfl 22 (.tmp 3) rfl n 0 rfl J _ BJ_2.out.1 Try.underlying22 rfl LJ.out.i ?_)
    | (refine wpList_load_mid rfl 22 (.tmp 4) rfl (n + 1) 0 rfl Kk _ BK_2.out.1 Try.underlying22 rfl LKk.out.i ?_)
    | (refine wpList_load_mid rfl 43 (.tmp 5) rfl (n + 2) 0 rfl R _ BR_2.out.1 Try.underlying43 rfl LR.out.i ?_)
    | (refine wpList_load_mid rfl 22 (.tmp 3) rfl n 0 rfl J _ BJ_3.out.1 Try.underlying22 rfl LJ.out.i ?_)
    | (refine wpList_load_mid rfl 22 (.tmp 4) rfl (n + 1) 0 rfl Kk _ BK_3.out.1 Try.underlying22 rfl LKk.out.i ?_)
    | (refine wpList_load_mid rfl 43 (.tmp 5) rfl (n + 2) 0 rfl R _ BR_3.out.1 Try.underlying43 rfl LR.out.i ?_)
    | (refine wpList_load_mid rfl 43 (.tmp 8) rfl bBP 0 rfl P _ BP_3.out.1 Try.underlying43 rfl LP.out.i ?_)
    | (refine wpList_load_mid rfl 22 (.tmp 3) rfl n 0 rfl J _ BJ_4.out.1 Try.underlying22 rfl LJ.out.i ?_)
    | (refine wpList_load_mid rfl 22 (.tmp 4) rfl (n + 1) 0 rfl Kk _ BK_4.out.1 Try.underlying22 rfl LKk.out.i ?_)
    | (refine wpList_load_mid rfl 43 (.tmp 5) rfl (n + 2) 0 rfl R _ BR_4.out.1 Try.underlying43 rfl LR.out.i ?_)
    | (refine wpList_load_mid rfl 43 (.tmp 8) rfl bBP 0 rfl P _ BP_4.out.1 Try.underlying43 rfl LP.out.i ?_)
    | (refine wpList_load_mid rfl 22 (.tmp 3) rfl n 0 rfl J _ BJ_5.out.1 Try.underlying22 rfl LJ.out.i ?_)
    | (refine wpList_load_mid rfl 22 (.tmp 4) rfl (n + 1) 0 rfl Kk _ BK_5.out.1 Try.underlying22 rfl LKk.out.i ?_)
    | (refine wpList_load_mid rfl 43 (.tmp 5) rfl (n + 2) 0 rfl R _ BR_5.out.1 Try.underlying43 rfl LR.out.i ?_)
    | (refine wpList_load_mid rfl 43 (.tmp 8) rfl bBP 0 rfl P _ BP_5.out.1 Try.underlying43 rfl LP.out.i ?_)
    | (refine wpList_load_mid rfl 43 (.tmp 10) rfl bBQ 0 rfl Q _ BQ_5.out.1 Try.underlying43 rfl LQ.out.i ?_)
    | (refine wpList_load_mid rfl 22 (.tmp 3) rfl n 0 rfl J _ BJ_6.out.1 Try.underlying22 rfl LJ.out.i ?_)
    | (refine wpList_load_mid rfl 22 (.tmp 4) rfl (n + 1) 0 rfl Kk _ BK_6.out.1 Try.underlying22 rfl LKk.out.i ?_)
    | (refine wpList_load_mid rfl 43 (.tmp 5) rfl (n + 2) 0 rfl R _ BR_6.out.1 Try.underlying43 rfl LR.out.i ?_)
    | (refine wpList_load_mid rfl 43 (.tmp 8) rfl bBP 0 rfl P _ BP_6.out.1 Try.underlying43 rfl LP.out.i ?_)
    | (refine wpList_load_mid rfl 43 (.tmp 10) rfl bBQ 0 rfl Q _ BQ_6.out.1 Try.underlying43 rfl LQ.out.i ?_)
    | (refine wpList_load_mid rfl 22 (.tmp 3) rfl n 0 rfl J _ BJ_7.out.1 Try.underlying22 rfl LJ.out.i ?_)
    | (refine wpList_load_mid rfl 22 (.tmp 4) rfl (n + 1) 0 rfl Kk _ BK_7.out.1 Try.underlying22 rfl LKk.out.i ?_)
    | (refine wpList_load_mid rfl 43 (.tmp 5) rfl (n + 2) 0 rfl R _ BR_7.out.1 Try.underlying43 rfl LR.out.i ?_)
    | (refine wpList_load_mid rfl 43 (.tmp 8) rfl bBP 0 rfl P _ BP_7.out.1 Try.underlying43 rfl LP.out.i ?_)
    | (refine wpList_load_mid rfl 43 (.tmp 10) rfl bBQ 0 rfl Q _ BQ_7.out.1 Try.underlying43 rfl LQ.out.i ?_)
    | (refine wpList_load_mid rfl 22 (.tmp 3) rfl n 0 rfl J _ BJ_8.out.1 Try.underlying22 rfl LJ.out.i ?_)
    | (refine wpList_load_mid rfl 22 (.tmp 4) rfl (n + 1) 0 rfl Kk _ BK_8.out.1 Try.underlying22 rfl LKk.out.i ?_)
    | (refine wpList_load_mid rfl 43 (.tmp 5) rfl (n + 2) 0 rfl R _ BR_8.out.1 Try.underlying43 rfl LR.out.i ?_)
    | (refine wpList_load_mid rfl 43 (.tmp 8) rfl bBP 0 rfl P _ BP_8.out.1 Try.underlying43 rfl LP.out.i ?_)
    | (refine wpList_load_mid rfl 43 (.tmp 10) rfl bBQ 0 rfl Q _ BQ_8.out.1 Try.underlying43 rfl LQ.out.i ?_)
    | (refine wpList_load_mid rfl 43 (.tmp 13) rfl bBS 0 rfl S _ BS_8.out.1 Try.underlying43 rfl LS.out.i ?_)
    | (refine wpList_load_mid rfl 22 (.tmp 3) rfl n 0 rfl J _ BJ_9.out.1 Try.underlying22 rfl LJ.out.i ?_)
    | (refine wpList_load_mid rfl 22 (.tmp 4) rfl (n + 1) 0 rfl Kk _ BK_9.out.1 Try.underlying22 rfl LKk.out.i ?_)
    | (refine wpList_load_mid rfl 43 (.tmp 5) rfl (n + 2) 0 rfl R _ BR_9.out.1 Try.underlying43 rfl LR.out.i ?_)
    | (refine wpList_load_mid rfl 43 (.tmp 8) rfl bBP 0 rfl P _ BP_9.out.1 Try.underlying43 rfl LP.out.i ?_)
    | (refine wpList_load_mid rfl 43 (.tmp 10) rfl bBQ 0 rfl Q _ BQ_9.out.1 Try.underlying43 rfl LQ.out.i ?_)
    | (refine wpList_load_mid rfl 43 (.tmp 13) rfl bBS 0 rfl S _ BS_9.out.1 Try.underlying43 rfl LS.out.i ?_)
    | (refine wpList_load_mid rfl 22 (.tmp 3) rfl n 0 rfl J _ BJ_10.out.1 Try.underlying22 rfl LJ.out.i ?_)
    | (refine wpList_load_mid rfl 22 (.tmp 4) rfl (n + 1) 0 rfl Kk _ BK_10.out.1 Try.underlying22 rfl LKk.out.i ?_)
    | (refine wpList_load_mid rfl 43 (.tmp 5) rfl (n + 2) 0 rfl R _ BR_10.out.1 Try.underlying43 rfl LR.out.i ?_)
    | (refine wpList_load_mid rfl 43 (.tmp 8) rfl bBP 0 rfl P _ BP_10.out.1 Try.underlying43 rfl LP.out.i ?_)
    | (refine wpList_load_mid rfl 43 (.tmp 10) rfl bBQ 0 rfl Q _ BQ_10.out.1 Try.underlying43 rfl LQ.out.i ?_)
    | (refine wpList_load_mid rfl 43 (.tmp 13) rfl bBS 0 rfl S _ BS_10.out.1 Try.underlying43 rfl LS.out.i ?_)
    | (refine wpList_load_mid rfl 43 (.tmp 15) rfl bBM 0 rfl M _ BM_10.out.1 Try.underlying43 rfl LM.out.i ?_)
    | (have hq := TK_0; go_at_call 28; refine (cH _).mono ?_; rintro e w1 ⟨rfl, hb⟩; have HB_1 := (show Hid (Below we.heap.size we w1) from HB_0.out.trans (hb.mono HB_0.out.size)); have BJ_1 := (show Hid (Rp w1 n 0 J) from BJ_0.out.below hb); have BK_1 := (show Hid (Rp w1 (n + 1) 0 Kk) from BK_0.out.below hb); have BR_1 := (show Hid (Rp w1 (n + 2) 0 R) from BR_0.out.below hb); have TK_1 := (show Hid True from trivial); clear hq TK_0 hb HB_0 BJ_0 BK_0 BR_0)
    | (have hq := TK_1; go_at_call 33; refine (cP _).mono ?_; rintro e w2 ⟨rfl, hb⟩; have HB_2 := (show Hid (Below we.heap.size we w2) from HB_1.out.trans (hb.mono HB_1.out.size)); have BJ_2 := (show Hid (Rp w2 n 0 J) from BJ_1.out.below hb); have BK_2 := (show Hid (Rp w2 (n + 1) 0 Kk) from BK_1.out.below hb); have BR_2 := (show Hid (Rp w2 (n + 2) 0 R) from BR_1.out.below hb); have TK_2 := (show Hid True from trivial); clear hq TK_1 hb HB_1 BJ_1 BK_1 BR_1)
    | (have hq := TK_2; refine wpList_store_mid rfl 43 (.tmp 8) (.tmp 29) rfl w2.heap.size 0 P.toArray rfl rfl (HTH43.out P LP.out w2) LP.out.j LP.out.o ?_; simp only; have hbx := HBN43.out P LP.out w2; obtain ⟨w3, hw3⟩ : ∃ v, (w2.alloc (.cells Z43 43)).setCells w2.heap.size 0 P = v := ⟨_, rfl⟩; rw [hw3] at hbx ⊢; clear hw3; have hb := hbx.2; replace hbx := hbx.1; obtain ⟨bBP, hbBP⟩ : ∃ b, w2.heap.size = b := ⟨_, rfl⟩; rw [hbBP] at hbx ⊢; clear hbBP; have HB_3 := (show Hid (Below we.heap.size we w3) from HB_2.out.trans (hb.mono HB_2.out.size)); have BJ_3 := (show Hid (Rp w3 n 0 J) from BJ_2.out.below hb); have BK_3 := (show Hid (Rp w3 (n + 1) 0 Kk) from BK_2.out.below hb); have BR_3 := (show Hid (Rp w3 (n + 2) 0 R) from BR_2.out.below hb); have BP_3 := (show Hid (Rp w3 bBP 0 P) from hbx); have TK_3 := (show Hid True from trivial); clear hq TK_2 hb hbx HB_2 BJ_2 BK_2 BR_2)
    | (have hq := TK_3; go_at_call 33; refine (cQ _).mono ?_; rintro e w4 ⟨rfl, hb⟩; have HB_4 := (show Hid (Below we.heap.size we w4) from HB_3.out.trans (hb.mono HB_3.out.size)); have BJ_4 := (show Hid (Rp w4 n 0 J) from BJ_3.out.below hb); have BK_4 := (show Hid (Rp w4 (n + 1) 0 Kk) from BK_3.out.below hb); have BR_4 := (show Hid (Rp w4 (n + 2) 0 R) from BR_3.out.below hb); have BP_4 := (show Hid (Rp w4 bBP 0 P) from BP_3.out.below hb); have TK_4 := (show Hid True from trivial); clear hq TK_3 hb HB_3 BJ_3 BK_3 BR_3 BP_3)
    | (have hq := TK_4; refine wpList_store_mid rfl 43 (.tmp 10) (.tmp 34) rfl w4.heap.size 0 Q.toArray rfl rfl (HTH43.out Q LQ.out w4) LQ.out.j LQ.out.o ?_; simp only; have hbx := HBN43.out Q LQ.out w4; obtain ⟨w5, hw5⟩ : ∃ v, (w4.alloc (.cells Z43 43)).setCells w4.heap.size 0 Q = v := ⟨_, rfl⟩; rw [hw5] at hbx ⊢; clear hw5; have hb := hbx.2; replace hbx := hbx.1; obtain ⟨bBQ, hbBQ⟩ : ∃ b, w4.heap.size = b := ⟨_, rfl⟩; rw [hbBQ] at hbx ⊢; clear hbBQ; have HB_5 := (show Hid (Below we.heap.size we w5) from HB_4.out.trans (hb.mono HB_4.out.size)); have BJ_5 := (show Hid (Rp w5 n 0 J) from BJ_4.out.below hb); have BK_5 := (show Hid (Rp w5 (n + 1) 0 Kk) from BK_4.out.below hb); have BR_5 := (show Hid (Rp w5 (n + 2) 0 R) from BR_4.out.below hb); have BP_5 := (show Hid (Rp w5 bBP 0 P) from BP_4.out.below hb); have BQ_5 := (show Hid (Rp w5 bBQ 0 Q) from hbx); have TK_5 := (show Hid True from trivial); clear hq TK_4 hb hbx HB_4 BJ_4 BK_4 BR_4 BP_4)
    | (have hq := TK_5; go_at_call 34; refine (Dt.d_num _).mono ?_; rintro e w6 ⟨vd, rfl, hn1, hb⟩; have HB_6 := (show Hid (Below we.heap.size we w6) from HB_5.out.trans (hb.mono HB_5.out.size)); have BJ_6 := (show Hid (Rp w6 n 0 J) from BJ_5.out.below hb); have BK_6 := (show Hid (Rp w6 (n + 1) 0 Kk) from BK_5.out.below hb); have BR_6 := (show Hid (Rp w6 (n + 2) 0 R) from BR_5.out.below hb); have BP_6 := (show Hid (Rp w6 bBP 0 P) from BP_5.out.below hb); have BQ_6 := (show Hid (Rp w6 bBQ 0 Q) from BQ_5.out.below hb); have ND_6 := (show Hid (Dt.Num w6 vd factor) from hn1); have TK_6 := (show Hid True from trivial); clear hq TK_5 hb HB_5 BJ_5 BK_5 BR_5 BP_5 BQ_5 hn1)
    | (have hq := TK_6; go_at_call 35; refine (cS _).mono ?_; rintro e w7 ⟨rfl, hb⟩; have HB_7 := (show Hid (Below we.heap.size we w7) from HB_6.out.trans (hb.mono HB_6.out.size)); have BJ_7 := (show Hid (Rp w7 n 0 J) from BJ_6.out.below hb); have BK_7 := (show Hid (Rp w7 (n + 1) 0 Kk) from BK_6.out.below hb); have BR_7 := (show Hid (Rp w7 (n + 2) 0 R) from BR_6.out.below hb); have BP_7 := (show Hid (Rp w7 bBP 0 P) from BP_6.out.below hb); have BQ_7 := (show Hid (Rp w7 bBQ 0 Q) from BQ_6.out.below hb); have ND_7 := (show Hid (Dt.Num w7 vd factor) from ND_6.out.below hb); have TK_7 := (show Hid True from trivial); clear hq TK_6 hb HB_6 BJ_6 BK_6 BR_6 BP_6 BQ_6 ND_6)
    | (have hq := TK_7; refine wpList_store_mid rfl 43 (.tmp 13) (.tmp 47) rfl w7.heap.size 0 S.toArray rfl rfl (HTH43.out S LS.out w7) LS.out.j LS.out.o ?_; simp only; have hbx := HBN43.out S LS.out w7; obtain ⟨w8, hw8⟩ : ∃ v, (w7.alloc (.cells Z43 43)).setCells w7.heap.size 0 S = v := ⟨_, rfl⟩; rw [hw8] at hbx ⊢; clear hw8; have hb := hbx.2; replace hbx := hbx.1; obtain ⟨bBS, hbBS⟩ : ∃ b, w7.heap.size = b := ⟨_, rfl⟩; rw [hbBS] at hbx ⊢; clear hbBS; have HB_8 := (show Hid (Below we.heap.size we w8) from HB_7.out.trans (hb.mono HB_7.out.size)); have BJ_8 := (show Hid (Rp w8 n 0 J) from BJ_7.out.below hb); have BK_8 := (show Hid (Rp w8 (n + 1) 0 Kk) from BK_7.out.below hb); have BR_8 := (show Hid (Rp w8 (n + 2) 0 R) from BR_7.out.below hb); have BP_8 := (show Hid (Rp w8 bBP 0 P) from BP_7.out.below hb); have BQ_8 := (show Hid (Rp w8 bBQ 0 Q) from BQ_7.out.below hb); have ND_8 := (show Hid (Dt.Num w8 vd factor) from ND_7.out.below hb); have BS_8 := (show Hid (Rp w8 bBS 0 S) from hbx); have TK_8 := (show Hid True from trivial); clear hq TK_7 hb hbx HB_7 BJ_7 BK_7 BR_7 BP_7 BQ_7 ND_7)
    | (have hq := TK_8; go_at_call 36; refine (cN _).mono ?_; rintro e w9 ⟨rfl, hb⟩; have HB_9 := (show Hid (Below we.heap.size we w9) from HB_8.out.trans (hb.mono HB_8.out.size)); have BJ_9 := (show Hid (Rp w9 n 0 J) from BJ_8.out.below hb); have BK_9 := (show Hid (Rp w9 (n + 1) 0 Kk) from BK_8.out.below hb); have BR_9 := (show Hid (Rp w9 (n + 2) 0 R) from BR_8.out.below hb); have BP_9 := (show Hid (Rp w9 bBP 0 P) from BP_8.out.below hb); have BQ_9 := (show Hid (Rp w9 bBQ 0 Q) from BQ_8.out.below hb); have ND_9 := (show Hid (Dt.Num w9 vd factor) from ND_8.out.below hb); have BS_9 := (show Hid (Rp w9 bBS 0 S) from BS_8.out.below hb); have TK_9 := (show Hid True from trivial); clear hq TK_8 hb HB_8 BJ_8 BK_8 BR_8 BP_8 BQ_8 ND_8 BS_8)
    | (have hq := TK_9; refine wpList_store_mid rfl 43 (.tmp 15) (.tmp 52) rfl w9.heap.size 0 M.toArray rfl rfl (HTH43.out M LM.out w9) LM.out.j LM.out.o ?_; simp only; have hbx := HBN43.out M LM.out w9; obtain ⟨w10, hw10⟩ : ∃ v, (w9.alloc (.cells Z43 43)).setCells w9.heap.size 0 M = v := ⟨_, rfl⟩; rw [hw10] at hbx ⊢; clear hw10; have hb := hbx.2; replace hbx := hbx.1; obtain ⟨bBM, hbBM⟩ : ∃ b, w9.heap.size = b := ⟨_, rfl⟩; rw [hbBM] at hbx ⊢; clear hbBM; have HB_10 := (show Hid (Below we.heap.size we w10) from HB_9.out.trans (hb.mono HB_9.out.size)); have BJ_10 := (show Hid (Rp w10 n 0 J) from BJ_9.out.below hb); have BK_10 := (show Hid (Rp w10 (n + 1) 0 Kk) from BK_9.out.below hb); have BR_10 := (show Hid (Rp w10 (n + 2) 0 R) from BR_9.out.below hb); have BP_10 := (show Hid (Rp w10 bBP 0 P) from BP_9.out.below hb); have BQ_10 := (show Hid (Rp w10 bBQ 0 Q) from BQ_9.out.below hb); have ND_10 := (show Hid (Dt.Num w10 vd factor) from ND_9.out.below hb); have BS_10 := (show Hid (Rp w10 bBS 0 S) from BS_9.out.below hb); have BM_10 := (show Hid (Rp w10 bBM 0 M) from hbx); have TK_10 := (show Hid True from trivial); clear hq TK_9 hb hbx HB_9 BJ_9 BK_9 BR_9 BP_9 BQ_9 ND_9 BS_9))
  have HBW := (show Hid (Below w.heap.size w w10) from HBE.out.trans (HB_10.out.mono HBE.out.size))
  clear HBE HB_10 hwe
  have BJ := BJ_10
  have BK := BK_10
  have BR := BR_10
  have BP := BP_10
  have BQ := BQ_10
  have ND := ND_10
  have BS := BS_10
  have BM := BM_10
  clear BJ_10 BK_10 BR_10 BP_10 BQ_10 ND_10 BS_10 BM_10
  refine wp_region_held_drew (S := fun w' => Below w10.heap.size w10 w') (by kernel_rfl) (drewB w10) (fun hS => ?_)
  refine wpAnyH_take (i := 0) (v := .nilIface) rfl (by kernel_rfl) (by kernel_rfl) (by kernel_rfl) (fun _ _ _ h => h) (Or.inl ⟨by kernel_rfl, fun wq hS => by go_simp⟩) hS ?_
  try simp only [Act.put, List.setIfInBounds_toArray, List.set_cons_zero, List.set_cons_succ, List.getElem_toArray, List.getElem_cons_zero]
  refine wpAnyH_take (i := 1) (v := .bool false) rfl (by kernel_rfl) (by kernel_rfl) (by kernel_rfl) (fun _ _ _ h => h) (Or.inl ⟨by kernel_rfl, fun wq hS => by go_simp⟩) hS ?_
  try simp only [Act.put, List.setIfInBounds_toArray, List.set_cons_zero, List.set_cons_succ, List.getElem_toArray, List.getElem_cons_succ, List.getElem_cons_zero]
  refine wpAnyH_take (i := 2) (v := .bool false) rfl (by kernel_rfl) (by kernel_rfl) (by kernel_rfl) (fun _ _ _ h => h) (Or.inl ⟨by kernel_rfl, fun wq hS => by go_simp⟩) hS ?_
  try simp only [Act.put, List.setIfInBounds_toArray, List.set_cons_zero, List.set_cons_succ, List.getElem_toArray, List.getElem_cons_succ, List.getElem_cons_zero]
  refine wpAnyH_take (i := 3) (v := .nilIface) rfl (by kernel_rfl) (by kernel_rfl) (by kernel_rfl) (fun _ _ _ h => h) (Or.inl ⟨by kernel_rfl, fun wq hS => by go_simp⟩) hS ?_
  try simp only [Act.put, List.setIfInBounds_toArray, List.set_cons_zero, List.set_cons_succ, List.getElem_toArray, List.getElem_cons_succ, List.getElem_cons_zero]
  refine wpAnyH_take (i := 4) (v := .bool false) rfl (by kernel_rfl) (by kernel_rfl) (by kernel_rfl) (fun _ _ _ h => h) (Or.inl ⟨by kernel_rfl, fun wq hS => by go_simp⟩) hS ?_
  try simp only [Act.put, List.setIfInBounds_toArray, List.set_cons_zero, List.set_cons_succ, List.getElem_toArray, List.getElem_cons_succ, List.getElem_cons_zero]
  refine wpAnyH_take (i := 5) (v := .bool false) rfl (by kernel_rfl) (by kernel_rfl) (by kernel_rfl) (fun _ _ _ h => h) (Or.inl ⟨by kernel_rfl, fun wq hS => by go_simp⟩) hS ?_
  try simp only [Act.put, List.setIfInBounds_toArray, List.set_cons_zero, List.set_cons_succ, List.getElem_toArray, List.getElem_cons_succ, List.getElem_cons_zero]
  refine wpAnyH_take (i := 6) (v := .bool false) rfl (by kernel_rfl) (by kernel_rfl) (by kernel_rfl) (fun _ _ _ h => h) (Or.inl ⟨by kernel_rfl, fun wq hS => by go_simp⟩) hS ?_
  try simp only [Act.put, List.setIfInBounds_toArray, List.set_cons_zero, List.set_cons_succ, List.getElem_toArray, List.getElem_cons_succ, List.getElem_cons_zero]
  refine wpAnyH_take (i := 7) (v := .agg S.toArray) rfl (by kernel_rfl) (by kernel_rfl) (by kernel_rfl) (fun _ _ _ h => h) (yieldsIf_load_mid (by kernel_rfl) 43 (.tmp 13) rfl bBS 0 rfl S _ (fun wq hq => Rg.Below.range hq BS.out.1 BS.out.2) Try.underlying43 rfl LS.out.i) hS ?_
  try simp only [Act.put, List.setIfInBounds_toArray, List.set_cons_zero, List.set_cons_succ, List.getElem_toArray, List.getElem_cons_succ, List.getElem_cons_zero]
  refine wpAnyH_take (i := 8) (v := .agg P.toArray) rfl (by kernel_rfl) (by kernel_rfl) (by kernel_rfl) (fun _ _ _ h => h) (yieldsIf_load_mid (by kernel_rfl) 43 (.tmp 8) rfl bBP 0 rfl P _ (fun wq hq => Rg.Below.range hq BP.out.1 BP.out.2) Try.underlying43 rfl LP.out.i) hS ?_
  try simp only [Act.put, List.setIfInBounds_toArray, List.set_cons_zero, List.set_cons_succ, List.getElem_toArray, List.getElem_cons_succ, List.getElem_cons_zero]
  refine wpAnyH_take (i := 10) (v := .agg Q.toArray) rfl (by kernel_rfl) (by kernel_rfl) (by kernel_rfl) (fun _ _ _ h => h) (yieldsIf_load_mid (by kernel_rfl) 43 (.tmp 10) rfl bBQ 0 rfl Q _ (fun wq hq => Rg.Below.range hq BQ.out.1 BQ.out.2) Try.underlying43 rfl LQ.out.i) hS ?_
  try simp only [Act.put, List.setIfInBounds_toArray, List.set_cons_zero, List.set_cons_succ, List.getElem_toArray, List.getElem_cons_succ, List.getElem_cons_zero]
  refine wpAnyH_take (i := 12) (v := vd) rfl (by kernel_rfl) (by kernel_rfl) (by kernel_rfl) (fun _ _ _ h => h) (Or.inl ⟨by kernel_rfl, fun wq hS => by go_simp⟩) hS ?_
  try simp only [Act.put, List.setIfInBounds_toArray, List.set_cons_zero, List.set_cons_succ, List.getElem_toArray, List.getElem_cons_succ, List.getElem_cons_zero]
  refine wpAnyH_ready (rs := [9]) (by kernel_rfl) (by simp) ?_
  refine AllReadyH.cons rfl (fun K hK => ?_) AllReadyH.nil
  go_simp
  refine (CIP.out _).mono ?_
  rintro e wh1 ⟨xP, yP, zP, rfl, ⟨hn1, hn2, hn3⟩, hb⟩
  have NXP_1 := (show Hid (Dt.Num wh1 xP fP.x) from hn1)
  have NYP_1 := (show Hid (Dt.Num wh1 yP fP.y) from hn2)
  have NZP_1 := (show Hid (Dt.Num wh1 zP fP.u) from hn3)
  have hS2 : Below w10.heap.size w10 wh1 := hS.trans (hb.mono hS.size)
  refine hK.out _ _ hS2 (fun hS => ?_)
  clear hK K hb hS2  hn1 hn2 hn3
  try simp only [Act.put, List.setIfInBounds_toArray, List.set_cons_zero, List.set_cons_succ, List.getElem_toArray, List.getElem_cons_succ, List.getElem_cons_zero]
  refine wpAnyH_ready (rs := [11]) (by kernel_rfl) (by simp) ?_
  refine AllReadyH.cons rfl (fun K hK => ?_) AllReadyH.nil
  go_simp
  refine (CIQ.out _).mono ?_
  rintro e wh2 ⟨xQ, yQ, zQ, rfl, ⟨hn1, hn2, hn3⟩, hb⟩
  have NXP_2 := (show Hid (Dt.Num wh2 xP fP.x) from NXP_1.out.below hb)
  have NYP_2 := (show Hid (Dt.Num wh2 yP fP.y) from NYP_1.out.below hb)
  have NZP_2 := (show Hid (Dt.Num wh2 zP fP.u) from NZP_1.out.below hb)
  have NXQ_2 := (show Hid (Dt.Num wh2 xQ fQ.x) from hn1)
  have NYQ_2 := (show Hid (Dt.Num wh2 yQ fQ.y) from hn2)
  have NZQ_2 := (show Hid (Dt.Num wh2 zQ fQ.u) from hn3)
  have hS2 : Below w10.heap.size w10 wh2 := hS.trans (hb.mono hS.size)
  refine hK.out _ _ hS2 (fun hS => ?_)
  clear hK K hb hS2 NXP_1 NYP_1 NZP_1 hn1 hn2 hn3
  try simp only [Act.put, List.setIfInBounds_toArray, List.set_cons_zero, List.set_cons_succ, List.getElem_toArray, List.getElem_cons_succ, List.getElem_cons_zero]
  refine wpAnyH_ready (rs := [13]) (by kernel_rfl) (by simp) ?_
  refine AllReadyH.cons rfl (fun K hK => ?_) AllReadyH.nil
  go_simp
  refine (CA.out _ _ _ _ _ _ _ _ (NXP_2.out) (NYP_2.out) (NZP_2.out) (NXQ_2.out) (NYQ_2.out) (NZQ_2.out) (ND.out.below hS)).mono ?_
  rintro e wh3 ⟨xS, yS, zS, rfl, ⟨hn1, hn2, hn3⟩, hb⟩
  have NXP_3 := (show Hid (Dt.Num wh3 xP fP.x) from NXP_2.out.below hb)
  have NYP_3 := (show Hid (Dt.Num wh3 yP fP.y) from NYP_2.out.below hb)
  have NZP_3 := (show Hid (Dt.Num wh3 zP fP.u) from NZP_2.out.below hb)
  have NXQ_3 := (show Hid (Dt.Num wh3 xQ fQ.x) from NXQ_2.out.below hb)
  have NYQ_3 := (show Hid (Dt.Num wh3 yQ fQ.y) from NYQ_2.out.below hb)
  have NZQ_3 := (show Hid (Dt.Num wh3 zQ fQ.u) from NZQ_2.out.below hb)
  have NXS_3 := (show Hid (Dt.Num wh3 xS fS.x) from hn1)
  have NYS_3 := (show Hid (Dt.Num wh3 yS fS.y) from hn2)
  have NZS_3 := (show Hid (Dt.Num wh3 zS fS.u) from hn3)
  have hS2 : Below w10.heap.size w10 wh3 := hS.trans (hb.mono hS.size)
  refine hK.out _ _ hS2 (fun hS => ?_)
  clear hK K hb hS2 NXP_2 NYP_2 NZP_2 NXQ_2 NYQ_2 NZQ_2 hn1 hn2 hn3
  try simp only [Act.put, List.setIfInBounds_toArray, List.set_cons_zero, List.set_cons_succ, List.getElem_toArray, List.getElem_cons_succ, List.getElem_cons_zero]
  refine wpAnyH_ready (rs := [14]) (by kernel_rfl) (by simp) ?_
  refine AllReadyH.cons rfl (fun K hK => ?_) AllReadyH.nil
  go_simp
  refine (CO.out _ _ _ _ (NXS_3.out) (NYS_3.out) (NZS_3.out)).mono ?_
  rintro e wh4 ⟨rfl, hb⟩
  have NXP_4 := (show Hid (Dt.Num wh4 xP fP.x) from NXP_3.out.below hb)
  have NYP_4 := (show Hid (Dt.Num wh4 yP fP.y) from NYP_3.out.below hb)
  have NZP_4 := (show Hid (Dt.Num wh4 zP fP.u) from NZP_3.out.below hb)
  have NXQ_4 := (show Hid (Dt.Num wh4 xQ fQ.x) from NXQ_3.out.below hb)
  have NYQ_4 := (show Hid (Dt.Num wh4 yQ fQ.y) from NYQ_3.out.below hb)
  have NZQ_4 := (show Hid (Dt.Num wh4 zQ fQ.u) from NZQ_3.out.below hb)
  have NXS_4 := (show Hid (Dt.Num wh4 xS fS.x) from NXS_3.out.below hb)
  have NYS_4 := (show Hid (Dt.Num wh4 yS fS.y) from NYS_3.out.below hb)
  have NZS_4 := (show Hid (Dt.Num wh4 zS fS.u) from NZS_3.out.below hb)
  have hS2 : Below w10.heap.size w10 wh4 := hS.trans (hb.mono hS.size)
  refine hK.out _ _ hS2 (fun hS => ?_)
  clear hK K hb hS2 NXP_3 NYP_3 NZP_3 NXQ_3 NYQ_3 NZQ_3 NXS_3 NYS_3 NZS_3
  try simp only [Act.put, List.setIfInBounds_toArray, List.set_cons_zero, List.set_cons_succ, List.getElem_toArray, List.getElem_cons_succ, List.getElem_cons_zero]
  refine wpAnyH_take (i := 15) (v := .bool false) rfl (by kernel_rfl) (by kernel_rfl) (by kernel_rfl) (fun _ _ _ h => h) (Or.inl ⟨by kernel_rfl, fun wq hS => by go_simp⟩) hS ?_
  try simp only [Act.put, List.setIfInBounds_toArray, List.set_cons_zero, List.set_cons_succ, List.getElem_toArray, List.getElem_cons_succ, List.getElem_cons_zero]
  refine wpAnyH_take (i := 16) (v := .bool false) rfl (by kernel_rfl) (by kernel_rfl) (by kernel_rfl) (fun _ _ _ h => h) (Or.inl ⟨by kernel_rfl, fun wq hS => by go_simp⟩) hS ?_
  try simp only [Act.put, List.setIfInBounds_toArray, List.set_cons_zero, List.set_cons_succ, List.getElem_toArray, List.getElem_cons_succ, List.getElem_cons_zero]
  refine wpAnyH_take (i := 17) (v := .bool false) rfl (by kernel_rfl) (by kernel_rfl) (by kernel_rfl) (fun _ _ _ h => h) (Or.inl ⟨by kernel_rfl, fun wq hS => by go_simp⟩) hS ?_
  try simp only [Act.put, List.setIfInBounds_toArray, List.set_cons_zero, List.set_cons_succ, List.getElem_toArray, List.getElem_cons_succ, List.getElem_cons_zero]
  refine wpAnyH_take (i := 18) (v := .agg M.toArray) rfl (by kernel_rfl) (by kernel_rfl) (by kernel_rfl) (fun _ _ _ h => h) (yieldsIf_load_mid (by kernel_rfl) 43 (.tmp 15) rfl bBM 0 rfl M _ (fun wq hq => Rg.Below.range hq BM.out.1 BM.out.2) Try.underlying43 rfl LM.out.i) hS ?_
  try simp only [Act.put, List.setIfInBounds_toArray, List.set_cons_zero, List.set_cons_succ, List.getElem_toArray, List.getElem_cons_succ, List.getElem_cons_zero]
  refine wpAnyH_take (i := 19) (v := .agg P.toArray) rfl (by kernel_rfl) (by kernel_rfl) (by kernel_rfl) (fun _ _ _ h => h) (yieldsIf_load_mid (by kernel_rfl) 43 (.tmp 8) rfl bBP 0 rfl P _ (fun wq hq => Rg.Below.range hq BP.out.1 BP.out.2) Try.underlying43 rfl LP.out.i) hS ?_
  try simp only [Act.put, List.setIfInBounds_toArray, List.set_cons_zero, List.set_cons_succ, List.getElem_toArray, List.getElem_cons_succ, List.getElem_cons_zero]
  refine wpAnyH_ready (rs := [20]) (by kernel_rfl) (by simp) ?_
  refine AllReadyH.cons rfl (fun K hK => ?_) AllReadyH.nil
  go_simp
  refine (cM _).mono ?_
  rintro e wh5 ⟨rfl, hb⟩
  have NXP_5 := (show Hid (Dt.Num wh5 xP fP.x) from NXP_4.out.below hb)
  have NYP_5 := (show Hid (Dt.Num wh5 yP fP.y) from NYP_4.out.below hb)
  have NZP_5 := (show Hid (Dt.Num wh5 zP fP.u) from NZP_4.out.below hb)
  have NXQ_5 := (show Hid (Dt.Num wh5 xQ fQ.x) from NXQ_4.out.below hb)
  have NYQ_5 := (show Hid (Dt.Num wh5 yQ fQ.y) from NYQ_4.out.below hb)
  have NZQ_5 := (show Hid (Dt.Num wh5 zQ fQ.u) from NZQ_4.out.below hb)
  have NXS_5 := (show Hid (Dt.Num wh5 xS fS.x) from NXS_4.out.below hb)
  have NYS_5 := (show Hid (Dt.Num wh5 yS fS.y) from NYS_4.out.below hb)
  have NZS_5 := (show Hid (Dt.Num wh5 zS fS.u) from NZS_4.out.below hb)
  have hS2 : Below w10.heap.size w10 wh5 := hS.trans (hb.mono hS.size)
  refine hK.out _ _ hS2 (fun hS => ?_)
  clear hK K hb hS2 NXP_4 NYP_4 NZP_4 NXQ_4 NYQ_4 NZQ_4 NXS_4 NYS_4 NZS_4
  try simp only [Act.put, List.setIfInBounds_toArray, List.set_cons_zero, List.set_cons_succ, List.getElem_toArray, List.getElem_cons_succ, List.getElem_cons_zero]
  refine wpAnyH_take (i := 21) (v := .bool false) rfl (by kernel_rfl) (by kernel_rfl) (by kernel_rfl) (fun _ _ _ h => h) (Or.inl ⟨by kernel_rfl, fun wq hS => by go_simp⟩) hS ?_
  try simp only [Act.put, List.setIfInBounds_toArray, List.set_cons_zero, List.set_cons_succ, List.getElem_toArray, List.getElem_cons_succ, List.getElem_cons_zero]
  refine wpAnyH_take (i := 22) (v := .bool false) rfl (by kernel_rfl) (by kernel_rfl) (by kernel_rfl) (fun _ _ _ h => h) (Or.inl ⟨by kernel_rfl, fun wq hS => by go_simp⟩) hS ?_
  try simp only [Act.put, List.setIfInBounds_toArray, List.set_cons_zero, List.set_cons_succ, List.getElem_toArray, List.getElem_cons_succ, List.getElem_cons_zero]
  refine wpAnyH_done (by kernel_rfl) ?_ _
  have HBF := (show Hid _ from HBW.out.trans (hS.mono HBW.out.size))
  have BPq := (show Hid (Rp wh5 bBP 0 P) from BP.out.below hS)
  have BRq := (show Hid (Rp wh5 (n + 2) 0 R) from BR.out.below hS)
  have NDq := (show Hid (Dt.Num wh5 vd factor) from ND.out.below hS)
  clear BJ BK BR BP BQ ND BS BM NXP_5 NYP_5 NZP_5 NXQ_5 NYQ_5 NZQ_5 NXS_5 NYS_5 NZS_5 hS HBW
  have BPq_z0 := BPq
  have BRq_z0 := BRq
  have NDq_z0 := NDq
  have HB_z0 := (show Hid (Below wh5.heap.size wh5 wh5) from Below.refl _ _)
  have TK_z0 := (show Hid True from trivial)
  clear BPq BRq NDq
  go_wp2_with (first
    | (refine wpList_load_mid rfl 43 (.tmp 8) rfl bBP 0 rfl P _ BPq_z0.out.1 Try.underlying43 rfl LP.out.i ?_)
    | (refine wpList_load_mid rfl 43 (.tmp 5) rfl (n + 2) 0 rfl R _ BRq_z0.out.1 Try.underlying43 rfl LR.out.i ?_)
    | (refine wpList_load_mid rfl 43 (.tmp 8) rfl bBP 0 rfl P _ BPq_z1.out.1 Try.underlying43 rfl LP.out.i ?_)
    | (refine wpList_load_mid rfl 43 (.tmp 5) rfl (n + 2) 0 rfl R _ BRq_z1.out.1 Try.underlying43 rfl LR.out.i ?_)
    | (refine wpList_load_mid rfl 43 (.tmp 8) rfl bBP 0 rfl P _ BPq_z2.out.1 Try.underlying43 rfl LP.out.i ?_)
    | (refine wpList_load_mid rfl 43 (.tmp 5) rfl (n + 2) 0 rfl R _ BRq_z2.out.1 Try.underlying43 rfl LR.out.i ?_)
    | (refine wpList_load_mid rfl 43 (.tmp 8) rfl bBP 0 rfl P _ BPq_z3.out.1 Try.underlying43 rfl LP.out.i ?_)
    | (refine wpList_load_mid rfl 43 (.tmp 5) rfl (n + 2) 0 rfl R _ BRq_z3.out.1 Try.underlying43 rfl LR.out.i ?_)
    | (refine wpList_load_mid rfl 43 (.tmp 18) rfl bBT 0 rfl E _ BT_z3.out.1 Try.underlying43 rfl LE.out.i ?_)
    | (refine wpList_load_mid rfl 43 (.tmp 8) rfl bBP 0 rfl P _ BPq_z4.out.1 Try.underlying43 rfl LP.out.i ?_)
    | (refine wpList_load_mid rfl 43 (.tmp 5) rfl (n + 2) 0 rfl R _ BRq_z4.out.1 Try.underlying43 rfl LR.out.i ?_)
    | (refine wpList_load_mid rfl 43 (.tmp 18) rfl bBT 0 rfl E _ BT_z4.out.1 Try.underlying43 rfl LE.out.i ?_)
    | (refine wpList_load_mid rfl 43 (.tmp 8) rfl bBP 0 rfl P _ BPq_z5.out.1 Try.underlying43 rfl LP.out.i ?_)
    | (refine wpList_load_mid rfl 43 (.tmp 5) rfl (n + 2) 0 rfl R _ BRq_z5.out.1 Try.underlying43 rfl LR.out.i ?_)
    | (refine wpList_load_mid rfl 43 (.tmp 18) rfl bBT 0 rfl E _ BT_z5.out.1 Try.underlying43 rfl LE.out.i ?_)
    | (refine wpList_load_mid rfl 43 (.tmp 20) rfl bBU 0 rfl E _ BU_z5.out.1 Try.underlying43 rfl LE.out.i ?_)
    | (refine wpList_load_mid rfl 43 (.tmp 8) rfl bBP 0 rfl P _ BPq_z6.out.1 Try.underlying43 rfl LP.out.i ?_)
    | (refine wpList_load_mid rfl 43 (.tmp 5) rfl (n + 2) 0 rfl R _ BRq_z6.out.1 Try.underlying43 rfl LR.out.i ?_)
    | (refine wpList_load_mid rfl 43 (.tmp 18) rfl bBT 0 rfl E _ BT_z6.out.1 Try.underlying43 rfl LE.out.i ?_)
    | (refine wpList_load_mid rfl 43 (.tmp 20) rfl bBU 0 rfl E _ BU_z6.out.1 Try.underlying43 rfl LE.out.i ?_)
    | (refine wpList_load_mid rfl 43 (.tmp 8) rfl bBP 0 rfl P _ BPq_z7.out.1 Try.underlying43 rfl LP.out.i ?_)
    | (refine wpList_load_mid rfl 43 (.tmp 5) rfl (n + 2) 0 rfl R _ BRq_z7.out.1 Try.underlying43 rfl LR.out.i ?_)
    | (refine wpList_load_mid rfl 43 (.tmp 18) rfl bBT 0 rfl E _ BT_z7.out.1 Try.underlying43 rfl LE.out.i ?_)
    | (refine wpList_load_mid rfl 43 (.tmp 20) rfl bBU 0 rfl E _ BU_z7.out.1 Try.underlying43 rfl LE.out.i ?_)
    | (refine wpList_load_mid rfl 43 (.tmp 22) rfl bBN 0 rfl E _ BN_z7.out.1 Try.underlying43 rfl LE.out.i ?_)
    | (refine wpList_loadw (by rfl) 43 (.tmp 18) rfl bBT 0 rfl E _ BT_z7.out.1 Try.underlying43 rfl LE.out.i ?_)
    | (refine wpList_loadw (by rfl) 43 (.tmp 20) rfl bBU 0 rfl E _ BU_z7.out.1 Try.underlying43 rfl LE.out.i ?_)
    | (refine wpList_loadw (by rfl) 43 (.tmp 22) rfl bBN 0 rfl E _ BN_z7.out.1 Try.underlying43 rfl LE.out.i ?_)
    | (have hq := TK_z0; go_at_call 31; refine (cJ _).mono ?_; rintro e zw1 ⟨rfl, hb⟩; have HB_z1 := (show Hid (Below wh5.heap.size wh5 zw1) from HB_z0.out.trans (hb.mono HB_z0.out.size)); have BPq_z1 := (show Hid (Rp zw1 bBP 0 P) from BPq_z0.out.below hb); have BRq_z1 := (show Hid (Rp zw1 (n + 2) 0 R) from BRq_z0.out.below hb); have NDq_z1 := (show Hid (Dt.Num zw1 vd factor) from NDq_z0.out.below hb); have TK_z1 := (show Hid True from trivial); clear hq TK_z0 hb HB_z0 BPq_z0 BRq_z0 NDq_z0)
    | (have hq := TK_z1; go_at_call 35; refine (cT _).mono ?_; rintro e zw2 ⟨rfl, hb⟩; have HB_z2 := (show Hid (Below wh5.heap.size wh5 zw2) from HB_z1.out.trans (hb.mono HB_z1.out.size)); have BPq_z2 := (show Hid (Rp zw2 bBP 0 P) from BPq_z1.out.below hb); have BRq_z2 := (show Hid (Rp zw2 (n + 2) 0 R) from BRq_z1.out.below hb); have NDq_z2 := (show Hid (Dt.Num zw2 vd factor) from NDq_z1.out.below hb); have TK_z2 := (show Hid True from trivial); clear hq TK_z1 hb HB_z1 BPq_z1 BRq_z1 NDq_z1)
    | (have hq := TK_z2; refine wpList_store_mid rfl 43 (.tmp 18) (.tmp 83) rfl zw2.heap.size 0 E.toArray rfl rfl (HTH43.out E LE.out zw2) LE.out.j LE.out.o ?_; simp only; have hbx := HBN43.out E LE.out zw2; obtain ⟨zw3, hzw3⟩ : ∃ v, (zw2.alloc (.cells Z43 43)).setCells zw2.heap.size 0 E = v := ⟨_, rfl⟩; rw [hzw3] at hbx ⊢; clear hzw3; have hb := hbx.2; replace hbx := hbx.1; obtain ⟨bBT, hbBT⟩ : ∃ b, zw2.heap.size = b := ⟨_, rfl⟩; rw [hbBT] at hbx ⊢; clear hbBT; have HB_z3 := (show Hid (Below wh5.heap.size wh5 zw3) from HB_z2.out.trans (hb.mono HB_z2.out.size)); have BPq_z3 := (show Hid (Rp zw3 bBP 0 P) from BPq_z2.out.below hb); have BRq_z3 := (show Hid (Rp zw3 (n + 2) 0 R) from BRq_z2.out.below hb); have NDq_z3 := (show Hid (Dt.Num zw3 vd factor) from NDq_z2.out.below hb); have BT_z3 := (show Hid (Rp zw3 bBT 0 E) from hbx); have TK_z3 := (show Hid True from trivial); clear hq TK_z2 hb hbx HB_z2 BPq_z2 BRq_z2 NDq_z2)
    | (have hq := TK_z3; go_at_call 35; refine (cU _).mono ?_; rintro e zw4 ⟨rfl, hb⟩; have HB_z4 := (show Hid (Below wh5.heap.size wh5 zw4) from HB_z3.out.trans (hb.mono HB_z3.out.size)); have BPq_z4 := (show Hid (Rp zw4 bBP 0 P) from BPq_z3.out.below hb); have BRq_z4 := (show Hid (Rp zw4 (n + 2) 0 R) from BRq_z3.out.below hb); have NDq_z4 := (show Hid (Dt.Num zw4 vd factor) from NDq_z3.out.below hb); have BT_z4 := (show Hid (Rp zw4 bBT 0 E) from BT_z3.out.below hb); have TK_z4 := (show Hid True from trivial); clear hq TK_z3 hb HB_z3 BPq_z3 BRq_z3 NDq_z3 BT_z3)
    | (have hq := TK_z4; refine wpList_store_mid rfl 43 (.tmp 20) (.tmp 89) rfl zw4.heap.size 0 E.toArray rfl rfl (HTH43.out E LE.out zw4) LE.out.j LE.out.o ?_; simp only; have hbx := HBN43.out E LE.out zw4; obtain ⟨zw5, hzw5⟩ : ∃ v, (zw4.alloc (.cells Z43 43)).setCells zw4.heap.size 0 E = v := ⟨_, rfl⟩; rw [hzw5] at hbx ⊢; clear hzw5; have hb := hbx.2; replace hbx := hbx.1; obtain ⟨bBU, hbBU⟩ : ∃ b, zw4.heap.size = b := ⟨_, rfl⟩; rw [hbBU] at hbx ⊢; clear hbBU; have HB_z5 := (show Hid (Below wh5.heap.size wh5 zw5) from HB_z4.out.trans (hb.mono HB_z4.out.size)); have BPq_z5 := (show Hid (Rp zw5 bBP 0 P) from BPq_z4.out.below hb); have BRq_z5 := (show Hid (Rp zw5 (n + 2) 0 R) from BRq_z4.out.below hb); have NDq_z5 := (show Hid (Dt.Num zw5 vd factor) from NDq_z4.out.below hb); have BT_z5 := (show Hid (Rp zw5 bBT 0 E) from BT_z4.out.below hb); have BU_z5 := (show Hid (Rp zw5 bBU 0 E) from hbx); have TK_z5 := (show Hid True from trivial); clear hq TK_z4 hb hbx HB_z4 BPq_z4 BRq_z4 NDq_z4 BT_z4)
    | (have hq := TK_z5; go_at_call 36; refine (cW _).mono ?_; rintro e zw6 ⟨rfl, hb⟩; have HB_z6 := (show Hid (Below wh5.heap.size wh5 zw6) from HB_z5.out.trans (hb.mono HB_z5.out.size)); have BPq_z6 := (show Hid (Rp zw6 bBP 0 P) from BPq_z5.out.below hb); have BRq_z6 := (show Hid (Rp zw6 (n + 2) 0 R) from BRq_z5.out.below hb); have NDq_z6 := (show Hid (Dt.Num zw6 vd factor) from NDq_z5.out.below hb); have BT_z6 := (show Hid (Rp zw6 bBT 0 E) from BT_z5.out.below hb); have BU_z6 := (show Hid (Rp zw6 bBU 0 E) from BU_z5.out.below hb); have TK_z6 := (show Hid True from trivial); clear hq TK_z5 hb HB_z5 BPq_z5 BRq_z5 NDq_z5 BT_z5 BU_z5)
    | (have hq := TK_z6; refine wpList_store_mid rfl 43 (.tmp 22) (.tmp 94) rfl zw6.heap.size 0 E.toArray rfl rfl (HTH43.out E LE.out zw6) LE.out.j LE.out.o ?_; simp only; have hbx := HBN43.out E LE.out zw6; obtain ⟨zw7, hzw7⟩ : ∃ v, (zw6.alloc (.cells Z43 43)).setCells zw6.heap.size 0 E = v := ⟨_, rfl⟩; rw [hzw7] at hbx ⊢; clear hzw7; have hb := hbx.2; replace hbx := hbx.1; obtain ⟨bBN, hbBN⟩ : ∃ b, zw6.heap.size = b := ⟨_, rfl⟩; rw [hbBN] at hbx ⊢; clear hbBN; have HB_z7 := (show Hid (Below wh5.heap.size wh5 zw7) from HB_z6.out.trans (hb.mono HB_z6.out.size)); have BPq_z7 := (show Hid (Rp zw7 bBP 0 P) from BPq_z6.out.below hb); have BRq_z7 := (show Hid (Rp zw7 (n + 2) 0 R) from BRq_z6.out.below hb); have NDq_z7 := (show Hid (Dt.Num zw7 vd factor) from NDq_z6.out.below hb); have BT_z7 := (show Hid (Rp zw7 bBT 0 E) from BT_z6.out.below hb); have BU_z7 := (show Hid (Rp zw7 bBU 0 E) from BU_z6.out.below hb); have BN_z7 := (show Hid (Rp zw7 bBN 0 E) from hbx); have TK_z7 := (show Hid True from trivial); clear hq TK_z6 hb hbx HB_z6 BPq_z6 BRq_z6 NDq_z6 BT_z6 BU_z6)
    | (refine build_tow (by rfl) 43 _ rfl [] (by kernel_rfl) E HBN.out ?_; simp only [Act.put, List.setIfInBounds_toArray, List.set_cons_zero, List.set_cons_succ]))
  go_ret
  exact ⟨rfl, HBF.out.trans (HB_z7.out.mono HBF.out.size)⟩
end Fd
end Go.Proofs.Ytgdekigdbbldoaa
