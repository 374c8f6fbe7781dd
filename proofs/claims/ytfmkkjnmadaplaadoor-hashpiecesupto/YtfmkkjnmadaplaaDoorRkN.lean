/- The reference's kind of 32 bits, and its digest: contracts, by walking their texts. -/
import Derived.Test.YtfmkkjnmadaplaaDoorRsN
namespace Go.Proofs.YtfmkkjnmadaplaaDoor
open Go.RowKit
namespace RN
open Hs Rg Bu Wo

theorem range_is {w : World} {t : TypeId} {A : Array Value} {L : List Value} (h : A = L.toArray) : (w.alloc (.cells A t)).rangeAt w.heap.size 0 L := by
  subst h
  exact range_new w L t
set_option maxHeartbeats 8000000 in
set_option maxRecDepth 8000 in
theorem ks_any (w : World) : Calls Tryd.prog 36 #[] w fun e w' => e = .returned (.slice (some ⟨w.heap.size, 0, none⟩) 64 64) ∧ w'.rangeAt w.heap.size 0 (uc ks) ∧ Below w.heap.size w w' ∧ w.heap.size < w'.heap.size := by
  go_enter Tryd.func36, Tryd.ntmps36
  go_wp2
  go_ret
  refine ⟨rfl, range_is (by kernel_rfl), (Below.refl _ _).alloc (Nat.le_refl _) _, by rw [size_alloc]; omega⟩
theorem bg_any (w : World) : Calls Tryd.prog 37 #[] w fun e w' => e = .returned (.slice (some ⟨w.heap.size, 0, none⟩) 8 8) ∧ w'.rangeAt w.heap.size 0 (uc (first kn).l) ∧ Below w.heap.size w w' ∧ w.heap.size < w'.heap.size := by
  go_enter Tryd.func37, Tryd.ntmps37
  go_wp2
  go_ret
  refine ⟨rfl, range_is (by kernel_rfl), (Below.refl _ _).alloc (Nat.le_refl _) _, by rw [size_alloc]; omega⟩
/-- The box and the four lists of places. -/
structure Ch (w V : World) (n : Nat) : Prop where
  z : V.heap.size = n + 5
  b : Below n w V
  t : V.there n 0 8
  s0 : V.rangeAt (n + 1) 0 (ic3 7 18 3)
  s1 : V.rangeAt (n + 2) 0 (ic3 17 19 10)
  g0 : V.rangeAt (n + 3) 0 (ic3 2 13 22)
  g1 : V.rangeAt (n + 4) 0 (ic3 6 11 25)
theorem chain_at (w : World) (Z : Array Value) (t0 t : TypeId) (hZ : ∀ j, j < 8 → (Z[j]?).isSome = true) :
    Ch w (((((w.alloc (.cells Z t0)).alloc (.cells (ic3 7 18 3).toArray t)).alloc (.cells (ic3 17 19 10).toArray t)).alloc (.cells (ic3 2 13 22).toArray t)).alloc (.cells (ic3 6 11 25).toArray t)) w.heap.size := by
  obtain ⟨A, hA⟩ : ∃ A, w.alloc (.cells Z t0) = A := ⟨_, rfl⟩
  obtain ⟨C, hC⟩ : ∃ C, A.alloc (.cells (ic3 7 18 3).toArray t) = C := ⟨_, rfl⟩
  obtain ⟨D, hD⟩ : ∃ D, C.alloc (.cells (ic3 17 19 10).toArray t) = D := ⟨_, rfl⟩
  obtain ⟨E, hE⟩ : ∃ E, D.alloc (.cells (ic3 2 13 22).toArray t) = E := ⟨_, rfl⟩
  obtain ⟨G, hG⟩ : ∃ G, E.alloc (.cells (ic3 6 11 25).toArray t) = G := ⟨_, rfl⟩
  rw [hA, hC, hD, hE, hG]
  have sA : A.heap.size = w.heap.size + 1 := by rw [← hA, size_alloc]
  have sC : C.heap.size = w.heap.size + 2 := by rw [← hC, size_alloc, sA]
  have sD : D.heap.size = w.heap.size + 3 := by rw [← hD, size_alloc, sC]
  have sE : E.heap.size = w.heap.size + 4 := by rw [← hE, size_alloc, sD]
  have sG : G.heap.size = w.heap.size + 5 := by rw [← hG, size_alloc, sE]
  have bA : Below w.heap.size w A := by rw [← hA]; exact (Below.refl _ _).alloc (Nat.le_refl _) _
  have bC : Below w.heap.size w C := by rw [← hC]; exact bA.alloc (by omega) _
  have bD : Below w.heap.size w D := by rw [← hD]; exact bC.alloc (by omega) _
  have bE : Below w.heap.size w E := by rw [← hE]; exact bD.alloc (by omega) _
  have bG : Below w.heap.size w G := by rw [← hG]; exact bE.alloc (by omega) _
  have tA : A.there w.heap.size 0 8 := by rw [← hA]; exact there_new w Z t0 hZ
  have rC : C.rangeAt (w.heap.size + 1) 0 (ic3 7 18 3) := by rw [← sA, ← hC]; exact range_new A _ t
  have rD : D.rangeAt (w.heap.size + 2) 0 (ic3 17 19 10) := by rw [← sC, ← hD]; exact range_new C _ t
  have rE : E.rangeAt (w.heap.size + 3) 0 (ic3 2 13 22) := by rw [← sD, ← hE]; exact range_new D _ t
  have rG : G.rangeAt (w.heap.size + 4) 0 (ic3 6 11 25) := by rw [← sE, ← hG]; exact range_new E _ t
  refine ⟨sG, bG, ?_, ?_, ?_, ?_, rG⟩
  · rw [← hG, ← hE, ← hD, ← hC]
    exact World.there_alloc (World.there_alloc (World.there_alloc (World.there_alloc tA _) _) _) _
  · rw [← hG, ← hE, ← hD]
    exact World.rangeAt_alloc (World.rangeAt_alloc (World.rangeAt_alloc rC _) _) _
  · rw [← hG, ← hE]
    exact World.rangeAt_alloc (World.rangeAt_alloc rD _) _
  · rw [← hG]
    exact World.rangeAt_alloc rE _
theorem one_k (B : Kb) : (kvc B).toArray.all (·.oneCell') = true := all_oneCell_toArray fun v hv => by
  simp only [kvc, List.mem_cons, List.not_mem_nil, or_false] at hv
  rcases hv with rfl | rfl | rfl | rfl | rfl | rfl | rfl | rfl <;> rfl
theorem kind_fin {w V w1 w2 : World} {n : Nat} (hV : Ch w V n) (h1 : w1.rangeAt V.heap.size 0 (uc ks) ∧ Below V.heap.size V w1 ∧ V.heap.size < w1.heap.size) (h2 : w2.rangeAt w1.heap.size 0 (uc (first kn).l) ∧ Below w1.heap.size w1 w2 ∧ w1.heap.size < w2.heap.size) :
    w2.there n 0 8 ∧ KAt (w2.setCells n 0 (kvc ⟨n + 1, n + 2, n + 3, n + 4, n + 5, w1.heap.size⟩)) ⟨n + 1, n + 2, n + 3, n + 4, n + 5, w1.heap.size⟩ ∧ KLt ⟨n + 1, n + 2, n + 3, n + 4, n + 5, w1.heap.size⟩ (w2.setCells n 0 (kvc ⟨n + 1, n + 2, n + 3, n + 4, n + 5, w1.heap.size⟩)).heap.size ∧ Below n w (w2.setCells n 0 (kvc ⟨n + 1, n + 2, n + 3, n + 4, n + 5, w1.heap.size⟩)) ∧ (loadVar 54 ⟨n, 0, none⟩).run Tryd.prog (w2.setCells n 0 (kvc ⟨n + 1, n + 2, n + 3, n + 4, n + 5, w1.heap.size⟩)) = .ok (.agg (kvc ⟨n + 1, n + 2, n + 3, n + 4, n + 5, w1.heap.size⟩).toArray) (w2.setCells n 0 (kvc ⟨n + 1, n + 2, n + 3, n + 4, n + 5, w1.heap.size⟩)) := by
  obtain ⟨z, b, t, s0, s1, g0, g1⟩ := hV
  rw [z] at h1
  obtain ⟨k1, b1, l1⟩ := h1
  obtain ⟨k2, b2, l2⟩ := h2
  have ht : w2.there n 0 8 := HN.there_below b2 (HN.there_below b1 t (by omega)) (by omega)
  have ap : ∀ {b o : Nat} {cs : List Value}, w2.rangeAt b o cs → b ≠ n → (w2.setCells n 0 (kvc ⟨n + 1, n + 2, n + 3, n + 4, n + 5, w1.heap.size⟩)).rangeAt b o cs := fun h hb => World.rangeAt_setCells_apart h _ _ _ (.inl hb)
  have hz : (w2.setCells n 0 (kvc ⟨n + 1, n + 2, n + 3, n + 4, n + 5, w1.heap.size⟩)).heap.size = w2.heap.size := Wo.size_setCells _ _ _ _
  have r0 : w2.rangeAt (n + 1) 0 _ := Below.range b2 (Below.range b1 s0 (by omega)) (by omega)
  have r1 : w2.rangeAt (n + 2) 0 _ := Below.range b2 (Below.range b1 s1 (by omega)) (by omega)
  have r2 : w2.rangeAt (n + 3) 0 _ := Below.range b2 (Below.range b1 g0 (by omega)) (by omega)
  have r3 : w2.rangeAt (n + 4) 0 _ := Below.range b2 (Below.range b1 g1 (by omega)) (by omega)
  have r4 : w2.rangeAt (n + 5) 0 _ := Below.range b2 k1 (by omega)
  have p0 := ap r0 (by omega)
  have p1 := ap r1 (by omega)
  have p2 := ap r2 (by omega)
  have p3 := ap r3 (by omega)
  have p4 := ap r4 (by omega)
  have p5 := ap k2 (by omega)
  refine ⟨ht, ⟨p0, p1, p2, p3, p4, p5⟩, ?_, HN.below_setCells (b.trans ((b1.mono (by omega)).trans (b2.mono (by omega)))) (Nat.le_refl _), run_loadVar_mid (P := Tryd.prog) _ n 0 54 _ _ (World.rangeAt_setCells_same w2 n 0 _ ht) Tryd.underlying54 rfl info54⟩
  rw [hz]
  exact ⟨by show n + 1 < _; omega, by show n + 2 < _; omega, by show n + 3 < _; omega, by show n + 4 < _; omega, by show n + 5 < _; omega, l2⟩
set_option maxHeartbeats 2000000 in
set_option maxRecDepth 4000 in
theorem kind_any (w : World) : Calls Tryd.prog 20 #[] w fun e w' => ∃ B : Kb, e = .returned (kv B) ∧ KAt w' B ∧ KLt B w'.heap.size ∧ Below w.heap.size w w' := by
  have c1 := ks_any
  have c2 := bg_any
  have HCH : Hid _ := chain_at w #[.int .i64 0, .slice none 0 0, .slice none 0 0, .slice none 0 0, .slice none 0 0, .int .u64 0, .slice none 0 0, .slice none 0 0] 54 3 (fun j hj => by simp [hj])
  obtain ⟨n, hn⟩ : ∃ n, w.heap.size = n := ⟨_, rfl⟩
  have HNn : Hid (w.heap.size = n) := hn
  rw [hn] at HCH
  go_enter Tryd.func20, Tryd.ntmps20
  go_wp2_with (first
    | (go_at_call 36; refine (c1 _).mono ?_; rintro e w1 ⟨rfl, hk1, hb1, hs1⟩; have H1 := (show Hid (_ ∧ _ ∧ _) from ⟨hk1, hb1, hs1⟩); clear hk1 hb1 hs1)
    | (go_at_call 37; refine (c2 _).mono ?_; rintro e w2 ⟨rfl, hk2, hb2, hs2⟩; have H3 := (show Hid (_ ∧ _ ∧ _ ∧ _ ∧ _) from kind_fin HCH.out H1.out ⟨hk2, hb2, hs2⟩); clear hk2 hb2 hs2 H1 HCH)
    | (refine wpList_store_mid rfl 54 (.tmp 0) (.tmp 7) rfl n 0 (kvc ⟨n + 1, n + 2, n + 3, n + 4, n + 5, w1.heap.size⟩).toArray rfl rfl H3.out.1 info54 (one_k _) ?_; simp only))
  exact bodyPost_ret (v := .agg (kvc ⟨n + 1, n + 2, n + 3, n + 4, n + 5, w1.heap.size⟩).toArray) (results_cell Tryd.results20 rfl H3.out.2.2.2.2) rfl ⟨⟨n + 1, n + 2, n + 3, n + 4, n + 5, w1.heap.size⟩, rfl, H3.out.2.1, H3.out.2.2.1, by rw [HNn.out]; exact H3.out.2.2.2.1⟩
/-- The reference's digest. -/
theorem ref_any (a : Option Addr) (cap : Nat) (bs : List UInt8) (w : World) (hm : bs.length ≤ 140737488351232) (hv : Bw.SlM w (.slice a bs.length cap) bs) :
    Calls Tryd.prog 10 #[.slice a bs.length cap] w fun e w' => ∃ v', e = .returned v' ∧ Bw.RowB w.heap.size w' v' (sum kn bs) ∧ Below w.heap.size w w' := by
  have c1 := kind_any w
  have c2 := fun (B : Kb) (W : World) (h1 : KAt W B) (h2 : KLt B W.heap.size) (hW : Below w.heap.size w W) => rsum_any B a cap bs W h1 h2 hm (hv.below hW (Nat.le_refl _))
  obtain ⟨L, hL⟩ : ∃ L, bs.length = L := ⟨_, rfl⟩
  rw [hL] at c2 ⊢
  clear hL hv hm
  go_enter Tryd.func10, Tryd.ntmps10
  go_wp2_with (first
    | (go_at_call 20; refine c1.mono ?_; rintro e w1 ⟨B, rfl, hk1, hl1, hb1⟩; obtain ⟨kb, hkb⟩ : ∃ x, kv B = x := ⟨_, rfl⟩; have c3 := c2 B w1 hk1 hl1 hb1; rw [hkb] at c3 ⊢; clear hkb c2 c1 hk1 hl1)
    | (go_at_call 21; refine c3.mono ?_; rintro e w2 ⟨v2, rfl, hr2, hb2⟩; clear c3))
  go_ret
  exact ⟨_, rfl, hr2.mono hb1.size, hb1.trans (hb2.mono hb1.size)⟩
end RN
end Go.Proofs.YtfmkkjnmadaplaaDoor
