/- What (*hash.Hasher).Sum does at a hasher of 64 bits: a contract, by walking its text. -/
import Derived.Test.YtfmkkjnmadaplaaDoorWtW
namespace Go.Proofs.YtfmkkjnmadaplaaDoor
open Go.RowKit
namespace HW
open Hs Rg Wo

theorem slm_of_range {w : World} {b o cap : Nat} {rs : List UInt8} (h : w.rangeAt b o (Lib.byteCells rs)) (h1 : rs.length ≤ cap) (h2 : cap ≤ 9223372036854775807) : Bw.SlM w (.slice (some ⟨b, o, none⟩) rs.length cap) rs :=
  .inr ⟨b, o, cap, rfl, h1, h2, cells_of_range h⟩

set_option maxHeartbeats 4000000 in
set_option maxRecDepth 4000 in
theorem hsum_any (b : Nat) (T : List UInt8) (w : World) (hT : Tabs w) (hh : HsAt w b T) (hlen : T.length < 2305843009213693952) :
    Calls Tryd.prog 14 #[.pointer (some ⟨b, 0, none⟩)] w fun e w' => ∃ v', e = .returned v' ∧ Bw.RowB w.heap.size w' v' (sum kw T) ∧ Below w.heap.size w w' := by
  have hbl : b < w.heap.size := Bw.cell_lt hh.wide
  have cS := fun W => shapeOf_any W
  obtain ⟨n, hn⟩ : ∃ n, w.heap.size = n := ⟨_, rfl⟩
  have HN : Hid (w.heap.size = n) := hn
  rw [hn] at hbl
  obtain ⟨TL, hTL⟩ : ∃ x, T.length = x := ⟨_, rfl⟩
  have HTL : Hid (T.length = TL) := hTL
  rw [hTL] at hlen
  have HH : Hid (HsAt w b T) := hh
  have HTT : Hid (Tabs w) := hT
  have hc0 := hh.wide
  clear hT hh hTL
  unfold sh at *
  go_enter Tryd.func14, Tryd.ntmps14
  go_wp2_with (first
    | (go_at_call 15; refine (cS _).mono ?_; rintro e w1 ⟨rfl, hb1⟩; clear hc0))
  rw [hn] at hb1
  have hl1 := hb1.size
  rw [hn] at hl1
  obtain ⟨m, hm1⟩ : ∃ m, w1.heap.size = m := ⟨_, rfl⟩
  rw [hm1] at hl1
  obtain ⟨w2, hw2⟩ : ∃ w2, w1.alloc (.cells shc.toArray 41) = w2 := ⟨_, rfl⟩
  have hw2' : w1.alloc (.cells #[.int .u64 64, .int .i64 80, .int .u64 1, .int .u64 8, .int .u64 7, .int .u64 19, .int .u64 61, .int .u64 6, .int .u64 28, .int .u64 34, .int .u64 39, .int .u64 14, .int .u64 18, .int .u64 41] 41) = w2 := hw2
  have hs2 : w2.rangeAt m 0 shc := by rw [← hw2, ← hm1]; exact range_new w1 shc 41
  have hb2w : Below n w w2 := by rw [← hw2]; exact hb1.alloc (by omega) _
  have hz2 : w2.heap.size = m + 1 := by rw [← hw2, size_alloc, hm1]
  rw [hm1, hw2']
  have HZ2 : Hid (w2.heap.size = m + 1) := hz2
  have HB2 : Hid (Below n w w2) := hb2w
  have hh2 := HH.out.kept hb2w hbl
  obtain ⟨Rm, hRm⟩ : ∃ Rm, T.length % 128 = Rm := ⟨_, rfl⟩
  have cH : ∀ x : Cl (m + 1) w2, Calls Tryd.prog 24 #[.pointer (some ⟨b, 0, none⟩), sh] x.u fun e w' => e = .returned (.int .i64 (Rm : Int)) ∧ Below x.u.heap.size x.u w' := fun x => by
    rw [← hRm]
    exact held_any b T.length x.u (by have := HTL.out; omega) ((hh2.kept x.h (by omega)).taken)
  have HRm : Hid (T.length % 128 = Rm) := hRm
  have HS : Hid (∀ w', (∃ x : Cl (m + 1) w2, w' = x.u) → w'.rangeAt m 0 shc) := by
    rintro _ ⟨x, rfl⟩
    exact x.range hs2 (by omega)
  have hne := Cl.ne (m + 1) w2
  have hsz : m + 1 ≤ w2.heap.size := by omega
  have hR1 : (Rm : Int) ≤ 128 := by omega
  have hR2 : (Rm : Int) < 128 := by omega
  unfold sh at cH
  clear hm1 hw2 hw2' hb1 hs2 hb2w hz2 cS hn hh2 hRm
  refine region_cl (N := m + 1) (W := w2) (by kernel_rfl) (by kernel_rfl) (Below.refl _ _) ?_
  repeat (first
    | (go_big_quiet_want; refine quiet_load 41 _ rfl m 0 rfl shc _ HS.out Tryd.underlying41 rfl (by kernel_rfl) ?_; simp only [shc, Act.put, List.setIfInBounds_toArray, List.set_cons_zero, List.set_cons_succ]; go_big_quiet_on)
    | go_big_quiet_step (fail))
  go_big_quiet_step ((go_at_call 24; exact cl_of (cH _) hsz))
  repeat (go_big_quiet_step (fail))
  refine wpQuiet_nil ?_
  rintro _ ⟨x, rfl⟩
  obtain ⟨w4, hw4⟩ : ∃ w4, x.u = w4 := ⟨_, rfl⟩
  have hs4 : Hid (w4.rangeAt m 0 shc) := by show World.rangeAt _ _ _ _; rw [← hw4]; exact HS.out _ ⟨x, rfl⟩
  have hb4 : Hid (Below n w w4) := by show Below _ _ _; rw [← hw4]; exact HB2.out.trans (x.h.mono (by omega))
  have hl4 : m + 1 ≤ w4.heap.size := by rw [← hw4]; have := x.h.size; have := HZ2.out; omega
  rw [hw4]
  clear hw4 hne HS hsz HB2 HZ2 cH x w2
  have hh4 : Hid (HsAt w4 b T) := HH.out.kept hb4.out hbl
  have hc4 := hh4.out.wide
  go_wp2
  clear hc4
  obtain ⟨rs, hrs⟩ : ∃ rs, T.drop (T.length / 128 * 128) = rs := ⟨_, rfl⟩
  obtain ⟨G, hG⟩ : ∃ G, blks kw (T.length / 128) (first kw) T = G := ⟨_, rfl⟩
  have hrsl : rs.length = Rm := by rw [← hrs, drest_len]; exact HRm.out
  have hfl : (first kw).lt 64 := by refine ⟨?_, ?_, ?_, ?_, ?_, ?_, ?_, ?_⟩ <;> decide
  have lG : G.lt 64 := by rw [← hG]; exact blks_lt (K := kw) _ hfl
  have hsr : digest kw G rs TL = sum kw T := by
    rw [← hG, ← hrs, ← HTL.out]
    exact sum_rest kw T (by decide)
  have hwd : w4.rangeAt b 9 (wvc G) := by rw [← hG]; exact hh4.out.words
  have htk : w4.cell? ⟨b, 145, none⟩ = some (.int .u64 (TL : Int)) := by rw [hh4.out.taken, HTL.out]
  have hwr : IntKind.u64.wrap (TL : Int) = (TL : Int) := by rw [IntKind.wrap_u64]; omega
  have cD : ∀ W : World, Below w4.heap.size w4 W → Calls Tryd.prog 18 #[wv G, .slice (some ⟨b, 17, none⟩) Rm 128, .int .u64 (TL : Int), sh] W fun e w' => ∃ v', e = .returned v' ∧ Bw.RowB W.heap.size w' v' (sum kw T) ∧ Below W.heap.size W w' := fun W hW => by
    have hk := hh4.out.kept hW (by omega)
    have hre := hk.rest
    rw [hrs] at hre
    rw [← hsr, ← hrsl]
    exact digest_at (some ⟨b, 17, none⟩) 128 G rs TL W lG (HTT.out.below (hb4.out.trans (hW.mono (by omega))) (by have := HTT.out.lt; have := HN.out; omega)) (by omega) hlen (slm_of_range hre (by omega) (by decide))
  unfold sh wv at cD
  clear hrs hG hrsl hfl hsr
  have HTK : Hid (w4.cell? ⟨b, 145, none⟩ = some (.int .u64 (TL : Int))) := htk
  clear htk
  refine wp_region_held_drew (S := fun w' => Below w4.heap.size w4 w') (by kernel_rfl) (drawn_below (Below.refl _ _)) ?_
  intro hS
  refine wpAnyH_take (i := 0) (v := .pointer (some ⟨b, 0, none⟩)) rfl (by kernel_rfl) (by kernel_rfl) (by kernel_rfl) (fun _ _ _ h => h) (Or.inl ⟨by kernel_rfl, fun wq hS => by clear hS; go_simp⟩) hS ?_
  try simp only [Act.put, List.getElem_toArray, List.getElem_cons_zero, List.setIfInBounds_toArray, List.set_cons_zero, List.set_cons_succ]
  refine wpAnyH_take (i := 1) (v := .pointer (some ⟨b, 0, none⟩)) rfl (by kernel_rfl) (by kernel_rfl) (by kernel_rfl) (fun _ _ _ h => h) (Or.inl ⟨by kernel_rfl, fun wq hS => by clear hS; go_simp⟩) hS ?_
  try simp only [Act.put, List.getElem_toArray, List.getElem_cons_succ, List.getElem_cons_zero, List.setIfInBounds_toArray, List.set_cons_zero, List.set_cons_succ]
  refine wpAnyH_take (i := 2) (v := .pointer (some ⟨b, 9, none⟩)) rfl (by kernel_rfl) (by kernel_rfl) (by kernel_rfl) (fun _ _ _ h => h) (Or.inl ⟨by kernel_rfl, fun wq hS => by clear hS; go_simp⟩) hS ?_
  try simp only [Act.put, List.getElem_toArray, List.getElem_cons_succ, List.getElem_cons_zero, List.setIfInBounds_toArray, List.set_cons_zero, List.set_cons_succ]
  refine wpAnyH_take (i := 3) (v := .agg (wvc G).toArray) rfl (by kernel_rfl) (by kernel_rfl) (by kernel_rfl) (fun _ _ _ h => h) (yieldsIf_load_mid (by kernel_rfl) 49 _ rfl b 9 rfl (wvc G) _ (fun wq hS => Below.range hS hwd (by omega)) Tryd.underlying49 rfl info8) hS ?_
  try simp only [Act.put, List.getElem_toArray, List.getElem_cons_succ, List.getElem_cons_zero, List.setIfInBounds_toArray, List.set_cons_zero, List.set_cons_succ]
  refine wpAnyH_take (i := 4) (v := .slice (some ⟨b, 17, none⟩) Rm 128) rfl (by kernel_rfl) (by kernel_rfl) (by kernel_rfl) (fun _ _ _ h => h) (Or.inl ⟨by kernel_rfl, fun wq hS => by clear hS; go_simp⟩) hS ?_
  try simp only [Act.put, List.getElem_toArray, List.getElem_cons_succ, List.getElem_cons_zero, List.setIfInBounds_toArray, List.set_cons_zero, List.set_cons_succ]
  refine wpAnyH_take (i := 5) (v := .pointer (some ⟨b, 0, none⟩)) rfl (by kernel_rfl) (by kernel_rfl) (by kernel_rfl) (fun _ _ _ h => h) (Or.inl ⟨by kernel_rfl, fun wq hS => by clear hS; go_simp⟩) hS ?_
  try simp only [Act.put, List.getElem_toArray, List.getElem_cons_succ, List.getElem_cons_zero, List.setIfInBounds_toArray, List.set_cons_zero, List.set_cons_succ]
  refine wpAnyH_take (i := 6) (v := .pointer (some ⟨b, 0, none⟩)) rfl (by kernel_rfl) (by kernel_rfl) (by kernel_rfl) (fun _ _ _ h => h) (Or.inl ⟨by kernel_rfl, fun wq hS => by clear hS; go_simp⟩) hS ?_
  try simp only [Act.put, List.getElem_toArray, List.getElem_cons_succ, List.getElem_cons_zero, List.setIfInBounds_toArray, List.set_cons_zero, List.set_cons_succ]
  refine wpAnyH_take (i := 7) (v := .pointer (some ⟨b, 145, none⟩)) rfl (by kernel_rfl) (by kernel_rfl) (by kernel_rfl) (fun _ _ _ h => h) (Or.inl ⟨by kernel_rfl, fun wq hS => by clear hS; go_simp⟩) hS ?_
  try simp only [Act.put, List.getElem_toArray, List.getElem_cons_succ, List.getElem_cons_zero, List.setIfInBounds_toArray, List.set_cons_zero, List.set_cons_succ]
  refine wpAnyH_take (i := 8) (v := .int .u64 (TL : Int)) rfl (by kernel_rfl) (by kernel_rfl) (by kernel_rfl) (fun _ _ _ h => h) (Or.inl ⟨by kernel_rfl, fun wq hS => by have h8 := (hS.cell (p := ⟨b, 145, none⟩) (show b < _ by omega)).trans HTK.out; clear hS; go_simp⟩) hS ?_
  try simp only [Act.put, List.getElem_toArray, List.getElem_cons_succ, List.getElem_cons_zero, List.setIfInBounds_toArray, List.set_cons_zero, List.set_cons_succ]
  refine wpAnyH_take (i := 9) (v := .agg (shc).toArray) rfl (by kernel_rfl) (by kernel_rfl) (by kernel_rfl) (fun _ _ _ h => h) (yieldsIf_load_mid (by kernel_rfl) 41 _ rfl m 0 rfl (shc) _ (fun wq hS => Below.range hS hs4.out (by omega)) Tryd.underlying41 rfl (by kernel_rfl)) hS ?_
  try simp only [Act.put, List.getElem_toArray, List.getElem_cons_succ, List.getElem_cons_zero, List.setIfInBounds_toArray, List.set_cons_zero, List.set_cons_succ]
  refine wpAnyH_ready (rs := [10]) (by kernel_rfl) (by simp) ?_
  refine AllReadyH.cons rfl (fun K hK => ?_) AllReadyH.nil
  go_simp
  refine (cD _ (drawn_below (Below.refl _ _))).mono ?_
  rintro e w5 ⟨v5, rfl, hr5, hb5⟩
  refine hK.out _ _ (hS.trans hb5) (fun hS => ?_)
  clear hK K
  try simp only [Act.put, List.getElem_toArray, List.getElem_cons_succ, List.getElem_cons_zero, List.setIfInBounds_toArray, List.set_cons_zero, List.set_cons_succ]
  refine wpAnyH_take (i := 11) (v := v5) rfl (by kernel_rfl) (by kernel_rfl) (by kernel_rfl) (fun _ _ _ h => h) (Or.inl ⟨by kernel_rfl, fun wq hS => by clear hS; go_simp⟩) hS ?_
  try simp only [Act.put, List.getElem_toArray, List.getElem_cons_succ, List.getElem_cons_zero, List.setIfInBounds_toArray, List.set_cons_zero, List.set_cons_succ]
  refine wpAnyH_done (by kernel_rfl) ?_ _
  have hr6 : Hid (Bw.RowB w4.heap.size w5 v5 (sum kw T)) := hr5
  have hb6 : Hid (Below w4.heap.size w4 w5) := hS
  clear hr5 hb5 hS cD hwd HTK
  go_wp2
  go_ret
  exact ⟨_, rfl, by rw [HN.out]; exact hr6.out.mono (by omega), by rw [HN.out]; exact hb4.out.trans (hb6.out.mono (by omega))⟩
end HW
end Go.Proofs.YtfmkkjnmadaplaaDoor
