/- What hash.Sum256 (Sum512) does at every slice of bytes: a contract, by walking its text. -/
import Derived.Test.YtfmkkjnmadaplaaDoorDgW
import Derived.Test.YtfmkkjnmadaplaaDoorSl
namespace Go.Proofs.YtfmkkjnmadaplaaDoor
open Go.RowKit
namespace HW
open Hs Rg

theorem digest_at (a : Option Addr) (cap : Nat) (H : H8) (bs : List UInt8) (len : Nat) (w : World) (hH : H.lt 64) (hT : Tabs w) (hm : bs.length ≤ 140737488355328) (hlen : len < 2305843009213693952) (hv : Bw.SlM w (.slice a bs.length cap) bs) :
    Calls Tryd.prog 18 #[wv H, .slice a bs.length cap, .int .u64 (len : Int), sh] w fun e w' => ∃ v', e = .returned v' ∧ Bw.RowB w.heap.size w' v' (digest kw H bs len) ∧ Below w.heap.size w w' := by
  have hk : bs.length / 128 * 128 ≤ bs.length := by omega
  have hcap : bs.length ≤ cap ∧ cap ≤ 9223372036854775807 := by
    rcases hv with ⟨rfl, h | ⟨x, c, h, hc⟩⟩ | ⟨b, off, c, h, h1, h2, _⟩
    · cases h; simp
    · cases h; exact ⟨Nat.zero_le _, hc⟩
    · cases h; exact ⟨h1, h2⟩
  exact digest_any a cap H bs len w hH hT hm hcap.1 hcap.2 hlen (hv.front _ hk) (hv.back _ hk)
def zout : Array Value := Array.replicate 64 (.int .u8 0)
theorem zeroOut (W : World) : (zeroValue 26).run Tryd.prog W = .ok (.agg zout) W := by
  have h : (Tryd.prog.info? 26).map (·.zero) = some (some (.agg zout)) := by kernel_rfl
  cases hq : Tryd.prog.info? 26 with
  | none => simp [hq] at h
  | some i =>
    have hz : i.zero = some (.agg zout) := by simpa [hq] using h
    simp [zeroValue, Sem.run_bind, typeInfo, hq, hz]

theorem ite_of {c : Prop} [Decidable c] {p q : Prop} (h : c) (hp : p) : if c then p else q := by
  rw [if_pos h]
  exact hp
theorem infoOut : (Tryd.prog.info? 26).map (·.size) = some 64 := by kernel_rfl
theorem RowB_at {base : Nat} {w : World} {v : Value} {bs : List UInt8} (h : Bw.RowB base w v bs) (h0 : bs ≠ []) : ∃ g cap, v = .slice (some ⟨g, 0, none⟩) bs.length cap ∧ w.rangeAt g 0 (Lib.byteCells bs) := by
  have hc := h.cell
  rcases h.2 with ⟨rfl, h1⟩ | ⟨g, cap, cur, rfl, _⟩
  · exact absurd (List.eq_nil_of_length_eq_zero h1) h0
  · rcases hc with ⟨h1, _⟩ | ⟨b, off, c, he, _, h3⟩
    · exact absurd h1 h0
    · cases he
      refine ⟨g, cap, rfl, fun j v hv => ?_⟩
      have hj : j < bs.length := by
        rcases Nat.lt_or_ge j bs.length with h' | h'
        · exact h'
        · rw [List.getElem?_eq_none (by rw [Lib.byteCells_length]; exact h')] at hv; cases hv
      rw [h3 j hj, ← hv]
      simp [Lib.byteCells, hj]

set_option maxHeartbeats 4000000 in
set_option maxRecDepth 4000 in
theorem sum_any (a : Option Addr) (cap : Nat) (bs : List UInt8) (w : World) (hT : Tabs w) (hm : bs.length ≤ 140737488355328) (hv : Bw.SlM w (.slice a bs.length cap) bs) :
    Calls Tryd.prog 8 #[.slice a bs.length cap] w fun e w' => e = .returned (.agg (Lib.byteCells (sum kw bs)).toArray) ∧ Below w.heap.size w w' := by
  have hz := zeroOut
  have cS := fun W => shapeOf_any W
  obtain ⟨Z, hZ⟩ : ∃ Z, zout = Z := ⟨_, rfl⟩
  have hZ0 : ∀ j, j < 64 → (Z[j]?).isSome = true := fun j hj => by rw [← hZ, zout]; simp [hj]
  have HZ0 : Hid (∀ j, j < 64 → (Z[j]?).isSome = true) := hZ0
  rw [hZ] at hz
  obtain ⟨n, hn⟩ : ∃ n, w.heap.size = n := ⟨_, rfl⟩
  have HN : Hid (w.heap.size = n) := hn
  have hTl := hT.lt
  have cF : ∀ W : World, Below n w W → Calls Tryd.prog 19 #[sh] W fun e w' => e = .returned (wv (first kw)) ∧ Below W.heap.size W w' := fun W hW => firstWords_any W (hT.below hW (by omega))
  have hfl : (first kw).lt 64 := by refine ⟨?_, ?_, ?_, ?_, ?_, ?_, ?_, ?_⟩ <;> decide
  have cD : ∀ W : World, Below n w W → Calls Tryd.prog 18 #[wv (first kw), .slice a bs.length cap, .int .u64 ((bs.length : Nat) : Int), sh] W fun e w' => ∃ v', e = .returned v' ∧ Bw.RowB W.heap.size w' v' (sum kw bs) ∧ Below W.heap.size W w' := fun W hW =>
    digest_at a cap (first kw) bs bs.length W hfl (hT.below hW (by omega)) hm (by omega) (hv.below hW (by omega))
  have hne : sum kw bs ≠ [] := fun h => by have := sum_len kw bs; rw [h] at this; simp [kw] at this
  have hsl : (sum kw bs).length = 64 := sum_len kw bs
  obtain ⟨D, hD⟩ : ∃ D, sum kw bs = D := ⟨_, rfl⟩
  rw [hD] at cD hne hsl ⊢
  obtain ⟨F, hF⟩ : ∃ F, wv (first kw) = F := ⟨_, rfl⟩
  rw [hF] at cF cD
  obtain ⟨L, hL⟩ : ∃ L, bs.length = L := ⟨_, rfl⟩
  rw [hL] at hm cD ⊢
  have HD : Hid (D ≠ [] ∧ D.length = 64) := ⟨hne, hsl⟩
  have hwr : IntKind.u64.wrap (L : Int) = (L : Int) := by rw [IntKind.wrap_u64]; omega
  clear hD hF hL hv hT hZ hZ0 hne hsl hfl hTl
  unfold sh at *
  go_enter Tryd.func8, Tryd.ntmps8
  go_wp2_with (go_at_call 15; refine (cS _).mono ?_; rintro e w1 ⟨rfl, hb⟩)
  obtain ⟨V, hV⟩ : ∃ V, w.alloc (.cells Z 26) = V := ⟨_, rfl⟩
  have hsV : V.heap.size = n + 1 := by rw [← hV, size_alloc, HN.out]
  have hbV : Below n w V := by rw [← hV]; exact (Below.refl _ _).alloc (by rw [HN.out]; exact Nat.le_refl _) _
  have htV : V.there n 0 64 := by have := there_new w Z 26 HZ0.out; rw [hV, HN.out] at this; exact this
  rw [hV] at hb
  have hb1 : Below n w w1 := hbV.trans (hb.mono (by omega))
  have ht1 : w1.there n 0 64 := there_below hb htV (by omega)
  have hl1 : n + 1 ≤ w1.heap.size := by have := hb.size; omega
  have hrm : (w1.alloc (.cells shc.toArray 41)).rangeAt w1.heap.size 0 shc := range_new w1 shc 41
  obtain ⟨m, hm1⟩ : ∃ m, w1.heap.size = m := ⟨_, rfl⟩
  have hb2 : Below n w (w1.alloc (.cells shc.toArray 41)) := hb1.alloc (by omega) _
  have ht2 : (w1.alloc (.cells shc.toArray 41)).there n 0 64 := World.there_alloc ht1 _
  have hl2 : (w1.alloc (.cells shc.toArray 41)).heap.size = m + 1 := by rw [size_alloc, hm1]
  rw [hm1] at hrm hl1 ⊢
  obtain ⟨w2, hw2⟩ : ∃ w2, w1.alloc (.cells shc.toArray 41) = w2 := ⟨_, rfl⟩
  have hw2' : w1.alloc (.cells #[.int .u64 64, .int .i64 80, .int .u64 1, .int .u64 8, .int .u64 7, .int .u64 19, .int .u64 61, .int .u64 6, .int .u64 28, .int .u64 34, .int .u64 39, .int .u64 14, .int .u64 18, .int .u64 41] 41) = w2 := hw2
  rw [hw2] at hrm hb2 ht2 hl2
  rw [hw2']
  clear hV hsV hbV htV hb hb1 ht1 hm1 hw2 hw2' cS hz hn
  apply region_held_last (S := fun w' => Below w2.heap.size w2 w') (by kernel_rfl) (drawn_below (Below.refl _ _))
  case hl => simp only [List.dropLast_cons_cons, List.dropLast_singleton]; rfl
  case ho => simp only [List.getLast?_cons_cons, List.getLast?_singleton]; rfl
  case hd => rfl
  case hg => rfl
  case hL => kernel_rfl
  case h =>
    intro hS
    simp only [List.cons_append, List.nil_append, idle]
    refine wpAnyH_take (i := 0) (v := .agg shc.toArray) rfl (by kernel_rfl) (by kernel_rfl) (by kernel_rfl) (fun _ _ _ h => absurd h.1 (by simp)) (yieldsIf_load_mid (by kernel_rfl) 41 _ rfl m 0 rfl shc _ (fun wq hS => Below.range hS hrm (by omega)) Tryd.underlying41 rfl (by kernel_rfl)) hS ?_
    try simp only [Act.put, List.setIfInBounds_toArray]
    refine wpAnyH_take (i := 2) (v := .slice a L cap) rfl (by kernel_rfl) (by kernel_rfl) (by kernel_rfl) (fun _ _ _ h => absurd h.1 (by simp)) (Or.inl ⟨by kernel_rfl, fun wq hS => by clear hS; go_simp⟩) hS ?_
    try simp only [Act.put]
    refine wpAnyH_take (i := 3) (v := .slice a L cap) rfl (by kernel_rfl) (by kernel_rfl) (by kernel_rfl) (fun _ _ _ h => absurd h.1 (by simp)) (Or.inl ⟨by kernel_rfl, fun wq hS => by clear hS; go_simp⟩) hS ?_
    try simp only [Act.put]
    refine wpAnyH_take (i := 4) (v := .int .i64 (L : Int)) rfl (by kernel_rfl) (by kernel_rfl) (by kernel_rfl) (fun _ _ _ h => absurd h.1 (by simp)) (Or.inl ⟨by kernel_rfl, fun wq hS => by clear hS; go_simp⟩) hS ?_
    try simp only [Act.put]
    refine wpAnyH_take (i := 5) (v := .int .u64 (L : Int)) rfl (by kernel_rfl) (by kernel_rfl) (by kernel_rfl) (fun _ _ _ h => absurd h.1 (by simp)) (Or.inl ⟨by kernel_rfl, fun wq hS => by clear hS; go_simp⟩) hS ?_
    try simp only [Act.put]
    refine wpAnyH_take (i := 6) (v := .agg shc.toArray) rfl (by kernel_rfl) (by kernel_rfl) (by kernel_rfl) (fun _ _ _ h => absurd h.1 (by simp)) (yieldsIf_load_mid (by kernel_rfl) 41 _ rfl m 0 rfl shc _ (fun wq hS => Below.range hS hrm (by omega)) Tryd.underlying41 rfl (by kernel_rfl)) hS ?_
    try simp only [Act.put]
    refine wpAnyH_ready (rs := [1]) (by kernel_rfl) (by simp) ?_
    refine AllReadyH.cons rfl (fun K hK => ?_) AllReadyH.nil
    go_simp
    refine (cF _ (hb2.trans (hS.mono (by omega)))).mono ?_
    rintro e w4 ⟨rfl, hb4⟩
    refine hK.out _ _ (hS.trans (hb4.mono (Nat.le_refl _))) (fun hS => ?_)
    clear hK K
    try simp only [Act.put, List.setIfInBounds_toArray, List.set_cons_zero, List.set_cons_succ]
    refine wpAnyH_ready (rs := [7]) (by kernel_rfl) (by simp) ?_
    refine AllReadyH.cons rfl (fun K hK => ?_) AllReadyH.nil
    go_simp
    refine (cD w4 (hb2.trans (hS.mono (by omega)))).mono ?_
    rintro e w5 ⟨v5, rfl, hr5, hb5⟩
    refine hK.out _ _ (hS.trans (hb5.mono hS.size)) (fun hS => ?_)
    clear hK K
    obtain ⟨g, c5, rfl, hrg⟩ := RowB_at hr5 HD.out.1
    rw [HD.out.2]
    try simp only [Act.put, List.setIfInBounds_toArray, List.set_cons_zero, List.set_cons_succ]
    refine wpAnyH_ready (rs := [8]) (by kernel_rfl) (by simp) ?_
    refine AllReadyH.cons rfl (fun K hK => ?_) AllReadyH.nil
    go_simp
    refine hK.out _ _ hS (fun hS => ?_)
    clear hK K
    try simp only [Act.put, List.setIfInBounds_toArray, List.set_cons_zero, List.set_cons_succ]
    refine wpAnyH_ready (rs := [9]) (by kernel_rfl) (by simp) ?_
    refine AllReadyH.cons rfl (fun K hK => ?_) AllReadyH.nil
    refine ite_of (by kernel_rfl) ?_
    refine wp_load_mid 26 (.tmp 13) rfl g 0 rfl (Lib.byteCells D) _ hrg Tryd.underlying26 rfl (by rw [Lib.byteCells_length, HD.out.2]; exact infoOut) ?_
    refine hK.out _ _ hS (fun hS => ?_)
    clear hK K
    try simp only [Act.put, List.setIfInBounds_toArray]
    refine wpAnyH_take (i := 10) (v := undef) rfl (by kernel_rfl) (by kernel_rfl) (by kernel_rfl) (fun _ _ _ h => absurd h.1 (by simp)) (Or.inl ⟨by kernel_rfl, fun wq hS => by clear hS; go_simp⟩) hS ?_
    try simp only [Act.put]
    refine wpAnyH_done (by kernel_rfl) ?_ _
    refine ⟨rfl, ?_⟩
    have ht5 : w5.there n 0 64 := there_below hS ht2 (by omega)
    have hlc : (Lib.byteCells D).length = 64 := by rw [Lib.byteCells_length, HD.out.2]
    have hon : (Lib.byteCells D).toArray.all (·.oneCell') = true := all_oneCell_toArray (Bw.one_byte D)
    have hb5' : Below n w (w5.setCells n 0 (Lib.byteCells D)) := below_setCells (hb2.trans (hS.mono (by omega))) (Nat.le_refl _)
    have hld := run_loadVar_mid (P := Tryd.prog) _ n 0 26 (Lib.byteCells D) _ (World.rangeAt_setCells_same w5 n 0 (Lib.byteCells D) (by rw [hlc]; exact ht5)) Tryd.underlying26 rfl (by rw [hlc]; exact infoOut)
    refine wp_store_mid 26 (.tmp 2) (.tmp 14) rfl n 0 (Lib.byteCells D).toArray rfl rfl (by rw [List.size_toArray, hlc]; exact ht5) (by rw [List.size_toArray, hlc]; exact infoOut) hon ?_
    obtain ⟨C, hC⟩ : ∃ C, Lib.byteCells D = C := ⟨_, rfl⟩
    have HC : Hid (Lib.byteCells D = C) := hC
    rw [hC] at hb5' hld ⊢
    simp only [List.getElem_toArray, List.getElem_cons_succ, List.getElem_cons_zero, Act.put]
    clear hC hrg hr5 hb5 hb4 hS cF cD hon hlc
    go_wp2
    exact bodyPost_ret (v := .agg C.toArray) (results_cell Tryd.results8 rfl hld) rfl ⟨by rw [HC.out], by rw [HN.out]; exact hb5'⟩
end HW
end Go.Proofs.YtfmkkjnmadaplaaDoor
