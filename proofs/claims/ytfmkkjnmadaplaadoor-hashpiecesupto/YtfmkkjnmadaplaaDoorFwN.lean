/- What hash.firstWords does at words of 32 bits: a contract, by walking its text. -/
import Derived.Test.YtfmkkjnmadaplaaDoorTkN
namespace Go.Proofs.YtfmkkjnmadaplaaDoor
open Go.RowKit
namespace HN
open Hs Rg

/-- The words that are there so far. -/
structure FwAt (w wr : World) (n : Nat) (L : List Nat) : Prop where
  b : Below n w wr
  s : wr.rangeAt n 0 shc
  c : ∀ j, j < 8 → wr.cell? ⟨n + 2, j, none⟩ = some (.int .u32 ((L.getD j 0 : Nat) : Int))
  t : wr.there (n + 2) 0 8
  r : wr.there (n + 1) 0 8
theorem FwAt.lt {w wr : World} {n : Nat} {L : List Nat} (h : FwAt w wr n L) : n + 2 < wr.heap.size := Bw.cell_lt (h.c 0 (by decide))
theorem FwAt.below {w wr w' : World} {n : Nat} {L : List Nat} (h : FwAt w wr n L) (hb : Below wr.heap.size wr w') : FwAt w w' n L := by
  have hl := h.lt
  exact ⟨h.b.trans (hb.mono (by omega)), Below.range hb h.s (by omega), fun j hj => (hb.cell (p := ⟨n + 2, j, none⟩) hl).trans (h.c j hj), there_below hb h.t hl, there_below hb h.r (by omega)⟩
theorem FwAt.set {w wr : World} {n : Nat} {L : List Nat} (h : FwAt w wr n L) (hL : L.length < 8) (x : Nat) : FwAt w (wr.setCell ⟨n + 2, L.length, none⟩ (.int .u32 (x : Int))) n (L ++ [x]) := by
  have hs : ∀ (b o : Nat), b ≠ n + 2 → (wr.setCell ⟨n + 2, L.length, none⟩ (.int .u32 (x : Int))).cell? ⟨b, o, none⟩ = wr.cell? ⟨b, o, none⟩ := fun b o hb => World.cell?_setCell_other _ _ _ _ (fun e => hb (by cases e; rfl))
  refine ⟨h.b.setCell (by simp) _, fun j v hv => (hs _ _ (by omega)).trans (h.s j v hv), fun j hj => ?_, fun j hj => ?_, fun j hj => ?_⟩
  · by_cases hj2 : j = L.length
    · subst hj2
      rw [World.cell?_setCell_same _ _ _ (h.c _ hL)]
      simp
    · rw [World.cell?_setCell_other _ _ _ _ (fun e => hj2 (by cases e; rfl)), h.c j hj]
      congr 3
      rw [List.getD_eq_getElem?_getD, List.getD_eq_getElem?_getD]
      rcases Nat.lt_or_ge j L.length with h1 | h1
      · rw [List.getElem?_append_left h1]
      · rw [List.getElem?_eq_none h1, List.getElem?_eq_none (by simp; omega)]
  · obtain ⟨h1, h2⟩ := h.t j hj
    refine ⟨?_, by rw [World.frozen?_setCell]; exact h2⟩
    by_cases hj2 : j = L.length
    · subst hj2
      rw [show (0 + L.length) = L.length by omega, World.cell?_setCell_same _ _ _ (h.c _ hL)]
      rfl
    · rw [World.cell?_setCell_other _ _ _ _ (fun e => hj2 (by simpa using e.symm))]
      exact h1
  · obtain ⟨h1, h2⟩ := h.r j hj
    exact ⟨by rw [hs _ _ (by omega)]; exact h1, by rw [World.frozen?_setCell]; exact h2⟩
theorem FwAt.start (w : World) (v0 v1 : Array Value) (hv0 : ∀ j, j < 8 → (v0[j]?).isSome = true) (hv1 : ∀ j, j < 8 → v1[j]? = some (.int .u32 0)) :
    FwAt w (((w.alloc (.cells shc.toArray 41)).alloc (.cells v0 45)).alloc (.cells v1 45)) w.heap.size [] := by
  have h1 := range_new w shc 41
  have e1 : (w.alloc (.cells shc.toArray 41)).heap.size = w.heap.size + 1 := size_alloc _ _
  have e2 : ((w.alloc (.cells shc.toArray 41)).alloc (.cells v0 45)).heap.size = w.heap.size + 2 := by rw [size_alloc, size_alloc, Nat.add_assoc]
  refine ⟨(((Below.refl _ _).alloc (Nat.le_refl _) _).alloc (by simp) _).alloc (by simp; omega) _, World.rangeAt_alloc (World.rangeAt_alloc h1 _) _, fun j hj => ?_, ?_, ?_⟩
  · have h2 := cell_new ((w.alloc (.cells shc.toArray 41)).alloc (.cells v0 45)) v1 45 (hv1 j hj)
    rw [e2] at h2
    rw [h2]
    rfl
  · have h2 := there_new ((w.alloc (.cells shc.toArray 41)).alloc (.cells v0 45)) v1 45 (m := 8) (fun j hj => by rw [hv1 j hj]; rfl)
    rw [e2] at h2
    exact h2
  · have h2 := World.there_alloc (there_new (w.alloc (.cells shc.toArray 41)) v0 45 hv0) (.cells v1 45)
    rw [e1] at h2
    exact h2
theorem range8 {w wr : World} {n : Nat} {H : H8} (h : FwAt w wr n H.l) : wr.rangeAt (n + 2) 0 (wvc H) := fun j v hv => by
  rw [Nat.zero_add]
  match j, hv with
  | 0, hv => cases hv; exact h.c 0 (by decide)
  | 1, hv => cases hv; exact h.c 1 (by decide)
  | 2, hv => cases hv; exact h.c 2 (by decide)
  | 3, hv => cases hv; exact h.c 3 (by decide)
  | 4, hv => cases hv; exact h.c 4 (by decide)
  | 5, hv => cases hv; exact h.c 5 (by decide)
  | 6, hv => cases hv; exact h.c 6 (by decide)
  | 7, hv => cases hv; exact h.c 7 (by decide)
  | j + 8, hv => simp [wvc] at hv
theorem first_at (k : Nat) (hk : k < 8) : (first kn).l[k]? = some (square.getD k 0 / 2 ^ (64 - 32)) := by
  match k, hk with
  | 0, _ => rfl
  | 1, _ => rfl
  | 2, _ => rfl
  | 3, _ => rfl
  | 4, _ => rfl
  | 5, _ => rfl
  | 6, _ => rfl
  | 7, _ => rfl

set_option maxHeartbeats 4000000 in
set_option maxRecDepth 4000 in
theorem firstWords_any (w : World) (hT : Tabs w) : Calls Tryd.prog 17 #[sh] w fun e w' => e = .returned (wv (first kn)) ∧ Below w.heap.size w w' := by
  obtain ⟨n, hn⟩ : ∃ n, w.heap.size = n := ⟨_, rfl⟩
  have HN : Hid (w.heap.size = n) := hn
  have HT : Hid (Tabs w) := hT
  have hS := FwAt.start w #[.int .u32 0, .int .u32 0, .int .u32 0, .int .u32 0, .int .u32 0, .int .u32 0, .int .u32 0, .int .u32 0] #[.int .u32 0, .int .u32 0, .int .u32 0, .int .u32 0, .int .u32 0, .int .u32 0, .int .u32 0, .int .u32 0] (fun j hj => by simp [hj]) (fun j hj => by
    match j, hj with
    | 0, _ => rfl
    | 1, _ => rfl
    | 2, _ => rfl
    | 3, _ => rfl
    | 4, _ => rfl
    | 5, _ => rfl
    | 6, _ => rfl
    | 7, _ => rfl)
  rw [hn] at hS
  obtain ⟨F, hF⟩ : ∃ F, (first kn).l = F := ⟨_, rfl⟩
  have HF : Hid ((first kn).l = F) := hF
  have hFl : F.length = 8 := by rw [← hF]; rfl
  have HFl : Hid (F.length = 8) := hFl
  have HFk : Hid (∀ k, k < 8 → F[k]? = some (square.getD k 0 / 2 ^ (64 - 32))) := by rw [← hF]; exact first_at
  have HS : Hid (FwAt w (((w.alloc (.cells shc.toArray 41)).alloc (.cells #[.int .u32 0, .int .u32 0, .int .u32 0, .int .u32 0, .int .u32 0, .int .u32 0, .int .u32 0, .int .u32 0] 45)).alloc (.cells #[.int .u32 0, .int .u32 0, .int .u32 0, .int .u32 0, .int .u32 0, .int .u32 0, .int .u32 0, .int .u32 0] 45)) n (F.take 0)) := hS
  clear hF hFl hS hT
  unfold sh
  go_enter Tryd.func17, Tryd.ntmps17
  go_wp2
  clear hn
  go_loopw [5] (fun y wr => ∃ k : Nat, y = .int .i64 (k : Int) ∧ k ≤ 8 ∧ FwAt w wr n (F.take k)) (fun y _ => 8 - Bw.numOf y)
  case atStart => exact ⟨0, rfl, Nat.zero_le _, HS.out⟩
  case round =>
    clear HS
    obtain ⟨k, rfl, hk, hR⟩ := hrel
    by_cases hlt : k < 8
    · have hlt' : (k : Int) < 8 := by omega
      have hlt0 : (0 : Int) ≤ (k : Int) := by omega
      have hnl := hR.lt
      have hTw : Tabs wr := HT.out.below (N := n) hR.b (by have := HT.out.lt; have := HN.out; omega)
      have hsq := square_lt k
      have hlc : square.length = 8 := rfl
      have pk0 : wr.cell? ⟨0, k, none⟩ = some (.int .u64 ((square.getD k 0 : Nat) : Int)) := by
        have h := hTw.q k (.int .u64 ((square.getD k 0 : Nat) : Int)) (by
          rw [List.getElem?_map, List.getD_eq_getElem?_getD, List.getElem?_eq_getElem (by rw [hlc]; omega)]
          rfl)
        rw [Nat.zero_add] at h
        exact h
      have cf := fun W => firstBits_any (square.getD k 0) W hsq
      have hnext : F.take (k + 1) = F.take k ++ [square.getD k 0 / 2 ^ (64 - 32)] := by
        have h1 : k < F.length := by rw [HFl.out]; exact hlt
        have h2 := HFk.out k hlt
        rw [List.getElem?_eq_getElem h1] at h2
        rw [List.take_succ_eq_append_getElem h1, Option.some.inj h2]
      obtain ⟨X, hX⟩ : ∃ X, square.getD k 0 / 2 ^ (64 - 32) = X := ⟨_, rfl⟩
      rw [hX] at cf hnext
      obtain ⟨Y, hY⟩ : ∃ X, square.getD k 0 = X := ⟨_, rfl⟩
      rw [hY] at cf pk0
      have HNX : Hid (F.take (k + 1) = F.take k ++ [X]) := hnext
      have HLk : Hid ((F.take k).length = k) := by show _ = _; rw [List.length_take, HFl.out]; omega
      have pk : ∀ x : Cl wr.heap.size wr, x.u.cell? ⟨0, k, none⟩ = some (.int .u64 (Y : Int)) := fun x => x.cell pk0 (World.block_lt_of_cell? wr _ pk0)
      have HSh : Hid (∀ w', (∃ x : Cl wr.heap.size wr, w' = x.u) → w'.rangeAt n 0 shc) := by
        rintro _ ⟨x, rfl⟩
        exact x.range hR.s (by omega)
      have hne := Cl.ne wr.heap.size wr
      have HR : Hid (FwAt w wr n (F.take k)) := hR
      clear hR pk0 hX hY hnext hsq hTw hlc
      unfold sh at cf
      go_wp2
      apply region_cl_last (N := wr.heap.size) (W := wr) (by kernel_rfl) (Below.refl _ _)
      case hl => simp only [List.dropLast_cons_cons, List.dropLast_singleton]; rfl
      case ho => simp only [List.getLast?_cons_cons, List.getLast?_singleton]; rfl
      case hd => rfl
      case hg => rfl
      case hB => kernel_rfl
      case hL => kernel_rfl
      case h =>
        repeat (first
          | (go_big_quiet_want; refine quiet_load 41 _ rfl n 0 rfl shc _ HSh.out Tryd.underlying41 rfl (by kernel_rfl) ?_; simp only [shc, Act.put, List.setIfInBounds_toArray, List.set_cons_zero, List.set_cons_succ]; go_big_quiet_on)
          | go_big_quiet_step (fail))
        go_big_quiet_step ((go_at_call 31; exact cl_of (cf _) (Nat.le_refl _)))
        repeat (go_big_quiet_step (fail))
        refine wpQuiet_nil ?_
        rintro _ ⟨x, rfl⟩
        have hR1 := HR.out.below x.h
        have q0 := hR1.c k (by omega)
        have q1 := (hR1.t k (by omega)).2
        simp only [Nat.zero_add] at q1
        have h9 := hR1.set (by rw [HLk.out]; omega) X
        rw [HLk.out] at h9
        have HV : Hid (FwAt w (x.u.setCell ⟨n + 2, k, none⟩ (.int .u32 (X : Int))) n (F.take k ++ [X])) := h9
        clear h9
        go_simp
        go_wp2
        go_roundw
        case rel => exact ⟨k + 1, by go_num, hlt, by rw [HNX.out]; exact HV.out⟩
        case measure => simp [Bw.numOf]; omega
    · have hlt' : ¬ (k : Int) < 8 := by omega
      have hk8 : F.take k = (first kn).l := by rw [List.take_of_length_le (by rw [HFl.out]; omega), HF.out]
      rw [hk8] at hR
      have hnl := hR.lt
      have hth : wr.there (n + 1) 0 (wvc (first kn)).toArray.size := hR.r
      have hld := run_loadVar_mid (P := Tryd.prog) _ (n + 1) 0 45 (wvc (first kn)) _ (World.rangeAt_setCells_same wr (n + 1) 0 (wvc (first kn)) hR.r) Tryd.underlying45 rfl info8
      have hfr : Below w.heap.size w (wr.setCells (n + 1) 0 (wvc (first kn))) := by rw [HN.out]; exact below_setCells hR.b (by omega)
      have hon := one8 (first kn)
      have hrg := range8 hR
      obtain ⟨cl, hcl'⟩ : ∃ c, wvc (first kn) = c := ⟨_, rfl⟩
      have HE : Hid (wv (first kn) = .agg cl.toArray) := by show _ = _; rw [← hcl']; rfl
      have hin : (Tryd.prog.info? 45).map (·.size) = some cl.length := by rw [← hcl']; exact info8
      have hin3 : (Tryd.prog.info? 45).map (·.size) = some cl.toArray.size := by rw [← hcl']; exact info8
      rw [hcl'] at hth hon hrg hld hfr
      clear hcl' hR hk8
      go_wp2_with (first
        | (refine wpList_load_mid rfl 45 (.tmp 3) rfl (n + 2) 0 rfl cl _ hrg Tryd.underlying45 rfl hin ?_)
        | (refine wpList_store_mid rfl 45 (.tmp 2) (.tmp 16) rfl (n + 1) 0 cl.toArray rfl rfl hth hin3 hon ?_))
      exact bodyPost_ret (v := .agg cl.toArray) (results_cell Tryd.results17 rfl hld) rfl ⟨by rw [HE.out], hfr⟩
end HN
end Go.Proofs.YtfmkkjnmadaplaaDoor
