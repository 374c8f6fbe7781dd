/- Server: whether a text is a server's name. -/
import Derived.Test.YthplcnbfpcndbaaGreatDoorKb
namespace Go.Proofs.YthplcnbfpcndbaaGreatDoor
open Go.RowKit

/-- What stands beside a dot is a small letter or a digit; B is what stood ahead. -/
def scanI : Int → List UInt8 → Bool
  | _, [] => true
  | B, c :: t => !((B == 46 && !lowP [] (c.toNat : Int)) || ((c.toNat : Int) == 46 && !lowP [] B)) && scanI (c.toNat : Int) t
/-- A server's name. -/
def srvL (l : List UInt8) : Bool := madeL 64 (lowP [46, 45]) l && scanI 46 (l ++ [46])
theorem lowP_high (l : List UInt8) : Hid (∀ r, 128 ≤ r → lowP l r = false) := by
  intro r h
  simp only [lowP, oneOf]
  rw [show decide (r ≤ 122) = false by simp; omega, show decide (r ≤ 57) = false by simp; omega, show decide (r < 128) = false by simp; omega]
  simp
theorem letP_high (l : List UInt8) : Hid (∀ r, 128 ≤ r → letP l r = false) := by
  intro r h
  rw [letP, (lowP_high l).out r h, show decide (r ≤ 90) = false by simp; omega]
  simp
theorem asc_lit {a : ByteArray} (h : ∀ x ∈ a.data.toList, x.toNat < 128) : Hid (Asc a) := fun i hi => h _ (by
  have : i < a.data.toList.length := by simpa using hi
  exact List.getElem_mem this)
theorem scan_at (S : ByteArray) (B : Int) (pos : Nat) (h : pos < S.size) : scanI B (S.data.toList.drop pos) = (!((B == 46 && !lowP [] ((S[pos]'h).toNat : Int)) || (((S[pos]'h).toNat : Int) == 46 && !lowP [] B)) && scanI ((S[pos]'h).toNat : Int) (S.data.toList.drop (pos + 1))) := by
  rw [List.drop_eq_getElem_cons (by simpa using h), scanI]
  rfl

set_option maxHeartbeats 4000000 in
theorem server_any (s : ByteArray) (w : World) :
    Calls Tryz.prog 94 #[.string s] w fun e w' => e = .returned (.bool (srvL s.data.toList)) ∧ Below w.heap.size w w' := by
  have hl := fun W => lowOr_any ⟨#[46, 45]⟩ W (by decide) (asc_lit (by decide))
  have hl0 := fun W => lowOr_any ⟨#[]⟩ W (by decide) (asc_lit (by decide))
  obtain ⟨M, hM⟩ : ∃ M, madeL 64 (lowP [46, 45]) s.data.toList = M := ⟨_, rfl⟩
  have hm := fun v W hk => made_any s 64 v (lowP [46, 45]) W hk (lowP_high _) (by decide)
  rw [hM] at hm
  cases M
  · have HS : Hid (srvL s.data.toList = false) := by show _ = _; rw [srvL, hM]; rfl
    clear hM
    go_enter Tryz.func94, Tryz.ntmps94
    go_wp2_with (first
      | (go_at_call 105; refine (hl _).mono ?_; rintro e w1 ⟨v, rfl, hk, hb1⟩)
      | (go_at_call 104; refine (hm _ _ hk).mono ?_; rintro e w2 ⟨rfl, hb2⟩))
    go_ret
    exact ⟨ret_bool HS.out.symm, hb1.trans (hb2.mono hb1.size)⟩
  · have HS : Hid (srvL s.data.toList = scanI 46 (s.data.toList ++ [46])) := by show _ = _; rw [srvL, hM]; rfl
    simp only [madeL, Bool.and_eq_true, decide_eq_true_eq] at hM
    have hsz : s.size ≤ 64 := by have := hM.1.2; simp at this; omega
    have HA : Hid (Asc (s ++ ⟨#[46]⟩)) := asc_lit (fun x hx => by
      simp only [ByteArray.data_append, Array.toList_append, List.mem_append] at hx
      rcases hx with hx | hx
      · have := List.all_eq_true.1 hM.2 x hx
        apply Decidable.byContradiction
        intro hn
        rw [(lowP_high [46, 45]).out _ (by omega)] at this
        cases this
      · simp at hx
        subst hx
        decide)
    clear hM
    go_enter Tryz.func94, Tryz.ntmps94
    go_wp2_with (first
      | (have hq := hb2; clear hq; go_at_call 105; refine (hl0 _).mono ?_; rintro e w3 ⟨_, rfl, ⟨f, cap, rfl, hF, hk3⟩, hb3⟩)
      | (go_at_call 105; refine (hl _).mono ?_; rintro e w1 ⟨v, rfl, hk, hb1⟩)
      | (go_at_call 104; refine (hm _ _ hk).mono ?_; rintro e w2 ⟨rfl, hb2⟩))
    have hbw0 : Below w.heap.size w w3 := (hb1.trans (hb2.mono hb1.size)).trans (hb3.mono (Nat.le_trans hb1.size hb2.size))
    clear hb1 hb2 hb3 hl hl0 hm hk
    have HSS : Hid ((s ++ (⟨#[46]⟩ : ByteArray)).data.toList = s.data.toList ++ [46]) := by show _ = _; simp
    have hS65 : (s ++ (⟨#[46]⟩ : ByteArray)).size ≤ 65 := by rw [ByteArray.size_append]; show s.size + 1 ≤ 65; omega
    generalize s ++ (⟨#[46]⟩ : ByteArray) = S at HA HSS hS65 ⊢
    go_loopw [4] (fun v wr => ∃ (B : Int) (pos : Nat), v = .int .i32 B ∧ 0 ≤ B ∧ wr.heap[w3.heap.size]? = some (.stringIter S pos) ∧ Below w3.heap.size w3 wr ∧ Hid (scanI B (S.data.toList.drop pos) = srvL s.data.toList)) (fun _ wr => S.size - wr.iterPos w3.heap.size)
    case atStart => exact ⟨46, 0, rfl, by decide, World.iter_heap w3 S 0, (Below.refl _ _).alloc (Nat.le_refl _) _, by show _ = _; rw [HS.out, List.drop_zero, HSS.out]⟩
    case round =>
      obtain ⟨B, pos, rfl, hB0, hit, hbw, HI⟩ := hrel
      have hpos0 := iterPos_of hit
      by_cases hpp : pos < S.size
      · have hnx : ∀ ty, (Instr.next (.pointer (some ⟨w3.heap.size, 0, none⟩)) true ty).run Tryz.prog wr = _ := fun ty => Lib.run_next_any_at wr w3.heap.size S pos ty hit hpp
        have hit2 := Lib.iterAt_heap wr w3.heap.size S pos (pos + 1) hit
        have hbw2 := Lib.below_iterAt hbw (k := w3.heap.size) (Nat.le_refl _) S (pos + 1)
        have hst := scan_at S B pos hpp
        rw [decode_ascii S pos hpp (HA.out pos hpp)] at hnx
        obtain ⟨W1, hW1⟩ : ∃ W1, W1 = wr.iterAt w3.heap.size S (pos + 1) := ⟨_, rfl⟩
        simp only [← hW1] at hnx hit2 hbw2
        obtain ⟨C, hC⟩ : ∃ C : Int, (((S[pos]'hpp).toNat : Nat) : Int) = C := ⟨_, rfl⟩
        rw [hC] at hst
        simp only [hC] at hnx
        have hC0 : 0 ≤ C := by omega
        rw [HI.out] at hst
        have HT : Hid (srvL s.data.toList = (!((B == 46 && !lowP [] C) || (C == 46 && !lowP [] B)) && scanI C (S.data.toList.drop (pos + 1)))) := hst
        have hlt : w3.heap.size < W1.heap.size := (Array.getElem?_eq_some_iff.1 hit2).1
        have hqC := hk3 W1 hbw2 C hC0
        have hqB := hk3 W1 hbw2 B hB0
        clear hW1 hit hbw hst hC HI HS HSS HA
        have hD46 : lowP [] 46 = false := by decide
        by_cases b46 : B = 46
        · subst b46
          cases hP : lowP [] C
          · rw [hP] at hqC
            rw [hP] at HT
            have HF : Hid (srvL s.data.toList = false) := by show _ = _; rw [HT.out]; simp
            clear hP HT hqB
            go_wp2_with (go_at_fn f; refine hqC.mono ?_; rintro e w' ⟨rfl, hb⟩)
            go_ret
            exact ⟨ret_bool HF.out.symm, hbw0.trans ((hbw2.trans (hb.mono hbw2.size)).mono hbw0.size)⟩
          · have hc46 : (C == 46) = false := by
              by_cases h : C = 46
              · subst h; rw [hD46] at hP; cases hP
              · simpa using h
            rw [hP] at hqC
            rw [hP, hc46] at HT
            have HF : Hid (scanI C (S.data.toList.drop (pos + 1)) = srvL s.data.toList) := by show _ = _; rw [HT.out]; simp
            clear hP HT hqB
            go_wp2_with (go_at_fn f; refine hqC.mono ?_; rintro e w' ⟨rfl, hb⟩)
            have hit3 : w'.heap[w3.heap.size]? = some (.stringIter S (pos + 1)) := (hb.block _ hlt).trans hit2
            go_roundw
            case rel => exact ⟨C, pos + 1, rfl, hC0, hit3, hbw2.trans (hb.mono hbw2.size), HF⟩
            case measure => rw [iterPos_of hit3, hpos0]; omega
        · have hb46 : (B == 46) = false := by simpa using b46
          by_cases c46 : C = 46
          · subst c46
            cases hP : lowP [] B
            · rw [hP] at hqB
              rw [hP, hb46] at HT
              have HF : Hid (srvL s.data.toList = false) := by show _ = _; rw [HT.out]; simp
              clear hP HT hqC b46
              go_wp2_with (go_at_fn f; refine hqB.mono ?_; rintro e w' ⟨rfl, hb⟩)
              go_ret
              exact ⟨ret_bool HF.out.symm, hbw0.trans ((hbw2.trans (hb.mono hbw2.size)).mono hbw0.size)⟩
            · rw [hP] at hqB
              rw [hP, hb46] at HT
              have HF : Hid (scanI 46 (S.data.toList.drop (pos + 1)) = srvL s.data.toList) := by show _ = _; rw [HT.out]; simp
              clear hP HT hqC b46
              go_wp2_with (go_at_fn f; refine hqB.mono ?_; rintro e w' ⟨rfl, hb⟩)
              have hit3 : w'.heap[w3.heap.size]? = some (.stringIter S (pos + 1)) := (hb.block _ hlt).trans hit2
              go_roundw
              case rel => exact ⟨46, pos + 1, rfl, hC0, hit3, hbw2.trans (hb.mono hbw2.size), HF⟩
              case measure => rw [iterPos_of hit3, hpos0]; omega
          · have hc46 : (C == 46) = false := by simpa using c46
            rw [hc46, hb46] at HT
            have HF : Hid (scanI C (S.data.toList.drop (pos + 1)) = srvL s.data.toList) := by show _ = _; rw [HT.out]; simp
            clear HT hqB hqC b46 c46
            go_wp2
            go_roundw
            case rel => exact ⟨C, pos + 1, rfl, hC0, hit2, hbw2, HF⟩
            case measure => rw [iterPos_of hit2, hpos0]; omega
      · have hnx : ∀ ty, (Instr.next (.pointer (some ⟨w3.heap.size, 0, none⟩)) true ty).run Tryz.prog wr = _ := fun ty => Lib.run_next_end_at wr w3.heap.size S pos ty hit hpp
        have e := HI.out
        rw [List.drop_eq_nil_of_le (by simp; omega), scanI] at e
        have HF : Hid (srvL s.data.toList = true) := e.symm
        clear e
        go_wp2
        go_ret
        exact ⟨ret_bool HF.out.symm, hbw0.trans (hbw.mono hbw0.size)⟩
end Go.Proofs.YthplcnbfpcndbaaGreatDoor
