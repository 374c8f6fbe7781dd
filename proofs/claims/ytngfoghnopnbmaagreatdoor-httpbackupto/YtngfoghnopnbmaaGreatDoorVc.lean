/- What a message that is written is asked: its headers. -/
import Derived.Test.YtngfoghnopnbmaaGreatDoorVb
namespace Go.Proofs.YtngfoghnopnbmaaGreatDoor
open Go.RowKit
namespace Ht
open Bw

/-- A slice holds these headers. -/
def HdAt (w : World) (v : Value) (hs : List (ByteArray × ByteArray)) : Prop := ∃ a c, v = .slice a hs.length c ∧ ∀ i (h : i < hs.length), ∃ b off, a = some ⟨b, off, none⟩ ∧ b < w.heap.size ∧ w.cell? ⟨b, off + i * 2, none⟩ = some (.string (hs[i]).1) ∧ w.cell? ⟨b, off + i * 2 + 1, none⟩ = some (.string (hs[i]).2)
theorem SlN.hd {w : World} {ok : Nat → Prop} {v : Value} {hs : List (ByteArray × ByteArray)} (hv : SlN w ok v hs.length 2 (hCells hs)) : HdAt w v hs := by
  obtain ⟨va, vc, rfl⟩ : ∃ a c, v = .slice a hs.length c := by
    rcases hv.2 with ⟨h0, a, c, rfl⟩ | ⟨b, off, cap, rfl, _⟩
    · exact ⟨a, c, by rw [h0]⟩
    · exact ⟨_, _, rfl⟩
  refine ⟨va, vc, rfl, fun i h => ?_⟩
  rcases hv.2 with ⟨h0, _⟩ | ⟨b, off, cap, e, _, _, _, hc⟩
  · omega
  · injection e with e
    have key : ∀ j, j < 2 → (hCells hs)[i * 2 + j]? = [Value.string (hs[i]).1, .string (hs[i]).2][j]? := fun j hj => by
      have e1 : hCells hs = hCells (hs.take i) ++ ([Value.string (hs[i]).1, .string (hs[i]).2] ++ hCells (hs.drop (i + 1))) := by
        have : hs = hs.take i ++ ([hs[i]] ++ hs.drop (i + 1)) := by rw [List.singleton_append, ← List.drop_eq_getElem_cons h, List.take_append_drop]
        conv => lhs; rw [this]
        rw [hCells_app, hCells_app]
        rfl
      rw [e1, List.getElem?_append_right (by rw [hCells_len, List.length_take]; omega), hCells_len, List.length_take, Nat.min_eq_left (by omega), Nat.add_sub_cancel_left, List.getElem?_append_left (by simpa using hj)]
    have h0 := hc (i * 2 + 0) (by omega)
    have h1 := hc (i * 2 + 1) (by omega)
    rw [key 0 (by decide)] at h0
    rw [key 1 (by decide)] at h1
    have h0' : w.cell? ⟨b, off + i * 2, none⟩ = some (.string (hs[i]).1) := h0
    exact ⟨b, off, e, cell_lt h0', h0', by rw [Nat.add_assoc]; exact h1⟩
theorem HdAt.below {w w' : World} {v : Value} {hs : List (ByteArray × ByteArray)} (h : HdAt w v hs) (f : Below w.heap.size w w') : HdAt w' v hs := by
  obtain ⟨a, c, h1, h2⟩ := h
  refine ⟨a, c, h1, fun i hi => ?_⟩
  obtain ⟨b, off, k1, k2, k3, k4⟩ := h2 i hi
  exact ⟨b, off, k1, Nat.lt_of_lt_of_le k2 f.size, (f.cell (p := ⟨b, off + i * 2, none⟩) k2).trans k3, (f.cell (p := ⟨b, off + i * 2 + 1, none⟩) k2).trans k4⟩
/-- May a header be written? -/
def hdrB (p : ByteArray × ByteArray) : Bool := namB p.1.data.toList && (!tellB p.1.data.toList && (p.2.data.toList.all vlB && barB p.2.data.toList))
set_option maxRecDepth 20000 in
set_option maxHeartbeats 8000000 in
theorem own38 (hs : List (ByteArray × ByteArray)) (hl : hs.length ≤ 1000000000) (hz : ∀ p ∈ hs, p.1.size ≤ 1000000000 ∧ p.2.size ≤ 1000000000) (v : Value) (w : World) (hv : HdAt w v hs) : Calls Tryz.prog 38 #[v] w fun e w' => e = .returned (.bool (hs.all hdrB)) ∧ Below w.heap.size w w' := by
  obtain ⟨va, vc, rfl, hv⟩ := hv
  have HV : Hid _ := hv
  have HZ : Hid (∀ p ∈ hs, p.1.size ≤ 1000000000 ∧ p.2.size ≤ 1000000000) := hz
  clear hv hz
  obtain ⟨R, hR⟩ : ∃ R, hs.all hdrB = R := ⟨_, rfl⟩
  have HRR : Hid (hs.all hdrB = R) := hR
  rw [hR]
  clear hR
  go_enter Tryz.func38, Tryz.ntmps38
  go_wp2
  go_loopw [7] (fun u w' => ∃ i : Nat, u = .int .i64 (i : Int) ∧ i ≤ hs.length ∧ Hid ((hs.take i).all hdrB = true) ∧ Below w.heap.size w w') (fun u _ => hs.length - numOf u)
  case atStart => exact ⟨0, rfl, Nat.zero_le _, rfl, Below.refl _ _⟩
  case round =>
    obtain ⟨i, rfl, hil, HI, b0⟩ := hrel
    have hz0 := b0.size
    by_cases hlt : i < hs.length
    · have hlt' : (i : Int) < (hs.length : Int) := by omega
      obtain ⟨g, off, rfl, hg, hc0, hc1⟩ := HV.out i hlt
      obtain ⟨⟨x, y⟩, hx⟩ : ∃ p, hs[i] = p := ⟨_, rfl⟩
      have hxz := HZ.out _ (List.getElem_mem hlt)
      have HT : Hid ((hs.take (i + 1)).all hdrB = ((hs.take i).all hdrB && hdrB (x, y))) := by
        show _ = _
        rw [List.take_succ_eq_append_getElem hlt, hx, List.all_append]
        simp
      have HM : Hid (hdrB (x, y) = false → R = false) := fun h => by
        rw [← HRR.out, List.all_eq_false]
        exact ⟨(x, y), by rw [← hx]; exact List.getElem_mem _, by simp [h]⟩
      rw [hx] at hc0 hc1 hxz
      have c0 : wr.cell? ⟨g, off + i * 2, none⟩ = some (.string x) := (b0.cell (p := ⟨g, off + i * 2, none⟩) hg).trans hc0
      have c1 : wr.cell? ⟨g, off + i * 2 + 1, none⟩ = some (.string y) := (b0.cell (p := ⟨g, off + i * 2 + 1, none⟩) hg).trans hc1
      have q72 := fun W => nam72 x (by simp at hxz; omega) W
      have q73 := fun W => tell73 x (by simp at hxz; omega) W
      have q68 := fun W => every68g fn74 y (by simp at hxz; omega) W
      have q75 := fun W => bare75 y (by simp at hxz; omega) W
      have HE : Hid (hdrB (x, y) = (namB x.data.toList && (!tellB x.data.toList && (y.data.toList.all vlB && barB y.data.toList)))) := rfl
      obtain ⟨N, hN⟩ : ∃ A, namB x.data.toList = A := ⟨_, rfl⟩
      obtain ⟨T, hT⟩ : ∃ A, tellB x.data.toList = A := ⟨_, rfl⟩
      obtain ⟨A, hA⟩ : ∃ A, y.data.toList.all vlB = A := ⟨_, rfl⟩
      obtain ⟨B, hB⟩ : ∃ A, barB y.data.toList = A := ⟨_, rfl⟩
      simp only [hN, hT, hA, hB] at q72 q73 q68 q75
      rw [hN, hT, hA, hB] at HE
      clear hc0 hc1 hx hN hT hA hB hxz
      have hb2 := allocB' wr (.cells #[.string x, .string y] 66)
      have e2 : (wr.alloc (.cells #[.string x, .string y] 66)).heap[wr.heap.size]? = some (.cells #[.string x, .string y] 66 (0, 0)) := heap_alloc_new _ _
      have b2 := b0.trans (hb2.mono hz0)
      cases N with
      | false =>
        go_wp2_with (first
          | (go_at_call 72; refine (q72 _).mono ?_; rintro e w1 ⟨rfl, rfl⟩)
          | (go_at_call 73; refine (q73 _).mono ?_; rintro e w1 ⟨rfl, h1⟩; have b1 := below_of_drew h1; have e3 := (b1.block wr.heap.size (by simp)).trans e2; obtain ⟨x0, x1, x2, x3⟩ := box2 e3; have b3 := b2.trans (b1.mono (by simp; omega)); have hz3 := b3.size; clear h1)
          | (go_at_call 68; refine (q68 _).mono ?_; rintro e w2 ⟨rfl, rfl⟩)
          | (go_at_call 75; refine (q75 _).mono ?_; rintro e w3 ⟨rfl, b4⟩))
        go_ret
        exact ⟨by rw [HM.out HE.out]; rfl, b2⟩
      | true =>
        cases T with
        | true =>
          go_wp2_with (first
            | (go_at_call 72; refine (q72 _).mono ?_; rintro e w1 ⟨rfl, rfl⟩)
            | (go_at_call 73; refine (q73 _).mono ?_; rintro e w1 ⟨rfl, h1⟩; have b1 := below_of_drew h1; have e3 := (b1.block wr.heap.size (by simp)).trans e2; obtain ⟨x0, x1, x2, x3⟩ := box2 e3; have b3 := b2.trans (b1.mono (by simp; omega)); have hz3 := b3.size; clear h1)
            | (go_at_call 68; refine (q68 _).mono ?_; rintro e w2 ⟨rfl, rfl⟩)
            | (go_at_call 75; refine (q75 _).mono ?_; rintro e w3 ⟨rfl, b4⟩))
          go_ret
          exact ⟨by rw [HM.out HE.out]; rfl, b3⟩
        | false =>
          cases A with
          | false =>
            go_wp2_with (first
              | (go_at_call 72; refine (q72 _).mono ?_; rintro e w1 ⟨rfl, rfl⟩)
              | (go_at_call 73; refine (q73 _).mono ?_; rintro e w1 ⟨rfl, h1⟩; have b1 := below_of_drew h1; have e3 := (b1.block wr.heap.size (by simp)).trans e2; obtain ⟨x0, x1, x2, x3⟩ := box2 e3; have b3 := b2.trans (b1.mono (by simp; omega)); have hz3 := b3.size; clear h1)
              | (go_at_call 68; refine (q68 _).mono ?_; rintro e w2 ⟨rfl, rfl⟩)
              | (go_at_call 75; refine (q75 _).mono ?_; rintro e w3 ⟨rfl, b4⟩))
            go_ret
            exact ⟨by rw [HM.out HE.out]; rfl, b3⟩
          | true =>
            cases B with
            | false =>
              go_wp2_with (first
                | (go_at_call 72; refine (q72 _).mono ?_; rintro e w1 ⟨rfl, rfl⟩)
                | (go_at_call 73; refine (q73 _).mono ?_; rintro e w1 ⟨rfl, h1⟩; have b1 := below_of_drew h1; have e3 := (b1.block wr.heap.size (by simp)).trans e2; obtain ⟨x0, x1, x2, x3⟩ := box2 e3; have b3 := b2.trans (b1.mono (by simp; omega)); have hz3 := b3.size; clear h1)
                | (go_at_call 68; refine (q68 _).mono ?_; rintro e w2 ⟨rfl, rfl⟩)
                | (go_at_call 75; refine (q75 _).mono ?_; rintro e w3 ⟨rfl, b4⟩))
              go_ret
              exact ⟨by rw [HM.out HE.out]; rfl, b3.trans (b4.mono (by omega))⟩
            | true =>
              go_wp2_with (first
                | (go_at_call 72; refine (q72 _).mono ?_; rintro e w1 ⟨rfl, rfl⟩)
                | (go_at_call 73; refine (q73 _).mono ?_; rintro e w1 ⟨rfl, h1⟩; have b1 := below_of_drew h1; have e3 := (b1.block wr.heap.size (by simp)).trans e2; obtain ⟨x0, x1, x2, x3⟩ := box2 e3; have b3 := b2.trans (b1.mono (by simp; omega)); have hz3 := b3.size; clear h1)
                | (go_at_call 68; refine (q68 _).mono ?_; rintro e w2 ⟨rfl, rfl⟩)
                | (go_at_call 75; refine (q75 _).mono ?_; rintro e w3 ⟨rfl, b4⟩))
              go_roundw
              case rel => exact ⟨i + 1, by simp, hlt, by show _ = _; rw [HT.out, HI.out, HE.out]; rfl, b3.trans (b4.mono (by omega))⟩
              case measure => simp [numOf]; omega
    · have hlt' : ¬ (i : Int) < (hs.length : Int) := by omega
      have HT : Hid (R = true) := by
        have := HI.out
        rw [List.take_of_length_le (by omega), HRR.out] at this
        exact this
      clear HI
      go_wp2
      go_ret
      exact ⟨by rw [HT.out]; rfl, b0⟩
end Ht
end Go.Proofs.YtngfoghnopnbmaaGreatDoor
