/- Texts held against each other with the letters' cases as one. -/
import Derived.Test.YtngfoghnopnbmaaGreatDoorTc
namespace Go.Proofs.YtngfoghnopnbmaaGreatDoor
open Go.RowKit
namespace Ht
open Bw

/-- A byte, a great letter as a small one. -/
def smallU (c : UInt8) : UInt8 := if grB c = true then c + 32 else c
theorem gr_bd {c : UInt8} (h : grB c = true) : 65 ≤ c.toNat ∧ c.toNat ≤ 90 := by
  simpa [grB, inB] using h
theorem smallU_gr {c : UInt8} (h : grB c = true) : ((smallU c).toNat : Int) = (c.toNat : Int) + 32 := by
  have := gr_bd h
  unfold smallU
  rw [if_pos h, UInt8.toNat_add]
  have : (32 : UInt8).toNat = 32 := rfl
  omega
set_option maxHeartbeats 1000000 in
theorem small81 (c : UInt8) (w : World) : Calls Tryz.prog 81 #[.int .u8 (c.toNat : Int)] w fun e w' => e = .returned (.int .u8 ((smallU c).toNat : Int)) ∧ w' = w := by
  have q := gr118 c
  cases h : grB c with
  | true =>
    have e0 := smallU_gr h
    have hb := gr_bd h
    obtain ⟨x, hx⟩ : ∃ x : Int, (c.toNat : Int) = x := ⟨_, rfl⟩
    rw [e0]
    simp only [h, hx] at q ⊢
    have hb' : 65 ≤ x ∧ x ≤ 90 := by omega
    clear hb h e0 hx
    have e1 : IntKind.u8.wrap (x - 65) = x - 65 := wrap8 _ _ rfl (by omega) (by omega)
    have e2 : IntKind.u8.wrap (x - 65 + 97) = x + 32 := wrap8 _ _ (by omega) (by omega) (by omega)
    go_enter Tryz.func81, Tryz.ntmps81
    go_wp2_with (go_at_call 118; refine (q _).mono ?_; rintro e w1 ⟨rfl, rfl⟩)
    go_ret
    exact ⟨by simp <;> omega, rfl⟩
  | false =>
    have e0 : smallU c = c := by unfold smallU; rw [if_neg (by rw [h]; decide)]
    rw [e0]
    simp only [h] at q
    clear h e0
    go_enter Tryz.func81, Tryz.ntmps81
    go_wp2_with (go_at_call 118; refine (q _).mono ?_; rintro e w1 ⟨rfl, rfl⟩)
    go_ret
    exact ⟨rfl, rfl⟩
/-- Are two texts the same, the letters' cases as one? -/
def sameL (a b : List UInt8) : Bool := decide (a.map smallU = b.map smallU)
theorem sameL_get {a b : List UInt8} (h : a.length = b.length) : sameL a b = true ↔ ∀ j (h1 : j < a.length), smallU a[j] = smallU (b[j]'(by omega)) := by
  unfold sameL
  rw [decide_eq_true_eq]
  constructor
  · intro h2 j h1
    have h3 : (a.map smallU)[j]? = (b.map smallU)[j]? := by rw [h2]
    rw [List.getElem?_map, List.getElem?_map, List.getElem?_eq_getElem h1, List.getElem?_eq_getElem (by omega)] at h3
    simpa using h3
  · intro h2
    apply List.ext_getElem (by simpa using h)
    intro j h3 h4
    rw [List.getElem_map, List.getElem_map]
    exact h2 j (by simpa using h3)
theorem drew_more {w w' : World} (h : ∃ k, w' = w.drewN k) (n : Nat) : ∃ k, w'.drewN n = w.drewN k := by
  obtain ⟨k, rfl⟩ := h
  exact ⟨k + n, by simp⟩
set_option maxRecDepth 20000 in
set_option maxHeartbeats 2000000 in
theorem same44 (a b : ByteArray) (ha : a.size ≤ 9223372036854775806) (w : World) : Calls Tryz.prog 44 #[.string a, .string b] w fun e w' => e = .returned (.bool (sameL a.data.toList b.data.toList)) ∧ ∃ k, w' = w.drewN k := by
  by_cases hs : a.size = b.size
  · have HSL : Hid (a.data.toList.length = a.size ∧ b.data.toList.length = b.size) := by constructor <;> rw [Lib.size_eq]
    have HG : Hid (sameL a.data.toList b.data.toList = true ↔ ∀ j (h1 : j < a.size), smallU (a[j]'h1) = smallU (b[j]'(by omega))) := by
      show _ ↔ _
      rw [sameL_get (by rw [HSL.out.1, HSL.out.2, hs])]
      constructor
      · intro h j h1
        exact h j (by rw [HSL.out.1]; exact h1)
      · intro h j h1
        exact h j (by rw [← HSL.out.1]; exact h1)
    go_enter Tryz.func44, Tryz.ntmps44
    go_wp2
    go_loopw [13] (fun u w' => ∃ (i : Nat), u = .int .i64 (i : Int) ∧ i ≤ a.size ∧ Hid (∀ j (h1 : j < a.size), j < i → smallU (a[j]'h1) = smallU (b[j]'(by omega))) ∧ Hid (∃ k, w' = w.drewN k)) (fun u _ => a.size - numOf u)
    case atStart => exact ⟨0, rfl, Nat.zero_le _, (fun _ _ h => by omega), ⟨0, rfl⟩⟩
    case round =>
      obtain ⟨i, rfl, hil, HI, HW⟩ := hrel
      by_cases hlt : i < a.size
      · have hlt' : (i : Int) < (a.size : Int) := by omega
        have hltb : i < b.size := by omega
        have hltb' : (i : Int) < (b.size : Int) := by omega
        obtain ⟨c, hc⟩ : ∃ c, a[i]'hlt = c := ⟨_, rfl⟩
        obtain ⟨d, hd⟩ : ∃ d, b[i]'hltb = d := ⟨_, rfl⟩
        by_cases hcd : smallU c = smallU d
        · have HI' : Hid (∀ j (h1 : j < a.size), j < i + 1 → smallU (a[j]'h1) = smallU (b[j]'(by omega))) := fun j h1 hj => by
            by_cases hji : j = i
            · subst hji
              rw [hc, hd]
              exact hcd
            · exact HI.out j h1 (by omega)
          rw [← hc, ← hd] at hcd
          clear HI HG HSL
          simp only [hc, hd] at hcd
          go_wp2
          go_quiet ((go_at_call 81; exact Calls.quiet_of_same (small81 _ _)))
          go_wp2
          go_roundw
          case rel => exact ⟨i + 1, by simp, hlt, HI', drew_more HW.out _⟩
          case measure => simp [numOf]; omega
        · have HF : Hid (sameL a.data.toList b.data.toList = false) := by
            show _ = _
            rw [Bool.eq_false_iff]
            intro h
            apply hcd
            have := HG.out.1 h i hlt
            rwa [hc, hd] at this
          have hne := u8_ne hcd
          clear hcd HI HG HSL
          go_wp2
          go_quiet ((go_at_call 81; exact Calls.quiet_of_same (small81 _ _)))
          go_wp2
          go_ret
          exact ⟨by rw [HF.out]; rfl, drew_more HW.out _⟩
      · have hlt' : ¬ (i : Int) < (a.size : Int) := by omega
        have HT : Hid (sameL a.data.toList b.data.toList = true) := HG.out.2 (fun j h1 => HI.out j h1 (by omega))
        clear HI HG HSL
        go_wp2
        go_ret
        exact ⟨by rw [HT.out]; rfl, HW.out⟩
  · have hf : sameL a.data.toList b.data.toList = false := by
      unfold sameL
      rw [decide_eq_false_iff_not]
      intro h
      have := congrArg List.length h
      rw [List.length_map, List.length_map, ← Lib.size_eq, ← Lib.size_eq] at this
      exact hs this
    rw [hf]
    have hs' : ((a.size : Int) == (b.size : Int)) = false := beq_eq_false_iff_ne.2 (by omega)
    go_enter Tryz.func44, Tryz.ntmps44
    go_wp2
    go_ret
    exact ⟨rfl, 0, rfl⟩
end Ht
end Go.Proofs.YtngfoghnopnbmaaGreatDoor
