/- A byte of a target, coded or plain. -/
import Derived.Test.YtngfoghnopnbmaaGreatDoorSq
namespace Go.Proofs.YtngfoghnopnbmaaGreatDoor
open Go.RowKit
namespace Ht
open Bw

def rcO : Option (UInt8 × Nat) → Value
  | none => .tuple #[.int .u8 0, .int .i64 0, .bool false]
  | some (d, z) => .tuple #[.int .u8 (d.toNat : Int), .int .i64 (z : Int), .bool true]
theorem or8 (x y : Int) (hx : 0 ≤ x ∧ x < 16) (hy : 0 ≤ y ∧ y < 16) : bits .or .u8 (x * 16) y = x * 16 + y := by
  obtain ⟨X, rfl⟩ : ∃ X : Nat, x = X := ⟨x.toNat, by omega⟩
  obtain ⟨Y, rfl⟩ : ∃ Y : Nat, y = Y := ⟨y.toNat, by omega⟩
  have h1 : X < 16 := by omega
  have h2 : Y < 16 := by omega
  have key : ∀ a : Fin 16, ∀ b : Fin 16, bits .or .u8 (((a.val : Nat) : Int) * 16) ((b.val : Nat) : Int) = ((a.val : Nat) : Int) * 16 + ((b.val : Nat) : Int) := by decide +kernel
  exact key ⟨X, h1⟩ ⟨Y, h2⟩
set_option maxRecDepth 20000 in
set_option maxHeartbeats 2000000 in
theorem coded122 (s : ByteArray) (c : UInt8) (r : List UInt8) (hl : s.data.toList = c :: r) (w : World) : Calls Tryz.prog 122 #[.string s] w fun e w' => e = .returned (rcO (rcM (c :: r))) ∧ ∃ k, w' = w.drewN k := by
  have hsz : s.size = r.length + 1 := by rw [Lib.size_eq, hl]; rfl
  have h0 : 0 < s.size := by omega
  have h0' : (0 : Int) < (s.size : Int) := by omega
  have hc : s[0]'h0 = c := by
    have h := get_data h0
    rw [hl] at h
    simpa using h.symm
  have qt := tg69 c
  cases ht : tgB c with
  | false =>
    have e0 : rcM (c :: r) = none := by simp [rcM, ht]
    rw [e0]
    simp only [ht] at qt
    clear hsz hl ht e0
    go_enter Tryz.func122, Tryz.ntmps122
    go_wp2_with (go_at_call 69; refine (qt _).mono ?_; rintro e w1 ⟨rfl, rfl⟩)
    go_ret3
    exact ⟨rfl, 0, rfl⟩
  | true =>
    simp only [ht] at qt
    by_cases h35 : c = 35
    · subst h35
      have e0 : rcM (35 :: r) = none := by simp [rcM]
      rw [e0]
      clear hsz hl ht e0
      go_enter Tryz.func122, Tryz.ntmps122
      go_wp2_with (go_at_call 69; refine (qt _).mono ?_; rintro e w1 ⟨rfl, rfl⟩)
      go_ret3
      exact ⟨rfl, 0, rfl⟩
    · have n35 : ((c.toNat : Int) == 35) = false := u8_ne h35
      by_cases h37 : c = 37
      · subst h37
        by_cases h3 : (s.size : Int) < 3
        · have e0 : rcM (37 :: r) = none := by
            match r, hsz with
            | [], _ => simp [rcM]
            | [_], _ => simp [rcM]
            | _ :: _ :: _, hsz => simp at hsz; omega
          rw [e0]
          clear hsz hl ht e0
          go_enter Tryz.func122, Tryz.ntmps122
          go_wp2_with (go_at_call 69; refine (qt _).mono ?_; rintro e w1 ⟨rfl, rfl⟩)
          go_ret3
          exact ⟨rfl, 0, rfl⟩
        · obtain ⟨a, b, r', rfl⟩ : ∃ a b r', r = a :: b :: r' := by
            match r, hsz with
            | [], hsz => simp at hsz; omega
            | [_], hsz => simp at hsz; omega
            | a :: b :: r', _ => exact ⟨a, b, r', rfl⟩
          have h1 : 1 < s.size := by omega
          have h2 : 2 < s.size := by omega
          have h1' : (1 : Int) < (s.size : Int) := by omega
          have h2' : (2 : Int) < (s.size : Int) := by omega
          have ha : s[1]'h1 = a := by
            have h := get_data h1
            rw [hl] at h
            simpa using h.symm
          have hb : s[2]'h2 = b := by
            have h := get_data h2
            rw [hl] at h
            simpa using h.symm
          have qa := hx138 a
          have qb := hx138 b
          by_cases hA : hxB a = true
          · by_cases hB : hxB b = true
            · have e0 : rcM (37 :: a :: b :: r') = some (UInt8.ofNat ((dvN a).toNat * 16 + (dvN b).toNat), 3) := by simp [rcM, hA, hB, ht]
              have da := dvN_bd hA
              have db := dvN_bd hB
              have e1 : ((UInt8.ofNat ((dvN a).toNat * 16 + (dvN b).toNat)).toNat : Int) = dvN a * 16 + dvN b := by
                rw [UInt8.toNat_ofNat']
                omega
              rw [e0]
              show Calls Tryz.prog 122 #[.string s] w fun e w' => e = .returned (.tuple #[.int .u8 ((UInt8.ofNat ((dvN a).toNat * 16 + (dvN b).toNat)).toNat : Int), .int .i64 3, .bool true]) ∧ ∃ k, w' = w.drewN k
              rw [e1]
              simp only [hA, hB] at qa qb
              have eo := or8 (dvN a) (dvN b) da db
              have ew : IntKind.u8.wrap (dvN a * 16) = dvN a * 16 := wrap8 _ _ rfl (by omega) (by omega)
              have HA : Hid (hxB a = true) := hA
              have HB : Hid (hxB b = true) := hB
              clear hsz hl ht e0 e1 hA hB
              go_enter Tryz.func122, Tryz.ntmps122
              go_wp2_with (first
                | (go_at_call 69; refine (qt _).mono ?_; rintro e w1 ⟨rfl, rfl⟩)
                | (have hq := K1; go_at_call 138; refine (qb _).mono ?_; rintro e w1 ⟨rfl, rfl⟩; clear hq)
                | (go_at_call 138; refine (qa _).mono ?_; rintro e w1 ⟨rfl, rfl⟩; have K1 := trivial))
              go_quiet ((go_at_call 149; exact Calls.quiet_of_same (dv149 _ (by first | exact HA.out | exact HB.out) _)))
              go_wp2
              go_ret3
              exact ⟨rfl, _, rfl⟩
            · have e0 : rcM (37 :: a :: b :: r') = none := by simp [rcM, hB]
              rw [e0]
              have hB' : hxB b = false := by simpa using hB
              simp only [hA, hB'] at qa qb
              clear hsz hl ht e0 hA hB hB'
              go_enter Tryz.func122, Tryz.ntmps122
              go_wp2_with (first
                | (go_at_call 69; refine (qt _).mono ?_; rintro e w1 ⟨rfl, rfl⟩)
                | (have hq := K1; go_at_call 138; refine (qb _).mono ?_; rintro e w1 ⟨rfl, rfl⟩; clear hq)
                | (go_at_call 138; refine (qa _).mono ?_; rintro e w1 ⟨rfl, rfl⟩; have K1 := trivial))
              go_ret3
              exact ⟨rfl, 0, rfl⟩
          · have e0 : rcM (37 :: a :: b :: r') = none := by simp [rcM, hA]
            rw [e0]
            have hA' : hxB a = false := by simpa using hA
            simp only [hA'] at qa
            clear hsz hl ht e0 hA hA'
            go_enter Tryz.func122, Tryz.ntmps122
            go_wp2_with (first
              | (go_at_call 69; refine (qt _).mono ?_; rintro e w1 ⟨rfl, rfl⟩)
              | (go_at_call 138; refine (qa _).mono ?_; rintro e w1 ⟨rfl, rfl⟩))
            go_ret3
            exact ⟨rfl, 0, rfl⟩
      · have e0 : rcM (c :: r) = some (c, 1) := by simp [rcM, ht, h35, h37]
        rw [e0]
        have n37 : ((c.toNat : Int) == 37) = false := u8_ne h37
        clear hsz hl ht e0
        go_enter Tryz.func122, Tryz.ntmps122
        go_wp2_with (go_at_call 69; refine (qt _).mono ?_; rintro e w1 ⟨rfl, rfl⟩)
        go_ret3
        exact ⟨rfl, 0, rfl⟩
end Ht
end Go.Proofs.YtngfoghnopnbmaaGreatDoor
