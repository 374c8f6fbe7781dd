/- What the reference's Named does, by walking its text. -/
import Derived.Test.YtamddicoancdhaaDb
namespace Go.Proofs.Ytamddicoancdhaa
open Go.RowKit
namespace Dk
open Bw

set_option maxHeartbeats 1000000 in
theorem named_any (s : ByteArray) (w : World) (hs : s.size ≤ 140737488355328) : Calls Try.prog 18 #[.string s] w fun e w' => e = .returned (.bool (isNm s)) ∧ w' = w := by
  by_cases h0 : s.size < 1
  · have h1 : (s.size : Int) < 1 := by omega
    have e : isNm s = false := by simp [isNm]; omega
    rw [e]
    clear e
    go_enter Try.func18, Try.ntmps18
    go_wp2
    go_ret
    exact ⟨rfl, rfl⟩
  · have h1 : ¬ (s.size : Int) < 1 := by omega
    by_cases h2 : s.size ≤ 32
    · have h3 : ¬ (32 : Int) < (s.size : Int) := by omega
      have e : isNm s = s.data.toList.all fun c => nb c.toNat := by
        simp only [isNm]
        rw [decide_eq_true (by omega)]
        rfl
      rw [e]
      clear e
      have HS : Hid (s.data.toList.length = s.size) := by show _ = _; simp
      obtain ⟨R, hR⟩ : ∃ R, (s.data.toList.all fun c => nb c.toNat) = R := ⟨_, rfl⟩
      have HR : Hid ((s.data.toList.all fun c => nb c.toNat) = R) := hR
      rw [hR]
      clear hR
      go_enter Try.func18, Try.ntmps18
      go_wp2
      go_loopw [3] (fun x wr => ∃ k : Nat, x = .int .i64 (k : Int) ∧ k ≤ s.size ∧ wr = w ∧ Hid ((s.data.toList.drop k).all (fun c => nb c.toNat) = R)) (fun x _ => s.size - Dk.numOf x)
      case atStart => exact ⟨0, rfl, Nat.zero_le _, rfl, HR⟩
      case round =>
        obtain ⟨k, rfl, hk, rfl, HK⟩ := hrel
        clear HR
        by_cases hlt : k < s.size
        · have hlt' : (k : Int) < (s.size : Int) := by omega
          have hl2 : k < s.data.toList.length := by rw [HS.out]; exact hlt
          have hst : ((s.data.toList.drop k).all fun c => nb c.toNat) = (nb (s.data.toList[k]).toNat && (s.data.toList.drop (k + 1)).all fun c => nb c.toNat) := by
            rw [List.drop_eq_getElem_cons hl2]; rfl
          have hgl := get_list s k hlt hl2
          rw [← hgl] at hst
          obtain ⟨d, hd⟩ : ∃ d, (s[k]'hlt).toNat = d := ⟨_, rfl⟩
          rw [hd, HK.out] at hst
          have hgo : nb d = true → Hid (((s.data.toList.drop (k + 1)).all fun c => nb c.toNat) = R) := fun hn => by rw [hn, Bool.true_and] at hst; exact hst.symm
          have hno : nb d = false → Hid (R = false) := fun hn => by rw [hn, Bool.false_and] at hst; exact hst
          clear hst hgl
          by_cases a1 : (d : Int) < 97
          · by_cases a3 : (d : Int) < 48
            · by_cases a5 : d = 46
              · have HE := hgo (by simp [nb]; omega)
                have e5 : ((d : Int) != 46) = false := by simp [a5]
                clear hgo hno
                go_wp2
                go_roundw
                case rel => exact ⟨k + 1, by go_num, hlt, by first | trivial | rfl, HE⟩
                case measure => simp [Dk.numOf]; omega
              · have HE := hno (by simp [nb]; omega)
                have e5 : ((d : Int) != 46) = true := by simp; omega
                clear hgo hno
                go_wp2
                go_ret
                rw [HE.out]
                exact ⟨rfl, rfl⟩
            · by_cases a4 : (57 : Int) < (d : Int)
              · have HE := hno (by simp [nb]; omega)
                have e5 : ((d : Int) != 46) = true := by simp; omega
                clear hgo hno
                go_wp2
                go_ret
                rw [HE.out]
                exact ⟨rfl, rfl⟩
              · have HE := hgo (by simp [nb]; omega)
                clear hgo hno
                go_wp2
                go_roundw
                case rel => exact ⟨k + 1, by go_num, hlt, by first | trivial | rfl, HE⟩
                case measure => simp [Dk.numOf]; omega
          · by_cases a2 : (122 : Int) < (d : Int)
            · have HE := hno (by simp [nb]; omega)
              have a3 : ¬ (d : Int) < 48 := by omega
              have a4 : (57 : Int) < (d : Int) := by omega
              have e5 : ((d : Int) != 46) = true := by simp; omega
              clear hgo hno
              go_wp2
              go_ret
              rw [HE.out]
              exact ⟨rfl, rfl⟩
            · have HE := hgo (by simp [nb]; omega)
              clear hgo hno
              go_wp2
              go_roundw
              case rel => exact ⟨k + 1, by go_num, hlt, by first | trivial | rfl, HE⟩
              case measure => simp [Dk.numOf]; omega
        · have hlt' : ¬ (k : Int) < (s.size : Int) := by omega
          have HE : Hid (R = true) := by
            show _ = _
            rw [← HK.out, List.drop_of_length_le (by rw [HS.out]; omega)]
            rfl
          go_wp2
          go_ret
          rw [HE.out]
          exact ⟨rfl, rfl⟩
    · have h3 : (32 : Int) < (s.size : Int) := by omega
      have e : isNm s = false := by simp [isNm]; omega
      rw [e]
      clear e
      go_enter Try.func18, Try.ntmps18
      go_wp2
      go_ret
      exact ⟨rfl, rfl⟩
end Dk
end Go.Proofs.Ytamddicoancdhaa
