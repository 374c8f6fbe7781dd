/- What isName, pick, Same, find and Used do: contracts, by walking their text. -/
import Derived.Test.YtamddicoancdhaaDa
namespace Go.Proofs.Ytamddicoancdhaa
open Go.RowKit
namespace Dk
open Bw

/-- May a byte stand in a name? -/
def nb (c : Nat) : Bool := decide (97 ≤ c ∧ c ≤ 122) || decide (48 ≤ c ∧ c ≤ 57) || decide (c = 46)
theorem nameByte_any (c : Nat) (w : World) : Calls Try.prog 47 #[.int .u8 (c : Int)] w fun e w' => e = .returned (.bool (nb c)) ∧ w' = w := by
  by_cases h1 : (97 : Int) ≤ (c : Int)
  · by_cases h2 : (c : Int) ≤ 122
    · have e : nb c = true := by simp [nb]; omega
      rw [e]
      clear e
      go_enter Try.func47, Try.ntmps47
      go_wp2
      go_ret
      exact ⟨rfl, rfl⟩
    · have e : nb c = false := by simp [nb]; omega
      have h3 : (48 : Int) ≤ (c : Int) := by omega
      have h4 : ¬ (c : Int) ≤ 57 := by omega
      have h5 : ((c : Int) == 46) = false := by simp; omega
      rw [e]
      clear e
      go_enter Try.func47, Try.ntmps47
      go_wp2
      go_ret
      exact ⟨rfl, rfl⟩
  · by_cases h3 : (48 : Int) ≤ (c : Int)
    · by_cases h4 : (c : Int) ≤ 57
      · have e : nb c = true := by simp [nb]; omega
        rw [e]
        clear e
        go_enter Try.func47, Try.ntmps47
        go_wp2
        go_ret
        exact ⟨rfl, rfl⟩
      · have e : nb c = false := by simp [nb]; omega
        have h5 : ((c : Int) == 46) = false := by simp; omega
        rw [e]
        clear e
        go_enter Try.func47, Try.ntmps47
        go_wp2
        go_ret
        exact ⟨rfl, rfl⟩
    · have e : nb c = ((c : Int) == 46) := by
        by_cases h6 : c = 46
        · subst h6; rfl
        · have : ((c : Int) == 46) = false := by simp; omega
          rw [this]
          simp [nb]
          omega
      rw [e]
      clear e
      go_enter Try.func47, Try.ntmps47
      go_wp2
      go_ret
      exact ⟨rfl, rfl⟩
/-- Is it a name? -/
def isNm (s : ByteArray) : Bool := decide (1 ≤ s.size ∧ s.size ≤ 32) && s.data.toList.all fun c => nb c.toNat
def numOf : Value → Nat
  | .int _ n => n.toNat
  | _ => 0
theorem get_list (s : ByteArray) (k : Nat) (h : k < s.size) (h2 : k < s.data.toList.length) : s[k] = s.data.toList[k] := by
  cases s with
  | mk d => simp [ByteArray.getElem_eq_getElem_data]
theorem isName_any (s : ByteArray) (w : World) (hs : s.size ≤ 140737488355328) : Calls Try.prog 37 #[.string s] w fun e w' => e = .returned (.bool (isNm s)) ∧ w' = w := by
  by_cases h0 : s.size < 1
  · have h1 : (s.size : Int) < 1 := by omega
    have e : isNm s = false := by simp [isNm]; omega
    rw [e]
    clear e
    go_enter Try.func37, Try.ntmps37
    go_wp2
    go_ret
    exact ⟨rfl, rfl⟩
  · have h1 : ¬ (s.size : Int) < 1 := by omega
    by_cases h2 : s.size ≤ 32
    · have h3 : ¬ (32 : Int) < (s.size : Int) := by omega
      have e : isNm s = s.data.toList.all fun c => nb c.toNat := by
        simp only [isNm]
        rw [decide_eq_true (by omega)]
        rfl
      rw [e]
      clear e
      have HS : Hid (s.data.toList.length = s.size) := by show _ = _; simp
      obtain ⟨R, hR⟩ : ∃ R, (s.data.toList.all fun c => nb c.toNat) = R := ⟨_, rfl⟩
      have HR : Hid ((s.data.toList.all fun c => nb c.toNat) = R) := hR
      rw [hR]
      clear hR
      go_enter Try.func37, Try.ntmps37
      go_wp2
      go_loopw [14] (fun x wr => ∃ k : Nat, x = .int .i64 (k : Int) ∧ k ≤ s.size ∧ wr = w ∧ Hid ((s.data.toList.drop k).all (fun c => nb c.toNat) = R)) (fun x _ => s.size - numOf x)
      case atStart => exact ⟨0, rfl, Nat.zero_le _, rfl, HR⟩
      case round =>
        obtain ⟨k, rfl, hk, rfl, HK⟩ := hrel
        clear HR
        by_cases hlt : k < s.size
        · have hlt' : (k : Int) < (s.size : Int) := by omega
          have hl2 : k < s.data.toList.length := by rw [HS.out]; exact hlt
          have hst : ((s.data.toList.drop k).all fun c => nb c.toNat) = (nb (s.data.toList[k]).toNat && (s.data.toList.drop (k + 1)).all fun c => nb c.toNat) := by
            rw [List.drop_eq_getElem_cons hl2]; rfl
          have hgl := get_list s k hlt hl2
          rw [← hgl] at hst
          obtain ⟨d, hd⟩ : ∃ d, (s[k]'hlt).toNat = d := ⟨_, rfl⟩
          rw [hd] at hst
          rw [HK.out] at hst
          have hcall := fun W => nameByte_any d W
          by_cases hn : nb d = true
          · rw [hn, Bool.true_and] at hst
            have HE : Hid (((s.data.toList.drop (k + 1)).all fun c => nb c.toNat) = R) := hst.symm
            clear hst hgl
            rw [hn] at hcall
            go_wp2_with (go_at_call 47; refine (hcall _).mono ?_; rintro e w1 ⟨rfl, rfl⟩)
            go_roundw
            case rel => exact ⟨k + 1, by go_num, hlt, by first | trivial | rfl, HE⟩
            case measure => simp [numOf]; omega
          · have hn' : nb d = false := by simpa using hn
            rw [hn', Bool.false_and] at hst
            have HE : Hid (R = false) := hst
            clear hst hgl hn
            rw [hn'] at hcall
            go_wp2_with (go_at_call 47; refine (hcall _).mono ?_; rintro e w1 ⟨rfl, rfl⟩)
            go_ret
            rw [HE.out]
            exact ⟨rfl, rfl⟩
        · have hlt' : ¬ (k : Int) < (s.size : Int) := by omega
          have HE : Hid (R = true) := by
            show _ = _
            rw [← HK.out, List.drop_of_length_le (by rw [HS.out]; omega)]
            rfl
          go_wp2
          go_ret
          rw [HE.out]
          exact ⟨rfl, rfl⟩
    · have h3 : (32 : Int) < (s.size : Int) := by omega
      have e : isNm s = false := by simp [isNm]; omega
      rw [e]
      clear e
      go_enter Try.func37, Try.ntmps37
      go_wp2
      go_ret
      exact ⟨rfl, rfl⟩
theorem find_off (w : World) (d : Ds) (s : ByteArray) (h : DiskAt w d) (ho : d.on = false) : Calls Try.prog 41 #[.pointer (some ⟨d.db, 0, none⟩), .string s] w fun e w' => e = .returned (.tuple #[.pointer none, code 11]) ∧ w' = w := by
  have c2 := h.c2
  rw [ho] at c2
  go_enter Try.func41, Try.ntmps41
  go_wp2
  go_ret2
  exact ⟨rfl, rfl⟩
theorem find_none (w : World) (d : Ds) (s : ByteArray) (h : DiskAt w d) (ho : d.on = true) (hn : ∀ f ∈ d.fs, f.nm ≠ s) (hs : s.size ≤ 140737488355328) : Calls Try.prog 41 #[.pointer (some ⟨d.db, 0, none⟩), .string s] w fun e w' => e = .returned (.tuple #[.pointer none, code 9]) ∧ w' = w := by
  have c1 := h.c1
  have c2 := h.c2
  rw [ho] at c2
  have hl := h.map.miss hn (by omega)
  go_enter Try.func41, Try.ntmps41
  go_wp2
  go_ret2
  exact ⟨rfl, rfl⟩
theorem find_hit (w : World) (d : Ds) (f : FR) (h : DiskAt w d) (ho : d.on = true) (hf : f ∈ d.fs) : Calls Try.prog 41 #[.pointer (some ⟨d.db, 0, none⟩), .string f.nm] w fun e w' => e = .returned (.tuple #[.pointer (some ⟨f.fb, 0, none⟩), .nilIface]) ∧ w' = w := by
  have c1 := h.c1
  have c2 := h.c2
  rw [ho] at c2
  have hl := h.map.hit hf (by have := h.short f hf; omega)
  go_enter Try.func41, Try.ntmps41
  go_wp2
  go_ret2
  exact ⟨rfl, rfl⟩
end Dk
end Go.Proofs.Ytamddicoancdhaa
