/- What strings.Clone, utf.lengthWithin, utf.Cut and utf.Pair do: contracts, by walking their text. -/
import Derived.Test.YtpjlpinjjklhhaaDoorBad
import Derived.Test.YtpjlpinjjklhhaaDoorLay
namespace Go.Proofs.YtpjlpinjjklhhaaDoor
open Go.RowKit

theorem info5 : (Tryd.prog.info? 5).map (fun i => (i.zero, i.size, i.bytes)) = some (some (.int .u8 0), 1, 1) := by kernel_rfl
/-- internal/stringslite.Clone: the library's own contract. -/
theorem clone_any (s : ByteArray) (w : World) (hlim : s.size ≤ 281474976710656) :
    Calls Tryd.prog 45 #[.string s] w fun e w' => e = .returned (.string s) ∧ Below w.heap.size w w' :=
  Any.stringslite_Clone laysM316 s w hlim
theorem Clone_any (s : ByteArray) (w : World) (hlim : s.size ≤ 281474976710656) :
    Calls Tryd.prog 32 #[.string s] w fun e w' => e = .returned (.string s) ∧ Below w.heap.size w w' := by
  go_enter Tryd.func32, Tryd.ntmps32
  go_wp2_with (go_at_call 45; refine (clone_any _ _ hlim).mono ?_; rintro e w' ⟨rfl, hbel⟩)
  go_ret
  exact ⟨rfl, hbel⟩

/-- How far whole characters reach within most bytes: from pos on, end being the last place found. -/
def lenF (s : ByteArray) (most : Int) : Nat → Nat → Nat → Nat
  | 0, _, e => e
  | f + 1, pos, e => if pos < s.size then (if most < pos then e else lenF s most f (pos + (Utf8.decode s pos).2) pos) else e
def lenW (s : ByteArray) (most : Int) : Nat := if (s.size : Int) ≤ most then s.size else lenF s most s.size 0 0

theorem lenF_le (s : ByteArray) (most : Int) : ∀ f pos e, e ≤ s.size → lenF s most f pos e ≤ s.size
  | 0, _, _, h => h
  | f + 1, pos, e, h => by
    unfold lenF
    repeat' split
    · exact h
    · exact lenF_le s most f _ _ (by omega)
    · exact h
theorem lenW_le (s : ByteArray) (most : Int) : lenW s most ≤ s.size := by
  unfold lenW
  split
  · exact Nat.le_refl _
  · exact lenF_le s most _ _ _ (Nat.zero_le _)

set_option maxHeartbeats 4000000 in
theorem length_any (s : ByteArray) (most : Int) (w : World) (_hs : s.size ≤ 140737488351232) :
    Calls Tryd.prog 33 #[.string s, .int .i64 most] w fun e w' => e = .returned (.int .i64 (lenW s most)) ∧ Below w.heap.size w w' := by
  by_cases hm : (s.size : Int) ≤ most
  · have e : lenW s most = s.size := by simp [lenW, hm]
    go_enter Tryd.func33, Tryd.ntmps33
    go_wp2
    go_ret
    rw [e]
    exact ⟨rfl, Below.refl _ _⟩
  · have e : lenW s most = lenF s most s.size 0 0 := by simp [lenW, hm]
    rw [e]
    clear e
    go_enter Tryd.func33, Tryd.ntmps33
    go_wp2
    go_loopw [5] (fun x w' => ∃ (pos f e : Nat), w' = w.iter s pos ∧ x = .int .i64 (e : Int) ∧ lenF s most f pos e = lenF s most s.size 0 0 ∧ s.size ≤ pos + f) (fun _ w' => s.size - w'.iterPos w.heap.size)
    case atStart => exact ⟨0, s.size, 0, rfl, rfl, rfl, by omega⟩
    case round =>
      obtain ⟨pos, f, e, rfl, rfl, hb, hf⟩ := hrel
      by_cases hp : pos < s.size
      · have hnx : ∀ ty, (Instr.next (.pointer (some ⟨w.heap.size, 0, none⟩)) true ty).run Tryd.prog (w.iter s pos) = _ := fun ty => run_next_any w s pos ty hp
        have hwd := Lib.decode_width_pos s pos hp
        obtain ⟨f, rfl⟩ : ∃ g, f = g + 1 := ⟨f - 1, by omega⟩
        by_cases hq : most < (pos : Int)
        · have HB : Hid ((e : Int) = (lenF s most s.size 0 0 : Nat)) := by show _ = _; rw [← hb]; simp [lenF, hp, hq]
          clear hb
          go_wp2
          go_ret
          rw [HB.out]
          exact ⟨rfl, below_iter _ _ _⟩
        · have HB : Hid (lenF s most f (pos + (Utf8.decode s pos).2) pos = lenF s most s.size 0 0) := by show _ = _; rw [← hb]; simp [lenF, hp, hq]
          clear hb
          go_wp2
          go_roundw
          case rel => exact ⟨_, f, pos, rfl, rfl, HB.out, by omega⟩
          case measure => simp; omega
      · have hnx : ∀ ty, (Instr.next (.pointer (some ⟨w.heap.size, 0, none⟩)) true ty).run Tryd.prog (w.iter s pos) = _ := fun ty => run_next_end w s pos ty hp
        have HB : Hid ((e : Int) = (lenF s most s.size 0 0 : Nat)) := by show _ = _; rw [← hb]; cases f <;> simp [lenF, hp]
        clear hb
        go_wp2
        go_ret
        rw [HB.out]
        exact ⟨rfl, below_iter _ _ _⟩

theorem cut_neg (s : ByteArray) (most : Int) (w : World) (hm : most < 0) :
    Calls Tryd.prog 17 #[.string s, .int .i64 most] w fun e w' => e = .returned (.tuple #[.string ⟨#[]⟩, .iface 32 (.int .i64 1)]) ∧ w' = w := by
  go_enter Tryd.func17, Tryd.ntmps17
  go_wp2
  go_ret2
  exact ⟨rfl, rfl⟩
theorem cut_bad (s : ByteArray) (most : Int) (w : World) (hs : s.size ≤ 140737488351232) (hm : 0 ≤ most) (hb : badAt s 0 ≠ -1) :
    Calls Tryd.prog 17 #[.string s, .int .i64 most] w fun e w' => ∃ v, e = .returned (.tuple #[.string ⟨#[]⟩, v]) ∧ FaultAt w.heap.size (badAt s 0) v w' ∧ Below w.heap.size w w' := by
  go_enter Tryd.func17, Tryd.ntmps17
  go_wp2_with (go_at_call 24; refine (sound_bad _ _ hs hb).mono ?_; rintro e w' ⟨v, rfl, ⟨b, rfl, hb1, hb2⟩, hbel⟩)
  go_ret2
  exact ⟨_, rfl, ⟨b, rfl, hb1, hb2⟩, hbel⟩
theorem cut_ok (s : ByteArray) (most : Int) (w : World) (hs : s.size ≤ 140737488351232) (hm : 0 ≤ most) (hb : badAt s 0 = -1) :
    Calls Tryd.prog 17 #[.string s, .int .i64 most] w fun e w' => e = .returned (.tuple #[.string (s.extract 0 (lenW s most)), .nilIface]) ∧ Below w.heap.size w w' := by
  have hl := lenW_le s most
  have he : (s.extract 0 (lenW s most)).size ≤ 281474976710656 := by simp; omega
  go_enter Tryd.func17, Tryd.ntmps17
  go_wp2_with (first | (go_at_call 24; refine (sound_ok _ _ hs hb).mono ?_; rintro e w1 ⟨rfl, hb1⟩) | (go_at_call 33; refine (length_any _ _ _ hs).mono ?_; rintro e w2 ⟨rfl, hb2⟩) | (go_at_call 32; refine (Clone_any _ _ he).mono ?_; rintro e w3 ⟨rfl, hb3⟩))
  go_ret2
  exact ⟨rfl, (hb1.trans (hb2.mono hb1.size)).trans (hb3.mono (Nat.le_trans hb1.size hb2.size))⟩

theorem pair_no (h l : Int) (w : World) (hn : h < 55296 ∨ 56320 ≤ h ∨ l < 56320 ∨ 57343 < l) :
    Calls Tryd.prog 22 #[.int .i64 h, .int .i64 l] w fun e w' => e = .returned (.tuple #[.int .i64 0, .iface 32 (.int .i64 1)]) ∧ w' = w := by
  by_cases h1 : h < 55296
  · go_enter Tryd.func22, Tryd.ntmps22
    go_wp2
    go_ret2
    exact ⟨rfl, rfl⟩
  · by_cases h2 : 56320 ≤ h
    · go_enter Tryd.func22, Tryd.ntmps22
      go_wp2
      go_ret2
      exact ⟨rfl, rfl⟩
    · by_cases h3 : l < 56320
      · go_enter Tryd.func22, Tryd.ntmps22
        go_wp2
        go_ret2
        exact ⟨rfl, rfl⟩
      · have h4 : 57343 < l := by omega
        go_enter Tryd.func22, Tryd.ntmps22
        go_wp2
        go_ret2
        exact ⟨rfl, rfl⟩
theorem pair_yes (h l : Int) (w : World) (h1 : 55296 ≤ h) (h2 : h < 56320) (h3 : 56320 ≤ l) (h4 : l ≤ 57343) :
    Calls Tryd.prog 22 #[.int .i64 h, .int .i64 l] w fun e w' => e = .returned (.tuple #[.int .i64 (65536 + (h - 55296) * 1024 + l - 56320), .nilIface]) ∧ w' = w := by
  go_enter Tryd.func22, Tryd.ntmps22
  go_wp2
  go_ret2
  exact ⟨rfl, rfl⟩
end Go.Proofs.YtpjlpinjjklhhaaDoor
