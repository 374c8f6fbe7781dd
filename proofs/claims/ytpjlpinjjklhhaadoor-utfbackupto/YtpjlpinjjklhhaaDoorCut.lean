/- What strings.Clone, utf.lengthWithin, utf.Cut and utf.Pair do: contracts, by walking their text. -/
import Derived.Test.YtpjlpinjjklhhaaDoorBad
import Derived.Lib.BufferWrite
import Derived.Lib.UnsafeStr
import Derived.Laws.MakeOwn
namespace Go.Proofs.YtpjlpinjjklhhaaDoor
open Go.RowKit

theorem info5 : (Tryd.prog.info? 5).map (fun i => (i.zero, i.size, i.bytes)) = some (some (.int .u8 0), 1, 1) := by kernel_rfl

set_option maxHeartbeats 4000000 in
set_option maxRecDepth 100000 in
theorem clone_any (s : ByteArray) (w : World) (hlim : s.size ≤ 281474976710656) :
    Calls Tryd.prog 45 #[.string s] w fun e w' => e = .returned (.string s) ∧ Below w.heap.size w w' := by
  by_cases h0 : s.size = 0
  · have hs : s = ⟨#[]⟩ := by
      apply ByteArray.ext
      exact Array.eq_empty_of_size_eq_zero h0
    subst hs
    go_enter Tryd.func45, Tryd.ntmps45
    go_wp2
    go_ret
    exact ⟨rfl, Below.refl _ _⟩
  · obtain ⟨i0, hi, hz0, hz1, hz2⟩ := info_parts info5
    have hinfo : (Tryd.prog.info? 5).map (·.size) = some 1 := by rw [hi]; simp [hz1]
    have hco : Tryd.prog.cellsOf 5 = 1 := by simp [Program.cellsOf, hi, hz1]
    obtain ⟨M, hM⟩ : ∃ M, M = madeCells (Value.int .u8 0).cells (((s.size : Nat) : Int).toNat * i0.size) := ⟨_, rfl⟩
    have hMs : M.size = s.size := by rw [hM, size_madeCells, hz1]; simp
    have hmk : ∀ W : World, (Instr.makeSlice 62 (.int .i64 (s.size : Int)) (.int .i64 (s.size : Int))).run Tryd.prog W = .ok (.slice (some ⟨W.heap.size, 0, none⟩) s.size s.size) (W.alloc (.cells M 5)) := fun W => by
      have h := run_make (P := Tryd.prog) W 62 5 i0 (.int .u8 0) Tryd.underlying62 hi hz0 .i64 .i64 (s.size : Int) (s.size : Int) (by omega) (by omega) (by rw [hz2]; omega) (by omega)
      rw [← hM] at h
      simpa using h
    clear hM
    have hcp := Lib.run_copy_row_string (P := Tryd.prog) (w.alloc (.cells M 5)) 62 9 3 5 w.heap.size 0 s.size s.size s M 5 Tryd.underlying62 hinfo (heap_alloc_new w _) (Nat.le_refl _) (by omega)
    obtain ⟨Y, hY⟩ : ∃ Y, Y = (M.toList.take 0 ++ Lib.byteCells s.data.toList ++ M.toList.drop (0 + s.size)).toArray := ⟨_, rfl⟩
    rw [← hY] at hcp
    have hYl : Y.toList = Lib.byteCells s.data.toList := by
      rw [hY, List.toList_toArray, List.take_zero, List.nil_append, List.drop_of_length_le (by rw [Array.length_toList]; omega), List.append_nil]
    have hYs : Y.size = s.size := by rw [← Array.length_toList, hYl, Lib.byteCells_length, ← Lib.size_eq]
    have hgY : ((w.alloc (.cells M 5)).setRow w.heap.size Y).heap[w.heap.size]? = some (.cells Y 5 (0, 0)) := setRow_heap _ _ M _ 5 (0, 0) (heap_alloc_new w _)
    have hne : s.data.toList ≠ [] := fun e => h0 (by rw [Lib.size_eq, e]; rfl)
    have hUS := Lib.run_unsafeString_row (P := Tryd.prog) ((w.alloc (.cells M 5)).setRow w.heap.size Y) 102 3 9 5 Tryd.underlying102 hco w.heap.size Y.size (by unfold World.shape?; rw [hgY]) s.data.toList hne (by rw [← Lib.size_eq]; omega) (by rw [← Lib.size_eq]; omega)
      (fun j x hx => Lib.cells_of_row hgY Y.size j _ (by rw [List.take_of_length_le (by rw [Array.length_toList]; exact Nat.le_refl _), hYl]; simp [Lib.byteCells, hx]))
    rw [← Lib.size_eq] at hUS
    clear hY
    go_enter Tryd.func45, Tryd.ntmps45
    go_wp2
    go_ret
    have hb1 : Below w.heap.size w (w.alloc (.cells M 5)) := (Below.refl _ w).alloc (Nat.le_refl _) _
    have hb2 : Below w.heap.size (w.alloc (.cells M 5)) ((w.alloc (.cells M 5)).setRow w.heap.size Y) := ⟨rfl, rfl, rfl, by simp, fun k hk => setRow_other _ _ _ _ (by omega)⟩
    exact ⟨rfl, Lib.below_freeze (hb1.trans hb2) (p := ⟨w.heap.size, 0, none⟩) (Nat.le_refl _) _⟩
theorem Clone_any (s : ByteArray) (w : World) (hlim : s.size ≤ 281474976710656) :
    Calls Tryd.prog 32 #[.string s] w fun e w' => e = .returned (.string s) ∧ Below w.heap.size w w' := by
  go_enter Tryd.func32, Tryd.ntmps32
  go_wp2_with (go_at_call 45; refine (clone_any _ _ hlim).mono ?_; rintro e w' ⟨rfl, hbel⟩)
  go_ret
  exact ⟨rfl, hbel⟩

/-- How far whole characters reach within most bytes: from pos on, end being the last place found. -/
def lenF (s : ByteArray) (most : Int) : Nat → Nat → Nat → Nat
  | 0, _, e => e
  | f + 1, pos, e => if pos < s.size then (if most < pos then e else lenF s most f (pos + (Utf8.decode s pos).2) pos) else e
def lenW (s : ByteArray) (most : Int) : Nat := if (s.size : Int) ≤ most then s.size else lenF s most s.size 0 0

theorem lenF_le (s : ByteArray) (most : Int) : ∀ f pos e, e ≤ s.size → lenF s most f pos e ≤ s.size
  | 0, _, _, h => h
  | f + 1, pos, e, h => by
    unfold lenF
    repeat' split
    · exact h
    · exact lenF_le s most f _ _ (by omega)
    · exact h
theorem lenW_le (s : ByteArray) (most : Int) : lenW s most ≤ s.size := by
  unfold lenW
  split
  · exact Nat.le_refl _
  · exact lenF_le s most _ _ _ (Nat.zero_le _)

set_option maxHeartbeats 4000000 in
theorem length_any (s : ByteArray) (most : Int) (w : World) (_hs : s.size ≤ 140737488351232) :
    Calls Tryd.prog 33 #[.string s, .int .i64 most] w fun e w' => e = .returned (.int .i64 (lenW s most)) ∧ Below w.heap.size w w' := by
  by_cases hm : (s.size : Int) ≤ most
  · have e : lenW s most = s.size := by simp [lenW, hm]
    go_enter Tryd.func33, Tryd.ntmps33
    go_wp2
    go_ret
    rw [e]
    exact ⟨rfl, Below.refl _ _⟩
  · have e : lenW s most = lenF s most s.size 0 0 := by simp [lenW, hm]
    rw [e]
    clear e
    go_enter Tryd.func33, Tryd.ntmps33
    go_wp2
    go_loopw [5] (fun x w' => ∃ (pos f e : Nat), w' = w.iter s pos ∧ x = .int .i64 (e : Int) ∧ lenF s most f pos e = lenF s most s.size 0 0 ∧ s.size ≤ pos + f) (fun _ w' => s.size - w'.iterPos w.heap.size)
    case atStart => exact ⟨0, s.size, 0, rfl, rfl, rfl, by omega⟩
    case round =>
      obtain ⟨pos, f, e, rfl, rfl, hb, hf⟩ := hrel
      by_cases hp : pos < s.size
      · have hnx : ∀ ty, (Instr.next (.pointer (some ⟨w.heap.size, 0, none⟩)) true ty).run Tryd.prog (w.iter s pos) = _ := fun ty => run_next_any w s pos ty hp
        have hwd := Lib.decode_width_pos s pos hp
        obtain ⟨f, rfl⟩ : ∃ g, f = g + 1 := ⟨f - 1, by omega⟩
        by_cases hq : most < (pos : Int)
        · have HB : Hid ((e : Int) = (lenF s most s.size 0 0 : Nat)) := by show _ = _; rw [← hb]; simp [lenF, hp, hq]
          clear hb
          go_wp2
          go_ret
          rw [HB.out]
          exact ⟨rfl, below_iter _ _ _⟩
        · have HB : Hid (lenF s most f (pos + (Utf8.decode s pos).2) pos = lenF s most s.size 0 0) := by show _ = _; rw [← hb]; simp [lenF, hp, hq]
          clear hb
          go_wp2
          go_roundw
          case rel => exact ⟨_, f, pos, rfl, rfl, HB.out, by omega⟩
          case measure => simp; omega
      · have hnx : ∀ ty, (Instr.next (.pointer (some ⟨w.heap.size, 0, none⟩)) true ty).run Tryd.prog (w.iter s pos) = _ := fun ty => run_next_end w s pos ty hp
        have HB : Hid ((e : Int) = (lenF s most s.size 0 0 : Nat)) := by show _ = _; rw [← hb]; cases f <;> simp [lenF, hp]
        clear hb
        go_wp2
        go_ret
        rw [HB.out]
        exact ⟨rfl, below_iter _ _ _⟩

theorem cut_neg (s : ByteArray) (most : Int) (w : World) (hm : most < 0) :
    Calls Tryd.prog 17 #[.string s, .int .i64 most] w fun e w' => e = .returned (.tuple #[.string ⟨#[]⟩, .iface 32 (.int .i64 1)]) ∧ w' = w := by
  go_enter Tryd.func17, Tryd.ntmps17
  go_wp2
  go_ret2
  exact ⟨rfl, rfl⟩
theorem cut_bad (s : ByteArray) (most : Int) (w : World) (hs : s.size ≤ 140737488351232) (hm : 0 ≤ most) (hb : badAt s 0 ≠ -1) :
    Calls Tryd.prog 17 #[.string s, .int .i64 most] w fun e w' => ∃ v, e = .returned (.tuple #[.string ⟨#[]⟩, v]) ∧ FaultAt w.heap.size (badAt s 0) v w' ∧ Below w.heap.size w w' := by
  go_enter Tryd.func17, Tryd.ntmps17
  go_wp2_with (go_at_call 24; refine (sound_bad _ _ hs hb).mono ?_; rintro e w' ⟨v, rfl, ⟨b, rfl, hb1, hb2⟩, hbel⟩)
  go_ret2
  exact ⟨_, rfl, ⟨b, rfl, hb1, hb2⟩, hbel⟩
theorem cut_ok (s : ByteArray) (most : Int) (w : World) (hs : s.size ≤ 140737488351232) (hm : 0 ≤ most) (hb : badAt s 0 = -1) :
    Calls Tryd.prog 17 #[.string s, .int .i64 most] w fun e w' => e = .returned (.tuple #[.string (s.extract 0 (lenW s most)), .nilIface]) ∧ Below w.heap.size w w' := by
  have hl := lenW_le s most
  have he : (s.extract 0 (lenW s most)).size ≤ 281474976710656 := by simp; omega
  go_enter Tryd.func17, Tryd.ntmps17
  go_wp2_with (first | (go_at_call 24; refine (sound_ok _ _ hs hb).mono ?_; rintro e w1 ⟨rfl, hb1⟩) | (go_at_call 33; refine (length_any _ _ _ hs).mono ?_; rintro e w2 ⟨rfl, hb2⟩) | (go_at_call 32; refine (Clone_any _ _ he).mono ?_; rintro e w3 ⟨rfl, hb3⟩))
  go_ret2
  exact ⟨rfl, (hb1.trans (hb2.mono hb1.size)).trans (hb3.mono (Nat.le_trans hb1.size hb2.size))⟩

theorem pair_no (h l : Int) (w : World) (hn : h < 55296 ∨ 56320 ≤ h ∨ l < 56320 ∨ 57343 < l) :
    Calls Tryd.prog 22 #[.int .i64 h, .int .i64 l] w fun e w' => e = .returned (.tuple #[.int .i64 0, .iface 32 (.int .i64 1)]) ∧ w' = w := by
  by_cases h1 : h < 55296
  · go_enter Tryd.func22, Tryd.ntmps22
    go_wp2
    go_ret2
    exact ⟨rfl, rfl⟩
  · by_cases h2 : 56320 ≤ h
    · go_enter Tryd.func22, Tryd.ntmps22
      go_wp2
      go_ret2
      exact ⟨rfl, rfl⟩
    · by_cases h3 : l < 56320
      · go_enter Tryd.func22, Tryd.ntmps22
        go_wp2
        go_ret2
        exact ⟨rfl, rfl⟩
      · have h4 : 57343 < l := by omega
        go_enter Tryd.func22, Tryd.ntmps22
        go_wp2
        go_ret2
        exact ⟨rfl, rfl⟩
theorem pair_yes (h l : Int) (w : World) (h1 : 55296 ≤ h) (h2 : h < 56320) (h3 : 56320 ≤ l) (h4 : l ≤ 57343) :
    Calls Tryd.prog 22 #[.int .i64 h, .int .i64 l] w fun e w' => e = .returned (.tuple #[.int .i64 (65536 + (h - 55296) * 1024 + l - 56320), .nilIface]) ∧ w' = w := by
  go_enter Tryd.func22, Tryd.ntmps22
  go_wp2
  go_ret2
  exact ⟨rfl, rfl⟩
end Go.Proofs.YtpjlpinjjklhhaaDoor
