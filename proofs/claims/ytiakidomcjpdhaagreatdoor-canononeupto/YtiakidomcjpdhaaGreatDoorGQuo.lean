/- What the reference's quoted does: a contract, by walking its text. -/
import Derived.Test.YtiakidomcjpdhaaGreatDoorGGvb
import Derived.Deep.RegionHeld3
import Derived.BigQuiet
namespace Go.Proofs.YtiakidomcjpdhaaGreatDoor
open Go.RowKit
namespace PlnW

/-- The number in a slot. -/
def numOfQ : Value → Nat
  | .int _ n => n.toNat
  | _ => 0
theorem hex_at : ∀ (k : Nat) (h : k < 16), ((⟨#[48, 49, 50, 51, 52, 53, 54, 55, 56, 57, 97, 98, 99, 100, 101, 102]⟩ : ByteArray)[k]'h) = hexB k := by decide
theorem u8_eq {c : UInt8} {x : Nat} (h : c.toNat = x) : Value.int .u8 (x : Int) = Value.int .u8 (c.toNat : Int) := by rw [h]

set_option maxRecDepth 20000 in
set_option maxHeartbeats 8000000 in
theorem quoted_put (base : Nat) (w : World) (v : Value) (bs : List UInt8) (s : ByteArray) (hrow0 : RowB base w v bs) (hbase : base ≤ w.heap.size) (hlen : bs.length + 6 * s.size ≤ 1000000000) :
    Calls Tryz.prog 73 #[v, .string s] w fun e w' => ∃ v', e = .returned v' ∧ RowB base w' v' (bs ++ quotedB s) ∧ Bw base w w' := by
  obtain ⟨i0, hi, hz0, hz1, hz2⟩ := info_parts info5
  have hss : s.size ≤ 140737488351232 := by omega
  have hrow := hrow0
  clear hrow0
  go_enter Tryz.func73, Tryz.ntmps73
  go_wp2_with (at_builtin; refine wpList_append_own _ rfl _ _ 49 rfl base 5 i0 (.int .u8 0) 1 1 Tryz.underlying49 hi hz0 hz1 hz2 rfl (by decide) _ _ _ rfl (RowB.kept hrow ((Below.refl _ _).alloc (Nat.le_refl _) _)) ⟨_, 0, none⟩ 1 1 [.int .u8 34] rfl rfl (cells_new _ _ _) (by simp [Value.oneCell']) (by unfold maxLen; omega) (by omega) (by simp; omega) ?_; intro v' w3 hown' hgrow3 hnil3)
  have hrow1 : RowB base w3 v' (bs ++ [34] ++ escL (s.data.toList.take 0)) := by
    rw [List.take_zero, show escL [] = [] from rfl, List.append_nil]
    exact RowB.more hown' rfl rfl
  have hbw1 : Bw base w w3 := ((Bw.refl _ _).alloc _).trans (RowB.grown (RowB.kept hrow ((Below.refl _ _).alloc (Nat.le_refl _) _)) hgrow3)
  clear hown' hgrow3 hnil3 hrow
  go_loopw [0, 5] (fun v u w' => ∃ i : Nat, u = .int .i64 (i : Int) ∧ i ≤ s.size ∧ RowB base w' v (bs ++ [34] ++ escL (s.data.toList.take i)) ∧ Bw base w w') (fun _ u _ => s.size - numOfQ u)
  case atStart => exact ⟨0, rfl, Nat.zero_le _, hrow1, hbw1⟩
  case round =>
    obtain ⟨i, rfl, hil, hrow, hbw⟩ := hrel
    clear hrow1 hbw1
    have hsz := hbw.size
    have hel := escL_len (s.data.toList.take i)
    have hl3 : (s.data.toList.take i).length ≤ s.size := by rw [Lib.size_eq, List.length_take]; omega
    have hn1 : (bs ++ [34] ++ escL (s.data.toList.take i)).length ≤ 1000000001 := by simp only [List.length_append, List.length_cons, List.length_nil]; omega
    obtain ⟨M, hM⟩ : ∃ M, (bs ++ [34] ++ escL (s.data.toList.take i)).length = M := ⟨_, rfl⟩
    by_cases hlt : i < s.size
    · have hlt' : (i : Int) < (s.size : Int) := by omega
      have hl2 : i < s.data.toList.length := by rw [← Lib.size_eq]; exact hlt
      have hsi : s[i] = s.data.toList[i]'hl2 := by rw [← get_bang s i hlt]; cases s with | mk d => exact (getElem!_pos d i hlt).trans (by simp)
      obtain ⟨x, hx⟩ : ∃ x, (s[i]'hlt).toNat = x := ⟨_, rfl⟩
      have hx2 : (s.data.toList[i]'hl2).toNat = x := by rw [← hsi]; exact hx
      have hxl : x < 256 := by rw [← hx]; exact UInt8.toNat_lt _
      have hB : escB (s.data.toList[i]'hl2) = if x = 34 ∨ x = 92 then [92, s.data.toList[i]'hl2] else if x = 8 then [92, 98] else if x = 9 then [92, 116] else if x = 10 then [92, 110] else if x = 12 then [92, 102] else if x = 13 then [92, 114] else if x < 32 then [92, 117, 48, 48, hexB (x / 16), hexB (x % 16)] else [s.data.toList[i]'hl2] := by unfold escB; rw [hx2]
      clear hsi
      by_cases k34 : x = 34
      · have m34 : ((x : Int) == 34) = true := by simp [k34]
        have HE : Hid (escB (s.data.toList[i]'hl2) = [92, s.data.toList[i]'hl2]) := by show _ = _; rw [hB]; rw [if_pos (.inl k34)]
        clear hB k34
        go_wp2_with (at_builtin; refine wpList_append_own _ rfl _ _ 49 rfl base 5 i0 (.int .u8 0) 1 1 Tryz.underlying49 hi hz0 hz1 hz2 rfl (by decide) _ _ _ rfl (RowB.kept hrow ((Below.refl _ _).alloc (Nat.le_refl _) _)) ⟨_, 0, none⟩ 2 2 [.int .u8 92, .int .u8 (x : Int)] rfl rfl (cells_new _ _ _) (by simp [Value.oneCell']) (by unfold maxLen; omega) (by omega) (by simp; omega) ?_; intro v' w3 hown' hgrow3 hnil3)
        have hrow3 : RowB base w3 v' (bs ++ [34] ++ escL (s.data.toList.take (i + 1))) := by
          rw [escL_take _ _ hl2, HE.out, ← List.append_assoc]
          exact RowB.more hown' rfl (by simp only [Lib.byteCells, List.map_cons, List.map_nil, hx2] <;> rfl)
        have hbw3 : Bw base w w3 := (hbw.alloc _).trans (RowB.grown (RowB.kept hrow ((Below.refl _ _).alloc (Nat.le_refl _) _)) hgrow3)
        go_roundw
        case rel => exact ⟨i + 1, by simp, hlt, hrow3, hbw3⟩
        case measure => simp [numOfQ]; omega
      have m34 : ((x : Int) == 34) = false := by simp; omega
      by_cases k92 : x = 92
      · have m92 : ((x : Int) == 92) = true := by simp [k92]
        have HE : Hid (escB (s.data.toList[i]'hl2) = [92, s.data.toList[i]'hl2]) := by show _ = _; rw [hB]; rw [if_pos (.inr k92)]
        clear hB k92
        go_wp2_with (at_builtin; refine wpList_append_own _ rfl _ _ 49 rfl base 5 i0 (.int .u8 0) 1 1 Tryz.underlying49 hi hz0 hz1 hz2 rfl (by decide) _ _ _ rfl (RowB.kept hrow ((Below.refl _ _).alloc (Nat.le_refl _) _)) ⟨_, 0, none⟩ 2 2 [.int .u8 92, .int .u8 (x : Int)] rfl rfl (cells_new _ _ _) (by simp [Value.oneCell']) (by unfold maxLen; omega) (by omega) (by simp; omega) ?_; intro v' w3 hown' hgrow3 hnil3)
        have hrow3 : RowB base w3 v' (bs ++ [34] ++ escL (s.data.toList.take (i + 1))) := by
          rw [escL_take _ _ hl2, HE.out, ← List.append_assoc]
          exact RowB.more hown' rfl (by simp only [Lib.byteCells, List.map_cons, List.map_nil, hx2] <;> rfl)
        have hbw3 : Bw base w w3 := (hbw.alloc _).trans (RowB.grown (RowB.kept hrow ((Below.refl _ _).alloc (Nat.le_refl _) _)) hgrow3)
        go_roundw
        case rel => exact ⟨i + 1, by simp, hlt, hrow3, hbw3⟩
        case measure => simp [numOfQ]; omega
      have m92 : ((x : Int) == 92) = false := by simp; omega
      by_cases k8 : x = 8
      · have m8 : ((x : Int) == 8) = true := by simp [k8]
        have HE : Hid (escB (s.data.toList[i]'hl2) = [92, 98]) := by show _ = _; rw [hB]; rw [if_neg (by omega), if_pos k8]
        clear hB k8
        go_wp2_with (at_builtin; refine wpList_append_own _ rfl _ _ 49 rfl base 5 i0 (.int .u8 0) 1 1 Tryz.underlying49 hi hz0 hz1 hz2 rfl (by decide) _ _ _ rfl (RowB.kept hrow ((Below.refl _ _).alloc (Nat.le_refl _) _)) ⟨_, 0, none⟩ 2 2 [.int .u8 92, .int .u8 98] rfl rfl (cells_new _ _ _) (by simp [Value.oneCell']) (by unfold maxLen; omega) (by omega) (by simp; omega) ?_; intro v' w3 hown' hgrow3 hnil3)
        have hrow3 : RowB base w3 v' (bs ++ [34] ++ escL (s.data.toList.take (i + 1))) := by
          rw [escL_take _ _ hl2, HE.out, ← List.append_assoc]
          exact RowB.more hown' rfl rfl
        have hbw3 : Bw base w w3 := (hbw.alloc _).trans (RowB.grown (RowB.kept hrow ((Below.refl _ _).alloc (Nat.le_refl _) _)) hgrow3)
        go_roundw
        case rel => exact ⟨i + 1, by simp, hlt, hrow3, hbw3⟩
        case measure => simp [numOfQ]; omega
      have m8 : ((x : Int) == 8) = false := by simp; omega
      by_cases k9 : x = 9
      · have m9 : ((x : Int) == 9) = true := by simp [k9]
        have HE : Hid (escB (s.data.toList[i]'hl2) = [92, 116]) := by show _ = _; rw [hB]; rw [if_neg (by omega), if_neg (by omega), if_pos k9]
        clear hB k9
        go_wp2_with (at_builtin; refine wpList_append_own _ rfl _ _ 49 rfl base 5 i0 (.int .u8 0) 1 1 Tryz.underlying49 hi hz0 hz1 hz2 rfl (by decide) _ _ _ rfl (RowB.kept hrow ((Below.refl _ _).alloc (Nat.le_refl _) _)) ⟨_, 0, none⟩ 2 2 [.int .u8 92, .int .u8 116] rfl rfl (cells_new _ _ _) (by simp [Value.oneCell']) (by unfold maxLen; omega) (by omega) (by simp; omega) ?_; intro v' w3 hown' hgrow3 hnil3)
        have hrow3 : RowB base w3 v' (bs ++ [34] ++ escL (s.data.toList.take (i + 1))) := by
          rw [escL_take _ _ hl2, HE.out, ← List.append_assoc]
          exact RowB.more hown' rfl rfl
        have hbw3 : Bw base w w3 := (hbw.alloc _).trans (RowB.grown (RowB.kept hrow ((Below.refl _ _).alloc (Nat.le_refl _) _)) hgrow3)
        go_roundw
        case rel => exact ⟨i + 1, by simp, hlt, hrow3, hbw3⟩
        case measure => simp [numOfQ]; omega
      have m9 : ((x : Int) == 9) = false := by simp; omega
      by_cases k10 : x = 10
      · have m10 : ((x : Int) == 10) = true := by simp [k10]
        have HE : Hid (escB (s.data.toList[i]'hl2) = [92, 110]) := by show _ = _; rw [hB]; rw [if_neg (by omega), if_neg (by omega), if_neg (by omega), if_pos k10]
        clear hB k10
        go_wp2_with (at_builtin; refine wpList_append_own _ rfl _ _ 49 rfl base 5 i0 (.int .u8 0) 1 1 Tryz.underlying49 hi hz0 hz1 hz2 rfl (by decide) _ _ _ rfl (RowB.kept hrow ((Below.refl _ _).alloc (Nat.le_refl _) _)) ⟨_, 0, none⟩ 2 2 [.int .u8 92, .int .u8 110] rfl rfl (cells_new _ _ _) (by simp [Value.oneCell']) (by unfold maxLen; omega) (by omega) (by simp; omega) ?_; intro v' w3 hown' hgrow3 hnil3)
        have hrow3 : RowB base w3 v' (bs ++ [34] ++ escL (s.data.toList.take (i + 1))) := by
          rw [escL_take _ _ hl2, HE.out, ← List.append_assoc]
          exact RowB.more hown' rfl rfl
        have hbw3 : Bw base w w3 := (hbw.alloc _).trans (RowB.grown (RowB.kept hrow ((Below.refl _ _).alloc (Nat.le_refl _) _)) hgrow3)
        go_roundw
        case rel => exact ⟨i + 1, by simp, hlt, hrow3, hbw3⟩
        case measure => simp [numOfQ]; omega
      have m10 : ((x : Int) == 10) = false := by simp; omega
      by_cases k12 : x = 12
      · have m12 : ((x : Int) == 12) = true := by simp [k12]
        have HE : Hid (escB (s.data.toList[i]'hl2) = [92, 102]) := by show _ = _; rw [hB]; rw [if_neg (by omega), if_neg (by omega), if_neg (by omega), if_neg (by omega), if_pos k12]
        clear hB k12
        go_wp2_with (at_builtin; refine wpList_append_own _ rfl _ _ 49 rfl base 5 i0 (.int .u8 0) 1 1 Tryz.underlying49 hi hz0 hz1 hz2 rfl (by decide) _ _ _ rfl (RowB.kept hrow ((Below.refl _ _).alloc (Nat.le_refl _) _)) ⟨_, 0, none⟩ 2 2 [.int .u8 92, .int .u8 102] rfl rfl (cells_new _ _ _) (by simp [Value.oneCell']) (by unfold maxLen; omega) (by omega) (by simp; omega) ?_; intro v' w3 hown' hgrow3 hnil3)
        have hrow3 : RowB base w3 v' (bs ++ [34] ++ escL (s.data.toList.take (i + 1))) := by
          rw [escL_take _ _ hl2, HE.out, ← List.append_assoc]
          exact RowB.more hown' rfl rfl
        have hbw3 : Bw base w w3 := (hbw.alloc _).trans (RowB.grown (RowB.kept hrow ((Below.refl _ _).alloc (Nat.le_refl _) _)) hgrow3)
        go_roundw
        case rel => exact ⟨i + 1, by simp, hlt, hrow3, hbw3⟩
        case measure => simp [numOfQ]; omega
      have m12 : ((x : Int) == 12) = false := by simp; omega
      by_cases k13 : x = 13
      · have m13 : ((x : Int) == 13) = true := by simp [k13]
        have HE : Hid (escB (s.data.toList[i]'hl2) = [92, 114]) := by show _ = _; rw [hB]; rw [if_neg (by omega), if_neg (by omega), if_neg (by omega), if_neg (by omega), if_neg (by omega), if_pos k13]
        clear hB k13
        go_wp2_with (at_builtin; refine wpList_append_own _ rfl _ _ 49 rfl base 5 i0 (.int .u8 0) 1 1 Tryz.underlying49 hi hz0 hz1 hz2 rfl (by decide) _ _ _ rfl (RowB.kept hrow ((Below.refl _ _).alloc (Nat.le_refl _) _)) ⟨_, 0, none⟩ 2 2 [.int .u8 92, .int .u8 114] rfl rfl (cells_new _ _ _) (by simp [Value.oneCell']) (by unfold maxLen; omega) (by omega) (by simp; omega) ?_; intro v' w3 hown' hgrow3 hnil3)
        have hrow3 : RowB base w3 v' (bs ++ [34] ++ escL (s.data.toList.take (i + 1))) := by
          rw [escL_take _ _ hl2, HE.out, ← List.append_assoc]
          exact RowB.more hown' rfl rfl
        have hbw3 : Bw base w w3 := (hbw.alloc _).trans (RowB.grown (RowB.kept hrow ((Below.refl _ _).alloc (Nat.le_refl _) _)) hgrow3)
        go_roundw
        case rel => exact ⟨i + 1, by simp, hlt, hrow3, hbw3⟩
        case measure => simp [numOfQ]; omega
      have m13 : ((x : Int) == 13) = false := by simp; omega
      by_cases k32 : x < 32
      · have m32 : (x : Int) < 32 := by omega
        have HE : Hid (escB (s.data.toList[i]'hl2) = [92, 117, 48, 48, hexB (x / 16), hexB (x % 16)]) := by show _ = _; rw [hB]; rw [if_neg (by omega), if_neg (by omega), if_neg (by omega), if_neg (by omega), if_neg (by omega), if_neg (by omega), if_pos k32]
        clear hB
        obtain ⟨Q, hQ⟩ : ∃ Q, x / 16 = Q := ⟨_, rfl⟩
        obtain ⟨R, hR⟩ : ∃ R, x % 16 = R := ⟨_, rfl⟩
        have q1 : (x : Int) / 16 = (Q : Int) := by omega
        have r1 : (x : Int) % 16 = (R : Int) := by omega
        have q2 : (Q : Int) < 16 := by omega
        have r2 : (R : Int) < 16 := by omega
        have q3 : Q < 16 := by omega
        have r3 : R < 16 := by omega
        have r7 : Int.tmod (x : Int) 16 = (R : Int) := by rw [Int.tmod_eq_emod_of_nonneg (by omega)]; exact r1
        have q4 : IntKind.u8.wrap (Q : Int) = (Q : Int) := by rw [IntKind.wrap_u8]; omega
        have r4 : IntKind.u8.wrap (R : Int) = (R : Int) := by rw [IntKind.wrap_u8]; omega
        have q5 : IntKind.i64.wrap (Q : Int) = (Q : Int) := by rw [IntKind.wrap_i64]; omega
        have r5 : IntKind.i64.wrap (R : Int) = (R : Int) := by rw [IntKind.wrap_i64]; omega
        have q6 : ((⟨#[48, 49, 50, 51, 52, 53, 54, 55, 56, 57, 97, 98, 99, 100, 101, 102]⟩ : ByteArray)[Q]'(by show Q < 16; omega)) = hexB Q := hex_at Q q3
        have r6 : ((⟨#[48, 49, 50, 51, 52, 53, 54, 55, 56, 57, 97, 98, 99, 100, 101, 102]⟩ : ByteArray)[R]'(by show R < 16; omega)) = hexB R := hex_at R r3
        obtain ⟨hq, hhq⟩ : ∃ hq : UInt8, hexB Q = hq := ⟨_, rfl⟩
        obtain ⟨hr, hhr⟩ : ∃ hr : UInt8, hexB R = hr := ⟨_, rfl⟩
        rw [hhq] at q6
        rw [hhr] at r6
        go_wp2
        go_region_held3 (fun w' => True) (trivial) ((refine step_append_own (by rfl) (.tmp 67) (.tmp 76) 49 (by rfl) base 5 i0 (.int .u8 0) 1 1 Tryz.underlying49 hi hz0 hz1 hz2 rfl (by decide) u0 _ _ (by rfl) (RowB.kept (w := wr.drew) hrow ((Below.refl _ _).alloc (Nat.le_refl _) _)) ⟨wr.heap.size, 0, none⟩ 6 6 [.int .u8 92, .int .u8 117, .int .u8 48, .int .u8 48, .int .u8 (hq.toNat : Int), .int .u8 (hr.toNat : Int)] (by rfl) rfl (cells_new wr.drew _ _) (by simp [Value.oneCell']) (by unfold maxLen; omega) (by omega) (by simp; omega) ?_; intro v' w3 hown' hgrow3 hloc3))
        all_goals
          go_wp2
          have hrow3 : RowB base w3 v' (bs ++ [34] ++ escL (s.data.toList.take (i + 1))) := by
            rw [escL_take _ _ hl2, HE.out, hQ, hR, hhq, hhr, ← List.append_assoc]
            exact RowB.more hown' rfl rfl
          have hbw3 : Bw base w w3 := (hbw.trans (Bw.of_below (w' := wr.drew.alloc _) ((below_drewN (Below.refl _ _) 1).alloc (Nat.le_refl _) _))).trans (RowB.grown (RowB.kept (w := wr.drew) hrow ((Below.refl _ _).alloc (Nat.le_refl _) _)) hgrow3)
          refine ⟨⟨i + 1, by simp, hlt, hrow3, hbw3⟩, ?_⟩
          simp [numOfQ]
          omega
      · have m32 : ¬ (x : Int) < 32 := by omega
        have HE : Hid (escB (s.data.toList[i]'hl2) = [s.data.toList[i]'hl2]) := by show _ = _; rw [hB]; rw [if_neg (by omega), if_neg (by omega), if_neg (by omega), if_neg (by omega), if_neg (by omega), if_neg (by omega), if_neg (by omega)]
        clear hB
        go_wp2_with (at_builtin; refine wpList_append_own _ rfl _ _ 49 rfl base 5 i0 (.int .u8 0) 1 1 Tryz.underlying49 hi hz0 hz1 hz2 rfl (by decide) _ _ _ rfl (RowB.kept hrow ((Below.refl _ _).alloc (Nat.le_refl _) _)) ⟨_, 0, none⟩ 1 1 [.int .u8 (x : Int)] rfl rfl (cells_new _ _ _) (by simp [Value.oneCell']) (by unfold maxLen; omega) (by omega) (by simp; omega) ?_; intro v' w3 hown' hgrow3 hnil3)
        have hrow3 : RowB base w3 v' (bs ++ [34] ++ escL (s.data.toList.take (i + 1))) := by
          rw [escL_take _ _ hl2, HE.out, ← List.append_assoc]
          exact RowB.more hown' rfl (by simp only [Lib.byteCells, List.map_cons, List.map_nil, hx2] <;> rfl)
        have hbw3 : Bw base w w3 := (hbw.alloc _).trans (RowB.grown (RowB.kept hrow ((Below.refl _ _).alloc (Nat.le_refl _) _)) hgrow3)
        go_roundw
        case rel => exact ⟨i + 1, by simp, hlt, hrow3, hbw3⟩
        case measure => simp [numOfQ]; omega
    · have hlt' : ¬ (i : Int) < (s.size : Int) := by omega
      have hie : s.data.toList.take i = s.data.toList := by rw [List.take_of_length_le]; rw [← Lib.size_eq]; omega
      rw [hie] at hrow hn1
      go_wp2_with (at_builtin; refine wpList_append_own _ rfl _ _ 49 rfl base 5 i0 (.int .u8 0) 1 1 Tryz.underlying49 hi hz0 hz1 hz2 rfl (by decide) _ _ _ rfl (RowB.kept hrow ((Below.refl _ _).alloc (Nat.le_refl _) _)) ⟨_, 0, none⟩ 1 1 [.int .u8 34] rfl rfl (cells_new _ _ _) (by simp [Value.oneCell']) (by unfold maxLen; omega) (by omega) (by simp; omega) ?_; intro v' w3 hown' hgrow3 hnil3)
      go_ret
      refine ⟨_, rfl, ?_, (hbw.alloc _).trans (RowB.grown (RowB.kept hrow ((Below.refl _ _).alloc (Nat.le_refl _) _)) hgrow3)⟩
      have h9 := RowB.more hown' (ns := [34]) rfl rfl
      have e : bs ++ quotedB s = bs ++ [34] ++ escL s.data.toList ++ [34] := by simp [quotedB]
      rw [e]
      exact h9
end PlnW
end Go.Proofs.YtiakidomcjpdhaaGreatDoor
