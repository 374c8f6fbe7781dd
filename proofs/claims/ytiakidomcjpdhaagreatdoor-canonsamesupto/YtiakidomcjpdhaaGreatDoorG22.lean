/- What escaped does: by walking its text; a number's text at base 16. What escaped does, at every character. -/
import Derived.Test.YtiakidomcjpdhaaGreatDoorG21
namespace Go.Proofs.YtiakidomcjpdhaaGreatDoor
open Go.RowKit
namespace Es
open Pu PlnW

theorem two16 (w : World) : Calls Tryz.prog 138 #[.int .i64 16] w fun e w' => e = .returned (.bool true) ∧ w' = w := by
  go_enter Tryz.func138, Tryz.ntmps138
  go_wp2
  go_ret
  exact ⟨rfl, rfl⟩
theorem cell4 {w : World} (h : Pow10 w) (i n : Nat) (hi : Lib.deBruijn64tab[i]? = some n) : w.cell? ⟨4, i, none⟩ = some (.int .u8 (n : Int)) := by
  have hd := h.2
  unfold Dbr Lib.TabIs World.var? at hd
  rw [show Tryz.prog.globalNamed "math/bits.deBruijn64tab" = some 4 by kernel_rfl] at hd
  simp only [Option.bind_some] at hd
  cases hq : w.heap[4]? with
  | none => simp [hq] at hd
  | some o =>
    cases o with
    | cells cs e f =>
      simp only [hq, Option.some.injEq] at hd
      simp [World.cell?, hq, hd, hi]
    | _ => simp [hq] at hd
theorem tz16 (w : World) (h : Pow10 w) : Calls Tryz.prog 152 #[.int .u64 16] w fun e w' => e = .returned (.int .i64 4) ∧ w' = w := by
  have c := cell4 h 15 4 rfl
  have hx : IntKind.u64.wrap (bits BinOp.and IntKind.u64 16 (IntKind.u64.wrap (-16)) * 285870213051353865) / 288230376151711744 = 15 := by decide +kernel
  go_enter Tryz.func152, Tryz.ntmps152
  go_wp2
  go_ret
  exact ⟨rfl, rfl⟩
theorem tz (w : World) (h : Pow10 w) : Calls Tryz.prog 139 #[.int .u64 16] w fun e w' => e = .returned (.int .i64 4) ∧ w' = w := by
  go_enter Tryz.func139, Tryz.ntmps139
  go_wp2_with (go_at_call 152; refine (tz16 _ h).mono ?_; rintro e w1 ⟨rfl, rfl⟩)
  go_ret
  exact ⟨rfl, rfl⟩
/-- Where the digits stand in the array. -/
def Dg (w : World) (P : Nat) (u j : Nat) : Prop := ∃ cur : Array Value, w.heap[P]? = some (.cells cur 162 (0, 0)) ∧ cur.size = 65 ∧ ∀ k, k < j → cur[64 - k]? = some (.int .u8 ((hexB (u / 16 ^ k % 16)).toNat : Int))
theorem dig (D : Nat) (hD : D < 16) (h : D < (⟨#[48, 49, 50, 51, 52, 53, 54, 55, 56, 57, 97, 98, 99, 100, 101, 102, 103, 104, 105, 106, 107, 108, 109, 110, 111, 112, 113, 114, 115, 116, 117, 118, 119, 120, 121, 122]⟩ : ByteArray).size) : ((⟨#[48, 49, 50, 51, 52, 53, 54, 55, 56, 57, 97, 98, 99, 100, 101, 102, 103, 104, 105, 106, 107, 108, 109, 110, 111, 112, 113, 114, 115, 116, 117, 118, 119, 120, 121, 122]⟩ : ByteArray)[D]'h) = hexB D := by
  have hc : D = 0 ∨ D = 1 ∨ D = 2 ∨ D = 3 ∨ D = 4 ∨ D = 5 ∨ D = 6 ∨ D = 7 ∨ D = 8 ∨ D = 9 ∨ D = 10 ∨ D = 11 ∨ D = 12 ∨ D = 13 ∨ D = 14 ∨ D = 15 := by omega
  rcases hc with rfl | rfl | rfl | rfl | rfl | rfl | rfl | rfl | rfl | rfl | rfl | rfl | rfl | rfl | rfl | rfl <;> rfl
theorem facts : ∀ r, r < 32 → ∀ j, j < 4 → 16 ≤ (65536 + r) / 16 ^ j ∧ (65536 + r) / 16 ^ j ≤ 65567 ∧ bits .and .u64 (((65536 + r) / 16 ^ j : Nat) : Int) 15 = (((65536 + r) / 16 ^ j % 16 : Nat) : Int) := by decide +kernel
theorem Dg.set {w : World} {P u j : Nat} (h : Dg w P u j) (hj : j < 65) : Dg (w.setCell ⟨P, 64 - j, none⟩ (.int .u8 ((hexB (u / 16 ^ j % 16)).toNat : Int))) P u (j + 1) := by
  obtain ⟨cur, h1, h2, h3⟩ := h
  refine ⟨cur.setIfInBounds (64 - j) (.int .u8 ((hexB (u / 16 ^ j % 16)).toNat : Int)), by simp [World.setCell, Array.getElem?_modify, h1], by simpa using h2, fun k hk => ?_⟩
  rw [Array.getElem?_setIfInBounds]
  by_cases e : k = j
  · subst e
    rw [if_pos rfl, if_pos (by omega)]
  · rw [if_neg (by omega)]
    exact h3 k (by omega)
theorem Dg.at {w : World} {P u j : Nat} (h : Dg w P u j) (i : Nat) (hi : i < 65) : ∃ v, w.cell? ⟨P, i, none⟩ = some v ∧ w.frozen? ⟨P, i, none⟩ = false := by
  obtain ⟨cur, h1, h2, h3⟩ := h
  exact ⟨cur[i], by simp [World.cell?, h1], by simp [World.frozen?, h1]⟩
theorem below_set {N : Nat} {w w' : World} {P i : Nat} {v : Value} (h : Below N w w') (hP : N ≤ P) : Below N w (w'.setCell ⟨P, i, none⟩ v) :=
  ⟨h.os, h.tape, h.output, by simpa using h.size, fun k hk => (Below.heap_setCell _ _ _ _ (by show k ≠ P; omega)).trans (h.block k hk)⟩
theorem Dg.text {w : World} {P u : Nat} (h0 : 65536 ≤ u) (h1 : u < 65568) (h : Dg w P u 5) : (convert 49 9 (.slice (some ⟨P, 60, none⟩) 5 5)).run Tryz.prog w = .ok (.string ⟨#[49, 48, 48, hexB (u / 16 % 16), hexB (u % 16)]⟩) w := by
  obtain ⟨cur, hc, hs, hd⟩ := h
  have k4 := hd 4 (by omega)
  have k3 := hd 3 (by omega)
  have k2 := hd 2 (by omega)
  have k1 := hd 1 (by omega)
  have k0 := hd 0 (by omega)
  rw [show u / 16 ^ 4 % 16 = 1 by omega, show hexB 1 = 49 from rfl] at k4
  rw [show u / 16 ^ 3 % 16 = 0 by omega, show hexB 0 = 48 from rfl] at k3
  rw [show u / 16 ^ 2 % 16 = 0 by omega, show hexB 0 = 48 from rfl] at k2
  rw [show u / 16 ^ 1 % 16 = u / 16 % 16 by omega] at k1
  rw [show u / 16 ^ 0 % 16 = u % 16 by omega] at k0
  refine run_convert_bytes_back (P := Tryz.prog) w 49 9 5 ⟨P, 60, none⟩ 5 [49, 48, 48, hexB (u / 16 % 16), hexB (u % 16)] Tryz.underlying49 Tryz.underlying5 Tryz.underlying9 (fun j hj => ?_)
  have hj5 : j = 0 ∨ j = 1 ∨ j = 2 ∨ j = 3 ∨ j = 4 := by simp at hj; omega
  rcases hj5 with rfl | rfl | rfl | rfl | rfl
  · simpa [Addr.add, World.cell?, hc] using k4
  · simpa [Addr.add, World.cell?, hc] using k3
  · simpa [Addr.add, World.cell?, hc] using k2
  · simpa [Addr.add, World.cell?, hc] using k1
  · simpa [Addr.add, World.cell?, hc] using k0
set_option maxHeartbeats 2000000 in
set_option maxRecDepth 8000 in
theorem fmt16 (w : World) (h : Pow10 w) (h5 : 5 ≤ w.heap.size) (u : Nat) (h0 : 65536 ≤ u) (h1 : u < 65568) : Calls Tryz.prog 109 #[.slice none 0 0, .int .u64 (u : Int), .int .i64 16, .bool false, .bool false] w fun e w' => ∃ v, e = .returned (.tuple #[v, .string ⟨#[49, 48, 48, hexB (u / 16 % 16), hexB (u % 16)]⟩]) ∧ Below w.heap.size w w' := by
  have hb0 : ∀ o, Below w.heap.size w (w.alloc o) := fun o => (Below.refl _ _).alloc (Nat.le_refl _) o
  have hp0 : ∀ o, Pow10 (w.alloc o) := fun o => h.of ((hb0 o).block 0 (by omega)) ((hb0 o).block 4 (by omega))
  go_enter Tryz.func109, Tryz.ntmps109
  go_wp2_with (first
    | (go_at_call 138; refine (two16 _).mono ?_; rintro e w1 ⟨rfl, hw1⟩; rw [hw1])
    | (go_at_call 139; refine (tz _ (hp0 _)).mono ?_; rintro e w2 ⟨rfl, hw2⟩; rw [hw2]))
  go_loopw [1, 13] (fun x y wr => ∃ j : Nat, x = .int .u64 ((u / 16 ^ j : Nat) : Int) ∧ y = .int .i64 (65 - (j : Int)) ∧ j ≤ 4 ∧ Hid (Dg wr w.heap.size u j) ∧ Hid (Below w.heap.size w wr)) (fun x _ _ => numT x)
  case atStart => exact ⟨0, by simp, by simp, by omega, ⟨_, heap_alloc_new _ _, by kernel_rfl, fun k hk => by omega⟩, hb0 _⟩
  case round =>
    obtain ⟨j, rfl, rfl, hj, HD, HB⟩ := hrel
    by_cases hj4 : j < 4
    · obtain ⟨f1, f2, f3⟩ := facts (u - 65536) (by omega) j hj4
      rw [show 65536 + (u - 65536) = u by omega] at f1 f2 f3
      obtain ⟨V, hV⟩ : ∃ V, u / 16 ^ j = V := ⟨_, rfl⟩
      rw [hV] at f1 f2 f3 ⊢
      have HV : Hid (u / 16 ^ j = V) := hV
      clear hV
      have hc : (16 : Int) ≤ (V : Int) := by omega
      have hd16 : V % 16 < 16 := Nat.mod_lt _ (by omega)
      obtain ⟨D, hD⟩ : ∃ D, V % 16 = D := ⟨_, rfl⟩
      rw [hD] at f3 hd16
      obtain ⟨ov, ho, hz⟩ := HD.out.at (65 - j - 1) (by omega)
      go_wp2
      go_roundw
      case rel =>
        rw [dig D hd16]
        refine ⟨j + 1, ?_, ?_, hj4, ?_, ?_⟩
        · rw [Nat.pow_succ, ← Nat.div_div_eq_div_mul, HV.out]
          rfl
        · congr 1
          omega
        · have h9 := HD.out.set (by omega)
          rw [HV.out, hD, show 64 - j = 65 - j - 1 by omega] at h9
          exact h9
        · exact below_set HB.out (Nat.le_refl _)
      case measure => simp [numT]; omega
    · have hj5 : j = 4 := by omega
      subst hj5
      have e1 : u / 16 ^ 4 = 1 := by omega
      have h9 := HD.out.set (by omega)
      rw [e1] at h9 ⊢
      have hcv : (convert 49 9 (.slice (some ⟨w.heap.size, 60, none⟩) 5 5)).run Tryz.prog (wr.setCell ⟨w.heap.size, 60, none⟩ (.int .u8 ((hexB 1).toNat : Int))) = .ok (.string ⟨#[49, 48, 48, hexB (u / 16 % 16), hexB (u % 16)]⟩) (wr.setCell ⟨w.heap.size, 60, none⟩ (.int .u8 ((hexB 1).toNat : Int))) := Dg.text h0 h1 h9
      obtain ⟨ov, ho, hz⟩ := HD.out.at 60 (by omega)
      have HB9 : Hid (Below w.heap.size w (wr.setCell ⟨w.heap.size, 60, none⟩ (.int .u8 ((hexB 1).toNat : Int)))) := below_set HB.out (Nat.le_refl _)
      have HCV : Hid ((convert 49 9 (.slice (some ⟨w.heap.size, 60, none⟩) 5 5)).run Tryz.prog (wr.setCell ⟨w.heap.size, 60, none⟩ (.int .u8 ((hexB 1).toNat : Int))) = .ok (.string ⟨#[49, 48, 48, hexB (u / 16 % 16), hexB (u % 16)]⟩) (wr.setCell ⟨w.heap.size, 60, none⟩ (.int .u8 ((hexB 1).toNat : Int)))) := hcv
      rw [show (65 - ((4 : Nat) : Int)) = 61 from rfl]
      clear h9 hcv
      go_wp2
      rw [dig 1 (by omega), HCV.out]
      go_simp
      go_wp2
      go_ret2
      exact ⟨_, rfl, HB9.out⟩
theorem formatInt16 (w : World) (h : Pow10 w) (h5 : 5 ≤ w.heap.size) (u : Nat) (h0 : 65536 ≤ u) (h1 : u < 65568) : Calls Tryz.prog 49 #[.int .i64 (u : Int), .int .i64 16] w fun e w' => e = .returned (.string ⟨#[49, 48, 48, hexB (u / 16 % 16), hexB (u % 16)]⟩) ∧ Below w.heap.size w w' := by
  have c : Calls Tryz.prog 75 #[.int .i64 (u : Int), .int .i64 16] w fun e w' => e = .returned (.string ⟨#[49, 48, 48, hexB (u / 16 % 16), hexB (u % 16)]⟩) ∧ Below w.heap.size w w' := by
    have hf := fmt16 w h h5 u h0 h1
    have hn : ¬ (u : Int) < 0 := by omega
    go_enter Tryz.func75, Tryz.ntmps75
    go_wp2_with (go_at_call 109; refine hf.mono ?_; rintro e w1 ⟨v, rfl, hb⟩)
    go_ret
    exact ⟨rfl, hb⟩
  go_enter Tryz.func49, Tryz.ntmps49
  go_wp2_with (go_at_call 75; refine c.mono ?_; rintro e w1 ⟨rfl, hb⟩)
  go_ret
  exact ⟨rfl, hb⟩
end Es
end Go.Proofs.YtiakidomcjpdhaaGreatDoor

namespace Go.Proofs.YtiakidomcjpdhaaGreatDoor
open Go.RowKit
namespace Es
open Pu PlnW

theorem five {w : World} (h : Pow10 w) : 5 ≤ w.heap.size := by
  have h1 := cell4 h 15 4 rfl
  have := World.block_lt_of_cell? w ⟨4, 15, none⟩ h1
  simp at this
  omega
set_option maxRecDepth 4000 in
theorem esc_low (r : Nat) (w : World) (h : Pow10 w) (hr : r < 32) (n8 : r ≠ 8) (n9 : r ≠ 9) (n10 : r ≠ 10) (n12 : r ≠ 12) (n13 : r ≠ 13) : Calls Tryz.prog 76 #[.int .i32 (r : Int)] w fun e w' => e = .returned (.string ⟨#[92, 117, 48, 48, hexB (r / 16), hexB (r % 16)]⟩) ∧ Below w.heap.size w w' := by
  have hf := formatInt16 w h (five h) (65536 + r) (by omega) (by omega)
  rw [show (65536 + r) / 16 % 16 = r / 16 by omega, show (65536 + r) % 16 = r % 16 by omega] at hf
  obtain ⟨U, hU⟩ : ∃ U : Nat, 65536 + r = U := ⟨_, rfl⟩
  rw [hU] at hf
  have hu : (65536 : Int) + (r : Int) = (U : Int) := by omega
  have e1 : ¬ (r : Int) = 34 := by omega
  have e2 : ¬ (r : Int) = 92 := by omega
  have e3 : ¬ (r : Int) = 8 := by omega
  have e4 : ¬ (r : Int) = 9 := by omega
  have e5 : ¬ (r : Int) = 10 := by omega
  have e6 : ¬ (r : Int) = 12 := by omega
  have e7 : ¬ (r : Int) = 13 := by omega
  have e8 : ¬ (32 : Int) ≤ (r : Int) := by omega
  obtain ⟨a, ha⟩ : ∃ a, hexB (r / 16) = a := ⟨_, rfl⟩
  obtain ⟨b, hb⟩ : ∃ b, hexB (r % 16) = b := ⟨_, rfl⟩
  rw [ha, hb] at hf ⊢
  clear ha hb
  go_enter Tryz.func76, Tryz.ntmps76
  go_wp2_with (go_at_call 49; refine hf.mono ?_; rintro e w1 ⟨rfl, hb1⟩)
  go_ret
  exact ⟨by rfl, hb1⟩
theorem esc_const (r : Nat) (w : World) (hr : 32 ≤ r ∨ r = 8 ∨ r = 9 ∨ r = 10 ∨ r = 12 ∨ r = 13) (hm : r < 1114112) : Calls Tryz.prog 76 #[.int .i32 (r : Int)] w fun e w' => e = .returned (.string ⟨(escR r).toArray⟩) ∧ w' = w := by
  by_cases h34 : r = 34
  · subst h34
    go_enter Tryz.func76, Tryz.ntmps76
    go_wp2
    go_ret
    exact ⟨rfl, rfl⟩
  by_cases h92 : r = 92
  · subst h92
    go_enter Tryz.func76, Tryz.ntmps76
    go_wp2
    go_ret
    exact ⟨rfl, rfl⟩
  have e1 : ¬ (r : Int) = 34 := by omega
  have e2 : ¬ (r : Int) = 92 := by omega
  rcases hr with h | rfl | rfl | rfl | rfl | rfl
  · have e3 : ¬ (r : Int) = 8 := by omega
    have e4 : ¬ (r : Int) = 9 := by omega
    have e5 : ¬ (r : Int) = 10 := by omega
    have e6 : ¬ (r : Int) = 12 := by omega
    have e7 : ¬ (r : Int) = 13 := by omega
    have e8 : (32 : Int) ≤ (r : Int) := by omega
    have e : escR r = [] := by
      unfold escR
      rw [if_neg h34, if_neg h92, if_neg (by omega), if_neg (by omega), if_neg (by omega), if_neg (by omega), if_neg (by omega), if_pos h]
    rw [e]
    go_enter Tryz.func76, Tryz.ntmps76
    go_wp2
    go_ret
    exact ⟨rfl, rfl⟩
  all_goals
    go_enter Tryz.func76, Tryz.ntmps76
    go_wp2
    go_ret
    exact ⟨rfl, rfl⟩
theorem escAt : EscAt := fun r w hr hT => by
  by_cases h : 32 ≤ r ∨ r = 8 ∨ r = 9 ∨ r = 10 ∨ r = 12 ∨ r = 13
  · refine (esc_const r w h hr).mono ?_
    rintro e w' ⟨rfl, rfl⟩
    exact ⟨rfl, Below.refl _ _⟩
  · have e : escR r = [92, 117, 48, 48, hexB (r / 16), hexB (r % 16)] := by
      unfold escR
      rw [if_neg (by omega), if_neg (by omega), if_neg (by omega), if_neg (by omega), if_neg (by omega), if_neg (by omega), if_neg (by omega), if_neg (by omega)]
    rw [e]
    exact esc_low r w hT (by omega) (by omega) (by omega) (by omega) (by omega) (by omega)
end Es
end Go.Proofs.YtiakidomcjpdhaaGreatDoor
