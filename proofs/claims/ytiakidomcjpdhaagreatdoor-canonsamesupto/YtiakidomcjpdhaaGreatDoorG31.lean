/- What the reference's figures does at a number within bounds: a contract, by walking its text. What the reference's Count does: it answers some number; a contract, by walking its text. -/
import Derived.Test.YtiakidomcjpdhaaGreatDoorG11
import Derived.Laws.IdiomStrings
import Derived.Laws.Bits64
import Derived.Test.YtiakidomcjpdhaaGreatDoorG10
namespace Go.Proofs.YtiakidomcjpdhaaGreatDoor
open Go.RowKit
namespace PlnW

def digF : Nat → Nat → List UInt8 → List UInt8
  | 0, _, acc => acc
  | f + 1, x, acc => if 0 < x ∨ acc = [] then digF f (x / 10) ((48 + x % 10).toUInt8 :: acc) else acc
/-- A number's text. -/
def figs (n : Int) : List UInt8 := if n < 0 then 45 :: digF 20 n.natAbs [] else digF 20 n.natAbs []

theorem conv_one (W : World) (d : Nat) (hd : d < 256) : (convert 49 9 (.slice (some ⟨W.heap.size, 0, none⟩) 1 1)).run Tryz.prog (W.alloc (.cells #[.int .u8 (d : Int)] 5)) = .ok (.string ⟨#[d.toUInt8]⟩) (W.alloc (.cells #[.int .u8 (d : Int)] 5)) := by
  have := run_convert_bytes_back (P := Tryz.prog) (W.alloc (.cells #[.int .u8 (d : Int)] 5)) 49 9 5 ⟨W.heap.size, 0, none⟩ 1 [d.toUInt8] Tryz.underlying49 Tryz.underlying5 Tryz.underlying9 (fun j hj => by
    have hj0 : j = 0 := by simpa using hj
    subst hj0
    have e : ((d.toUInt8).toNat : Int) = (d : Int) := by
      have : (d.toUInt8).toNat = d % 256 := UInt8.toNat_ofNat'
      rw [this]
      omega
    have h1 := cells_new W [.int .u8 (d : Int)] 5 0 (.int .u8 (d : Int)) rfl
    simp only [List.getElem_cons_zero, e]
    exact h1)
  exact this
/-- The number in a slot; 1 for an empty text. -/
def numOfF : Value → Nat
  | .int _ n => n.toNat
  | _ => 0
def empOf : Value → Nat
  | .string s => if s.size = 0 then 1 else 0
  | _ => 0

set_option maxRecDepth 20000 in
set_option maxHeartbeats 4000000 in
theorem figs_any (n : Int) (w : World) (hn : -9007199254740991 ≤ n ∧ n ≤ 9007199254740991) :
    Calls Tryz.prog 72 #[.int .i64 n] w fun e w' => e = .returned (.string ⟨(figs n).toArray⟩) ∧ Below w.heap.size w w' := by
  obtain ⟨N, hN⟩ : ∃ N, n.natAbs = N := ⟨_, rfl⟩
  obtain ⟨T, hT⟩ : ∃ T, digF 20 N [] = T := ⟨_, rfl⟩
  have hNb : N ≤ 9007199254740991 := by omega
  by_cases hneg : n < 0
  · have hf : figs n = 45 :: T := by rw [figs, if_pos hneg, hN, hT]
    rw [hf]
    have h1 : IntKind.u64.wrap n = n + 18446744073709551616 := by rw [IntKind.wrap_u64]; omega
    have h2 : IntKind.u64.wrap (0 - (n + 18446744073709551616)) = (N : Int) := by rw [IntKind.wrap_u64]; omega
    have h3 : IntKind.u64.wrap (-(n + 18446744073709551616)) = (N : Int) := by rw [IntKind.wrap_u64]; omega
    clear hf hN
    go_enter Tryz.func72, Tryz.ntmps72
    go_wp2
    clear h1 h2 h3
    go_loopw [3, 4] (fun v u w' => ∃ (x f : Nat) (acc : List UInt8), v = .string ⟨acc.toArray⟩ ∧ u = .int .u64 (x : Int) ∧ Hid (digF f x acc = T) ∧ x ≤ 9007199254740991 ∧ x < 10 ^ f ∧ (acc = [] → f = 20) ∧ acc.length + f ≤ 20 ∧ Below w.heap.size w w') (fun v u _ => 2 * numOfF u + empOf v)
    case atStart => exact ⟨N, 20, [], rfl, rfl, hT, hNb, Nat.lt_of_le_of_lt hNb (by decide), fun _ => rfl, by simp, Below.refl _ _⟩
    case round =>
      obtain ⟨x, f, acc, rfl, rfl, HD, hxb, hx, hemp, hal, hb⟩ := hrel
      by_cases hgo : 0 < x ∨ acc = []
      · obtain ⟨f, rfl⟩ : ∃ g, f = g + 1 := by
          refine ⟨f - 1, ?_⟩
          rcases hgo with h | h
          · by_cases hf : f = 0
            · subst hf; simp at hx; omega
            · omega
          · have := hemp h; omega
        have HE : Hid (digF f (x / 10) ((48 + x % 10).toUInt8 :: acc) = T) := by
          show _ = _
          rw [← HD.out, digF, if_pos hgo]
        have hx10 : x / 10 < 10 ^ f := by
          rw [Nat.pow_succ] at hx
          omega
        obtain ⟨Q, hQ⟩ : ∃ Q, x / 10 = Q := ⟨_, rfl⟩
        obtain ⟨D, hD⟩ : ∃ D, 48 + x % 10 = D := ⟨_, rfl⟩
        rw [hQ] at HE hx10
        rw [hD] at HE
        have hDl : D < 256 := by omega
        have q1 : (x : Int) / 10 = (Q : Int) := by omega
        have q2 : Int.tdiv (x : Int) 10 = (Q : Int) := by rw [Int.tdiv_eq_ediv_of_nonneg (by omega)]; exact q1
        have r1 : Int.tmod (x : Int) 10 = (D : Int) - 48 := by rw [Int.tmod_eq_emod_of_nonneg (by omega)]; omega
        have r3 : IntKind.u64.wrap ((D : Int) - 48) = (D : Int) - 48 := by rw [IntKind.wrap_u64]; omega
        have r4 : 48 + ((D : Int) - 48) = (D : Int) := by omega
        have r5 : IntKind.u64.wrap (D : Int) = (D : Int) := by rw [IntKind.wrap_u64]; omega
        have r6 : IntKind.u8.wrap (D : Int) = (D : Int) := by rw [IntKind.wrap_u8]; omega
        have q3 : IntKind.u64.wrap (Q : Int) = (Q : Int) := by rw [IntKind.wrap_u64]; omega
        have hcv := conv_one wr D hDl
        have hsz : (⟨acc.toArray⟩ : ByteArray).size ≤ 20 := by rw [Lib.size_eq]; simp; omega
        have hcat : (⟨#[D.toUInt8]⟩ : ByteArray) ++ ⟨acc.toArray⟩ = ⟨(D.toUInt8 :: acc).toArray⟩ := by apply ByteArray.ext; simp [ByteArray.data_append]
        have hmeas : 2 * Q + 0 < 2 * x + empOf (.string ⟨acc.toArray⟩) := by
          rcases hgo with h | h
          · omega
          · subst h
            have : empOf (.string ⟨([] : List UInt8).toArray⟩) = 1 := rfl
            omega
        have hQx : Q ≤ 9007199254740991 := by omega
        have hemp2 : empOf (.string ⟨(D.toUInt8 :: acc).toArray⟩) = 0 := by
          simp only [empOf]
          rw [if_neg]
          rw [Lib.size_eq]
          simp
        have hcond : (decide (0 < (x : Int)) = true) ∨ (decide (0 < (x : Int)) = false ∧ acc = []) := by
          rcases hgo with h | h
          · left; simp; omega
          · by_cases hx0 : 0 < x
            · left; simp; omega
            · right; exact ⟨by simp; omega, h⟩
        clear hgo HD
        rcases hcond with hc | ⟨hc, hacc⟩
        · have hc' : (0 : Int) < (x : Int) := by simpa using hc
          clear hc hQ hD
          go_wp2
          refine ⟨⟨Q, f, D.toUInt8 :: acc, rfl, rfl, HE, hQx, hx10, fun h => by simp at h, by simp; omega, hb.alloc hb.size _⟩, ?_⟩
          have h5 : empOf (.string ⟨(UInt8.ofNat D :: acc).toArray⟩) = 0 := hemp2
          rw [h5]
          simpa [numOfF] using hmeas
        · subst hacc
          have hx0 : x = 0 := by have : ¬ (0 : Int) < (x : Int) := by simpa using hc
                                 omega
          subst hx0
          obtain rfl : Q = 0 := by omega
          obtain rfl : D = 48 := by omega
          have hcv2 : (convert 49 9 (.slice (some ⟨wr.heap.size, 0, none⟩) 1 1)).run Tryz.prog (wr.alloc (.cells #[.int .u8 48] 5)) = .ok (.string ⟨#[48]⟩) (wr.alloc (.cells #[.int .u8 48] 5)) := conv_one wr 48 (by decide)
          clear hc hQ hD q1 q2 q3 r1 r3 r4 r5 r6 hcat hcv
          go_wp2
          refine ⟨⟨0, f, [48], rfl, rfl, HE, hQx, hx10, fun h => by simp at h, by simp at hal ⊢; omega, hb.alloc hb.size _⟩, ?_⟩
          decide
      · have hx0 : x = 0 := by omega
        have hne : acc ≠ [] := fun h => hgo (.inr h)
        have HE : acc = T := by
          rw [← HD.out]
          cases f with
          | zero => rfl
          | succ f => rw [digF, if_neg hgo]
        subst hx0
        have hem : ((⟨acc.toArray⟩ : ByteArray).toList == []) = false := by
          rw [Lib.toList_data]
          cases acc with
          | nil => exact absurd rfl hne
          | cons a r => rfl
        have hem2 : (⟨acc.toArray⟩ : ByteArray).toList.isEmpty = false := by
          rw [Lib.toList_data]
          cases acc with
          | nil => exact absurd rfl hne
          | cons a r => rfl
        have hem3 : acc.isEmpty = false := by
          cases acc with
          | nil => exact absurd rfl hne
          | cons a r => rfl
        have hsz : (⟨acc.toArray⟩ : ByteArray).size ≤ 20 := by rw [Lib.size_eq]; simp; omega
        have hal2 : ((acc.length : Nat) : Int) ≤ 20 := by omega
        have hal3 : acc.length ≤ 20 := by omega
        subst HE
        clear HD hgo hT
        have hcat : (⟨#[45]⟩ : ByteArray) ++ ⟨acc.toArray⟩ = ⟨(45 :: acc).toArray⟩ := by apply ByteArray.ext; simp [ByteArray.data_append]
        go_wp2
        go_ret
        refine ⟨?_, hb⟩
        rw [← hcat]
        rfl
  · have hf : figs n = T := by rw [figs, if_neg hneg, hN, hT]
    rw [hf]
    have h1 : IntKind.u64.wrap n = (N : Int) := by rw [IntKind.wrap_u64]; omega
    clear hf hN
    go_enter Tryz.func72, Tryz.ntmps72
    go_wp2
    clear h1
    go_loopw [3, 4] (fun v u w' => ∃ (x f : Nat) (acc : List UInt8), v = .string ⟨acc.toArray⟩ ∧ u = .int .u64 (x : Int) ∧ Hid (digF f x acc = T) ∧ x ≤ 9007199254740991 ∧ x < 10 ^ f ∧ (acc = [] → f = 20) ∧ acc.length + f ≤ 20 ∧ Below w.heap.size w w') (fun v u _ => 2 * numOfF u + empOf v)
    case atStart => exact ⟨N, 20, [], rfl, rfl, hT, hNb, Nat.lt_of_le_of_lt hNb (by decide), fun _ => rfl, by simp, Below.refl _ _⟩
    case round =>
      obtain ⟨x, f, acc, rfl, rfl, HD, hxb, hx, hemp, hal, hb⟩ := hrel
      by_cases hgo : 0 < x ∨ acc = []
      · obtain ⟨f, rfl⟩ : ∃ g, f = g + 1 := by
          refine ⟨f - 1, ?_⟩
          rcases hgo with h | h
          · by_cases hf : f = 0
            · subst hf; simp at hx; omega
            · omega
          · have := hemp h; omega
        have HE : Hid (digF f (x / 10) ((48 + x % 10).toUInt8 :: acc) = T) := by
          show _ = _
          rw [← HD.out, digF, if_pos hgo]
        have hx10 : x / 10 < 10 ^ f := by
          rw [Nat.pow_succ] at hx
          omega
        obtain ⟨Q, hQ⟩ : ∃ Q, x / 10 = Q := ⟨_, rfl⟩
        obtain ⟨D, hD⟩ : ∃ D, 48 + x % 10 = D := ⟨_, rfl⟩
        rw [hQ] at HE hx10
        rw [hD] at HE
        have hDl : D < 256 := by omega
        have q1 : (x : Int) / 10 = (Q : Int) := by omega
        have q2 : Int.tdiv (x : Int) 10 = (Q : Int) := by rw [Int.tdiv_eq_ediv_of_nonneg (by omega)]; exact q1
        have r1 : Int.tmod (x : Int) 10 = (D : Int) - 48 := by rw [Int.tmod_eq_emod_of_nonneg (by omega)]; omega
        have r3 : IntKind.u64.wrap ((D : Int) - 48) = (D : Int) - 48 := by rw [IntKind.wrap_u64]; omega
        have r4 : 48 + ((D : Int) - 48) = (D : Int) := by omega
        have r5 : IntKind.u64.wrap (D : Int) = (D : Int) := by rw [IntKind.wrap_u64]; omega
        have r6 : IntKind.u8.wrap (D : Int) = (D : Int) := by rw [IntKind.wrap_u8]; omega
        have q3 : IntKind.u64.wrap (Q : Int) = (Q : Int) := by rw [IntKind.wrap_u64]; omega
        have hcv := conv_one wr D hDl
        have hsz : (⟨acc.toArray⟩ : ByteArray).size ≤ 20 := by rw [Lib.size_eq]; simp; omega
        have hcat : (⟨#[D.toUInt8]⟩ : ByteArray) ++ ⟨acc.toArray⟩ = ⟨(D.toUInt8 :: acc).toArray⟩ := by apply ByteArray.ext; simp [ByteArray.data_append]
        have hmeas : 2 * Q + 0 < 2 * x + empOf (.string ⟨acc.toArray⟩) := by
          rcases hgo with h | h
          · omega
          · subst h
            have : empOf (.string ⟨([] : List UInt8).toArray⟩) = 1 := rfl
            omega
        have hQx : Q ≤ 9007199254740991 := by omega
        have hemp2 : empOf (.string ⟨(D.toUInt8 :: acc).toArray⟩) = 0 := by
          simp only [empOf]
          rw [if_neg]
          rw [Lib.size_eq]
          simp
        have hcond : (decide (0 < (x : Int)) = true) ∨ (decide (0 < (x : Int)) = false ∧ acc = []) := by
          rcases hgo with h | h
          · left; simp; omega
          · by_cases hx0 : 0 < x
            · left; simp; omega
            · right; exact ⟨by simp; omega, h⟩
        clear hgo HD
        rcases hcond with hc | ⟨hc, hacc⟩
        · have hc' : (0 : Int) < (x : Int) := by simpa using hc
          clear hc hQ hD
          go_wp2
          refine ⟨⟨Q, f, D.toUInt8 :: acc, rfl, rfl, HE, hQx, hx10, fun h => by simp at h, by simp; omega, hb.alloc hb.size _⟩, ?_⟩
          have h5 : empOf (.string ⟨(UInt8.ofNat D :: acc).toArray⟩) = 0 := hemp2
          rw [h5]
          simpa [numOfF] using hmeas
        · subst hacc
          have hx0 : x = 0 := by have : ¬ (0 : Int) < (x : Int) := by simpa using hc
                                 omega
          subst hx0
          obtain rfl : Q = 0 := by omega
          obtain rfl : D = 48 := by omega
          have hcv2 : (convert 49 9 (.slice (some ⟨wr.heap.size, 0, none⟩) 1 1)).run Tryz.prog (wr.alloc (.cells #[.int .u8 48] 5)) = .ok (.string ⟨#[48]⟩) (wr.alloc (.cells #[.int .u8 48] 5)) := conv_one wr 48 (by decide)
          clear hc hQ hD q1 q2 q3 r1 r3 r4 r5 r6 hcat hcv
          go_wp2
          refine ⟨⟨0, f, [48], rfl, rfl, HE, hQx, hx10, fun h => by simp at h, by simp at hal ⊢; omega, hb.alloc hb.size _⟩, ?_⟩
          decide
      · have hx0 : x = 0 := by omega
        have hne : acc ≠ [] := fun h => hgo (.inr h)
        have HE : acc = T := by
          rw [← HD.out]
          cases f with
          | zero => rfl
          | succ f => rw [digF, if_neg hgo]
        subst hx0
        have hem : ((⟨acc.toArray⟩ : ByteArray).toList == []) = false := by
          rw [Lib.toList_data]
          cases acc with
          | nil => exact absurd rfl hne
          | cons a r => rfl
        have hem2 : (⟨acc.toArray⟩ : ByteArray).toList.isEmpty = false := by
          rw [Lib.toList_data]
          cases acc with
          | nil => exact absurd rfl hne
          | cons a r => rfl
        have hem3 : acc.isEmpty = false := by
          cases acc with
          | nil => exact absurd rfl hne
          | cons a r => rfl
        have hsz : (⟨acc.toArray⟩ : ByteArray).size ≤ 20 := by rw [Lib.size_eq]; simp; omega
        have hal2 : ((acc.length : Nat) : Int) ≤ 20 := by omega
        have hal3 : acc.length ≤ 20 := by omega
        subst HE
        clear HD hgo hT
        go_wp2
        go_ret
        exact ⟨rfl, hb⟩
end PlnW
end Go.Proofs.YtiakidomcjpdhaaGreatDoor

namespace Go.Proofs.YtiakidomcjpdhaaGreatDoor
open Go.RowKit
namespace PlnW

/-- What is asked of Count at one value. -/
def CountAt (x : GV) : Prop := ∀ (w : World) (ok : Nat → Prop) (cs : Array Value) (z : Int), LaidV w ok x cs.toList → 0 ≤ z → z ≤ 65536 → Calls Tryz.prog 37 #[.agg cs, .int .i64 z] w fun e w' => ∃ m : Int, e = .returned (.int .i64 m) ∧ 0 ≤ m ∧ m ≤ 65537 ∧ Below w.heap.size w w'

set_option maxRecDepth 20000 in
set_option maxHeartbeats 4000000 in
theorem count_small (k : Int) (b : Bool) (n : Int) (t : ByteArray) (l : List GV) (f : List (ByteArray × GV)) (hk : k ≠ 4 ∧ k ≠ 5) : CountAt (.mk k b n t l f) := by
  intro w ok cs z hx hz0 hz1
  obtain ⟨a1, c1, a2, c2, xs, ys, hcs, _⟩ := hx.form
  obtain rfl : cs = #[.int .i64 k, .bool b, .int .i64 n, .string t, .slice a1 l.length c1, .slice a2 f.length c2] := by
    cases cs
    simpa using hcs
  clear hcs hx
  have k4 : (k == 4) = false := by simpa using hk.1
  have k5 : (k == 5) = false := by simpa using hk.2
  go_enter Tryz.func37, Tryz.ntmps37
  go_wp2
  go_ret
  exact ⟨_, rfl, by omega, by omega, (Below.refl _ _).alloc (Nat.le_refl _) _⟩
set_option maxRecDepth 20000 in
set_option maxHeartbeats 4000000 in
theorem count_l (b : Bool) (n : Int) (t : ByteArray) (l : List GV) (f : List (ByteArray × GV)) (hsz : (GV.mk 4 b n t l f).sz ≤ 2000000) (hl : ∀ i (h : i < l.length), CountAt (l[i])) : CountAt (.mk 4 b n t l f) := by
  intro w ok cs z hx hz0 hz1
  obtain ⟨a1, c1, a2, c2, xs, ys, hcs, hs1, hs2, hl1, hf1⟩ := hx.form
  obtain rfl : cs = #[.int .i64 4, .bool b, .int .i64 n, .string t, .slice a1 l.length c1, .slice a2 f.length c2] := by
    cases cs
    simpa using hcs
  have hll : l.length ≤ 2000000 := by have := szL_len l; have := szF_len f; unfold GV.sz at hsz; omega
  clear hcs hx hsz
  obtain ⟨C, hC⟩ : ∃ C : Array Value, C = #[.int .i64 4, .bool b, .int .i64 n, .string t, .slice a1 l.length c1, .slice a2 f.length c2] := ⟨_, rfl⟩
  have m0 : SndW.OneAt w C (w.alloc (.cells C 25)) := ⟨heap_alloc_new _ _, (Below.refl _ _).alloc (Nat.le_refl _) _, by simp⟩
  have x0 := (box6 (hC ▸ m0.v)).1
  rw [hC] at m0
  go_enter Tryz.func37, Tryz.ntmps37
  go_wp2
  clear x0
  go_loopw [1, 5] (fun y u w' => ∃ (i : Nat) (z : Int), y = .int .i64 z ∧ 0 ≤ z ∧ z ≤ 65537 ∧ u = .int .i64 (i : Int) ∧ i ≤ l.length ∧ SndW.OneAt w #[.int .i64 4, .bool b, .int .i64 n, .string t, .slice a1 l.length c1, .slice a2 f.length c2] w') (fun _ u _ => l.length - numOfF u)
  case atStart => exact ⟨0, z + 1, rfl, by omega, by omega, rfl, Nat.zero_le _, m0⟩
  case round =>
    obtain ⟨i, z, rfl, hz2, hz3, rfl, hil, m⟩ := hrel
    have hmb := m.b
    have hms := m.s
    obtain ⟨x0, x1, x2, x3, x4, x5⟩ := box6 m.v
    clear m0
    by_cases hlt : i < l.length
    · have hlt' : (i : Int) < (l.length : Int) := by omega
      by_cases hzz : z ≤ 65536
      · obtain ⟨sb, off, es, ha, hsb, hlv, hcell⟩ := SlAt.elem (hs1.conv (ok' := fun b => b < wr.heap.size) (w' := wr) (by decide) (fun b _ hb => ⟨Nat.lt_of_lt_of_le hb hmb.size, hmb.block b hb⟩)) (hl1.conv (fun b _ hb => ⟨Nat.lt_of_lt_of_le hb hmb.size, hmb.block b hb⟩)) i hlt
        have hcp := hl i hlt
        obtain ⟨X, hX⟩ : ∃ X, (l[i]) = X := ⟨_, rfl⟩
        rw [hX] at hlv hcp
        cases hXc : X with
        | mk k' b' n' t' l' f' =>
        rw [hXc] at hlv
        obtain ⟨p1, q1, p2, q2, _, _, rfl, _⟩ := hlv.form
        rw [← hXc] at hlv
        subst ha
        have e0 := hcell 0 (by decide)
        have e1 := hcell 1 (by decide)
        have e2 := hcell 2 (by decide)
        have e3 := hcell 3 (by decide)
        have e4 := hcell 4 (by decide)
        have e5 := hcell 5 (by decide)
        simp only [List.getElem?_cons_zero, List.getElem?_cons_succ, Nat.add_zero] at e0 e1 e2 e3 e4 e5
        have hcall := hcp wr (fun b => b < wr.heap.size) #[.int .i64 k', .bool b', .int .i64 n', .string t', .slice p1 l'.length q1, .slice p2 f'.length q2] z hlv hz2 hzz
        clear hcell hXc hlv hcp hX
        go_wp2_with (go_at_call 37; refine hcall.mono ?_; rintro e w2 ⟨z2, rfl, g1, g2, h2⟩)
        go_roundw
        case rel => exact ⟨i + 1, z2, rfl, g1, g2, by simp, hlt, m.keep h2⟩
        case measure => simp [numOfF]; omega
      · have hzz' : ¬ z ≤ 65536 := hzz
        go_wp2
        go_ret
        exact ⟨_, rfl, hz2, hz3, hmb⟩
    · have hlt' : ¬ (i : Int) < (l.length : Int) := by omega
      go_wp2
      go_ret
      exact ⟨_, rfl, hz2, hz3, hmb⟩
set_option maxRecDepth 20000 in
set_option maxHeartbeats 4000000 in
theorem count_f (b : Bool) (n : Int) (t : ByteArray) (l : List GV) (f : List (ByteArray × GV)) (hsz : (GV.mk 5 b n t l f).sz ≤ 2000000) (hl : ∀ i (h : i < f.length), CountAt (f[i]).2) : CountAt (.mk 5 b n t l f) := by
  intro w ok cs z hx hz0 hz1
  obtain ⟨a1, c1, a2, c2, xs, ys, hcs, hs1, hs2, hl1, hf1⟩ := hx.form
  obtain rfl : cs = #[.int .i64 5, .bool b, .int .i64 n, .string t, .slice a1 l.length c1, .slice a2 f.length c2] := by
    cases cs
    simpa using hcs
  have hll : f.length ≤ 2000000 := by have := szL_len l; have := szF_len f; unfold GV.sz at hsz; omega
  clear hcs hx hsz
  obtain ⟨C, hC⟩ : ∃ C : Array Value, C = #[.int .i64 5, .bool b, .int .i64 n, .string t, .slice a1 l.length c1, .slice a2 f.length c2] := ⟨_, rfl⟩
  have m0 : SndW.OneAt w C (w.alloc (.cells C 25)) := ⟨heap_alloc_new _ _, (Below.refl _ _).alloc (Nat.le_refl _) _, by simp⟩
  have x0 := (box6 (hC ▸ m0.v)).1
  rw [hC] at m0
  go_enter Tryz.func37, Tryz.ntmps37
  go_wp2
  clear x0
  go_loopw [1, 6] (fun y u w' => ∃ (i : Nat) (z : Int), y = .int .i64 z ∧ 0 ≤ z ∧ z ≤ 65537 ∧ u = .int .i64 (i : Int) ∧ i ≤ f.length ∧ SndW.OneAt w #[.int .i64 5, .bool b, .int .i64 n, .string t, .slice a1 l.length c1, .slice a2 f.length c2] w') (fun _ u _ => f.length - numOfF u)
  case atStart => exact ⟨0, z + 1, rfl, by omega, by omega, rfl, Nat.zero_le _, m0⟩
  case round =>
    obtain ⟨i, z, rfl, hz2, hz3, rfl, hil, m⟩ := hrel
    have hmb := m.b
    have hms := m.s
    obtain ⟨x0, x1, x2, x3, x4, x5⟩ := box6 m.v
    clear m0
    by_cases hlt : i < f.length
    · have hlt' : (i : Int) < (f.length : Int) := by omega
      by_cases hzz : z ≤ 65536
      · obtain ⟨sb, off, es, ha, hsb, hlv, hname, hcell⟩ := SlAt.field (hs2.conv (ok' := fun b => b < wr.heap.size) (w' := wr) (by decide) (fun b _ hb => ⟨Nat.lt_of_lt_of_le hb hmb.size, hmb.block b hb⟩)) (hf1.conv (fun b _ hb => ⟨Nat.lt_of_lt_of_le hb hmb.size, hmb.block b hb⟩)) i hlt
        have hcp := hl i hlt
        obtain ⟨X, hX⟩ : ∃ X, (f[i]).2 = X := ⟨_, rfl⟩
        rw [hX] at hlv hcp
        cases hXc : X with
        | mk k' b' n' t' l' f' =>
        rw [hXc] at hlv
        obtain ⟨p1, q1, p2, q2, _, _, rfl, _⟩ := hlv.form
        rw [← hXc] at hlv
        subst ha
        have e0 := hcell 0 (by decide)
        have e1 := hcell 1 (by decide)
        have e2 := hcell 2 (by decide)
        have e3 := hcell 3 (by decide)
        have e4 := hcell 4 (by decide)
        have e5 := hcell 5 (by decide)
        simp only [List.getElem?_cons_zero, List.getElem?_cons_succ, Nat.add_zero, Nat.reduceAdd] at e0 e1 e2 e3 e4 e5
        have hcall := hcp wr (fun b => b < wr.heap.size) #[.int .i64 k', .bool b', .int .i64 n', .string t', .slice p1 l'.length q1, .slice p2 f'.length q2] z hlv hz2 hzz
        clear hcell hXc hlv hcp hX
        go_wp2_with (go_at_call 37; refine hcall.mono ?_; rintro e w2 ⟨z2, rfl, g1, g2, h2⟩)
        go_roundw
        case rel => exact ⟨i + 1, z2, rfl, g1, g2, by simp, hlt, m.keep h2⟩
        case measure => simp [numOfF]; omega
      · have hzz' : ¬ z ≤ 65536 := hzz
        go_wp2
        go_ret
        exact ⟨_, rfl, hz2, hz3, hmb⟩
    · have hlt' : ¬ (i : Int) < (f.length : Int) := by omega
      go_wp2
      go_ret
      exact ⟨_, rfl, hz2, hz3, hmb⟩

theorem count_any : ∀ (m : Nat) (x : GV), x.sz ≤ m → m ≤ 2000000 → CountAt x
  | 0, x, h, _ => by have := x.sz_pos; omega
  | m + 1, .mk k b n t l f, h, hm => by
    have h1 : 1 + t.size + szL l + szF f ≤ m + 1 := by unfold GV.sz at h; exact h
    by_cases h4 : k = 4
    · subst h4
      exact count_l b n t l f (by omega) (fun i hi => count_any m _ (by have := szL_get l i hi; omega) (by omega))
    · by_cases h5 : k = 5
      · subst h5
        exact count_f b n t l f (by omega) (fun i hi => count_any m _ (by have := szF_get f i hi; omega) (by omega))
      · exact count_small k b n t l f ⟨h4, h5⟩
end PlnW
end Go.Proofs.YtiakidomcjpdhaaGreatDoor
