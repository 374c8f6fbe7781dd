/- What the reference's figures does at a number within bounds: a contract, by walking its text. What object of the reader does: a contract, by walking its text. What value of the reader does: a contract, by walking its text, and by induction on the brackets that may still open. What value, whole and newReader of the reader do: contracts, by walking their text. What json.Parse does at every text: a contract, by walking its text. -/
import Derived.Test.YtiakidomcjpdhaaGreatDoorGGvb
import Derived.Laws.IdiomStrings
import Derived.Laws.Bits64
import Derived.Test.YtiakidomcjpdhaaGreatDoorGLsC
import Derived.Test.YtiakidomcjpdhaaGreatDoorGCh
namespace Go.Proofs.YtiakidomcjpdhaaGreatDoor
open Go.RowKit
namespace PlnW

def digF : Nat → Nat → List UInt8 → List UInt8
  | 0, _, acc => acc
  | f + 1, x, acc => if 0 < x ∨ acc = [] then digF f (x / 10) ((48 + x % 10).toUInt8 :: acc) else acc
/-- A number's text. -/
def figs (n : Int) : List UInt8 := if n < 0 then 45 :: digF 20 n.natAbs [] else digF 20 n.natAbs []

theorem conv_one (W : World) (d : Nat) (hd : d < 256) : (convert 49 9 (.slice (some ⟨W.heap.size, 0, none⟩) 1 1)).run Tryz.prog (W.alloc (.cells #[.int .u8 (d : Int)] 5)) = .ok (.string ⟨#[d.toUInt8]⟩) (W.alloc (.cells #[.int .u8 (d : Int)] 5)) := by
  have := run_convert_bytes_back (P := Tryz.prog) (W.alloc (.cells #[.int .u8 (d : Int)] 5)) 49 9 5 ⟨W.heap.size, 0, none⟩ 1 [d.toUInt8] Tryz.underlying49 Tryz.underlying5 Tryz.underlying9 (fun j hj => by
    have hj0 : j = 0 := by simpa using hj
    subst hj0
    have e : ((d.toUInt8).toNat : Int) = (d : Int) := by
      have : (d.toUInt8).toNat = d % 256 := UInt8.toNat_ofNat'
      rw [this]
      omega
    have h1 := cells_new W [.int .u8 (d : Int)] 5 0 (.int .u8 (d : Int)) rfl
    simp only [List.getElem_cons_zero, e]
    exact h1)
  exact this
/-- The number in a slot; 1 for an empty text. -/
def numOfF : Value → Nat
  | .int _ n => n.toNat
  | _ => 0
def empOf : Value → Nat
  | .string s => if s.size = 0 then 1 else 0
  | _ => 0

set_option maxRecDepth 20000 in
set_option maxHeartbeats 4000000 in
theorem figs_any (n : Int) (w : World) (hn : -9007199254740991 ≤ n ∧ n ≤ 9007199254740991) :
    Calls Tryz.prog 72 #[.int .i64 n] w fun e w' => e = .returned (.string ⟨(figs n).toArray⟩) ∧ Below w.heap.size w w' := by
  obtain ⟨N, hN⟩ : ∃ N, n.natAbs = N := ⟨_, rfl⟩
  obtain ⟨T, hT⟩ : ∃ T, digF 20 N [] = T := ⟨_, rfl⟩
  have hNb : N ≤ 9007199254740991 := by omega
  by_cases hneg : n < 0
  · have hf : figs n = 45 :: T := by rw [figs, if_pos hneg, hN, hT]
    rw [hf]
    have h1 : IntKind.u64.wrap n = n + 18446744073709551616 := by rw [IntKind.wrap_u64]; omega
    have h2 : IntKind.u64.wrap (0 - (n + 18446744073709551616)) = (N : Int) := by rw [IntKind.wrap_u64]; omega
    have h3 : IntKind.u64.wrap (-(n + 18446744073709551616)) = (N : Int) := by rw [IntKind.wrap_u64]; omega
    clear hf hN
    go_enter Tryz.func72, Tryz.ntmps72
    go_wp2
    clear h1 h2 h3
    go_loopw [3, 4] (fun v u w' => ∃ (x f : Nat) (acc : List UInt8), v = .string ⟨acc.toArray⟩ ∧ u = .int .u64 (x : Int) ∧ Hid (digF f x acc = T) ∧ x ≤ 9007199254740991 ∧ x < 10 ^ f ∧ (acc = [] → f = 20) ∧ acc.length + f ≤ 20 ∧ Below w.heap.size w w') (fun v u _ => 2 * numOfF u + empOf v)
    case atStart => exact ⟨N, 20, [], rfl, rfl, hT, hNb, Nat.lt_of_le_of_lt hNb (by decide), fun _ => rfl, by simp, Below.refl _ _⟩
    case round =>
      obtain ⟨x, f, acc, rfl, rfl, HD, hxb, hx, hemp, hal, hb⟩ := hrel
      by_cases hgo : 0 < x ∨ acc = []
      · obtain ⟨f, rfl⟩ : ∃ g, f = g + 1 := by
          refine ⟨f - 1, ?_⟩
          rcases hgo with h | h
          · by_cases hf : f = 0
            · subst hf; simp at hx; omega
            · omega
          · have := hemp h; omega
        have HE : Hid (digF f (x / 10) ((48 + x % 10).toUInt8 :: acc) = T) := by
          show _ = _
          rw [← HD.out, digF, if_pos hgo]
        have hx10 : x / 10 < 10 ^ f := by
          rw [Nat.pow_succ] at hx
          omega
        obtain ⟨Q, hQ⟩ : ∃ Q, x / 10 = Q := ⟨_, rfl⟩
        obtain ⟨D, hD⟩ : ∃ D, 48 + x % 10 = D := ⟨_, rfl⟩
        rw [hQ] at HE hx10
        rw [hD] at HE
        have hDl : D < 256 := by omega
        have q1 : (x : Int) / 10 = (Q : Int) := by omega
        have q2 : Int.tdiv (x : Int) 10 = (Q : Int) := by rw [Int.tdiv_eq_ediv_of_nonneg (by omega)]; exact q1
        have r1 : Int.tmod (x : Int) 10 = (D : Int) - 48 := by rw [Int.tmod_eq_emod_of_nonneg (by omega)]; omega
        have r3 : IntKind.u64.wrap ((D : Int) - 48) = (D : Int) - 48 := by rw [IntKind.wrap_u64]; omega
        have r4 : 48 + ((D : Int) - 48) = (D : Int) := by omega
        have r5 : IntKind.u64.wrap (D : Int) = (D : Int) := by rw [IntKind.wrap_u64]; omega
        have r6 : IntKind.u8.wrap (D : Int) = (D : Int) := by rw [IntKind.wrap_u8]; omega
        have q3 : IntKind.u64.wrap (Q : Int) = (Q : Int) := by rw [IntKind.wrap_u64]; omega
        have hcv := conv_one wr D hDl
        have hsz : (⟨acc.toArray⟩ : ByteArray).size ≤ 20 := by rw [Lib.size_eq]; simp; omega
        have hcat : (⟨#[D.toUInt8]⟩ : ByteArray) ++ ⟨acc.toArray⟩ = ⟨(D.toUInt8 :: acc).toArray⟩ := by apply ByteArray.ext; simp [ByteArray.data_append]
        have hmeas : 2 * Q + 0 < 2 * x + empOf (.string ⟨acc.toArray⟩) := by
          rcases hgo with h | h
          · omega
          · subst h
            have : empOf (.string ⟨([] : List UInt8).toArray⟩) = 1 := rfl
            omega
        have hQx : Q ≤ 9007199254740991 := by omega
        have hemp2 : empOf (.string ⟨(D.toUInt8 :: acc).toArray⟩) = 0 := by
          simp only [empOf]
          rw [if_neg]
          rw [Lib.size_eq]
          simp
        have hcond : (decide (0 < (x : Int)) = true) ∨ (decide (0 < (x : Int)) = false ∧ acc = []) := by
          rcases hgo with h | h
          · left; simp; omega
          · by_cases hx0 : 0 < x
            · left; simp; omega
            · right; exact ⟨by simp; omega, h⟩
        clear hgo HD
        rcases hcond with hc | ⟨hc, hacc⟩
        · have hc' : (0 : Int) < (x : Int) := by simpa using hc
          clear hc hQ hD
          go_wp2
          refine ⟨⟨Q, f, D.toUInt8 :: acc, rfl, rfl, HE, hQx, hx10, fun h => by simp at h, by simp; omega, hb.alloc hb.size _⟩, ?_⟩
          have h5 : empOf (.string ⟨(UInt8.ofNat D :: acc).toArray⟩) = 0 := hemp2
          rw [h5]
          simpa [numOfF] using hmeas
        · subst hacc
          have hx0 : x = 0 := by have : ¬ (0 : Int) < (x : Int) := by simpa using hc
                                 omega
          subst hx0
          obtain rfl : Q = 0 := by omega
          obtain rfl : D = 48 := by omega
          have hcv2 : (convert 49 9 (.slice (some ⟨wr.heap.size, 0, none⟩) 1 1)).run Tryz.prog (wr.alloc (.cells #[.int .u8 48] 5)) = .ok (.string ⟨#[48]⟩) (wr.alloc (.cells #[.int .u8 48] 5)) := conv_one wr 48 (by decide)
          clear hc hQ hD q1 q2 q3 r1 r3 r4 r5 r6 hcat hcv
          go_wp2
          refine ⟨⟨0, f, [48], rfl, rfl, HE, hQx, hx10, fun h => by simp at h, by simp at hal ⊢; omega, hb.alloc hb.size _⟩, ?_⟩
          decide
      · have hx0 : x = 0 := by omega
        have hne : acc ≠ [] := fun h => hgo (.inr h)
        have HE : acc = T := by
          rw [← HD.out]
          cases f with
          | zero => rfl
          | succ f => rw [digF, if_neg hgo]
        subst hx0
        have hem : ((⟨acc.toArray⟩ : ByteArray).toList == []) = false := by
          rw [Lib.toList_data]
          cases acc with
          | nil => exact absurd rfl hne
          | cons a r => rfl
        have hem2 : (⟨acc.toArray⟩ : ByteArray).toList.isEmpty = false := by
          rw [Lib.toList_data]
          cases acc with
          | nil => exact absurd rfl hne
          | cons a r => rfl
        have hem3 : acc.isEmpty = false := by
          cases acc with
          | nil => exact absurd rfl hne
          | cons a r => rfl
        have hsz : (⟨acc.toArray⟩ : ByteArray).size ≤ 20 := by rw [Lib.size_eq]; simp; omega
        have hal2 : ((acc.length : Nat) : Int) ≤ 20 := by omega
        have hal3 : acc.length ≤ 20 := by omega
        subst HE
        clear HD hgo hT
        have hcat : (⟨#[45]⟩ : ByteArray) ++ ⟨acc.toArray⟩ = ⟨(45 :: acc).toArray⟩ := by apply ByteArray.ext; simp [ByteArray.data_append]
        go_wp2
        go_ret
        refine ⟨?_, hb⟩
        rw [← hcat]
        rfl
  · have hf : figs n = T := by rw [figs, if_neg hneg, hN, hT]
    rw [hf]
    have h1 : IntKind.u64.wrap n = (N : Int) := by rw [IntKind.wrap_u64]; omega
    clear hf hN
    go_enter Tryz.func72, Tryz.ntmps72
    go_wp2
    clear h1
    go_loopw [3, 4] (fun v u w' => ∃ (x f : Nat) (acc : List UInt8), v = .string ⟨acc.toArray⟩ ∧ u = .int .u64 (x : Int) ∧ Hid (digF f x acc = T) ∧ x ≤ 9007199254740991 ∧ x < 10 ^ f ∧ (acc = [] → f = 20) ∧ acc.length + f ≤ 20 ∧ Below w.heap.size w w') (fun v u _ => 2 * numOfF u + empOf v)
    case atStart => exact ⟨N, 20, [], rfl, rfl, hT, hNb, Nat.lt_of_le_of_lt hNb (by decide), fun _ => rfl, by simp, Below.refl _ _⟩
    case round =>
      obtain ⟨x, f, acc, rfl, rfl, HD, hxb, hx, hemp, hal, hb⟩ := hrel
      by_cases hgo : 0 < x ∨ acc = []
      · obtain ⟨f, rfl⟩ : ∃ g, f = g + 1 := by
          refine ⟨f - 1, ?_⟩
          rcases hgo with h | h
          · by_cases hf : f = 0
            · subst hf; simp at hx; omega
            · omega
          · have := hemp h; omega
        have HE : Hid (digF f (x / 10) ((48 + x % 10).toUInt8 :: acc) = T) := by
          show _ = _
          rw [← HD.out, digF, if_pos hgo]
        have hx10 : x / 10 < 10 ^ f := by
          rw [Nat.pow_succ] at hx
          omega
        obtain ⟨Q, hQ⟩ : ∃ Q, x / 10 = Q := ⟨_, rfl⟩
        obtain ⟨D, hD⟩ : ∃ D, 48 + x % 10 = D := ⟨_, rfl⟩
        rw [hQ] at HE hx10
        rw [hD] at HE
        have hDl : D < 256 := by omega
        have q1 : (x : Int) / 10 = (Q : Int) := by omega
        have q2 : Int.tdiv (x : Int) 10 = (Q : Int) := by rw [Int.tdiv_eq_ediv_of_nonneg (by omega)]; exact q1
        have r1 : Int.tmod (x : Int) 10 = (D : Int) - 48 := by rw [Int.tmod_eq_emod_of_nonneg (by omega)]; omega
        have r3 : IntKind.u64.wrap ((D : Int) - 48) = (D : Int) - 48 := by rw [IntKind.wrap_u64]; omega
        have r4 : 48 + ((D : Int) - 48) = (D : Int) := by omega
        have r5 : IntKind.u64.wrap (D : Int) = (D : Int) := by rw [IntKind.wrap_u64]; omega
        have r6 : IntKind.u8.wrap (D : Int) = (D : Int) := by rw [IntKind.wrap_u8]; omega
        have q3 : IntKind.u64.wrap (Q : Int) = (Q : Int) := by rw [IntKind.wrap_u64]; omega
        have hcv := conv_one wr D hDl
        have hsz : (⟨acc.toArray⟩ : ByteArray).size ≤ 20 := by rw [Lib.size_eq]; simp; omega
        have hcat : (⟨#[D.toUInt8]⟩ : ByteArray) ++ ⟨acc.toArray⟩ = ⟨(D.toUInt8 :: acc).toArray⟩ := by apply ByteArray.ext; simp [ByteArray.data_append]
        have hmeas : 2 * Q + 0 < 2 * x + empOf (.string ⟨acc.toArray⟩) := by
          rcases hgo with h | h
          · omega
          · subst h
            have : empOf (.string ⟨([] : List UInt8).toArray⟩) = 1 := rfl
            omega
        have hQx : Q ≤ 9007199254740991 := by omega
        have hemp2 : empOf (.string ⟨(D.toUInt8 :: acc).toArray⟩) = 0 := by
          simp only [empOf]
          rw [if_neg]
          rw [Lib.size_eq]
          simp
        have hcond : (decide (0 < (x : Int)) = true) ∨ (decide (0 < (x : Int)) = false ∧ acc = []) := by
          rcases hgo with h | h
          · left; simp; omega
          · by_cases hx0 : 0 < x
            · left; simp; omega
            · right; exact ⟨by simp; omega, h⟩
        clear hgo HD
        rcases hcond with hc | ⟨hc, hacc⟩
        · have hc' : (0 : Int) < (x : Int) := by simpa using hc
          clear hc hQ hD
          go_wp2
          refine ⟨⟨Q, f, D.toUInt8 :: acc, rfl, rfl, HE, hQx, hx10, fun h => by simp at h, by simp; omega, hb.alloc hb.size _⟩, ?_⟩
          have h5 : empOf (.string ⟨(UInt8.ofNat D :: acc).toArray⟩) = 0 := hemp2
          rw [h5]
          simpa [numOfF] using hmeas
        · subst hacc
          have hx0 : x = 0 := by have : ¬ (0 : Int) < (x : Int) := by simpa using hc
                                 omega
          subst hx0
          obtain rfl : Q = 0 := by omega
          obtain rfl : D = 48 := by omega
          have hcv2 : (convert 49 9 (.slice (some ⟨wr.heap.size, 0, none⟩) 1 1)).run Tryz.prog (wr.alloc (.cells #[.int .u8 48] 5)) = .ok (.string ⟨#[48]⟩) (wr.alloc (.cells #[.int .u8 48] 5)) := conv_one wr 48 (by decide)
          clear hc hQ hD q1 q2 q3 r1 r3 r4 r5 r6 hcat hcv
          go_wp2
          refine ⟨⟨0, f, [48], rfl, rfl, HE, hQx, hx10, fun h => by simp at h, by simp at hal ⊢; omega, hb.alloc hb.size _⟩, ?_⟩
          decide
      · have hx0 : x = 0 := by omega
        have hne : acc ≠ [] := fun h => hgo (.inr h)
        have HE : acc = T := by
          rw [← HD.out]
          cases f with
          | zero => rfl
          | succ f => rw [digF, if_neg hgo]
        subst hx0
        have hem : ((⟨acc.toArray⟩ : ByteArray).toList == []) = false := by
          rw [Lib.toList_data]
          cases acc with
          | nil => exact absurd rfl hne
          | cons a r => rfl
        have hem2 : (⟨acc.toArray⟩ : ByteArray).toList.isEmpty = false := by
          rw [Lib.toList_data]
          cases acc with
          | nil => exact absurd rfl hne
          | cons a r => rfl
        have hem3 : acc.isEmpty = false := by
          cases acc with
          | nil => exact absurd rfl hne
          | cons a r => rfl
        have hsz : (⟨acc.toArray⟩ : ByteArray).size ≤ 20 := by rw [Lib.size_eq]; simp; omega
        have hal2 : ((acc.length : Nat) : Int) ≤ 20 := by omega
        have hal3 : acc.length ≤ 20 := by omega
        subst HE
        clear HD hgo hT
        go_wp2
        go_ret
        exact ⟨rfl, hb⟩
end PlnW
end Go.Proofs.YtiakidomcjpdhaaGreatDoor

namespace Go.Proofs.YtiakidomcjpdhaaGreatDoor
open Go.RowKit

theorem ObjIs.reads {W : World} {rb r1 mp mb vb B : Nat} (P : Pos W rb r1 mp mb vb B) {s : ByteArray} {bad : Int} {dep : Nat} {val : Nat → Except (Nat × Nat) (GV × Nat)} (hv : ValueAt rb s bad dep val) (hs : s.size ≤ 65536) :
    Reads 134 #[.pointer (some ⟨r1, 0, none⟩), .pointer (some ⟨mp, 0, none⟩), .pointer (some ⟨vb, 0, none⟩)] (oneF s bad val) (ObjIs W rb r1 mp mb vb B s bad dep) (Fr (Own rb) W) rb s bad dep where
  call := fun l p w h hp => object1_any W rb r1 mp mb vb B P s bad dep val hv hs l p w h hp
  rd := fun _ _ _ h => h.rd
  keep := fun l p q w w' h rd f hpq => by
    obtain ⟨_, len, sa, sc, xs, ob⟩ := h
    exact ⟨rd, by omega, sa, sc, xs, ob.keep P f⟩
  out := fun _ _ _ _ h f => by
    obtain ⟨_, len, sa, sc, xs, ob⟩ := h
    exact ob.fr.trans f

theorem object_deep (rb : Nat) (s : ByteArray) (bad : Int) : BracketAt 103 rb s bad 32 (fun p => .error (p, 4)) := by
  intro w p hr hT hp
  have hlt := hr.lt
  have hmm := @run_makeMap Tryz.prog
  go_enter Tryz.func103, Tryz.ntmps103
  go_wp2_with (go_at_call 132; refine (deep_any _ _ _ _ _ _ _ (((((hr.alloc _).alloc _).alloc _).alloc _).alloc _)).mono ?_; rintro e w4 ⟨⟨bk, rfl, hbk⟩, f4⟩)
  exact panics0 (Out.no (q := p) (c := 4) rfl ⟨⟨_, rfl, hbk⟩, (((((Fr.alloc _ _ _).allocNew _).allocNew _).allocNew _).allocNew _).trans f4⟩)

set_option maxRecDepth 20000 in
set_option maxHeartbeats 8000000 in
theorem object_any (rb : Nat) (s : ByteArray) (bad : Int) (dep : Nat) (val : Nat → Except (Nat × Nat) (GV × Nat)) (hv : ValueAt rb s bad (dep + 1) val) (hd : dep < 32) (hrb : 6 ≤ rb) (hs : s.size ≤ 65536) : BracketAt 103 rb s bad dep (objS s bad val) := by
  intro w p hr hT hp
  have hlt := hr.lt
  have hmm := @run_makeMap Tryz.prog
  obtain ⟨W2, hW2⟩ : ∃ W2, W2 = (w.alloc (RV rb)).alloc ZV := ⟨_, rfl⟩
  have hsz2 : W2.heap.size = w.heap.size + 2 := by rw [hW2]; simp
  have f2 : Fr (Own rb) w W2 := by rw [hW2]; exact (Fr.alloc _ _ _).allocNew _
  have r2 : RdAt W2 rb s p bad dep := by rw [hW2]; exact (hr.alloc _).alloc _
  have hT2 : Tabs W2 := by rw [hW2]; exact (hT.alloc _).alloc _
  have b0 : W2.heap[w.heap.size]? = some (.cells #[.pointer (some ⟨rb, 0, none⟩)] 75 (0, 0)) := by
    rw [hW2, Below.heap_alloc _ _ _ (by simp)]
    exact heap_alloc_new _ _
  have b1 : W2.heap[w.heap.size + 1]? = some (.cells #[.int .i64 0, .bool false, .int .i64 0, .string ⟨#[]⟩, .slice none 0 0, .slice none 0 0] 25 (0, 0)) := by
    rw [hW2]
    exact heap_new1 _ _ _
  have P : Pos W2 rb w.heap.size (w.heap.size + 4) (w.heap.size + 3) (w.heap.size + 2) (w.heap.size + 5) := ⟨hrb, by omega, by omega, by omega, by omega, by omega, by omega⟩
  have R := ObjIs.reads P hv hs
  obtain ⟨o5, ho5⟩ : ∃ o5 : Obj, o5 = .cells #[.int .i64 5, .bool false, .int .i64 0, .string ⟨#[]⟩, .slice none 0 0, .slice none 0 0] 25 := ⟨_, rfl⟩
  obtain ⟨om, hom⟩ : ∃ om : Obj, om = .map #[] 0 := ⟨_, rfl⟩
  obtain ⟨op, hop⟩ : ∃ op : Obj, op = .cells #[.map (some (w.heap.size + 3))] 140 := ⟨_, rfl⟩
  have b2 : (((W2.alloc o5).alloc om).alloc op).heap[w.heap.size + 2]? = some (.cells #[.int .i64 5, .bool false, .int .i64 0, .string ⟨#[]⟩, .slice none 0 0, .slice none 0 0] 25 (0, 0)) := by
    rw [Below.heap_alloc _ _ _ (by simp; omega), Below.heap_alloc _ _ _ (by simp; omega), ← hsz2, heap_alloc_new, ho5]
  have b3 : (((W2.alloc o5).alloc om).alloc op).heap[w.heap.size + 3]? = some (.map #[] 0) := by
    rw [Below.heap_alloc _ _ _ (by simp; omega), show w.heap.size + 3 = (W2.alloc o5).heap.size by simp; omega, heap_alloc_new, hom]
  have b4 : (((W2.alloc o5).alloc om).alloc op).heap[w.heap.size + 4]? = some (.cells #[.map (some (w.heap.size + 3))] 140 (0, 0)) := by
    rw [show w.heap.size + 4 = ((W2.alloc o5).alloc om).heap.size by simp; omega, heap_alloc_new, hop]
  have hI : ∀ q w', RdAt w' rb s q bad (dep + 1) → Fr (Own rb) (((W2.alloc o5).alloc om).alloc op) w' → ObjIs W2 rb w.heap.size (w.heap.size + 4) (w.heap.size + 3) (w.heap.size + 2) (w.heap.size + 5) s bad (dep + 1) [] q w' := by
    intro q w' rd f
    have fa : Fr (Own rb) W2 w' := (((Fr.alloc _ _ _).allocNew _).allocNew _).trans f
    have hf := f.size
    simp at hf
    refine ⟨rd, by simp, none, 0, [], ?_⟩
    refine ⟨hT2.fr fa (by show ¬ _ = _; omega) (by show ¬ _ = _; omega), fa, (fa.block _ (by omega) (by show ¬ _ = _; omega)).trans b0, (f.block _ (by simp; omega) (by show ¬ _ = _; omega)).trans b4, by omega, ?_, (f.block _ (by simp; omega) (by show ¬ _ = _; omega)).trans b2, World.ownsRow_nil _ _ _ _, by unfold LaidF; rfl⟩
    refine ⟨.map [], ⟨#[], 0, (f.block _ (by simp; omega) (by show ¬ _ = _; omega)).trans b3, ⟨by simp, Go.MapKept.stamped_empty 0, by simp⟩, Nat.le_refl _, rfl⟩, fun nm => rfl⟩
  have hbr := bracketed_79 R 125 (by decide) [] p (((W2.alloc o5).alloc om).alloc op) (((r2.alloc _).alloc _).alloc _) hI hp hs hd
  clear R hI b2 b3 b4
  cases hx : bracketS s (oneF s bad val) 125 [] p with
  | error x =>
    have HE : Hid (objS s bad val p = .error (x.1, x.2)) := by show _ = _; rw [objS, hx]
    rw [hx] at hbr
    clear hx
    have hbr2 := hbr.mono (R' := fun e w' => Thrown x.1 x.2 e w' ∧ Fr (Own rb) w w') (fun e w' ho => ⟨ho.1, f2.trans ho.2⟩)
    rw [hW2, ho5, hom, hop] at hbr2
    clear hbr hW2 ho5 hom hop b0 b1 f2 r2 hT2 hsz2 P
    go_enter Tryz.func103, Tryz.ntmps103
    go_wp2_with (go_at_call 132; refine hbr2.mono ?_; rintro e w4 ⟨⟨bk, rfl, hbk⟩, f4⟩)
    exact panics0 (Out.no HE.out ⟨⟨_, rfl, hbk⟩, f4⟩)
  | ok x =>
    obtain ⟨l, q⟩ := x
    have HE : Hid (objS s bad val p = .ok (.mk 5 false 0 ⟨#[]⟩ [] l, q)) := by show _ = _; rw [objS, hx]
    rw [hx] at hbr
    clear hx
    have hbr2 := hbr.mono (R' := fun e w' => e = .returned (.tuple #[]) ∧ ∃ sa sc, w'.heap[w.heap.size + 1]? = some (.cells #[.int .i64 0, .bool false, .int .i64 0, .string ⟨#[]⟩, .slice none 0 0, .slice none 0 0] 25 (0, 0)) ∧
        w'.heap[w.heap.size + 2]? = some (.cells #[.int .i64 5, .bool false, .int .i64 0, .string ⟨#[]⟩, .slice none 0 0, .slice sa l.length sc] 25 (0, 0)) ∧ w.heap.size + 5 ≤ w'.heap.size ∧
        LaidV w' (fun b => w.heap.size + 5 ≤ b) (.mk 5 false 0 ⟨#[]⟩ [] l) [.int .i64 5, .bool false, .int .i64 0, .string ⟨#[]⟩, .slice none 0 0, .slice sa l.length sc] ∧ RdAt w' rb s q bad dep ∧ p < q ∧ q ≤ s.size ∧ Fr (Own rb) w w') (by
      rintro e w' ⟨rfl, ⟨w2, hI2, rfl⟩, hq1, hq2⟩
      obtain ⟨rd2, len2, sa, sc, xs, ob⟩ := hI2
      have fz : Fr (Own rb) w2 (w2.setCell ⟨rb, 3, none⟩ (.int .i64 (dep : Int))) := Fr.own _ _ _ _
      have hb2 := ob.hb
      refine ⟨rfl, sa, sc, ?_, ?_, Nat.le_trans ob.hb fz.size, ?_, rd2.set3 dep, hq1, hq2, (f2.trans ob.fr).trans fz⟩
      · rw [fz.block _ (by omega) (by show ¬ _ = _; omega), ob.fr.block _ (by omega) (by show ¬ _ = _; omega)]
        exact b1
      · rw [fz.block _ (by omega) (by show ¬ _ = _; omega)]
        exact ob.hvv
      · have key : ∀ b, w.heap.size + 5 ≤ b → b < w2.heap.size → (w2.setCell ⟨rb, 3, none⟩ (.int .i64 (dep : Int))).heap[b]? = w2.heap[b]? := fun b hb hl => fz.block b hl (by show ¬ _ = _; omega)
        unfold LaidV
        refine ⟨_, _, [], xs, rfl, ⟨rfl, .inl ⟨none, 0, rfl, rfl⟩⟩, (slAt_of_own ob.hown).conv (by decide) (fun b hb hl => ⟨hb, key b hb hl⟩), by unfold LaidL; rfl, ob.hlaid.conv (fun b hb hl => ⟨hb.1, key b hb.1 hl⟩)⟩)
    rw [hW2, ho5, hom, hop] at hbr2
    clear hbr hW2 ho5 hom hop b0 b1 f2 r2 hT2 hsz2 P
    go_enter Tryz.func103, Tryz.ntmps103
    go_wp2_with (go_at_call 132; refine hbr2.mono ?_; rintro e w4 ⟨rfl, sa, sc, hz, hv2, hsz4, hlaid, rd4, hq1, hq2, f4⟩; obtain ⟨x0, x1, x2, x3, x4, x5⟩ := box6 hv2; obtain ⟨y0, y1, y2, y3, y4, y5⟩ := box6 hz; have z0 := box_fz hz 0; have z1 := box_fz hz 1; have z2 := box_fz hz 2; have z3 := box_fz hz 3; have z4 := box_fz hz 4; have z5 := box_fz hz 5)
    refine bodyPost_ret (v := .agg #[.int .i64 5, .bool false, .int .i64 0, .string ⟨#[]⟩, .slice none 0 0, .slice sa l.length sc]) (by simp [results, Tryz.results103, go_sem, *]) rfl (Out.yes HE.out ⟨⟨_, _, _, _, _, _, _, _, _, _, rfl, ?_⟩, ?_, hq1, hq2, ?_⟩)
    · refine hlaid.conv (fun b hb hl => ⟨by omega, ?_⟩)
      rw [Below.heap_setCell _ _ _ _ (by simp; omega), Below.heap_setCell _ _ _ _ (by simp; omega), Below.heap_setCell _ _ _ _ (by simp; omega), Below.heap_setCell _ _ _ _ (by simp; omega), Below.heap_setCell _ _ _ _ (by simp; omega), Below.heap_setCell _ _ _ _ (by simp; omega)]
    · exact (((((rd4.other _ (by simp; omega)).other _ (by simp; omega)).other _ (by simp; omega)).other _ (by simp; omega)).other _ (by simp; omega)).other _ (by simp; omega)
    · exact (((((f4.setNew _ (by simp)).setNew _ (by simp)).setNew _ (by simp)).setNew _ (by simp)).setNew _ (by simp)).setNew _ (by simp)
end Go.Proofs.YtiakidomcjpdhaaGreatDoor

namespace Go.Proofs.YtiakidomcjpdhaaGreatDoor
open Go.RowKit

theorem wordS_gt {s : ByteArray} {l : List Nat} {p q : Nat} (h : wordS s l p = .ok q) (hl : l ≠ []) : p < q := by
  have key : ∀ (l : List Nat) (p q : Nat), wordS s l p = .ok q → p + l.length = q := by
    intro l
    induction l with
    | nil => intro p q h; unfold wordS at h; injection h with h
    | cons c t ih =>
      intro p q h
      unfold wordS at h
      split at h
      · have := ih _ _ h
        simp
        omega
      · cases h
  have h1 := key l p q h
  have h2 : 0 < l.length := List.length_pos_iff.2 hl
  omega

set_option maxRecDepth 20000 in
set_option maxHeartbeats 16000000 in
theorem value_step (rb : Nat) (s : ByteArray) (bad : Int) (dep : Nat) (lst obj : Nat → Except (Nat × Nat) (GV × Nat)) (hlst : BracketAt 102 rb s bad dep lst) (hobj : BracketAt 103 rb s bad dep obj) (hrb : 6 ≤ rb) (hs : s.size ≤ 65536) :
    ValueAt rb s bad dep (valC s bad lst obj) := by
  intro w p hr hT hp
  have hlt := hr.lt
  have hs2 : s.size ≤ 140737488351232 := by omega
  obtain ⟨N, hN⟩ : ∃ N, valC s bad lst obj p = N := ⟨_, rfl⟩
  rw [hN]
  obtain ⟨c, hc⟩ : ∃ c, nx s p = c := ⟨_, rfl⟩
  have hc256 : c < 256 := by rw [← hc]; exact nx_lt s p
  have f0 : Fr (Own rb) w (w.alloc ZV) := Fr.alloc _ _ _
  have hz0 : ∀ {n : Nat} (w' : World), Fr (Own rb) ((w.alloc ZV).drewN n) w' → w'.heap[w.heap.size]? = some (.cells #[.int .i64 0, .bool false, .int .i64 0, .string ⟨#[]⟩, .slice none 0 0, .slice none 0 0] 25 (0, 0)) := fun w' f =>
    (f.block _ (by simp) (by show ¬ _ = _; omega)).trans (heap_alloc_new w ZV)
  by_cases k110 : c = 110
  · have HV : Hid (N = match wordS s [110, 117, 108, 108] p with | .error x => .error x | .ok q => .ok (.mk 0 false 0 ⟨#[]⟩ [] [], q)) := by show _ = _; rw [← hN, valC, if_pos (show nx s p = 110 from hc.trans k110)]; try rfl
    clear hN
    have m110 : ((c : Int) == 110) = true := by simp [k110]
    cases hx : wordS s [110, 117, 108, 108] p with
    | error x =>
      have HE : Hid (N = .error (x.1, x.2)) := by show _ = _; rw [HV.out, hx]
      have HX : Hid (wordS s [110, 117, 108, 108] p = .error (x.1, x.2)) := hx
      clear HV hx
      go_enter Tryz.func70, Tryz.ntmps70
      go_wp2_with (first
        | (go_at_call 99; refine (next_any _ _ _ _ _ _ (hr.alloc _) hp hs2).mono ?_; rintro e w1 ⟨rfl, n1, rfl⟩; rw [hc])
        | (go_at_call 100; refine (word_any _ rb s p bad dep ⟨#[110, 117, 108, 108]⟩ 0 false ((hr.alloc _).drewN _) hp hs2 (by decide) (by decide)).mono ?_; intro e w2 ho; obtain ⟨⟨bk, rfl, hbk⟩, f2⟩ := Out.isNo HX.out ho; clear ho))
      exact panics0 (Out.no HE.out ⟨⟨_, rfl, hbk⟩, (f0.trans (Fr.drewN _ _ _)).trans f2⟩)
    | ok x =>
      have HE : Hid (N = .ok (.mk 0 false 0 ⟨#[]⟩ [] [], x)) := by show _ = _; rw [HV.out, hx]
      have HX : Hid (wordS s [110, 117, 108, 108] p = .ok x) := hx
      have hq1 : p < x := wordS_gt hx (by decide)
      clear HV hx
      go_enter Tryz.func70, Tryz.ntmps70
      go_wp2_with (first
        | (go_at_call 99; refine (next_any _ _ _ _ _ _ (hr.alloc _) hp hs2).mono ?_; rintro e w1 ⟨rfl, n1, rfl⟩; rw [hc])
        | (go_at_call 100; refine (word_any _ rb s p bad dep ⟨#[110, 117, 108, 108]⟩ 0 false ((hr.alloc _).drewN _) hp hs2 (by decide) (by decide)).mono ?_; intro e w2 ho; obtain ⟨rfl, rd2, hq2, f2⟩ := Out.isOk HX.out ho; clear ho; have hz := hz0 _ f2; obtain ⟨y0, y1, y2, y3, y4, y5⟩ := box6 hz; have z0 := box_fz hz 0; have z1 := box_fz hz 1; have z2 := box_fz hz 2; have z3 := box_fz hz 3; have z4 := box_fz hz 4; have z5 := box_fz hz 5))
      refine bodyPost_ret (v := .agg #[.int .i64 0, .bool false, .int .i64 0, .string ⟨#[]⟩, .slice none 0 0, .slice none 0 0]) (by simp [results, Tryz.results70, go_sem, *]) rfl (Out.yes HE.out ⟨⟨_, _, _, _, _, _, _, _, _, _, rfl, ?_⟩, ?_, hq1, hq2, ?_⟩)
      · refine LaidV.conv (ok := fun b => w.heap.size + 1 ≤ b) (w := w2) (fun b hb hl => ⟨by omega, ?_⟩) (by unfold LaidV; exact ⟨_, _, [], [], rfl, ⟨rfl, .inl ⟨none, 0, rfl, rfl⟩⟩, ⟨rfl, .inl ⟨none, 0, rfl, rfl⟩⟩, by unfold LaidL; rfl, by unfold LaidF; rfl⟩)
        rw [Below.heap_setCell _ _ _ _ (by simp; omega), Below.heap_setCell _ _ _ _ (by simp; omega), Below.heap_setCell _ _ _ _ (by simp; omega), Below.heap_setCell _ _ _ _ (by simp; omega), Below.heap_setCell _ _ _ _ (by simp; omega), Below.heap_setCell _ _ _ _ (by simp; omega)]
      · exact (((((rd2.other _ (by simp; omega)).other _ (by simp; omega)).other _ (by simp; omega)).other _ (by simp; omega)).other _ (by simp; omega)).other _ (by simp; omega)
      · exact (((((((f0.trans (Fr.drewN _ _ _)).trans f2).setNew _ (by simp)).setNew _ (by simp)).setNew _ (by simp)).setNew _ (by simp)).setNew _ (by simp)).setNew _ (by simp)
  by_cases k116 : c = 116
  · have HV : Hid (N = match wordS s [116, 114, 117, 101] p with | .error x => .error x | .ok q => .ok (.mk 1 true 0 ⟨#[]⟩ [] [], q)) := by show _ = _; rw [← hN, valC, if_neg (show ¬ nx s p = 110 by rw [hc]; exact k110), if_pos (show nx s p = 116 from hc.trans k116)]; try rfl
    clear hN
    have m110 : ((c : Int) == 110) = false := by simp; omega
    have m116 : ((c : Int) == 116) = true := by simp [k116]
    cases hx : wordS s [116, 114, 117, 101] p with
    | error x =>
      have HE : Hid (N = .error (x.1, x.2)) := by show _ = _; rw [HV.out, hx]
      have HX : Hid (wordS s [116, 114, 117, 101] p = .error (x.1, x.2)) := hx
      clear HV hx
      go_enter Tryz.func70, Tryz.ntmps70
      go_wp2_with (first
        | (go_at_call 99; refine (next_any _ _ _ _ _ _ (hr.alloc _) hp hs2).mono ?_; rintro e w1 ⟨rfl, n1, rfl⟩; rw [hc])
        | (go_at_call 100; refine (word_any _ rb s p bad dep ⟨#[116, 114, 117, 101]⟩ 1 true ((hr.alloc _).drewN _) hp hs2 (by decide) (by decide)).mono ?_; intro e w2 ho; obtain ⟨⟨bk, rfl, hbk⟩, f2⟩ := Out.isNo HX.out ho; clear ho))
      exact panics0 (Out.no HE.out ⟨⟨_, rfl, hbk⟩, (f0.trans (Fr.drewN _ _ _)).trans f2⟩)
    | ok x =>
      have HE : Hid (N = .ok (.mk 1 true 0 ⟨#[]⟩ [] [], x)) := by show _ = _; rw [HV.out, hx]
      have HX : Hid (wordS s [116, 114, 117, 101] p = .ok x) := hx
      have hq1 : p < x := wordS_gt hx (by decide)
      clear HV hx
      go_enter Tryz.func70, Tryz.ntmps70
      go_wp2_with (first
        | (go_at_call 99; refine (next_any _ _ _ _ _ _ (hr.alloc _) hp hs2).mono ?_; rintro e w1 ⟨rfl, n1, rfl⟩; rw [hc])
        | (go_at_call 100; refine (word_any _ rb s p bad dep ⟨#[116, 114, 117, 101]⟩ 1 true ((hr.alloc _).drewN _) hp hs2 (by decide) (by decide)).mono ?_; intro e w2 ho; obtain ⟨rfl, rd2, hq2, f2⟩ := Out.isOk HX.out ho; clear ho; have hz := hz0 _ f2; obtain ⟨y0, y1, y2, y3, y4, y5⟩ := box6 hz; have z0 := box_fz hz 0; have z1 := box_fz hz 1; have z2 := box_fz hz 2; have z3 := box_fz hz 3; have z4 := box_fz hz 4; have z5 := box_fz hz 5))
      refine bodyPost_ret (v := .agg #[.int .i64 1, .bool true, .int .i64 0, .string ⟨#[]⟩, .slice none 0 0, .slice none 0 0]) (by simp [results, Tryz.results70, go_sem, *]) rfl (Out.yes HE.out ⟨⟨_, _, _, _, _, _, _, _, _, _, rfl, ?_⟩, ?_, hq1, hq2, ?_⟩)
      · refine LaidV.conv (ok := fun b => w.heap.size + 1 ≤ b) (w := w2) (fun b hb hl => ⟨by omega, ?_⟩) (by unfold LaidV; exact ⟨_, _, [], [], rfl, ⟨rfl, .inl ⟨none, 0, rfl, rfl⟩⟩, ⟨rfl, .inl ⟨none, 0, rfl, rfl⟩⟩, by unfold LaidL; rfl, by unfold LaidF; rfl⟩)
        rw [Below.heap_setCell _ _ _ _ (by simp; omega), Below.heap_setCell _ _ _ _ (by simp; omega), Below.heap_setCell _ _ _ _ (by simp; omega), Below.heap_setCell _ _ _ _ (by simp; omega), Below.heap_setCell _ _ _ _ (by simp; omega), Below.heap_setCell _ _ _ _ (by simp; omega)]
      · exact (((((rd2.other _ (by simp; omega)).other _ (by simp; omega)).other _ (by simp; omega)).other _ (by simp; omega)).other _ (by simp; omega)).other _ (by simp; omega)
      · exact (((((((f0.trans (Fr.drewN _ _ _)).trans f2).setNew _ (by simp)).setNew _ (by simp)).setNew _ (by simp)).setNew _ (by simp)).setNew _ (by simp)).setNew _ (by simp)
  by_cases k102 : c = 102
  · have HV : Hid (N = match wordS s [102, 97, 108, 115, 101] p with | .error x => .error x | .ok q => .ok (.mk 1 false 0 ⟨#[]⟩ [] [], q)) := by show _ = _; rw [← hN, valC, if_neg (show ¬ nx s p = 110 by rw [hc]; exact k110), if_neg (show ¬ nx s p = 116 by rw [hc]; exact k116), if_pos (show nx s p = 102 from hc.trans k102)]; try rfl
    clear hN
    have m110 : ((c : Int) == 110) = false := by simp; omega
    have m116 : ((c : Int) == 116) = false := by simp; omega
    have m102 : ((c : Int) == 102) = true := by simp [k102]
    cases hx : wordS s [102, 97, 108, 115, 101] p with
    | error x =>
      have HE : Hid (N = .error (x.1, x.2)) := by show _ = _; rw [HV.out, hx]
      have HX : Hid (wordS s [102, 97, 108, 115, 101] p = .error (x.1, x.2)) := hx
      clear HV hx
      go_enter Tryz.func70, Tryz.ntmps70
      go_wp2_with (first
        | (go_at_call 99; refine (next_any _ _ _ _ _ _ (hr.alloc _) hp hs2).mono ?_; rintro e w1 ⟨rfl, n1, rfl⟩; rw [hc])
        | (go_at_call 100; refine (word_any _ rb s p bad dep ⟨#[102, 97, 108, 115, 101]⟩ 1 false ((hr.alloc _).drewN _) hp hs2 (by decide) (by decide)).mono ?_; intro e w2 ho; obtain ⟨⟨bk, rfl, hbk⟩, f2⟩ := Out.isNo HX.out ho; clear ho))
      exact panics0 (Out.no HE.out ⟨⟨_, rfl, hbk⟩, (f0.trans (Fr.drewN _ _ _)).trans f2⟩)
    | ok x =>
      have HE : Hid (N = .ok (.mk 1 false 0 ⟨#[]⟩ [] [], x)) := by show _ = _; rw [HV.out, hx]
      have HX : Hid (wordS s [102, 97, 108, 115, 101] p = .ok x) := hx
      have hq1 : p < x := wordS_gt hx (by decide)
      clear HV hx
      go_enter Tryz.func70, Tryz.ntmps70
      go_wp2_with (first
        | (go_at_call 99; refine (next_any _ _ _ _ _ _ (hr.alloc _) hp hs2).mono ?_; rintro e w1 ⟨rfl, n1, rfl⟩; rw [hc])
        | (go_at_call 100; refine (word_any _ rb s p bad dep ⟨#[102, 97, 108, 115, 101]⟩ 1 false ((hr.alloc _).drewN _) hp hs2 (by decide) (by decide)).mono ?_; intro e w2 ho; obtain ⟨rfl, rd2, hq2, f2⟩ := Out.isOk HX.out ho; clear ho; have hz := hz0 _ f2; obtain ⟨y0, y1, y2, y3, y4, y5⟩ := box6 hz; have z0 := box_fz hz 0; have z1 := box_fz hz 1; have z2 := box_fz hz 2; have z3 := box_fz hz 3; have z4 := box_fz hz 4; have z5 := box_fz hz 5))
      refine bodyPost_ret (v := .agg #[.int .i64 1, .bool false, .int .i64 0, .string ⟨#[]⟩, .slice none 0 0, .slice none 0 0]) (by simp [results, Tryz.results70, go_sem, *]) rfl (Out.yes HE.out ⟨⟨_, _, _, _, _, _, _, _, _, _, rfl, ?_⟩, ?_, hq1, hq2, ?_⟩)
      · refine LaidV.conv (ok := fun b => w.heap.size + 1 ≤ b) (w := w2) (fun b hb hl => ⟨by omega, ?_⟩) (by unfold LaidV; exact ⟨_, _, [], [], rfl, ⟨rfl, .inl ⟨none, 0, rfl, rfl⟩⟩, ⟨rfl, .inl ⟨none, 0, rfl, rfl⟩⟩, by unfold LaidL; rfl, by unfold LaidF; rfl⟩)
        rw [Below.heap_setCell _ _ _ _ (by simp; omega), Below.heap_setCell _ _ _ _ (by simp; omega), Below.heap_setCell _ _ _ _ (by simp; omega), Below.heap_setCell _ _ _ _ (by simp; omega), Below.heap_setCell _ _ _ _ (by simp; omega), Below.heap_setCell _ _ _ _ (by simp; omega)]
      · exact (((((rd2.other _ (by simp; omega)).other _ (by simp; omega)).other _ (by simp; omega)).other _ (by simp; omega)).other _ (by simp; omega)).other _ (by simp; omega)
      · exact (((((((f0.trans (Fr.drewN _ _ _)).trans f2).setNew _ (by simp)).setNew _ (by simp)).setNew _ (by simp)).setNew _ (by simp)).setNew _ (by simp)).setNew _ (by simp)
  by_cases k34 : c = 34
  · have HV : Hid (N = match quotedS s bad p with | .error x => .error x | .ok (cs, q) => .ok (.mk 3 false 0 (txt cs) [] [], q)) := by show _ = _; rw [← hN, valC, if_neg (show ¬ nx s p = 110 by rw [hc]; exact k110), if_neg (show ¬ nx s p = 116 by rw [hc]; exact k116), if_neg (show ¬ nx s p = 102 by rw [hc]; exact k102), if_pos (show nx s p = 34 from hc.trans k34)]; try rfl
    clear hN
    have m110 : ((c : Int) == 110) = false := by simp; omega
    have m116 : ((c : Int) == 116) = false := by simp; omega
    have m102 : ((c : Int) == 102) = false := by simp; omega
    have m34 : ((c : Int) == 34) = true := by simp [k34]
    cases hx : quotedS s bad p with
    | error x =>
      have HE : Hid (N = .error (x.1, x.2)) := by show _ = _; rw [HV.out, hx]
      have HX : Hid (quotedS s bad p = .error (x.1, x.2)) := hx
      clear HV hx
      go_enter Tryz.func70, Tryz.ntmps70
      go_wp2_with (first
        | (go_at_call 99; refine (next_any _ _ _ _ _ _ (hr.alloc _) hp hs2).mono ?_; rintro e w1 ⟨rfl, n1, rfl⟩; rw [hc])
        | (go_at_call 101; refine (quoted_any _ rb s p bad dep ((hr.alloc _).drewN _) (hT.alloc _) hrb hp hs).mono ?_; intro e w2 ho; obtain ⟨⟨bk, rfl, hbk⟩, f2⟩ := Out.isNo HX.out ho; clear ho))
      exact panics0 (Out.no HE.out ⟨⟨_, rfl, hbk⟩, (f0.trans (Fr.drewN _ _ _)).trans f2⟩)
    | ok x =>
      have HE : Hid (N = .ok (.mk 3 false 0 (txt x.1) [] [], x.2)) := by show _ = _; rw [HV.out, hx]
      have HX : Hid (quotedS s bad p = .ok x) := hx
      clear HV hx
      go_enter Tryz.func70, Tryz.ntmps70
      go_wp2_with (first
        | (go_at_call 99; refine (next_any _ _ _ _ _ _ (hr.alloc _) hp hs2).mono ?_; rintro e w1 ⟨rfl, n1, rfl⟩; rw [hc])
        | (go_at_call 101; refine (quoted_any _ rb s p bad dep ((hr.alloc _).drewN _) (hT.alloc _) hrb hp hs).mono ?_; intro e w2 ho; obtain ⟨rfl, rd2, hq1, hq2, f2⟩ := Out.isOk HX.out ho; clear ho; have hz := hz0 _ f2; obtain ⟨y0, y1, y2, y3, y4, y5⟩ := box6 hz; have z0 := box_fz hz 0; have z1 := box_fz hz 1; have z2 := box_fz hz 2; have z3 := box_fz hz 3; have z4 := box_fz hz 4; have z5 := box_fz hz 5))
      refine bodyPost_ret (v := .agg #[.int .i64 3, .bool false, .int .i64 0, .string (txt x.1), .slice none 0 0, .slice none 0 0]) (by simp [results, Tryz.results70, go_sem, *]) rfl (Out.yes HE.out ⟨⟨_, _, _, _, _, _, _, _, _, _, rfl, ?_⟩, ?_, hq1, hq2, ?_⟩)
      · refine LaidV.conv (ok := fun b => w.heap.size + 1 ≤ b) (w := w2) (fun b hb hl => ⟨by omega, ?_⟩) (by unfold LaidV; exact ⟨_, _, [], [], rfl, ⟨rfl, .inl ⟨none, 0, rfl, rfl⟩⟩, ⟨rfl, .inl ⟨none, 0, rfl, rfl⟩⟩, by unfold LaidL; rfl, by unfold LaidF; rfl⟩)
        rw [Below.heap_setCell _ _ _ _ (by simp; omega), Below.heap_setCell _ _ _ _ (by simp; omega), Below.heap_setCell _ _ _ _ (by simp; omega), Below.heap_setCell _ _ _ _ (by simp; omega), Below.heap_setCell _ _ _ _ (by simp; omega), Below.heap_setCell _ _ _ _ (by simp; omega)]
      · exact (((((rd2.other _ (by simp; omega)).other _ (by simp; omega)).other _ (by simp; omega)).other _ (by simp; omega)).other _ (by simp; omega)).other _ (by simp; omega)
      · exact (((((((f0.trans (Fr.drewN _ _ _)).trans f2).setNew _ (by simp)).setNew _ (by simp)).setNew _ (by simp)).setNew _ (by simp)).setNew _ (by simp)).setNew _ (by simp)
  by_cases k91 : c = 91
  · have HV : Hid (N = lst p) := by show _ = _; rw [← hN, valC, if_neg (show ¬ nx s p = 110 by rw [hc]; exact k110), if_neg (show ¬ nx s p = 116 by rw [hc]; exact k116), if_neg (show ¬ nx s p = 102 by rw [hc]; exact k102), if_neg (show ¬ nx s p = 34 by rw [hc]; exact k34), if_pos (show nx s p = 91 from hc.trans k91)]; try rfl
    clear hN
    have m110 : ((c : Int) == 110) = false := by simp; omega
    have m116 : ((c : Int) == 116) = false := by simp; omega
    have m102 : ((c : Int) == 102) = false := by simp; omega
    have m34 : ((c : Int) == 34) = false := by simp; omega
    have m91 : ((c : Int) == 91) = true := by simp [k91]
    cases hx : lst p with
    | error x =>
      have HE : Hid (N = .error (x.1, x.2)) := by show _ = _; rw [HV.out, hx]
      have HX : Hid (lst p = .error (x.1, x.2)) := hx
      clear HV hx
      go_enter Tryz.func70, Tryz.ntmps70
      go_wp2_with (first
        | (go_at_call 99; refine (next_any _ _ _ _ _ _ (hr.alloc _) hp hs2).mono ?_; rintro e w1 ⟨rfl, n1, rfl⟩; rw [hc])
        | (go_at_call 102; refine (hlst _ p ((hr.alloc _).drewN _) (hT.alloc _) (lt_of_nx (by rw [hc]; omega))).mono ?_; intro e w2 ho; obtain ⟨⟨bk, rfl, hbk⟩, f2⟩ := Out.isNo HX.out ho; clear ho))
      exact panics0 (Out.no HE.out ⟨⟨_, rfl, hbk⟩, (f0.trans (Fr.drewN _ _ _)).trans f2⟩)
    | ok x =>
      have HE : Hid (N = .ok x) := by show _ = _; rw [HV.out, hx]
      have HX : Hid (lst p = .ok x) := hx
      clear HV hx
      go_enter Tryz.func70, Tryz.ntmps70
      go_wp2_with (first
        | (go_at_call 99; refine (next_any _ _ _ _ _ _ (hr.alloc _) hp hs2).mono ?_; rintro e w1 ⟨rfl, n1, rfl⟩; rw [hc])
        | (go_at_call 102; refine (hlst _ p ((hr.alloc _).drewN _) (hT.alloc _) (lt_of_nx (by rw [hc]; omega))).mono ?_; intro e w2 ho; obtain ⟨⟨k, b, n, t, a1, l1, c1, a2, l2, c2, rfl, hlaid⟩, rd2, hq1, hq2, f2⟩ := Out.isOk HX.out ho; clear ho; have hz := hz0 _ f2; obtain ⟨y0, y1, y2, y3, y4, y5⟩ := box6 hz; have z0 := box_fz hz 0; have z1 := box_fz hz 1; have z2 := box_fz hz 2; have z3 := box_fz hz 3; have z4 := box_fz hz 4; have z5 := box_fz hz 5))
      refine bodyPost_ret (v := .agg #[.int .i64 k, .bool b, .int .i64 n, .string t, .slice a1 l1 c1, .slice a2 l2 c2]) (by simp [results, Tryz.results70, go_sem, *]) rfl (Out.yes HE.out ⟨⟨_, _, _, _, _, _, _, _, _, _, rfl, ?_⟩, ?_, hq1, hq2, ?_⟩)
      · refine LaidV.conv (ok := fun b => w.heap.size + 1 ≤ b) (w := w2) (fun b hb hl => ⟨by omega, ?_⟩) (hlaid.conv (fun b hb hl => ⟨by simpa using hb, rfl⟩))
        rw [Below.heap_setCell _ _ _ _ (by simp; omega), Below.heap_setCell _ _ _ _ (by simp; omega), Below.heap_setCell _ _ _ _ (by simp; omega), Below.heap_setCell _ _ _ _ (by simp; omega), Below.heap_setCell _ _ _ _ (by simp; omega), Below.heap_setCell _ _ _ _ (by simp; omega)]
      · exact (((((rd2.other _ (by simp; omega)).other _ (by simp; omega)).other _ (by simp; omega)).other _ (by simp; omega)).other _ (by simp; omega)).other _ (by simp; omega)
      · exact (((((((f0.trans (Fr.drewN _ _ _)).trans f2).setNew _ (by simp)).setNew _ (by simp)).setNew _ (by simp)).setNew _ (by simp)).setNew _ (by simp)).setNew _ (by simp)
  by_cases k123 : c = 123
  · have HV : Hid (N = obj p) := by show _ = _; rw [← hN, valC, if_neg (show ¬ nx s p = 110 by rw [hc]; exact k110), if_neg (show ¬ nx s p = 116 by rw [hc]; exact k116), if_neg (show ¬ nx s p = 102 by rw [hc]; exact k102), if_neg (show ¬ nx s p = 34 by rw [hc]; exact k34), if_neg (show ¬ nx s p = 91 by rw [hc]; exact k91), if_pos (show nx s p = 123 from hc.trans k123)]; try rfl
    clear hN
    have m110 : ((c : Int) == 110) = false := by simp; omega
    have m116 : ((c : Int) == 116) = false := by simp; omega
    have m102 : ((c : Int) == 102) = false := by simp; omega
    have m34 : ((c : Int) == 34) = false := by simp; omega
    have m91 : ((c : Int) == 91) = false := by simp; omega
    have m123 : ((c : Int) == 123) = true := by simp [k123]
    cases hx : obj p with
    | error x =>
      have HE : Hid (N = .error (x.1, x.2)) := by show _ = _; rw [HV.out, hx]
      have HX : Hid (obj p = .error (x.1, x.2)) := hx
      clear HV hx
      go_enter Tryz.func70, Tryz.ntmps70
      go_wp2_with (first
        | (go_at_call 99; refine (next_any _ _ _ _ _ _ (hr.alloc _) hp hs2).mono ?_; rintro e w1 ⟨rfl, n1, rfl⟩; rw [hc])
        | (go_at_call 103; refine (hobj _ p ((hr.alloc _).drewN _) (hT.alloc _) (lt_of_nx (by rw [hc]; omega))).mono ?_; intro e w2 ho; obtain ⟨⟨bk, rfl, hbk⟩, f2⟩ := Out.isNo HX.out ho; clear ho))
      exact panics0 (Out.no HE.out ⟨⟨_, rfl, hbk⟩, (f0.trans (Fr.drewN _ _ _)).trans f2⟩)
    | ok x =>
      have HE : Hid (N = .ok x) := by show _ = _; rw [HV.out, hx]
      have HX : Hid (obj p = .ok x) := hx
      clear HV hx
      go_enter Tryz.func70, Tryz.ntmps70
      go_wp2_with (first
        | (go_at_call 99; refine (next_any _ _ _ _ _ _ (hr.alloc _) hp hs2).mono ?_; rintro e w1 ⟨rfl, n1, rfl⟩; rw [hc])
        | (go_at_call 103; refine (hobj _ p ((hr.alloc _).drewN _) (hT.alloc _) (lt_of_nx (by rw [hc]; omega))).mono ?_; intro e w2 ho; obtain ⟨⟨k, b, n, t, a1, l1, c1, a2, l2, c2, rfl, hlaid⟩, rd2, hq1, hq2, f2⟩ := Out.isOk HX.out ho; clear ho; have hz := hz0 _ f2; obtain ⟨y0, y1, y2, y3, y4, y5⟩ := box6 hz; have z0 := box_fz hz 0; have z1 := box_fz hz 1; have z2 := box_fz hz 2; have z3 := box_fz hz 3; have z4 := box_fz hz 4; have z5 := box_fz hz 5))
      refine bodyPost_ret (v := .agg #[.int .i64 k, .bool b, .int .i64 n, .string t, .slice a1 l1 c1, .slice a2 l2 c2]) (by simp [results, Tryz.results70, go_sem, *]) rfl (Out.yes HE.out ⟨⟨_, _, _, _, _, _, _, _, _, _, rfl, ?_⟩, ?_, hq1, hq2, ?_⟩)
      · refine LaidV.conv (ok := fun b => w.heap.size + 1 ≤ b) (w := w2) (fun b hb hl => ⟨by omega, ?_⟩) (hlaid.conv (fun b hb hl => ⟨by simpa using hb, rfl⟩))
        rw [Below.heap_setCell _ _ _ _ (by simp; omega), Below.heap_setCell _ _ _ _ (by simp; omega), Below.heap_setCell _ _ _ _ (by simp; omega), Below.heap_setCell _ _ _ _ (by simp; omega), Below.heap_setCell _ _ _ _ (by simp; omega), Below.heap_setCell _ _ _ _ (by simp; omega)]
      · exact (((((rd2.other _ (by simp; omega)).other _ (by simp; omega)).other _ (by simp; omega)).other _ (by simp; omega)).other _ (by simp; omega)).other _ (by simp; omega)
      · exact (((((((f0.trans (Fr.drewN _ _ _)).trans f2).setNew _ (by simp)).setNew _ (by simp)).setNew _ (by simp)).setNew _ (by simp)).setNew _ (by simp)).setNew _ (by simp)
  by_cases kd : c = 45
  · have HV : Hid (N = match numberS s p with | .error x => .error x | .ok (n, q) => .ok (.mk 2 false n ⟨#[]⟩ [] [], q)) := by show _ = _; rw [← hN, valC, if_neg (show ¬ nx s p = 110 by rw [hc]; exact k110), if_neg (show ¬ nx s p = 116 by rw [hc]; exact k116), if_neg (show ¬ nx s p = 102 by rw [hc]; exact k102), if_neg (show ¬ nx s p = 34 by rw [hc]; exact k34), if_neg (show ¬ nx s p = 91 by rw [hc]; exact k91), if_neg (show ¬ nx s p = 123 by rw [hc]; exact k123), if_pos (.inl (hc.trans kd))]; try rfl
    clear hN
    have m110 : ((c : Int) == 110) = false := by simp; omega
    have m116 : ((c : Int) == 116) = false := by simp; omega
    have m102 : ((c : Int) == 102) = false := by simp; omega
    have m34 : ((c : Int) == 34) = false := by simp; omega
    have m91 : ((c : Int) == 91) = false := by simp; omega
    have m123 : ((c : Int) == 123) = false := by simp; omega
    have m45 : ((c : Int) == 45) = true := by simp [kd]
    cases hx : numberS s p with
    | error x =>
      have HE : Hid (N = .error (x.1, x.2)) := by show _ = _; rw [HV.out, hx]
      have HX : Hid (numberS s p = .error (x.1, x.2)) := hx
      clear HV hx
      go_enter Tryz.func70, Tryz.ntmps70
      go_wp2_with (first
        | (go_at_call 99; refine (next_any _ _ _ _ _ _ (hr.alloc _) hp hs2).mono ?_; rintro e w1 ⟨rfl, n1, rfl⟩; rw [hc])
        | (go_at_call 105; refine (number_any _ rb s p bad dep ((hr.alloc _).drewN _) hp hs2).mono ?_; intro e w2 ho; obtain ⟨⟨bk, rfl, hbk⟩, f2⟩ := Out.isNo HX.out ho; clear ho))
      exact panics0 (Out.no HE.out ⟨⟨_, rfl, hbk⟩, (f0.trans (Fr.drewN _ _ _)).trans f2⟩)
    | ok x =>
      have HE : Hid (N = .ok (.mk 2 false x.1 ⟨#[]⟩ [] [], x.2)) := by show _ = _; rw [HV.out, hx]
      have HX : Hid (numberS s p = .ok x) := hx
      clear HV hx
      go_enter Tryz.func70, Tryz.ntmps70
      go_wp2_with (first
        | (go_at_call 99; refine (next_any _ _ _ _ _ _ (hr.alloc _) hp hs2).mono ?_; rintro e w1 ⟨rfl, n1, rfl⟩; rw [hc])
        | (go_at_call 105; refine (number_any _ rb s p bad dep ((hr.alloc _).drewN _) hp hs2).mono ?_; intro e w2 ho; obtain ⟨rfl, rd2, hq1, hq2, f2⟩ := Out.isOk HX.out ho; clear ho; have hz := hz0 _ f2; obtain ⟨y0, y1, y2, y3, y4, y5⟩ := box6 hz; have z0 := box_fz hz 0; have z1 := box_fz hz 1; have z2 := box_fz hz 2; have z3 := box_fz hz 3; have z4 := box_fz hz 4; have z5 := box_fz hz 5))
      refine bodyPost_ret (v := .agg #[.int .i64 2, .bool false, .int .i64 x.1, .string ⟨#[]⟩, .slice none 0 0, .slice none 0 0]) (by simp [results, Tryz.results70, go_sem, *]) rfl (Out.yes HE.out ⟨⟨_, _, _, _, _, _, _, _, _, _, rfl, ?_⟩, ?_, hq1, hq2, ?_⟩)
      · refine LaidV.conv (ok := fun b => w.heap.size + 1 ≤ b) (w := w2) (fun b hb hl => ⟨by omega, ?_⟩) (by unfold LaidV; exact ⟨_, _, [], [], rfl, ⟨rfl, .inl ⟨none, 0, rfl, rfl⟩⟩, ⟨rfl, .inl ⟨none, 0, rfl, rfl⟩⟩, by unfold LaidL; rfl, by unfold LaidF; rfl⟩)
        rw [Below.heap_setCell _ _ _ _ (by simp; omega), Below.heap_setCell _ _ _ _ (by simp; omega), Below.heap_setCell _ _ _ _ (by simp; omega), Below.heap_setCell _ _ _ _ (by simp; omega), Below.heap_setCell _ _ _ _ (by simp; omega), Below.heap_setCell _ _ _ _ (by simp; omega)]
      · exact (((((rd2.other _ (by simp; omega)).other _ (by simp; omega)).other _ (by simp; omega)).other _ (by simp; omega)).other _ (by simp; omega)).other _ (by simp; omega)
      · exact (((((((f0.trans (Fr.drewN _ _ _)).trans f2).setNew _ (by simp)).setNew _ (by simp)).setNew _ (by simp)).setNew _ (by simp)).setNew _ (by simp)).setNew _ (by simp)
  by_cases kg : isDg c = true
  · have HV : Hid (N = match numberS s p with | .error x => .error x | .ok (n, q) => .ok (.mk 2 false n ⟨#[]⟩ [] [], q)) := by show _ = _; rw [← hN, valC, if_neg (show ¬ nx s p = 110 by rw [hc]; exact k110), if_neg (show ¬ nx s p = 116 by rw [hc]; exact k116), if_neg (show ¬ nx s p = 102 by rw [hc]; exact k102), if_neg (show ¬ nx s p = 34 by rw [hc]; exact k34), if_neg (show ¬ nx s p = 91 by rw [hc]; exact k91), if_neg (show ¬ nx s p = 123 by rw [hc]; exact k123), if_pos (.inr (by rw [hc]; exact kg))]; try rfl
    clear hN
    have m110 : ((c : Int) == 110) = false := by simp; omega
    have m116 : ((c : Int) == 116) = false := by simp; omega
    have m102 : ((c : Int) == 102) = false := by simp; omega
    have m34 : ((c : Int) == 34) = false := by simp; omega
    have m91 : ((c : Int) == 91) = false := by simp; omega
    have m123 : ((c : Int) == 123) = false := by simp; omega
    have m45 : ((c : Int) == 45) = false := by simp; omega
    cases hx : numberS s p with
    | error x =>
      have HE : Hid (N = .error (x.1, x.2)) := by show _ = _; rw [HV.out, hx]
      have HX : Hid (numberS s p = .error (x.1, x.2)) := hx
      clear HV hx
      go_enter Tryz.func70, Tryz.ntmps70
      go_wp2_with (first
        | (go_at_call 99; refine (next_any _ _ _ _ _ _ (hr.alloc _) hp hs2).mono ?_; rintro e w1 ⟨rfl, n1, rfl⟩; rw [hc])
        | (go_at_call 104; refine (isDigit_any _ _).mono ?_; rintro e w3 ⟨rfl, rfl⟩)
        | (go_at_call 105; refine (number_any _ rb s p bad dep ((hr.alloc _).drewN _) hp hs2).mono ?_; intro e w2 ho; obtain ⟨⟨bk, rfl, hbk⟩, f2⟩ := Out.isNo HX.out ho; clear ho))
      exact panics0 (Out.no HE.out ⟨⟨_, rfl, hbk⟩, (f0.trans (Fr.drewN _ _ _)).trans f2⟩)
    | ok x =>
      have HE : Hid (N = .ok (.mk 2 false x.1 ⟨#[]⟩ [] [], x.2)) := by show _ = _; rw [HV.out, hx]
      have HX : Hid (numberS s p = .ok x) := hx
      clear HV hx
      go_enter Tryz.func70, Tryz.ntmps70
      go_wp2_with (first
        | (go_at_call 99; refine (next_any _ _ _ _ _ _ (hr.alloc _) hp hs2).mono ?_; rintro e w1 ⟨rfl, n1, rfl⟩; rw [hc])
        | (go_at_call 104; refine (isDigit_any _ _).mono ?_; rintro e w3 ⟨rfl, rfl⟩)
        | (go_at_call 105; refine (number_any _ rb s p bad dep ((hr.alloc _).drewN _) hp hs2).mono ?_; intro e w2 ho; obtain ⟨rfl, rd2, hq1, hq2, f2⟩ := Out.isOk HX.out ho; clear ho; have hz := hz0 _ f2; obtain ⟨y0, y1, y2, y3, y4, y5⟩ := box6 hz; have z0 := box_fz hz 0; have z1 := box_fz hz 1; have z2 := box_fz hz 2; have z3 := box_fz hz 3; have z4 := box_fz hz 4; have z5 := box_fz hz 5))
      refine bodyPost_ret (v := .agg #[.int .i64 2, .bool false, .int .i64 x.1, .string ⟨#[]⟩, .slice none 0 0, .slice none 0 0]) (by simp [results, Tryz.results70, go_sem, *]) rfl (Out.yes HE.out ⟨⟨_, _, _, _, _, _, _, _, _, _, rfl, ?_⟩, ?_, hq1, hq2, ?_⟩)
      · refine LaidV.conv (ok := fun b => w.heap.size + 1 ≤ b) (w := w2) (fun b hb hl => ⟨by omega, ?_⟩) (by unfold LaidV; exact ⟨_, _, [], [], rfl, ⟨rfl, .inl ⟨none, 0, rfl, rfl⟩⟩, ⟨rfl, .inl ⟨none, 0, rfl, rfl⟩⟩, by unfold LaidL; rfl, by unfold LaidF; rfl⟩)
        rw [Below.heap_setCell _ _ _ _ (by simp; omega), Below.heap_setCell _ _ _ _ (by simp; omega), Below.heap_setCell _ _ _ _ (by simp; omega), Below.heap_setCell _ _ _ _ (by simp; omega), Below.heap_setCell _ _ _ _ (by simp; omega), Below.heap_setCell _ _ _ _ (by simp; omega)]
      · exact (((((rd2.other _ (by simp; omega)).other _ (by simp; omega)).other _ (by simp; omega)).other _ (by simp; omega)).other _ (by simp; omega)).other _ (by simp; omega)
      · exact (((((((f0.trans (Fr.drewN _ _ _)).trans f2).setNew _ (by simp)).setNew _ (by simp)).setNew _ (by simp)).setNew _ (by simp)).setNew _ (by simp)).setNew _ (by simp)
  have HE : Hid (N = .error (p, 3)) := by show _ = _; rw [← hN, valC, if_neg (show ¬ nx s p = 110 by rw [hc]; exact k110), if_neg (show ¬ nx s p = 116 by rw [hc]; exact k116), if_neg (show ¬ nx s p = 102 by rw [hc]; exact k102), if_neg (show ¬ nx s p = 34 by rw [hc]; exact k34), if_neg (show ¬ nx s p = 91 by rw [hc]; exact k91), if_neg (show ¬ nx s p = 123 by rw [hc]; exact k123), if_neg (by rw [hc]; intro h; rcases h with h | h; exact kd h; exact kg h)]
  have m110 : ((c : Int) == 110) = false := by simp; omega
  have m116 : ((c : Int) == 116) = false := by simp; omega
  have m102 : ((c : Int) == 102) = false := by simp; omega
  have m34 : ((c : Int) == 34) = false := by simp; omega
  have m91 : ((c : Int) == 91) = false := by simp; omega
  have m123 : ((c : Int) == 123) = false := by simp; omega
  have m45 : ((c : Int) == 45) = false := by simp; omega
  have kg' : isDg c = false := by simpa using kg
  have c1 := (hr.alloc ZV).c1
  clear hN
  go_enter Tryz.func70, Tryz.ntmps70
  go_wp2_with (first
    | (go_at_call 99; refine (next_any _ _ _ _ _ _ (hr.alloc _) hp hs2).mono ?_; rintro e w1 ⟨rfl, n1, rfl⟩; rw [hc])
    | (go_at_call 104; refine (isDigit_any _ _).mono ?_; rintro e w3 ⟨rfl, rfl⟩)
    | (go_at_call 71; refine (amiss_any _ _ _).mono ?_; rintro e w4 ⟨rfl, rfl⟩))
  exact panics0 (Out.no HE.out ⟨⟨_, rfl, by simpa using heap_alloc_new ((w.alloc ZV).drewN n1) (.cells #[.int .i64 (p : Int), .iface 31 (.int .i64 3)] 130)⟩, f0.trans ((Fr.drewN _ _ _).trans (Fr.alloc _ _ _))⟩)
end Go.Proofs.YtiakidomcjpdhaaGreatDoor

namespace Go.Proofs.YtiakidomcjpdhaaGreatDoor
open Go.RowKit

theorem value_any (rb : Nat) (s : ByteArray) (bad : Int) (hrb : 6 ≤ rb) (hs : s.size ≤ 65536) : ∀ k dep, dep + k = 32 → ValueAt rb s bad dep (valS s bad k)
  | 0, dep, h => by
    obtain rfl : dep = 32 := by omega
    exact value_step rb s bad 32 _ _ (list_deep rb s bad) (object_deep rb s bad) hrb hs
  | k + 1, dep, h => value_step rb s bad dep _ _ (list_any rb s bad dep _ (value_any rb s bad hrb hs k (dep + 1) (by omega)) (by omega) hrb hs) (object_any rb s bad dep _ (value_any rb s bad hrb hs k (dep + 1) (by omega)) (by omega) hrb hs) hrb hs

theorem newReader_any (s : ByteArray) (w : World) (hs : s.size ≤ 140737488351232) :
    Calls Tryz.prog 45 #[.string s] w fun e w' => ∃ b, e = .returned (.pointer (some ⟨b, 0, none⟩)) ∧ RdAt w' b s 0 (badAt s 0) 0 ∧ w.heap.size ≤ b ∧ Below w.heap.size w w' := by
  go_enter Tryz.func45, Tryz.ntmps45
  go_wp2_with (go_at_call 68; refine (bad_any _ _ hs).mono ?_; rintro e w1 ⟨rfl, h1⟩)
  go_ret
  exact ⟨_, rfl, heap_alloc_new _ _, h1.size, h1.alloc h1.size _⟩

/-- The text from its beginning to its end. -/
def wholeS (s : ByteArray) (bad : Int) : Except (Nat × Nat) GV :=
  match valS s bad 32 (bl s 0) with
  | .error x => .error x
  | .ok (x, q) => if bl s q < s.size then .error (bl s q, 3) else .ok x

set_option maxRecDepth 20000 in
set_option maxHeartbeats 8000000 in
theorem whole_any (w : World) (rb : Nat) (s : ByteArray) (bad : Int) (hr : RdAt w rb s 0 bad 0) (hT : Tabs w) (hrb : 6 ≤ rb) (hs : s.size ≤ 65536) :
    Calls Tryz.prog 46 #[.pointer (some ⟨rb, 0, none⟩)] w (Out (wholeS s bad) (fun x e w' => VOut (fun b => w.heap.size ≤ b) x e w' ∧ Fr (Own rb) w w') (Fr (Own rb) w)) := by
  have hlt := hr.lt
  have hs2 : s.size ≤ 140737488351232 := by omega
  have hbl := bl_le s 0 (Nat.zero_le _)
  have f0 : Fr (Own rb) w (w.alloc ZV) := Fr.alloc _ _ _
  cases hx : valS s bad 32 (bl s 0) with
  | error x =>
    have HE : Hid (wholeS s bad = .error (x.1, x.2)) := by show _ = _; rw [wholeS, hx]
    have HX : Hid (valS s bad 32 (bl s 0) = .error (x.1, x.2)) := hx
    clear hx
    go_enter Tryz.func46, Tryz.ntmps46
    go_wp2_with (first
      | (go_at_call 69; refine (blanks_any _ _ _ _ _ _ (hr.alloc _) (Nat.zero_le _) hs2).mono ?_; rintro e w1 ⟨rfl, rd1, f1⟩; have tb1 := (hT.alloc ZV).fr f1 (by show ¬ _ = _; omega) (by show ¬ _ = _; omega))
      | (go_at_call 70; refine (value_any rb s bad hrb hs 32 0 rfl _ _ rd1 tb1 hbl.2).mono ?_; intro e w2 ho; obtain ⟨⟨bk, rfl, hbk⟩, f2⟩ := Out.isNo HX.out ho; clear ho))
    exact panics0 (Out.no HE.out ⟨⟨_, rfl, hbk⟩, (f0.trans f1).trans f2⟩)
  | ok x =>
    obtain ⟨x, q⟩ := x
    have HX : Hid (valS s bad 32 (bl s 0) = .ok (x, q)) := hx
    by_cases hq : bl s q < s.size
    · have HE : Hid (wholeS s bad = .error (bl s q, 3)) := by show _ = _; rw [wholeS, hx]; simp only [if_pos hq]
      have hq' : ((bl s q : Nat) : Int) < (s.size : Int) := by omega
      clear hx
      go_enter Tryz.func46, Tryz.ntmps46
      go_wp2_with (first
        | (go_at_call 69; have hh := rd2; refine (blanks_any _ _ _ _ _ _ (rd2.alloc _) hq2 hs2).mono ?_; rintro e w3 ⟨rfl, rd3, f3⟩; have c0 := rd3.c0; have c1 := rd3.c1)
        | (go_at_call 69; refine (blanks_any _ _ _ _ _ _ (hr.alloc _) (Nat.zero_le _) hs2).mono ?_; rintro e w1 ⟨rfl, rd1, f1⟩; have tb1 := (hT.alloc ZV).fr f1 (by show ¬ _ = _; omega) (by show ¬ _ = _; omega))
        | (go_at_call 70; refine (value_any rb s bad hrb hs 32 0 rfl _ _ rd1 tb1 hbl.2).mono ?_; intro e w2 ho; obtain ⟨⟨k, b, n, t, a1, l1, c1, a2, l2, c2, rfl, hlaid⟩, rd2, hq1, hq2, f2⟩ := Out.isOk HX.out ho; clear ho)
        | (go_at_call 71; refine (amiss_any _ _ _).mono ?_; rintro e w4 ⟨rfl, rfl⟩))
      go_quiet (fail)
      go_wp2_with (first
        | (go_at_call 71; refine (amiss_any _ _ _).mono ?_; rintro e w4 ⟨rfl, rfl⟩))
      exact panics0 (Out.no HE.out ⟨⟨_, rfl, heap_alloc_new (w3.drewN nq) _⟩, (((((f0.trans f1).trans f2).allocNew _).trans f3).trans (Fr.drewN _ _ _)).trans (Fr.alloc _ _ _)⟩)
    · have HE : Hid (wholeS s bad = .ok x) := by show _ = _; rw [wholeS, hx]; simp only [if_neg hq]
      have hq' : ¬ ((bl s q : Nat) : Int) < (s.size : Int) := by omega
      have hvv : ∀ (w2 w3 : World) (c : Array Value) (ty : TypeId), rb < w2.heap.size → Fr (Own rb) (w2.alloc (.cells c ty)) w3 → w3.heap[w2.heap.size]? = some (.cells c ty (0, 0)) := fun w2 w3 c ty hl f => (f.block _ (by simp) (by show ¬ _ = _; omega)).trans (heap_alloc_new _ _)
      have hzz : ∀ (w1 w2 w3 : World) {o : Obj}, Fr (Own rb) (w.alloc ZV) w1 → Fr (Own rb) w1 w2 → Fr (Own rb) (w2.alloc o) w3 → w3.heap[w.heap.size]? = some (.cells #[.int .i64 0, .bool false, .int .i64 0, .string ⟨#[]⟩, .slice none 0 0, .slice none 0 0] 25 (0, 0)) := fun w1 w2 w3 o f1 f2 f3 =>
        (((f1.trans f2).trans ((Fr.alloc _ _ _).trans f3)).block _ (by simp) (by show ¬ _ = _; omega)).trans (heap_alloc_new w ZV)
      clear hx
      go_enter Tryz.func46, Tryz.ntmps46
      go_wp2_with (first
        | (go_at_call 69; have hh := rd2; refine (blanks_any _ _ _ _ _ _ (rd2.alloc _) hq2 hs2).mono ?_; rintro e w3 ⟨rfl, rd3, f3⟩; have c0 := rd3.c0; have c1 := rd3.c1; have hv3 := hvv _ _ _ _ rd2.lt f3; have hz3 := hzz _ _ _ f1 f2 f3; obtain ⟨x0, x1, x2, x3, x4, x5⟩ := box6 hv3; obtain ⟨y0, y1, y2, y3, y4, y5⟩ := box6 hz3; have z0 := box_fz hz3 0; have z1 := box_fz hz3 1; have z2 := box_fz hz3 2; have z3 := box_fz hz3 3; have z4 := box_fz hz3 4; have z5 := box_fz hz3 5)
        | (go_at_call 69; refine (blanks_any _ _ _ _ _ _ (hr.alloc _) (Nat.zero_le _) hs2).mono ?_; rintro e w1 ⟨rfl, rd1, f1⟩; have tb1 := (hT.alloc ZV).fr f1 (by show ¬ _ = _; omega) (by show ¬ _ = _; omega))
        | (go_at_call 70; refine (value_any rb s bad hrb hs 32 0 rfl _ _ rd1 tb1 hbl.2).mono ?_; intro e w2 ho; obtain ⟨⟨k, b, n, t, a1, l1, d1, a2, l2, d2, rfl, hlaid⟩, rd2, hq1, hq2, f2⟩ := Out.isOk HX.out ho; clear ho))
      go_quiet (fail)
      have hs1 := f1.size
      have hs3 := f2.size
      simp at hs1
      have fA : Fr (Own rb) w (w3.drewN nq) := (((((f0.trans f1).trans f2).allocNew _).trans f3).trans (Fr.drewN _ _ _))
      have hneq : ¬ w2.heap.size = w.heap.size := by omega
      have hneq' : ¬ w.heap.size = w2.heap.size := by omega
      go_wp2
      refine bodyPost_ret (v := .agg #[.int .i64 k, .bool b, .int .i64 n, .string t, .slice a1 l1 d1, .slice a2 l2 d2]) (by simp [results, Tryz.results46, go_sem, *]) rfl (Out.yes HE.out ⟨⟨_, _, _, _, _, _, _, _, _, _, rfl, ?_⟩, ?_⟩)
      · refine hlaid.conv (fun b hb hl => ⟨by omega, ?_⟩)
        rw [Below.heap_setCell _ _ _ _ (by simp; omega), Below.heap_setCell _ _ _ _ (by simp; omega), Below.heap_setCell _ _ _ _ (by simp; omega), Below.heap_setCell _ _ _ _ (by simp; omega), Below.heap_setCell _ _ _ _ (by simp; omega), Below.heap_setCell _ _ _ _ (by simp; omega)]
        show w3.heap[b]? = _
        rw [f3.block b (by simp; omega) (by show ¬ _ = _; have := rd1.lt; omega), Below.heap_alloc _ _ _ hl]
      · exact (((((fA.setNew _ (by simp)).setNew _ (by simp)).setNew _ (by simp)).setNew _ (by simp)).setNew _ (by simp)).setNew _ (by simp)
end Go.Proofs.YtiakidomcjpdhaaGreatDoor

namespace Go.Proofs.YtiakidomcjpdhaaGreatDoor
open Go.RowKit

theorem parseS_whole (s : ByteArray) : parseS s = wholeS s (badAt s 0) := rfl

theorem parse_long (s : ByteArray) (w : World) (hs : 65536 < s.size) (_hs2 : s.size ≤ 140737488351232) :
    Calls Tryz.prog 25 #[.string s] w fun e w' => e = .returned (.tuple #[.agg #[.int .i64 0, .bool false, .int .i64 0, .string ⟨#[]⟩, .slice none 0 0, .slice none 0 0], .iface 31 (.int .i64 2)]) ∧ Below w.heap.size w w' := by
  have h' : (65536 : Int) < (s.size : Int) := by omega
  have hmf : ∀ (fn : Fn) (first cap : Array Value) (w : World), (Instr.makeFunc fn first cap).run Tryz.prog w = .ok (.func fn first cap) w := fun _ _ _ _ => rfl
  go_enter_defers Tryz.func25, Tryz.ntmps25
  go_wp2
  refine ⟨.tuple #[.agg #[.int .i64 0, .bool false, .int .i64 0, .string ⟨#[]⟩, .slice none 0 0, .slice none 0 0], .iface 31 (.int .i64 2)], by simp [results, Tryz.results25, go_sem], rfl, ?_⟩
  exact ((Below.refl _ _).alloc (Nat.le_refl _) _).alloc (by simp) _

/-- A fault in block b. -/
def FaultIn (b : Nat) (q c : Nat) (w : World) : Prop := w.heap[b]? = some (.cells #[.int .i64 (q : Int), .iface 31 (.int .i64 (c : Int))] 130 (0, 0))
/-- How Parse ends. -/
def POut (s : ByteArray) (w : World) (e : Ending) (w' : World) : Prop :=
  Below w.heap.size w w' ∧ match parseS s with
  | .ok x => ∃ (k : Int) (b : Bool) (n : Int) (t : ByteArray) (a1 : Option Addr) (l1 c1 : Nat) (a2 : Option Addr) (l2 c2 : Nat),
      e = .returned (.tuple #[.agg #[.int .i64 k, .bool b, .int .i64 n, .string t, .slice a1 l1 c1, .slice a2 l2 c2], .nilIface]) ∧ LaidV w' (fun b => w.heap.size ≤ b) x [.int .i64 k, .bool b, .int .i64 n, .string t, .slice a1 l1 c1, .slice a2 l2 c2]
  | .error (q, c) => ∃ b, e = .returned (.tuple #[.agg #[.int .i64 0, .bool false, .int .i64 0, .string ⟨#[]⟩, .slice none 0 0, .slice none 0 0], .iface 73 (.pointer (some ⟨b, 0, none⟩))]) ∧ FaultIn b q c w'

theorem leaves_done {fn : Func} {tmps : Array Value} {R : Ending → World → Prop} {w : World} {v : Value} (hr : (results fn tmps).run Tryz.prog w = .ok v w) (h : R (.returned v) w) : Leaves Tryz.prog fn tmps R [] .returning w := ⟨v, hr, h⟩
set_option maxHeartbeats 2000000 in
theorem res9 {w : World} {N N1 : Nat} {a0 a1 a2 a3 a4 a5 v : Value} {t0 t1 t4 t5 t6 t7 t8 t9 t10 t11 t12 : Value} (h : w.heap[N]? = some (.cells #[a0, a1, a2, a3, a4, a5] 25 (0, 0))) (h1 : w.heap[N1]? = some (.cells #[v] 28 (0, 0))) :
    (results Tryz.f25 #[t0, t1, .pointer (some ⟨N, 0, none⟩), .pointer (some ⟨N1, 0, none⟩), t4, t5, t6, t7, t8, t9, t10, t11, t12]).run Tryz.prog w = .ok (.tuple #[.agg #[a0, a1, a2, a3, a4, a5], v]) w := by
  obtain ⟨y0, y1, y2, y3, y4, y5⟩ := box6 h
  have u : w.cell? ⟨N1, 0, none⟩ = some v := by simp [World.cell?, h1]
  simp [results, Tryz.results25, go_sem, y0, y1, y2, y3, y4, y5, u]

set_option maxRecDepth 20000 in
set_option maxHeartbeats 1000000 in
theorem parse_any (s : ByteArray) (w : World) (hT : Tabs w) (h6 : 6 ≤ w.heap.size) (hs : s.size ≤ 65536) : Calls Tryz.prog 25 #[.string s] w (POut s w) := by
  have h' : ¬ (65536 : Int) < (s.size : Int) := by omega
  have hs2 : s.size ≤ 140737488351232 := by omega
  have hmf : ∀ (fn : Fn) (first cap : Array Value) (w : World), (Instr.makeFunc fn first cap).run Tryz.prog w = .ok (.func fn first cap) w := fun _ _ _ _ => rfl
  obtain ⟨W2, hW2⟩ : ∃ W2, W2 = (w.alloc ZV).alloc (.cells #[.nilIface] 28) := ⟨_, rfl⟩
  have hsz2 : W2.heap.size = w.heap.size + 2 := by rw [hW2]; simp
  have b0 : W2.heap[w.heap.size]? = some (.cells #[.int .i64 0, .bool false, .int .i64 0, .string ⟨#[]⟩, .slice none 0 0, .slice none 0 0] 25 (0, 0)) := by
    rw [hW2, Below.heap_alloc _ _ _ (by simp)]
    exact heap_alloc_new _ _
  have b1 : W2.heap[w.heap.size + 1]? = some (.cells #[.nilIface] 28 (0, 0)) := by rw [hW2]; exact heap_new1 _ _ _
  have hT2 : Tabs W2 := by rw [hW2]; exact (hT.alloc _).alloc _
  have f2 : Below w.heap.size w W2 := by rw [hW2]; exact ((Below.refl _ _).alloc (Nat.le_refl _) _).alloc (by simp) _
  have hrd := newReader_any s W2 hs2
  have key : ∀ rb w3 w4, W2.heap.size ≤ rb → Below W2.heap.size W2 w3 → Fr (Own rb) w3 w4 → Below W2.heap.size W2 w4 := fun rb w3 w4 h1 h3 h4 =>
    h3.trans (h4.below h3.size (fun k hk e => by have : k = rb := e; omega))
  cases hx : parseS s with
  | error x =>
    have HX : Hid (wholeS s (badAt s 0) = .error (x.1, x.2)) := hx
    have HP : Hid (parseS s = .error (x.1, x.2)) := hx
    clear hx
    rw [hW2] at hrd
    go_enter_defers Tryz.func25, Tryz.ntmps25
    go_wp2_with (first
      | (go_at_call 45; refine hrd.mono ?_; rw [← hW2]; rintro e w3 ⟨rb, rfl, rd3, hrb, h3⟩)
      | (go_at_call 46; refine (whole_any _ _ _ _ rd3 (hT2.fr (Fr.of_below (S := fun _ => False) h3) id id) (by omega) hs).mono ?_; intro e w4 ho; obtain ⟨⟨bk, rfl, hbk⟩, f4⟩ := Out.isNo HX.out ho; clear ho))
    have h4 := key _ _ _ hrb h3 f4
    have e0 := (h4.block w.heap.size (by omega)).trans b0
    have e1 := (h4.block (w.heap.size + 1) (by omega)).trans b1
    have hne : bk ≠ w.heap.size + 1 := by rintro rfl; rw [e1] at hbk; simp at hbk
    refine leaves_cons (f := 44) (args := #[.pointer (some ⟨w.heap.size + 1, 0, none⟩)]) (by simp) (by simp [go_sem]) ?_
    refine (catch_fault (w.heap.size + 1) bk [] w4 (by simp [World.cell?, e1]) (by simp [World.frozen?, e1])).mono ?_
    rintro e u' w'' ⟨rfl, rfl, rfl⟩
    show Leaves Tryz.prog Tryz.f25 _ (POut s w) [] .returning _
    have g0 : (w4.setCell ⟨w.heap.size + 1, 0, none⟩ (.iface 73 (.pointer (some ⟨bk, 0, none⟩)))).heap[w.heap.size]? = some (.cells #[.int .i64 0, .bool false, .int .i64 0, .string ⟨#[]⟩, .slice none 0 0, .slice none 0 0] 25 (0, 0)) := by
      rw [Below.heap_setCell _ _ _ _ (by simp)]
      exact e0
    have g1 : (w4.setCell ⟨w.heap.size + 1, 0, none⟩ (.iface 73 (.pointer (some ⟨bk, 0, none⟩)))).heap[w.heap.size + 1]? = some (.cells #[.iface 73 (.pointer (some ⟨bk, 0, none⟩))] 28 (0, 0)) := heap_set e1 0 _
    refine leaves_done (res9 g0 g1) ?_
    · refine ⟨f2.trans ((h4.mono (by omega)).trans ?_), ?_⟩
      · exact ⟨rfl, rfl, rfl, by simp, fun k hk => Below.heap_setCell _ _ _ _ (by simp; omega)⟩
      · rw [HP.out]
        refine ⟨bk, rfl, ?_⟩
        unfold FaultIn
        rw [Below.heap_setCell _ _ _ _ (by simpa using hne)]
        exact hbk
  | ok x =>
    have HX : Hid (wholeS s (badAt s 0) = .ok x) := hx
    have HP : Hid (parseS s = .ok x) := hx
    clear hx
    rw [hW2] at hrd
    go_enter_defers Tryz.func25, Tryz.ntmps25
    go_wp2_with (first
      | (go_at_call 45; refine hrd.mono ?_; rw [← hW2]; rintro e w3 ⟨rb, rfl, rd3, hrb, h3⟩)
      | (go_at_call 46; refine (whole_any _ _ _ _ rd3 (hT2.fr (Fr.of_below (S := fun _ => False) h3) id id) (by omega) hs).mono ?_; intro e w4 ho; obtain ⟨⟨k, b, n, t, a1, l1, c1, a2, l2, c2, rfl, hlaid⟩, f4⟩ := Out.isOk HX.out ho; clear ho; have h4 := key _ _ _ hrb h3 f4; have e0 := (h4.block w.heap.size (by omega)).trans b0; have e1 := (h4.block (w.heap.size + 1) (by omega)).trans b1; obtain ⟨y0, y1, y2, y3, y4, y5⟩ := box6 e0; have z0 := box_fz e0 0; have z1 := box_fz e0 1; have z2 := box_fz e0 2; have z3 := box_fz e0 3; have z4 := box_fz e0 4; have z5 := box_fz e0 5; have u0 : w4.cell? ⟨w.heap.size + 1, 0, none⟩ = some .nilIface := (by simp [World.cell?, e1]); have u1 := box_fz e1 0))
    refine leaves_cons (f := 44) (args := #[.pointer (some ⟨w.heap.size + 1, 0, none⟩)]) (by simp) (by simp [go_sem]) ?_
    refine (catch_idle ⟨w.heap.size + 1, 0, none⟩ _).mono ?_
    rintro e u' w'' ⟨rfl, rfl, rfl⟩
    show Leaves Tryz.prog Tryz.f25 _ (POut s w) [] .returning _
    have g0 : (((((((w4.setCell ⟨w.heap.size, 0, none⟩ (.int .i64 k)).setCell ⟨w.heap.size, 1, none⟩ (.bool b)).setCell ⟨w.heap.size, 2, none⟩ (.int .i64 n)).setCell ⟨w.heap.size, 3, none⟩ (.string t)).setCell ⟨w.heap.size, 4, none⟩ (.slice a1 l1 c1)).setCell ⟨w.heap.size, 5, none⟩ (.slice a2 l2 c2)).setCell ⟨w.heap.size + 1, 0, none⟩ .nilIface).heap[w.heap.size]? = some (.cells #[.int .i64 k, .bool b, .int .i64 n, .string t, .slice a1 l1 c1, .slice a2 l2 c2] 25 (0, 0)) := by
      rw [Below.heap_setCell _ _ _ _ (by simp)]
      exact heap_set (heap_set (heap_set (heap_set (heap_set (heap_set (e0) 0 (.int .i64 k)) 1 (.bool b)) 2 (.int .i64 n)) 3 (.string t)) 4 (.slice a1 l1 c1)) 5 (.slice a2 l2 c2)
    have g1 : (((((((w4.setCell ⟨w.heap.size, 0, none⟩ (.int .i64 k)).setCell ⟨w.heap.size, 1, none⟩ (.bool b)).setCell ⟨w.heap.size, 2, none⟩ (.int .i64 n)).setCell ⟨w.heap.size, 3, none⟩ (.string t)).setCell ⟨w.heap.size, 4, none⟩ (.slice a1 l1 c1)).setCell ⟨w.heap.size, 5, none⟩ (.slice a2 l2 c2)).setCell ⟨w.heap.size + 1, 0, none⟩ .nilIface).heap[w.heap.size + 1]? = some (.cells #[.nilIface] 28 (0, 0)) := by
      refine heap_set (cur := #[.nilIface]) ?_ 0 .nilIface
      rw [Below.heap_setCell _ _ _ _ (by simp), Below.heap_setCell _ _ _ _ (by simp), Below.heap_setCell _ _ _ _ (by simp), Below.heap_setCell _ _ _ _ (by simp), Below.heap_setCell _ _ _ _ (by simp), Below.heap_setCell _ _ _ _ (by simp)]
      exact e1
    refine leaves_done (res9 g0 g1) ?_
    · have hs3 := h3.size
      have F : Fr (fun _ => False) w w4 := Fr.of_below (f2.trans (h4.mono (by omega)))
      have F7 := ((((((F.setNew (a := ⟨w.heap.size, 0, none⟩) (.int .i64 k) (Nat.le_refl _)).setNew (a := ⟨w.heap.size, 1, none⟩) (.bool b) (Nat.le_refl _)).setNew (a := ⟨w.heap.size, 2, none⟩) (.int .i64 n) (Nat.le_refl _)).setNew (a := ⟨w.heap.size, 3, none⟩) (.string t) (Nat.le_refl _)).setNew (a := ⟨w.heap.size, 4, none⟩) (.slice a1 l1 c1) (Nat.le_refl _)).setNew (a := ⟨w.heap.size, 5, none⟩) (.slice a2 l2 c2) (Nat.le_refl _)).setNew (a := ⟨w.heap.size + 1, 0, none⟩) .nilIface (Nat.le_succ _)
      refine ⟨F7.below (Nat.le_refl _) (fun _ _ => id), ?_⟩
      rw [HP.out]
      refine ⟨k, b, n, t, a1, l1, c1, a2, l2, c2, rfl, ?_⟩
      refine hlaid.conv (fun b hb hl => ⟨by omega, ?_⟩)
      rw [Below.heap_setCell _ _ _ _ (by simp; omega), Below.heap_setCell _ _ _ _ (by simp; omega), Below.heap_setCell _ _ _ _ (by simp; omega), Below.heap_setCell _ _ _ _ (by simp; omega), Below.heap_setCell _ _ _ _ (by simp; omega), Below.heap_setCell _ _ _ _ (by simp; omega), Below.heap_setCell _ _ _ _ (by simp; omega)]
end Go.Proofs.YtiakidomcjpdhaaGreatDoor
