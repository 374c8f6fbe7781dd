/- How arguments of type [][]byte and string are opened. -/
import Derived.Test.YtamddicoancdhaaWit
import Derived.Test.YtamddicoancdhaaCs
namespace Go.Proofs.Ytamddicoancdhaa
open Go.ChangeShapes Go.WideShapes Go.ChangeAt Go.RowKit
namespace Wit

set_option maxRecDepth 100000 in
/-- What is read as a []byte. -/
theorem open_core {H : Type} {enc : TypeId × Value → H} {W : World} {fuel : Nat} {cs : List Value} {x : DataW H × List MemPlace}
    (hf : DataW.trod enc Try.prog W 0 (fun _ => true) true fuel 22 cs = some x) : ∃ (bs : List UInt8) (u : Value), cs = [u] ∧ Bw.SlM W u bs ∧ bs.length ≤ Rows.uptoBulk x.1 := by
  rcases open_ints Try.underlying22 Try.underlying5 cells5 hf with ⟨hcs, hx⟩ | ⟨a, len, cap, zs, hcs, _, hl, hm, hz, hx, hcell, hwz⟩
  · exact ⟨[], _, hcs, .inl ⟨rfl, .inl rfl⟩, by simp⟩
  · simp only [if_true] at hz
    have hle : (zs.take len).length = len := by rw [List.length_take]; omega
    have hcap : cap ≤ 9223372036854775807 := by unfold maxLen at hm; omega
    have hbl : ((zs.take len).map fun z => z.toNat.toUInt8).length = len := by rw [List.length_map, hle]
    refine ⟨(zs.take len).map fun z => z.toNat.toUInt8, _, hcs, ?_, ?_⟩
    · obtain ⟨b, off, spot⟩ := a
      by_cases hl0 : len = 0
      · subst hl0
        exact .inl ⟨by simp, .inr ⟨_, _, rfl, hcap⟩⟩
      · have hspot : spot = none := by simpa [Addr.add] using World.cell?_spot (hcell 0 (by omega))
        subst hspot
        refine .inr ⟨b, off, cap, by rw [hbl], by rw [hbl]; exact hl, hcap, fun j hj => ?_⟩
        rw [hbl] at hj
        have hjz : j < zs.length := by omega
        have hb := byte_of (hwz zs[j] (List.getElem_mem _))
        rw [← Bw.addO, hcell j hjz, List.getD_eq_getElem?_getD, List.getElem?_eq_getElem hjz]
        simp only [List.getElem_map, List.getElem_take, Option.getD_some]
        rw [u8 _ (by omega)]
        congr 2
        omega
    · rw [hx, hbl]
      simp only [Rows.uptoBulk]
      have : ∀ (l : List Int), l.length ≤ Rows.uptoBulkAll (H := H) (lits .u8 l) := by
        intro l
        induction l with
        | nil => simp [lits, Rows.uptoBulkAll]
        | cons z r ih =>
          simp only [lits, List.map_cons, Rows.uptoBulkAll, Rows.uptoBulk, List.length_cons] at ih ⊢
          omega
      have h1 := this (zs.take len)
      rw [hle] at h1
      omega
theorem build {X : Type} {Pp : Nat → X → List UInt8 → Prop} : ∀ (els : List X), (∀ i el, els[i]? = some el → ∃ bs, Pp i el bs) → ∃ LL : List (List UInt8), LL.length = els.length ∧ ∀ i el bs, els[i]? = some el → LL[i]? = some bs → Pp i el bs := by
  intro els
  induction els generalizing Pp with
  | nil => exact fun _ => ⟨[], rfl, fun i el bs h => by simp at h⟩
  | cons e els ih =>
    intro h
    obtain ⟨b0, h0⟩ := h 0 e rfl
    obtain ⟨LL, h1, h2⟩ := ih (Pp := fun i => Pp (i + 1)) (fun i el hi => h (i + 1) el hi)
    refine ⟨b0 :: LL, by simp [h1], fun i el bs he hb => ?_⟩
    cases i with
    | zero =>
      simp at he hb
      subst he hb
      exact h0
    | succ i => exact h2 i el bs (by simpa using he) (by simpa using hb)
theorem flat_le {X : Type} (f : X → Nat) : ∀ (els : List X) (LL : List (List UInt8)), LL.length = els.length → (∀ (i : Nat) (el : X) (bs : List UInt8), els[i]? = some el → LL[i]? = some bs → bs.length ≤ f el) → LL.flatten.length ≤ (els.map f).sum
  | [], [], _, _ => by simp
  | e :: els, b :: LL, hl, h => by
    have h1 := flat_le f els LL (by simpa using hl) (fun i el bs he hb => h (i + 1) el bs (by simpa using he) (by simpa using hb))
    have h2 := h 0 e b rfl rfl
    simp only [List.flatten_cons, List.length_append, List.map_cons, List.sum_cons]
    omega
theorem bulk_sum {H : Type} : ∀ (l : List (DataW H × List MemPlace)), Rows.uptoBulkAll (l.map (·.1)) = (l.map fun x => Rows.uptoBulk x.1).sum
  | [] => by simp [Rows.uptoBulkAll]
  | x :: l => by
    simp only [List.map_cons, Rows.uptoBulkAll, List.sum_cons]
    rw [bulk_sum l]
theorem bulk_pos {H : Type} (d : DataW H) : 1 ≤ Rows.uptoBulk d := by
  unfold Rows.uptoBulk
  split <;> omega
theorem bulk_len {H : Type} : ∀ ds : List (DataW H), ds.length ≤ Rows.uptoBulkAll ds
  | [] => Nat.zero_le _
  | d :: ds => by
    have h1 := bulk_pos d
    have h2 := bulk_len ds
    simp only [Rows.uptoBulkAll, List.length_cons]
    omega
theorem cells22 : Try.prog.cellsOf 22 = 1 := by kernel_rfl
set_option maxRecDepth 100000 in
/-- An argument of type [][]byte: what it holds. -/
theorem open_bss {H : Type} {enc : TypeId × Value → H} {W : World} {base : Nat} {v : Value} {d : DataW H} {ps : List MemPlace}
    (hval : Value.okWide Try.prog W .any base 34 v) (h : DataW.Trod enc Try.prog W 0 (fun _ => true) true 34 v d ps) :
    ∃ (LL : List (List UInt8)), Wl.SlS W v LL ∧ LL.flatten.length ≤ Rows.uptoBulk d ∧ LL.length ≤ Rows.uptoBulk d ∧ LL.length ≤ 9223372036854775807 := by
  obtain ⟨a0, len, cap, rfl⟩ := okWide_slice Try.underlying34 hval
  obtain ⟨fuel, hf⟩ := h
  rcases DataW.trod_slice Try.underlying34 hf with ⟨hcs, hx⟩ | ⟨a, len', cap', elems, rest, n, _, hcs, hx, hb, hl, hm, hlen, hel, _, _⟩
  · simp [Value.cells] at hcs
    obtain ⟨rfl, rfl, rfl⟩ := hcs
    exact ⟨[], .inl ⟨rfl, _, _, rfl⟩, by simp, by simp, by simp⟩
  · simp [Value.cells] at hcs
    obtain ⟨rfl, rfl, rfl⟩ := hcs
    rw [cells22] at hel
    have hcap : cap ≤ 9223372036854775807 := by unfold maxLen at hm; omega
    obtain ⟨LL, h1, h2⟩ := build (Pp := fun i el bs => ∃ u, W.cell? (a.add i) = some u ∧ Bw.SlM W u bs ∧ bs.length ≤ Rows.uptoBulk el.1) elems (fun i el hi => by
      have hil : i < len := by rw [← hlen]; exact (List.getElem?_eq_some_iff.1 hi).1
      have h3 := hel i hil
      rw [hi, Nat.mul_one, Option.bind_eq_some_iff] at h3
      obtain ⟨cs', hcs, hy⟩ := h3
      obtain ⟨bs, u, rfl, h4, h5⟩ := open_core hy
      exact ⟨bs, u, cell_of_cells?_one hcs, h4, h5⟩)
    have hll : LL.length = len := h1.trans hlen
    refine ⟨LL, ?_, ?_, ?_, by omega⟩
    · by_cases h0 : len = 0
      · subst h0
        exact .inl ⟨List.eq_nil_of_length_eq_zero hll, _, _, rfl⟩
      · obtain ⟨b, off, spot⟩ := a
        have hspot : spot = none := by
          have he : ∃ el, elems[0]? = some el := ⟨_, List.getElem?_eq_getElem (by omega)⟩
          have hb0 : ∃ bs, LL[0]? = some bs := ⟨_, List.getElem?_eq_getElem (by omega)⟩
          obtain ⟨el, he⟩ := he
          obtain ⟨bs, hb0⟩ := hb0
          obtain ⟨u, hu, _⟩ := h2 0 el bs he hb0
          simpa [Addr.add] using World.cell?_spot hu
        subst hspot
        refine .inr ⟨b, off, cap, by rw [hll], by omega, hcap, fun i bs hi => ?_⟩
        have hil : i < elems.length := by rw [← h1]; exact (List.getElem?_eq_some_iff.1 hi).1
        obtain ⟨u, hu, hs, _⟩ := h2 i _ bs (List.getElem?_eq_getElem hil) hi
        exact ⟨u, by rw [← Bw.addO]; exact hu, hs⟩
    · have h6 := flat_le (fun x : DataW H × List MemPlace => Rows.uptoBulk x.1) elems LL h1 (fun i el bs he hb => (h2 i el bs he hb).choose_spec.2.2)
      rw [← bulk_sum] at h6
      have hx1 := congrArg Prod.fst hx
      simp only at hx1
      rw [hx1]
      simp only [Rows.uptoBulk]
      omega
    · have h6 := bulk_len (elems.map (·.1))
      rw [List.length_map] at h6
      have hx1 := congrArg Prod.fst hx
      simp only at hx1
      rw [hx1]
      simp only [Rows.uptoBulk]
      omega
end Wit
end Go.Proofs.Ytamddicoancdhaa
