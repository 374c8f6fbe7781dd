/- What Used does: a contract, by walking its text: a range over the map, in whatever order. -/
import Derived.Test.YtamddicoancdhaaDb
namespace Go.Proofs.Ytamddicoancdhaa
open Go.RowKit
namespace Dk
open Bw

/-- A step of a range over a disk's map: nothing is left, or one of the files comes. -/
theorem next_file {w : World} {ops : Array Oper} {rest : List Oper} {o : Oper} {a : Act} {Q : Exit → Act → World → Prop} (hg : o.guard = none) (it : Operand) (hop : o.op = Op.next it false) (mb r n : Nat) (fs : List FR) (D : DataW Unit) (left : Lit → Bool) (cnt : Nat)
    (hit : a.eval it = .pointer (some ⟨r, 0, none⟩)) (h : w.ranges Try.prog 9 ptrElem mb r n D left cnt) (hin : ∀ kl, left kl = true → Maps.has D kl = true) (hhas : ∀ s : ByteArray, Maps.has D (key s) = fs.any fun f => decide (f.nm = s)) (hat : ∀ f ∈ fs, ∀ z, D.atKey (key f.nm) z = .lit (.int .i64 (f.fb : Int)))
    (hDone : cnt = 0 → (∀ kl, left kl = false) → wpList Try.prog ops Q rest (a.put o.dst (.tuple #[.bool false])) w)
    (hMore : ∀ (f : FR) (w' : World) (cnt' : Nat), f ∈ fs → left (key f.nm) = true → w'.ranges Try.prog 9 ptrElem mb r n D (fun z => left z && !z.sameKey (key f.nm)) cnt' → cnt' < cnt → w.grownBy w' (some r) → w'.heap.size = w.heap.size →
      (Instr.entry (.pointer (some ⟨r, 0, none⟩))).run Try.prog w' = .ok (.tuple #[.string f.nm, .pointer (some ⟨f.fb, 0, none⟩)]) w' → wpList Try.prog ops Q rest (a.put o.dst (.tuple #[.bool true, .string f.nm, .pointer (some ⟨f.fb, 0, none⟩)])) w') :
    wpList Try.prog ops Q (o :: rest) a w := by
  refine wpList_next_ranges w hg it hop 9 law9 ptrElem Value.string ptrV (fun k kl hk => ?_) (fun v y hv => ptrElem_inv hv) mb r n D left cnt hit h hDone ?_
  · obtain ⟨s, rfl, _⟩ := WideMaps.string_of_keyOf Try.underlying9 hk
    exact ⟨s, rfl⟩
  · intro s c kl y w' cnt' hk hl hv hy hr hc hg' hs' hen
    obtain ⟨s', es, ek, _⟩ := WideMaps.string_of_keyOf Try.underlying9 hk
    cases es
    have ek' : kl = key s := ek
    subst ek'
    have hh := hin _ hl
    rw [hhas s, List.any_eq_true] at hh
    obtain ⟨f, hf, hfs⟩ := hh
    have hfs' : f.nm = s := by simpa using hfs
    subst hfs'
    have h3 := hat f hf .nil
    rw [hy .nil] at h3
    have h4 : ptrElem (ptrV c) = some (.lit (.int .i64 (f.fb : Int)), y.2) := by rw [hv, ← h3]
    have h5 := ptrElem_at h4
    rw [h5] at hen ⊢
    exact hMore f w' cnt' hf hl hr hc hg' hs' hen

/-- The bytes of those files that are no longer to come. -/
def usedIf (left : Lit → Bool) (fs : List FR) : Nat := (fs.map fun f => if left (key f.nm) then 0 else f.bs.length).sum
theorem usedIf_none {left : Lit → Bool} {fs : List FR} (h : ∀ kl, left kl = false) : usedIf left fs = used fs := by
  unfold usedIf used
  simp [h]
theorem usedIf_all {left : Lit → Bool} : ∀ {fs : List FR}, (∀ f ∈ fs, left (key f.nm) = true) → usedIf left fs = 0
  | [], _ => rfl
  | f :: fs, h => by
    have ih := usedIf_all (left := left) (fs := fs) (fun g hg => h g (List.mem_cons_of_mem _ hg))
    unfold usedIf at ih ⊢
    rw [List.map_cons, List.sum_cons, ih, if_pos (h f (by simp))]
theorem usedIf_le (left : Lit → Bool) : ∀ fs : List FR, usedIf left fs ≤ used fs
  | [] => Nat.le_refl _
  | f :: fs => by
    have ih := usedIf_le left fs
    unfold usedIf used at ih ⊢
    rw [List.map_cons, List.sum_cons, List.map_cons, List.sum_cons]
    split <;> omega
theorem usedIf_other {left : Lit → Bool} {s : ByteArray} : ∀ {fs : List FR}, (∀ f ∈ fs, f.nm ≠ s) → usedIf (fun z => left z && !z.sameKey (key s)) fs = usedIf left fs
  | [], _ => rfl
  | f :: fs, h => by
    have ih := usedIf_other (left := left) (s := s) (fs := fs) (fun g hg => h g (List.mem_cons_of_mem _ hg))
    unfold usedIf at ih ⊢
    rw [List.map_cons, List.sum_cons, List.map_cons, List.sum_cons, ih]
    have e := Maps.sameKey_ne (fun e => h f (by simp) (key_inj e))
    simp [e]
theorem usedIf_step {left : Lit → Bool} {f : FR} : ∀ {fs : List FR}, (fs.map FR.nm).Nodup → f ∈ fs → left (key f.nm) = true → usedIf (fun z => left z && !z.sameKey (key f.nm)) fs = usedIf left fs + f.bs.length
  | [], _, hf, _ => by simp at hf
  | g :: fs, hnd, hf, hl => by
    rw [List.map_cons, List.nodup_cons] at hnd
    rcases List.mem_cons.1 hf with e | hf'
    · subst e
      have ho := usedIf_other (left := left) (s := f.nm) (fs := fs) (fun x hx e => hnd.1 (e ▸ List.mem_map_of_mem hx))
      unfold usedIf at ho ⊢
      rw [List.map_cons, List.sum_cons, List.map_cons, List.sum_cons, ho]
      have e := WideAt.sameKey_self (key_is f.nm)
      simp [e, hl]
      omega
    · have hne : g.nm ≠ f.nm := fun e => hnd.1 (e ▸ List.mem_map_of_mem hf')
      have ih := usedIf_step (left := left) hnd.2 hf' hl
      unfold usedIf at ih ⊢
      rw [List.map_cons, List.sum_cons, List.map_cons, List.sum_cons, ih]
      have e := Maps.sameKey_ne (fun e => hne (key_inj e))
      simp [e]
      omega
theorem used_any (w : World) (d : Ds) (h : DiskAt w d) (hu : used d.fs ≤ 9223372036854775807) : Calls Try.prog 38 #[.pointer (some ⟨d.db, 0, none⟩)] w fun e w' => e = .returned (.int .i64 (used d.fs : Int)) ∧ Below w.heap.size w w' := by
  have c1 := h.c1
  obtain ⟨D, hown, _, hhas, hat⟩ := h.map
  have HH : Hid (∀ s : ByteArray, Maps.has D (key s) = d.fs.any fun f => decide (f.nm = s)) := hhas
  have HA : Hid (∀ f ∈ d.fs, ∀ z, D.atKey (key f.nm) z = .lit (.int .i64 (f.fb : Int))) := hat
  clear hhas hat
  go_enter Try.func38, Try.ntmps38
  go_wp2_with (first
    | (at_range; refine wpList_range_own _ rfl _ 64 rfl 9 72 law9 Try.underlying64 _ d.mb d.fs.length D rfl hown ?_; intro w0 hrg0 hg0 hs0)
    | go_in)
  go_frame
  go_loopw [3] (fun x wr => ∃ (left : Lit → Bool) (cnt : Nat), wr.ranges Try.prog 9 ptrElem d.mb w.heap.size d.fs.length D left cnt ∧ Hid (∀ kl, left kl = true → Maps.has D kl = true) ∧ x = .int .i64 ((usedIf left d.fs : Nat) : Int) ∧ Below w.heap.size w wr)
    (fun _ wr => wr.rangeLeft d.mb w.heap.size)
  case atStart =>
    refine ⟨_, _, hrg0, fun kl e => e, ?_, (Below.refl _ _).grown hg0 (Nat.le_refl _) (fun j hj => by cases hj)⟩
    rw [usedIf_all]
    · rfl
    · intro f hf
      rw [HH.out f.nm, List.any_eq_true]
      exact ⟨f, hf, by simp⟩
  case round =>
    obtain ⟨left, cnt, hrg, HL, rfl, hnx⟩ := hrel
    clear hrg0 hg0 hs0
    go_wp2_with (first
      | (at_next; refine next_file rfl _ rfl d.mb w.heap.size d.fs.length d.fs D left cnt rfl hrg HL.out HH.out HA.out ?_ ?_)
      | go_in)
    · intro _ hl0
      rw [usedIf_none hl0]
      go_wp2
      go_ret
      exact ⟨rfl, hnx⟩
    · intro f w1 cnt1 hf hl hrg1 hlt hg1 hs1 hen
      have hnx1 : Below w.heap.size w w1 := hnx.grown hg1 hnx.size (fun j hj => by cases hj; exact Nat.le_refl _)
      have hstep := usedIf_step h.names hf hl
      have hle := usedIf_le (fun z => left z && !z.sameKey (key f.nm)) d.fs
      obtain ⟨sa, sc, hv⟩ := (h.files f hf).row.form
      have cf : w1.cell? ⟨f.fb, 0, none⟩ = some (.slice sa f.bs.length sc) := by
        rw [← hv]
        exact (hnx1.cell (p := ⟨f.fb, 0, none⟩) (lt_of_block (h.files f hf).cells)).trans (h.files f hf).c0
      obtain ⟨U, hU⟩ : ∃ U, usedIf left d.fs = U := ⟨_, rfl⟩
      obtain ⟨L, hL⟩ : ∃ L, f.bs.length = L := ⟨_, rfl⟩
      rw [hU, hL] at hstep
      rw [hL] at cf
      rw [hU]
      have hb : U + L ≤ 9223372036854775807 := by omega
      have HE : Hid (usedIf (fun z => left z && !z.sameKey (key f.nm)) d.fs = U + L) := hstep
      clear hstep hle hU hL hv hnx
      go_wp2
      go_roundw
      case rel =>
        refine ⟨_, cnt1, hrg1, fun kl e => HL.out kl (by simp at e; exact e.1), ?_, hnx1⟩
        rw [HE.out]
        go_num
      case measure => rw [hrg1.left_eq, hrg.left_eq]; exact hlt
end Dk
end Go.Proofs.Ytamddicoancdhaa
