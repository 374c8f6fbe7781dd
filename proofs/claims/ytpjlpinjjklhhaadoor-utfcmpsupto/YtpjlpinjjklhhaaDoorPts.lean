/- What utf.Points does at every string of bounded length: contracts, by walking its text. -/
import Derived.Test.YtpjlpinjjklhhaaDoorBad
namespace Go.Proofs.YtpjlpinjjklhhaaDoor
open Go.RowKit

theorem info3 : (Tryd.prog.info? 3).map (fun i => (i.zero, i.size, i.bytes)) = some (some (.int .i64 0), 1, 8) := by kernel_rfl

/-- Numbers as the cells of a slice of int. -/
def nums (l : List Nat) : List Value := l.map fun (n : Nat) => Value.int .i64 (n : Int)

theorem points_bad (s : ByteArray) (w : World) (hs : s.size ≤ 140737488351232) (hb : badAt s 0 ≠ -1) :
    Calls Tryd.prog 11 #[.string s] w fun e w' => ∃ v, e = .returned (.tuple #[.slice none 0 0, v]) ∧ FaultAt w.heap.size (badAt s 0) v w' ∧ Below w.heap.size w w' := by
  go_enter Tryd.func11, Tryd.ntmps11
  go_wp2_with (go_at_call 24; refine (sound_bad _ _ hs hb).mono ?_; rintro e w' ⟨v, rfl, ⟨b, rfl, hb1, hb2⟩, hbel⟩)
  go_ret2
  exact ⟨_, rfl, ⟨b, rfl, hb1, hb2⟩, hbel⟩

theorem own_below {w : World} {base base' : Nat} {e : TypeId} {size : Nat} {v : Value} {n : Nat} {xs : List Value} (h : w.ownsRow base e size v n xs) (hb : base' ≤ base) : w.ownsRow base' e size v n xs := by
  obtain ⟨h1, h2⟩ := h
  refine ⟨h1, ?_⟩
  rcases h2 with h2 | ⟨g, cap, cur, a, b, c, d⟩
  · exact .inl h2
  · exact .inr ⟨g, cap, cur, a, Nat.le_trans hb b, c, d⟩

set_option maxHeartbeats 4000000 in
theorem points_ok (s : ByteArray) (w : World) (hs : s.size ≤ 17592186044416) (hb : badAt s 0 = -1) :
    Calls Tryd.prog 11 #[.string s] w fun e w' => ∃ v, e = .returned (.tuple #[v, .nilIface]) ∧ w'.ownsRow w.heap.size 3 1 v (ptsAt s 0).length (nums (ptsAt s 0)) ∧ Below w.heap.size w w' := by
  obtain ⟨i0, hi, hz0, hz1, hz2⟩ := info_parts info3
  go_enter Tryd.func11, Tryd.ntmps11
  go_wp2_with (go_at_call 24; refine (sound_ok _ _ (by omega) hb).mono ?_; rintro e w1 ⟨rfl, hbel⟩)
  go_loopw [5] (fun v wr => ∃ (pos : Nat) (done : List Nat), wr.heap[w1.heap.size]? = some (.stringIter s pos) ∧ wr.ownsRow (w1.heap.size + 1) 3 1 v done.length (nums done) ∧ Below w.heap.size w wr ∧ Hid (done ++ ptsAt s pos = ptsAt s 0) ∧ done.length ≤ pos) (fun _ wr => s.size - wr.iterPos w1.heap.size)
  case atStart => exact ⟨0, [], World.iter_heap w1 s 0, World.ownsRow_nil _ _ _ _, hbel.alloc hbel.size _, rfl, Nat.le_refl _⟩
  case round =>
    obtain ⟨pos, done, hit, hown, hbw, HS, hlen⟩ := hrel
    have hpos0 := iterPos_of hit
    have hsz := hbel.size
    by_cases hp : pos < s.size
    · have hnx : ∀ ty, (Instr.next (.pointer (some ⟨w1.heap.size, 0, none⟩)) true ty).run Tryd.prog wr = _ := fun ty => Lib.run_next_any_at wr w1.heap.size s pos ty hit hp
      have hwd := Lib.decode_width_pos s pos hp
      have hit2 := Lib.iterAt_heap wr w1.heap.size s pos (pos + (Utf8.decode s pos).2) hit
      have hbw2 := Lib.below_iterAt hbw (k := w1.heap.size) hsz s (pos + (Utf8.decode s pos).2)
      have hown2 := ownsRow_iterAt hown (k := w1.heap.size) (by omega) s (pos + (Utf8.decode s pos).2)
      obtain ⟨W1, hW1⟩ : ∃ W1, W1 = wr.iterAt w1.heap.size s (pos + (Utf8.decode s pos).2) := ⟨_, rfl⟩
      rw [← hW1] at hnx hit2 hbw2 hown2
      have hBlt := lt_of_block hit2
      have hdl := decode_le s pos
      clear hW1 hit hown hbw
      go_wp2_with (at_builtin; refine wpList_append_own _ rfl _ _ 24 rfl (w1.heap.size + 1) 3 i0 (.int .i64 0) 1 8 Tryd.underlying24 hi hz0 hz1 hz2 rfl (by decide) _ _ _ rfl (hown2.alloc _) ⟨W1.heap.size, 0, none⟩ 1 1 [.int .i64 ((Utf8.decode s pos).1 : Int)] rfl rfl (cell_one_new _ _ _) (fun x hx => by simp at hx; subst hx; rfl) (by unfold maxLen; omega) (by omega) (by simp; omega) ?_; intro v' w3 hown' hgrow3 hnil3)
      have hit3 : w3.heap[w1.heap.size]? = some (.stringIter s (pos + (Utf8.decode s pos).2)) := by
        rw [hgrow3.block w1.heap.size (by simp; omega) (fun h => by have := (hown2.lt _ h.symm).1; omega), Below.heap_alloc _ _ _ hBlt]; exact hit2
      have hbw3 : Below w.heap.size w w3 := Below.grown (hbw2.alloc (by omega) _) hgrow3 (by simp; omega) (fun j hj => by have := (hown2.lt _ hj).1; omega)
      go_roundw
      case rel => exact ⟨_, done ++ [(Utf8.decode s pos).1], hit3, by simpa [nums] using hown', hbw3, (by show _ = _; rw [← HS.out, ptsAt_next s pos hp]; simp), by simp; omega⟩
      case measure => rw [iterPos_of hit3, hpos0]; omega
    · have hnx : ∀ ty, (Instr.next (.pointer (some ⟨w1.heap.size, 0, none⟩)) true ty).run Tryd.prog wr = _ := fun ty => Lib.run_next_end_at wr w1.heap.size s pos ty hit hp
      have e : ptsAt s 0 = done := by rw [← HS.out, ptsAt_end s pos hp]; simp
      go_wp2
      go_ret2
      rw [e]
      exact ⟨_, rfl, own_below hown (by omega), hbw⟩
end Go.Proofs.YtpjlpinjjklhhaaDoor
