/- What the reference's Points and Bad answer at every string of bounded length: contracts, by walking their text. -/
import Derived.Test.YtehpdklnebognaaDoorRefC
namespace Go.Proofs.YtehpdklnebognaaDoor
open Go.RowKit
namespace RefW

theorem info3 : (Tryd.prog.info? 3).map (fun i => (i.zero, i.size, i.bytes)) = some (some (.int .i64 0), 1, 8) := by kernel_rfl
/-- Numbers as the cells of a slice of int. -/
def nums (l : List Nat) : List Value := l.map fun (n : Nat) => Value.int .i64 (n : Int)

theorem own_kept {w w' : World} {base : Nat} {e : TypeId} {size : Nat} {v : Value} {n : Nat} {xs : List Value} (h : w.ownsRow base e size v n xs) (hb : Below w.heap.size w w') : w'.ownsRow base e size v n xs := by
  obtain ⟨h1, h2⟩ := h
  refine ⟨h1, ?_⟩
  rcases h2 with h2 | ⟨g, cap, cur, a, b, c, d⟩
  · exact .inl h2
  · exact .inr ⟨g, cap, cur, a, b, (hb.block g (lt_of_block c)).trans c, d⟩

theorem refAt_no (s : ByteArray) (pos : Nat) (h : noChar s pos = true) : refAt s pos = (0, 0) := by unfold refAt; rw [h]; rfl
theorem refAt_yes (s : ByteArray) (pos : Nat) (h : noChar s pos = false) : refAt s pos = Utf8.decode s pos := by unfold refAt; rw [h]; rfl

theorem at_no (s : ByteArray) (pos : Nat) (w : World) (hs : s.size ≤ 140737488351232) (hp : pos < s.size) (h : noChar s pos = true) :
    Calls Tryd.prog 66 #[.string s, .int .i64 pos] w fun e w' => e = .returned (.tuple #[.int .i64 0, .int .i64 0]) ∧ Below w.heap.size w w' := by
  have c := at_any s pos w hs hp
  rw [refAt_no s pos h] at c
  exact c
theorem at_yes (s : ByteArray) (pos : Nat) (w : World) (hs : s.size ≤ 140737488351232) (hp : pos < s.size) (h : noChar s pos = false) :
    Calls Tryd.prog 66 #[.string s, .int .i64 pos] w fun e w' => e = .returned (.tuple #[.int .i64 (Utf8.decode s pos).1, .int .i64 (Utf8.decode s pos).2]) ∧ Below w.heap.size w w' := by
  have c := at_any s pos w hs hp
  rw [refAt_yes s pos h] at c
  exact c
theorem decode_w (s : ByteArray) (pos : Nat) : (Utf8.decode s pos).2 ≤ 4 := by
  rw [Lib.decode_at]
  unfold Lib.decodeN
  repeat' split
  all_goals simp

set_option maxHeartbeats 4000000 in
theorem points_any (s : ByteArray) (w : World) (hs : s.size ≤ 17592186044416) :
    Calls Tryd.prog 55 #[.string s] w fun e w' => ∃ v n xs, e = .returned (.tuple #[v, .int .i64 (badAt s 0)]) ∧ w'.ownsRow w.heap.size 3 1 v n xs ∧ Below w.heap.size w w' ∧ (badAt s 0 = -1 → n = (ptsAt s 0).length ∧ xs = nums (ptsAt s 0)) := by
  obtain ⟨i0, hi, hz0, hz1, hz2⟩ := info_parts info3
  go_enter Tryd.func55, Tryd.ntmps55
  go_wp2
  go_loopw [4, 5] (fun v x wr => ∃ (pos : Nat) (done : List Nat), x = .int .i64 (pos : Int) ∧ wr.ownsRow w.heap.size 3 1 v done.length (nums done) ∧ Below w.heap.size w wr ∧ Hid (done ++ ptsAt s pos = ptsAt s 0) ∧ Hid (badAt s pos = badAt s 0) ∧ done.length ≤ pos) (fun _ x _ => s.size - (intOf x).toNat)
  case atStart => exact ⟨0, [], rfl, World.ownsRow_nil _ _ _ _, Below.refl _ _, rfl, rfl, Nat.le_refl _⟩
  case round =>
    obtain ⟨pos, done, rfl, hown, hbw, HS, HB, hlen⟩ := hrel
    have hsz := hbw.size
    by_cases hp : pos < s.size
    · cases hn : noChar s pos with
      | true =>
        go_wp2_with (go_at_call 66; refine (at_no s pos _ (by omega) hp hn).mono ?_; rintro e w2 ⟨rfl, hb2⟩)
        go_ret2
        have e : badAt s 0 = pos := by rw [← HB.out, badAt_hit s pos hp hn]
        rw [e]
        exact ⟨_, _, _, rfl, own_kept hown hb2, hbw.trans (hb2.mono hsz), fun h => by omega⟩
      | false =>
        have hwd := Lib.decode_width_pos s pos hp
        have hw4 := decode_w s pos
        have hdl := decode_le s pos
        have hk0 : (((Utf8.decode s pos).2 : Int) == 0) = false := by simp; omega
        go_wp2_with (first
          | (go_at_call 66; refine (at_yes s pos _ (by omega) hp hn).mono ?_; rintro e w2 ⟨rfl, hb2⟩; have hown2 := own_kept hown hb2; have hbw2 := hbw.trans (hb2.mono hsz); have hsz2 := hb2.size)
          | (at_builtin; refine wpList_append_own _ rfl _ _ 103 rfl w.heap.size 3 i0 (.int .i64 0) 1 8 Tryd.underlying103 hi hz0 hz1 hz2 rfl (by decide) _ _ _ rfl (hown2.alloc _) ⟨w2.heap.size, 0, none⟩ 1 1 [.int .i64 ((Utf8.decode s pos).1 : Int)] rfl rfl (cell_one_new _ _ _) (fun x hx => by simp at hx; subst hx; rfl) (by unfold maxLen; omega) (by omega) (by simp; omega) ?_; intro v' w3 hown' hgrow3 hnil3))
        have hbw3 : Below w.heap.size w w3 := Below.grown (hbw2.alloc (by omega) _) hgrow3 (by simp; omega) (fun j hj => by have := (hown2.lt _ hj).1; omega)
        go_roundw
        case rel => exact ⟨pos + (Utf8.decode s pos).2, done ++ [(Utf8.decode s pos).1], by go_num, by simpa [nums] using hown', hbw3, (by show _ = _; rw [← HS.out, ptsAt_next s pos hp]; simp), (by show _ = _; rw [← HB.out, badAt_next s pos hp hn]), by simp; omega⟩
        case measure => simp [intOf]; omega
    · go_wp2
      go_ret2
      have e : badAt s 0 = -1 := by rw [← HB.out, badAt_end s pos hp]
      have e2 : ptsAt s 0 = done := by rw [← HS.out, ptsAt_end s pos hp]; simp
      rw [e, e2]
      exact ⟨_, _, _, rfl, hown, hbw, fun _ => ⟨rfl, rfl⟩⟩
theorem Bad_any (s : ByteArray) (w : World) (hs : s.size ≤ 17592186044416) :
    Calls Tryd.prog 33 #[.string s] w fun e w' => e = .returned (.int .i64 (badAt s 0)) ∧ Below w.heap.size w w' := by
  go_enter Tryd.func33, Tryd.ntmps33
  go_wp2_with (go_at_call 55; refine (points_any _ _ hs).mono ?_; rintro e w' ⟨v, n, xs, rfl, hown, hbel, _⟩)
  go_ret
  exact ⟨rfl, hbel⟩
end RefW
end Go.Proofs.YtehpdklnebognaaDoor
