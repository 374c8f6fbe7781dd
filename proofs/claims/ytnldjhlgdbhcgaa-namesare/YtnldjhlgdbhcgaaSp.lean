/- Split and Join, the reference's too; an error's number. -/
import Derived.Test.YtnldjhlgdbhcgaaEq
import Derived.Laws.Strings2
namespace Go.Proofs.Ytnldjhlgdbhcgaa
open Go.RowKit

/-- ErrSyntax. -/
abbrev errV : Value := .iface 44 (.int .i64 3)
theorem code_nil (w : World) : Calls Try.prog 20 #[.nilIface] w fun e w' => e = .returned (.int .i64 0) ∧ w' = w := by
  go_enter Try.func20, Try.ntmps20
  go_wp2
  go_ret
  exact ⟨rfl, rfl⟩
theorem comp44 : (Try.prog.info? 44).map (·.comparable) = some true := by kernel_rfl
theorem eq_err (a b : Int) (W : World) : (Op.equalIn 10000 25 (.iface 44 (.int .i64 a)) (.iface 44 (.int .i64 b))).run Try.prog W = .ok (a == b) W := by
  obtain ⟨i, hi, hc⟩ := Option.map_eq_some_iff.1 comp44
  rw [show (10000 : Nat) = 9999 + 1 from rfl, Op.equalIn]
  simp only [Sem.run_bind, run_underlying Try.underlying25, Result.andThen_ok]
  simp [typeInfo, hi, hc]
  rw [show (9999 : Nat) = 9998 + 1 from rfl]
  exact run_equalIn_int (P := Try.prog) W 9998 44 .i64 .i64 a b Try.underlying44
theorem bin_err (a b : Int) (W : World) : (binOp .eql 25 (.iface 44 (.int .i64 a)) (.iface 44 (.int .i64 b))).run Try.prog W = .ok (.bool (a == b)) W := by
  simp only [binOp]
  simp [Op.equal, Op.maxDepth, eq_err a b W]
set_option maxRecDepth 20000 in
theorem code_err (w : World) : Calls Try.prog 20 #[errV] w fun e w' => e = .returned (.int .i64 3) ∧ w' = w := by
  have n1 : ∀ W : World, (binOp .eql 25 (.iface 44 (.int .i64 3)) (.iface 44 (.int .i64 1))).run Try.prog W = .ok (.bool false) W := fun W => bin_err 3 1 W
  have n2 : ∀ W : World, (binOp .eql 25 (.iface 44 (.int .i64 3)) (.iface 44 (.int .i64 2))).run Try.prog W = .ok (.bool false) W := fun W => bin_err 3 2 W
  have n3 : ∀ W : World, (binOp .eql 25 (.iface 44 (.int .i64 3)) (.iface 44 (.int .i64 3))).run Try.prog W = .ok (.bool true) W := fun W => bin_err 3 3 W
  go_enter Try.func20, Try.ntmps20
  go_wp2
  go_ret
  exact ⟨rfl, rfl⟩
theorem clone_any (s : ByteArray) (w : World) (hs : s.size ≤ 140737488355328) :
    Calls Try.prog 32 #[.string s] w fun e w' => e = .returned (.string s) ∧ Below w.heap.size w w' := by
  have h := fun W => stringslite_Clone s W (by omega)
  go_enter Try.func32, Try.ntmps32
  go_wp2_with (go_at_call 40; refine (h _).mono ?_; rintro e w' ⟨rfl, hb⟩)
  go_ret
  exact ⟨rfl, hb⟩

/-- A user or a room? -/
def urL (l : List UInt8) : Bool := ofL 64 l || ofL 33 l
theorem of_parts {m : UInt8} {l : List UInt8} (h : ofL m l = true) : ∃ j : Nat, Lib.indexByte (l.drop 1) 58 = j ∧ 1 ≤ l.length ∧ l = m :: l.drop 1 := by
  rw [ofL, Bool.and_eq_true] at h
  cases l with
  | nil => exact absurd h.1 (by simp [Lib.hasPrefix])
  | cons c rest =>
    obtain ⟨h1, h2⟩ := h
    rw [Lib.trimPrefix, h1, if_pos rfl, restL, Bool.and_eq_true] at h2
    have h3 : (0 : Int) ≤ Lib.indexByte ((c :: rest).drop 1) 58 := of_decide_eq_true h2.1
    have h4 : m = c := by
      have : (m == c && _) = true := h1
      rw [Bool.and_eq_true] at this
      exact eq_of_beq this.1
    subst h4
    exact ⟨(Lib.indexByte ((m :: rest).drop 1) 58).toNat, by omega, by simp, rfl⟩
theorem ur_parts {l : List UInt8} (h : urL l = true) : ∃ j : Nat, Lib.indexByte (l.drop 1) 58 = j ∧ 1 ≤ l.length := by
  rw [urL, Bool.or_eq_true] at h
  rcases h with h | h
  · obtain ⟨j, h1, h2, _⟩ := of_parts h
    exact ⟨j, h1, h2⟩
  · obtain ⟨j, h1, h2, _⟩ := of_parts h
    exact ⟨j, h1, h2⟩

set_option maxHeartbeats 4000000 in
theorem split_bad (s : ByteArray) (w : World) (hs : s.size ≤ 140737488355328) (h : urL s.data.toList = false) :
    Calls Try.prog 18 #[.string s] w fun e w' => e = .returned (.tuple #[.string ⟨#[]⟩, .string ⟨#[]⟩, errV]) ∧ Below w.heap.size w w' := by
  rw [urL, Bool.or_eq_false_iff] at h
  have hu := fun W => user_any s W (by omega)
  have hr := fun W => room_any s W (by omega)
  rw [h.1] at hu
  rw [h.2] at hr
  clear h
  go_enter Try.func18, Try.ntmps18
  go_wp2_with (first
    | (go_at_call 10; refine (hu _).mono ?_; rintro e w1 ⟨rfl, hb1⟩)
    | (go_at_call 12; refine (hr _).mono ?_; rintro e w2 ⟨rfl, hb2⟩))
  go_ret3
  exact ⟨rfl, hb1.trans (hb2.mono hb1.size)⟩
theorem ext_ext (s : ByteArray) (a j : Nat) : ((s.extract a s.size).extract 0 j) = s.extract a (min (a + j) s.size) := by
  rw [ByteArray.extract_extract, Nat.add_zero]
theorem ext_ext2 (s : ByteArray) (a j : Nat) : ((s.extract a s.size).extract j (s.extract a s.size).size) = s.extract (a + j) s.size := by
  rw [ByteArray.extract_extract, ByteArray.size_extract]
  congr 1
  omega

set_option maxHeartbeats 4000000 in
theorem split_ok (s : ByteArray) (j : Nat) (w : World) (hs : s.size ≤ 140737488355328) (h : urL s.data.toList = true) (hj : Lib.indexByte (s.data.toList.drop 1) 58 = j) (h1 : 1 ≤ s.size) :
    Calls Try.prog 18 #[.string s] w fun e w' => e = .returned (.tuple #[.string (s.extract 1 (j + 1)), .string (s.extract (j + 2) s.size), .nilIface]) ∧ Below w.heap.size w w' := by
  have hu := fun W => user_any s W (by omega)
  have hr := fun W => room_any s W (by omega)
  have hjl := indexByte_lt hj
  rw [List.length_drop, len_eq] at hjl
  have hc := fun W => cut_hit (s.extract 1 s.size) j W (by rw [ByteArray.size_extract]; omega) (by rw [ext_drop]; exact hj)
  rw [ext_ext, ext_ext2, show min (1 + j) s.size = j + 1 by omega, show 1 + (j + 1) = j + 2 by omega] at hc
  have hA : (s.extract 1 (j + 1)).size ≤ 140737488355328 := by rw [ByteArray.size_extract]; omega
  have hB : (s.extract (j + 2) s.size).size ≤ 140737488355328 := by rw [ByteArray.size_extract]; omega
  generalize s.extract 1 (j + 1) = A at *
  generalize s.extract (j + 2) s.size = B at *
  have ka := fun W => clone_any A W hA
  have kb := fun W => clone_any B W hB
  rw [urL] at h
  cases hU : ofL 64 s.data.toList
  · rw [hU] at h hu
    have hR : ofL 33 s.data.toList = true := h
    rw [hR] at hr
    clear hR h hU hj
    go_enter Try.func18, Try.ntmps18
    go_wp2_with (first
      | (go_at_call 10; refine (hu _).mono ?_; rintro e w1 ⟨rfl, hb1⟩)
      | (go_at_call 12; refine (hr _).mono ?_; rintro e w2 ⟨rfl, hb2⟩)
      | (go_at_call 31; refine (hc _).mono ?_; rintro e w3 ⟨rfl, hb3⟩)
      | (have hq := hb4; clear hq; go_at_call 32; refine (kb _).mono ?_; rintro e w5 ⟨rfl, hb5⟩)
      | (go_at_call 32; refine (ka _).mono ?_; rintro e w4 ⟨rfl, hb4⟩))
    go_ret3
    exact ⟨rfl, (((hb1.trans (hb2.mono hb1.size)).trans (hb3.mono (Nat.le_trans hb1.size hb2.size))).trans (hb4.mono (Nat.le_trans (Nat.le_trans hb1.size hb2.size) hb3.size))).trans (hb5.mono (Nat.le_trans (Nat.le_trans (Nat.le_trans hb1.size hb2.size) hb3.size) hb4.size))⟩
  · rw [hU] at hu
    clear h hU hj hr
    go_enter Try.func18, Try.ntmps18
    go_wp2_with (first
      | (go_at_call 10; refine (hu _).mono ?_; rintro e w1 ⟨rfl, hb1⟩)
      | (go_at_call 31; refine (hc _).mono ?_; rintro e w3 ⟨rfl, hb3⟩)
      | (have hq := hb4; clear hq; go_at_call 32; refine (kb _).mono ?_; rintro e w5 ⟨rfl, hb5⟩)
      | (go_at_call 32; refine (ka _).mono ?_; rintro e w4 ⟨rfl, hb4⟩))
    go_ret3
    exact ⟨rfl, ((hb1.trans (hb3.mono hb1.size)).trans (hb4.mono (Nat.le_trans hb1.size hb3.size))).trans (hb5.mono (Nat.le_trans (Nat.le_trans hb1.size hb3.size) hb4.size))⟩

theorem ruser_any' (s : ByteArray) (w : World) (hs : s.size ≤ 1125899906842624) :
    Calls Try.prog 11 #[.string s] w fun e w' => e = .returned (.bool (ofL 64 s.data.toList)) ∧ w' = w := by
  rw [user_eq]
  exact ruser_any s w hs
theorem rroom_any' (s : ByteArray) (w : World) (hs : s.size ≤ 1125899906842624) :
    Calls Try.prog 13 #[.string s] w fun e w' => e = .returned (.bool (ofL 33 s.data.toList)) ∧ w' = w := by
  rw [room_eq]
  exact rroom_any s w hs
set_option maxHeartbeats 4000000 in
theorem rsplit_bad (s : ByteArray) (w : World) (hs : s.size ≤ 140737488355328) (h : urL s.data.toList = false) :
    Calls Try.prog 19 #[.string s] w fun e w' => e = .returned (.tuple #[.string ⟨#[]⟩, .string ⟨#[]⟩, .int .i64 3]) ∧ Below w.heap.size w w' := by
  rw [urL, Bool.or_eq_false_iff] at h
  have hu := fun W => ruser_any' s W (by omega)
  have hr := fun W => rroom_any' s W (by omega)
  rw [h.1] at hu
  rw [h.2] at hr
  clear h
  go_enter Try.func19, Try.ntmps19
  go_wp2_with (first
    | (go_at_call 11; refine (hu _).mono ?_; rintro e w1 ⟨rfl, rfl⟩)
    | (go_at_call 13; refine (hr _).mono ?_; rintro e w2 ⟨rfl, rfl⟩))
  go_ret3
  exact ⟨rfl, Below.refl _ _⟩
set_option maxHeartbeats 4000000 in
theorem rsplit_ok (s : ByteArray) (j : Nat) (w : World) (hs : s.size ≤ 140737488355328) (h : urL s.data.toList = true) (hj : Lib.indexByte (s.data.toList.drop 1) 58 = j) (h1 : 1 ≤ s.size) :
    Calls Try.prog 19 #[.string s] w fun e w' => e = .returned (.tuple #[.string (s.extract 1 (j + 1)), .string (s.extract (j + 2) s.size), .int .i64 0]) ∧ Below w.heap.size w w' := by
  have hu := fun W => ruser_any' s W (by omega)
  have hr := fun W => rroom_any' s W (by omega)
  have hc := fun W => colon_any s W (by omega)
  have hjl := indexByte_lt hj
  rw [List.length_drop, len_eq] at hjl
  have hK : Lib.indexByte s.data.toList 58 = ((j + 1 : Nat) : Int) := by
    have hp : ∃ m : UInt8, m ≠ 58 ∧ s.data.toList = m :: s.data.toList.drop 1 := by
      rw [urL, Bool.or_eq_true] at h
      rcases h with h | h
      · obtain ⟨_, _, _, e⟩ := of_parts h
        exact ⟨64, by decide, e⟩
      · obtain ⟨_, _, _, e⟩ := of_parts h
        exact ⟨33, by decide, e⟩
    obtain ⟨m, hm, e⟩ := hp
    rw [e, Lib.indexByte, if_neg (by simpa using hm), hj, if_neg (by simp)]
    omega
  obtain ⟨k, hk⟩ : ∃ k : Nat, k = j + 1 := ⟨_, rfl⟩
  rw [hK, ← hk] at hc
  rw [show j + 2 = k + 1 by omega, ← hk]
  have hk1 : 1 ≤ k := by omega
  have hk2 : k + 1 ≤ s.size := by omega
  have hsl : ∀ W, (Instr.slice 9 (.string s) (some (.int .i64 1)) (some (.int .i64 (k : Int))) none).run Try.prog W = .ok (.string (s.extract 1 k)) W := fun W => run_slice_string W 9 s .i64 .i64 1 k Try.underlying9 (by decide) (by omega) (by omega)
  clear hK
  rw [urL] at h
  cases hU : ofL 64 s.data.toList
  · rw [hU] at h hu
    have hR : ofL 33 s.data.toList = true := h
    rw [hR] at hr
    clear hR h hU hj hjl hk
    go_enter Try.func19, Try.ntmps19
    go_wp2_with (first
      | (go_at_call 11; refine (hu _).mono ?_; rintro e w1 ⟨rfl, rfl⟩)
      | (go_at_call 13; refine (hr _).mono ?_; rintro e w2 ⟨rfl, rfl⟩)
      | (go_at_call 27; refine (hc _).mono ?_; rintro e w3 ⟨rfl, rfl⟩))
    go_quiet (fail)
    go_wp2
    go_ret3
    exact ⟨rfl, below_drewN (Below.refl _ _) _⟩
  · rw [hU] at hu
    generalize ofL 33 s.data.toList = Q at hr
    clear h hU hj hjl hk
    go_enter Try.func19, Try.ntmps19
    go_wp2_with (first
      | (go_at_call 11; refine (hu _).mono ?_; rintro e w1 ⟨rfl, rfl⟩)
      | (go_at_call 13; refine (hr _).mono ?_; rintro e w2 ⟨rfl, rfl⟩)
      | (go_at_call 27; refine (hc _).mono ?_; rintro e w3 ⟨rfl, rfl⟩))
    go_quiet (fail)
    go_wp2
    go_ret3
    exact ⟨rfl, below_drewN (Below.refl _ _) _⟩
end Go.Proofs.Ytnldjhlgdbhcgaa
