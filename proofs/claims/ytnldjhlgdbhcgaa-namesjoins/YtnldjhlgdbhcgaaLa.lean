/- The walks of NamesAre, NamesSplits, NamesJoins, NamesBack. -/
import Derived.Test.YtnldjhlgdbhcgaaJo
namespace Go.Proofs.Ytnldjhlgdbhcgaa
open Go.RowKit

set_option maxHeartbeats 4000000 in
theorem are_law (s : ByteArray) (w : World) (hs : s.size ≤ 140737488355328) :
    Calls Try.prog 3 #[.string s] w fun e w' => e = .returned (.bool true) ∧ Below w.heap.size w w' := by
  have h7 := fun W => up_any W
  have h8 := fun W => server_any s W
  have h9 := fun W => rserver_any s W
  rw [← srv_eq] at h9
  have h10 := fun W => user_any s W (by omega)
  have h11 := fun W => ruser_any' s W (by omega)
  have h12 := fun W => room_any s W (by omega)
  have h13 := fun W => rroom_any' s W (by omega)
  have h14 := fun W => event_any s W
  have h15 := fun W => revent_any s W
  rw [← ev_eq] at h15
  have h16 := fun W => key_any s W
  have h17 := fun W => rkey_any s W
  rw [← key_eq] at h17
  generalize srvL s.data.toList = A at h8 h9
  generalize ofL 64 s.data.toList = B at h10 h11
  generalize ofL 33 s.data.toList = C at h12 h13
  generalize evL s.data.toList = D at h14 h15
  generalize keyL s.data.toList = E at h16 h17
  have hb0 := Below.refl w.heap.size w
  go_enter Try.func3, Try.ntmps3
  go_wp2_with (first
    | (go_at_call 7; refine (h7 _).mono ?_; rintro e w1 ⟨rfl, hb⟩; replace hb0 := hb0.trans (hb.mono hb0.size); clear hb)
    | (go_at_call 8; refine (h8 _).mono ?_; rintro e w1 ⟨rfl, hb⟩; replace hb0 := hb0.trans (hb.mono hb0.size); clear hb)
    | (go_at_call 10; refine (h10 _).mono ?_; rintro e w1 ⟨rfl, hb⟩; replace hb0 := hb0.trans (hb.mono hb0.size); clear hb)
    | (go_at_call 12; refine (h12 _).mono ?_; rintro e w1 ⟨rfl, hb⟩; replace hb0 := hb0.trans (hb.mono hb0.size); clear hb)
    | (go_at_call 14; refine (h14 _).mono ?_; rintro e w1 ⟨rfl, hb⟩; replace hb0 := hb0.trans (hb.mono hb0.size); clear hb)
    | (go_at_call 16; refine (h16 _).mono ?_; rintro e w1 ⟨rfl, hb⟩; replace hb0 := hb0.trans (hb.mono hb0.size); clear hb)
    | (go_at_call 9; refine (h9 _).mono ?_; rintro e w1 ⟨rfl, rfl⟩)
    | (go_at_call 11; refine (h11 _).mono ?_; rintro e w1 ⟨rfl, rfl⟩)
    | (go_at_call 13; refine (h13 _).mono ?_; rintro e w1 ⟨rfl, rfl⟩)
    | (go_at_call 15; refine (h15 _).mono ?_; rintro e w1 ⟨rfl, rfl⟩)
    | (go_at_call 17; refine (h17 _).mono ?_; rintro e w1 ⟨rfl, rfl⟩))
  go_ret
  exact ⟨rfl, hb0⟩

set_option maxHeartbeats 4000000 in
theorem splits_law (s : ByteArray) (w : World) (hs : s.size ≤ 140737488355328) :
    Calls Try.prog 4 #[.string s] w fun e w' => e = .returned (.bool true) ∧ Below w.heap.size w w' := by
  have h7 := fun W => up_any W
  have hb0 := Below.refl w.heap.size w
  cases hU : urL s.data.toList
  · have h18 := fun W => split_bad s W hs hU
    have h19 := fun W => rsplit_bad s W hs hU
    have h20 := fun W => code_err W
    clear hU
    go_enter Try.func4, Try.ntmps4
    go_wp2_with (first
      | (go_at_call 7; refine (h7 _).mono ?_; rintro e w1 ⟨rfl, hb⟩; replace hb0 := hb0.trans (hb.mono hb0.size); clear hb)
      | (go_at_call 18; refine (h18 _).mono ?_; rintro e w1 ⟨rfl, hb⟩; replace hb0 := hb0.trans (hb.mono hb0.size); clear hb)
      | (go_at_call 19; refine (h19 _).mono ?_; rintro e w1 ⟨rfl, hb⟩; replace hb0 := hb0.trans (hb.mono hb0.size); clear hb)
      | (go_at_call 20; refine (h20 _).mono ?_; rintro e w1 ⟨rfl, rfl⟩))
    go_ret
    exact ⟨rfl, hb0⟩
  · obtain ⟨j, hj, h1⟩ := ur_parts hU
    rw [len_eq] at h1
    have h18 := fun W => split_ok s j W hs hU hj h1
    have h19 := fun W => rsplit_ok s j W hs hU hj h1
    have h20 := fun W => code_nil W
    generalize s.extract 1 (j + 1) = A at h18 h19
    generalize s.extract (j + 2) s.size = B at h18 h19
    clear hU hj h1
    go_enter Try.func4, Try.ntmps4
    go_wp2_with (first
      | (go_at_call 7; refine (h7 _).mono ?_; rintro e w1 ⟨rfl, hb⟩; replace hb0 := hb0.trans (hb.mono hb0.size); clear hb)
      | (go_at_call 18; refine (h18 _).mono ?_; rintro e w1 ⟨rfl, hb⟩; replace hb0 := hb0.trans (hb.mono hb0.size); clear hb)
      | (go_at_call 19; refine (h19 _).mono ?_; rintro e w1 ⟨rfl, hb⟩; replace hb0 := hb0.trans (hb.mono hb0.size); clear hb)
      | (go_at_call 20; refine (h20 _).mono ?_; rintro e w1 ⟨rfl, rfl⟩))
    go_ret
    exact ⟨rfl, hb0⟩

set_option maxHeartbeats 4000000 in
theorem joins_law (m l v : ByteArray) (w : World) (hm : m.size ≤ 140737488355328) (hl : l.size ≤ 140737488355328) (hv : v.size ≤ 140737488355328) :
    Calls Try.prog 5 #[.string m, .string l, .string v] w fun e w' => e = .returned (.bool true) ∧ Below w.heap.size w w' := by
  have h7 := fun W => up_any W
  have hb0 := Below.refl w.heap.size w
  have h22 := fun W => rjoin_any m l v W hm hl hv
  cases hU : joL m.data.toList l.data.toList v.data.toList
  · have h21 := fun W => join_bad m l v W hU
    rw [hU] at h22
    simp only [Bool.false_eq_true, if_false] at h22
    have h20 := fun W => code_err W
    clear hU
    go_enter Try.func5, Try.ntmps5
    go_wp2_with (first
      | (go_at_call 7; refine (h7 _).mono ?_; rintro e w1 ⟨rfl, hb⟩; replace hb0 := hb0.trans (hb.mono hb0.size); clear hb)
      | (go_at_call 21; refine (h21 _).mono ?_; rintro e w1 ⟨rfl, hb⟩; replace hb0 := hb0.trans (hb.mono hb0.size); clear hb)
      | (go_at_call 22; refine (h22 _).mono ?_; rintro e w1 ⟨rfl, hb⟩; replace hb0 := hb0.trans (hb.mono hb0.size); clear hb)
      | (go_at_call 20; refine (h20 _).mono ?_; rintro e w1 ⟨rfl, rfl⟩))
    go_ret
    exact ⟨rfl, hb0⟩
  · have h21 := fun W => join_ok m l v W hU hm hl hv
    rw [hU] at h22
    simp only [if_true] at h22
    have h20 := fun W => code_nil W
    generalize joB m l v = A at h21 h22
    clear hU
    go_enter Try.func5, Try.ntmps5
    go_wp2_with (first
      | (go_at_call 7; refine (h7 _).mono ?_; rintro e w1 ⟨rfl, hb⟩; replace hb0 := hb0.trans (hb.mono hb0.size); clear hb)
      | (go_at_call 21; refine (h21 _).mono ?_; rintro e w1 ⟨rfl, hb⟩; replace hb0 := hb0.trans (hb.mono hb0.size); clear hb)
      | (go_at_call 22; refine (h22 _).mono ?_; rintro e w1 ⟨rfl, hb⟩; replace hb0 := hb0.trans (hb.mono hb0.size); clear hb)
      | (go_at_call 20; refine (h20 _).mono ?_; rintro e w1 ⟨rfl, rfl⟩))
    go_ret
    exact ⟨rfl, hb0⟩

/- No text is a name of two kinds. -/
theorem of_head {m : UInt8} {l : List UInt8} (h : ofL m l = true) : l.head? = some m := by
  obtain ⟨_, _, _, e⟩ := of_parts h
  rw [e]
  rfl
theorem ev_head {l : List UInt8} (h : evL l = true) : l.head? = some 36 := by
  rw [ev_eq, refEv, Bool.and_eq_true, Bool.and_eq_true] at h
  exact of_decide_eq_true h.2.1
theorem key_take {l : List UInt8} (h : keyL l = true) : l.take 8 = [101, 100, 50, 53, 53, 49, 57, 58] := by
  rw [key_eq, refKey, Bool.and_eq_true, Bool.and_eq_true, Bool.and_eq_true] at h
  exact of_decide_eq_true h.2.2.1
theorem key_head {l : List UInt8} (h : keyL l = true) : l.head? = some 101 := by
  have h1 := key_take h
  cases l with
  | nil => cases h1
  | cons c t =>
    rw [List.take_succ_cons, List.cons.injEq] at h1
    rw [h1.1]
    rfl
theorem srv_head {l : List UInt8} {m : UInt8} (h : l.head? = some m) (hp : lowP [46, 45] (m.toNat : Int) = false) : srvL l = false := by
  cases l with
  | nil => cases h
  | cons c t =>
    obtain rfl : c = m := by simpa using h
    exact srv_no (by simp) hp
theorem srv_key {l : List UInt8} (h : keyL l = true) : srvL l = false := by
  refine srv_no (x := 58) (List.mem_of_mem_take (i := 8) ?_) (by decide)
  rw [key_take h]
  decide
theorem not_of {b : Bool} (h : b = true → False) : b = false := by
  cases b
  · rfl
  · exact absurd rfl (fun e => h e)
theorem heads {l : List UInt8} {a b : UInt8} (h : l.head? = some a) (k : l.head? = some b) (hn : a ≠ b) : False := by
  rw [h] at k
  exact hn (by simpa using k)

set_option maxHeartbeats 8000000 in
/-- Of a text that is neither a user nor a room. -/
theorem back_none (s : ByteArray) (A D E : Bool) (w : World) (hs : s.size ≤ 140737488355328) (hA : srvL s.data.toList = A) (hB : ofL 64 s.data.toList = false) (hC : ofL 33 s.data.toList = false) (hD : evL s.data.toList = D) (hE : keyL s.data.toList = E)
    (hx : (A = false ∧ D = false) ∨ (A = false ∧ E = false) ∨ (D = false ∧ E = false)) :
    Calls Try.prog 6 #[.string s] w fun e w' => e = .returned (.bool true) ∧ Below w.heap.size w w' := by
  have h7 := fun W => up_any W
  have h8 := fun W => server_any s W
  have h10 := fun W => user_any s W (by omega)
  have h12 := fun W => room_any s W (by omega)
  have h14 := fun W => event_any s W
  have h16 := fun W => key_any s W
  have h18 := fun W => split_bad s W hs (by rw [urL, hB, hC]; rfl)
  rw [hA] at h8
  rw [hB] at h10
  rw [hC] at h12
  rw [hD] at h14
  rw [hE] at h16
  clear hA hB hC hD hE
  have hb0 := Below.refl w.heap.size w
  cases A <;> cases D <;> cases E <;> first
    | (exfalso; revert hx; decide)
    | skip
  all_goals
    clear hx
    go_enter Try.func6, Try.ntmps6
    go_wp2_with (first
      | (go_at_call 7; refine (h7 _).mono ?_; rintro e w1 ⟨rfl, hb⟩; replace hb0 := hb0.trans (hb.mono hb0.size); clear hb)
      | (go_at_call 8; refine (h8 _).mono ?_; rintro e w1 ⟨rfl, hb⟩; replace hb0 := hb0.trans (hb.mono hb0.size); clear hb)
      | (go_at_call 10; refine (h10 _).mono ?_; rintro e w1 ⟨rfl, hb⟩; replace hb0 := hb0.trans (hb.mono hb0.size); clear hb)
      | (go_at_call 12; refine (h12 _).mono ?_; rintro e w1 ⟨rfl, hb⟩; replace hb0 := hb0.trans (hb.mono hb0.size); clear hb)
      | (go_at_call 14; refine (h14 _).mono ?_; rintro e w1 ⟨rfl, hb⟩; replace hb0 := hb0.trans (hb.mono hb0.size); clear hb)
      | (go_at_call 16; refine (h16 _).mono ?_; rintro e w1 ⟨rfl, hb⟩; replace hb0 := hb0.trans (hb.mono hb0.size); clear hb)
      | (go_at_call 18; refine (h18 _).mono ?_; rintro e w1 ⟨rfl, hb⟩; replace hb0 := hb0.trans (hb.mono hb0.size); clear hb))
    go_ret
    exact ⟨rfl, hb0⟩

theorem parts_join {m : UInt8} (s : ByteArray) (j : Nat) (h : ofL m s.data.toList = true) (hj : Lib.indexByte (s.data.toList.drop 1) 58 = j) :
    s.extract 0 1 = ⟨#[m]⟩ ∧ joL [m] (s.extract 1 (j + 1)).data.toList (s.extract (j + 2) s.size).data.toList = true ∧ joB ⟨#[m]⟩ (s.extract 1 (j + 1)) (s.extract (j + 2) s.size) = s := by
  obtain ⟨_, _, hl, e⟩ := of_parts h
  have hjl := indexByte_lt hj
  have e58 := (Lib.indexByte_some hj).1
  have e1 : (s.extract 1 (j + 1)).data.toList = (s.data.toList.drop 1).take j := by
    simp only [ByteArray.data_extract, Array.toList_extract, List.extract_eq_take_drop]
    rw [show j + 1 - 1 = j by omega]
  have e2 : (s.extract (j + 2) s.size).data.toList = (s.data.toList.drop 1).drop (j + 1) := by
    rw [ext_drop, List.drop_drop, show 1 + (j + 1) = j + 2 by omega]
  have e3 : s.extract 0 1 = ⟨#[m]⟩ := by
    apply Go.WideShapes.bytes_inj
    rw [ext_take, e]
    rfl
  refine ⟨e3, ?_, ?_⟩
  · rw [e1, e2]
    rw [ofL, Bool.and_eq_true] at h
    have h2 := h.2
    rw [Lib.trimPrefix, h.1, if_pos rfl, restL, Bool.and_eq_true] at h2
    have h3 := h2.2
    rw [show [m].length = 1 from rfl, hj, Int.toNat_natCast] at h3
    exact h3
  · apply Go.WideShapes.bytes_inj
    rw [joB_data, e1, e2]
    show [m] ++ _ = _
    have hdr : (s.data.toList.drop 1).drop j = 58 :: (s.data.toList.drop 1).drop (j + 1) := by
      rw [List.drop_eq_getElem_cons hjl]
      congr 1
      exact Option.some.inj ((List.getElem?_eq_getElem hjl).symm.trans e58)
    rw [← hdr, List.take_append_drop]
    exact e.symm

set_option maxHeartbeats 8000000 in
/-- Of a user or a room. -/
theorem back_some (s : ByteArray) (m : UInt8) (B C : Bool) (w : World) (hs : s.size ≤ 140737488355328) (hm : ofL m s.data.toList = true) (hA : srvL s.data.toList = false) (hB : ofL 64 s.data.toList = B) (hC : ofL 33 s.data.toList = C) (hD : evL s.data.toList = false) (hE : keyL s.data.toList = false)
    (hx : (B = true ∧ C = false) ∨ (B = false ∧ C = true)) :
    Calls Try.prog 6 #[.string s] w fun e w' => e = .returned (.bool true) ∧ Below w.heap.size w w' := by
  have h7 := fun W => up_any W
  have h8 := fun W => server_any s W
  have h10 := fun W => user_any s W (by omega)
  have h12 := fun W => room_any s W (by omega)
  have h14 := fun W => event_any s W
  have h16 := fun W => key_any s W
  have hur : urL s.data.toList = true := by rw [urL, hB, hC]; rcases hx with ⟨rfl, rfl⟩ | ⟨rfl, rfl⟩ <;> rfl
  obtain ⟨j, hj, h1⟩ := ur_parts hur
  rw [len_eq] at h1
  have h18 := fun W => split_ok s j W hs hur hj h1
  obtain ⟨p1, p2, p3⟩ := parts_join s j hm hj
  have hsr : srvL (s.extract (j + 2) s.size).data.toList = true := by rw [joL, Bool.and_eq_true] at p2; exact p2.2
  have hz : (s.extract 1 (j + 1)).size ≤ 140737488355328 := by
    rw [joL, Bool.and_eq_true] at p2
    have h := p2.1
    unfold locL at h
    split at h
    · simp only [madeL, Bool.and_eq_true, decide_eq_true_eq] at h
      have := h.1.2
      rw [len_eq] at this
      omega
    · split at h
      · simp only [madeL, Bool.and_eq_true, decide_eq_true_eq] at h
        have := h.1.2
        rw [len_eq] at this
        omega
      · cases h
  have hz2 : (s.extract (j + 2) s.size).size ≤ 140737488355328 := by
    have h := hsr
    rw [srvL, madeL, Bool.and_eq_true, Bool.and_eq_true, Bool.and_eq_true] at h
    have := of_decide_eq_true h.1.1.2
    rw [len_eq] at this
    omega
  have h21 := fun W => join_ok ⟨#[m]⟩ (s.extract 1 (j + 1)) (s.extract (j + 2) s.size) W p2 (by show 1 ≤ 140737488355328; decide) hz hz2
  rw [p3] at h21
  have h8b := fun W => server_any (s.extract (j + 2) s.size) W
  rw [hsr] at h8b
  generalize s.extract 1 (j + 1) = P at h18 h21
  generalize s.extract (j + 2) s.size = Q at h18 h21 h8b
  rw [hA] at h8
  rw [hB] at h10
  rw [hC] at h12
  rw [hD] at h14
  rw [hE] at h16
  clear hA hB hC hD hE hur hj p2 p3 hsr hz hz2 hm
  have hb0 := Below.refl w.heap.size w
  have fl : Hid (0 = 0) := rfl
  rcases hx with ⟨rfl, rfl⟩ | ⟨rfl, rfl⟩
  all_goals
    go_enter Try.func6, Try.ntmps6
    go_wp2_with (first
      | (go_at_call 7; refine (h7 _).mono ?_; rintro e w1 ⟨rfl, hb⟩; replace hb0 := hb0.trans (hb.mono hb0.size); clear hb)
      | (go_at_call 8; have hq := fl; clear hq fl; refine (h8 _).mono ?_; rintro e w1 ⟨rfl, hb⟩; replace hb0 := hb0.trans (hb.mono hb0.size); clear hb)
      | (go_at_call 8; refine (h8b _).mono ?_; rintro e w1 ⟨rfl, hb⟩; replace hb0 := hb0.trans (hb.mono hb0.size); clear hb)
      | (go_at_call 10; refine (h10 _).mono ?_; rintro e w1 ⟨rfl, hb⟩; replace hb0 := hb0.trans (hb.mono hb0.size); clear hb)
      | (go_at_call 12; refine (h12 _).mono ?_; rintro e w1 ⟨rfl, hb⟩; replace hb0 := hb0.trans (hb.mono hb0.size); clear hb)
      | (go_at_call 14; refine (h14 _).mono ?_; rintro e w1 ⟨rfl, hb⟩; replace hb0 := hb0.trans (hb.mono hb0.size); clear hb)
      | (go_at_call 16; refine (h16 _).mono ?_; rintro e w1 ⟨rfl, hb⟩; replace hb0 := hb0.trans (hb.mono hb0.size); clear hb)
      | (go_at_call 18; refine (h18 _).mono ?_; rintro e w1 ⟨rfl, hb⟩; replace hb0 := hb0.trans (hb.mono hb0.size); clear hb)
      | (go_at_call 21; refine (h21 _).mono ?_; rintro e w1 ⟨rfl, hb⟩; replace hb0 := hb0.trans (hb.mono hb0.size); clear hb))
    go_ret
    exact ⟨rfl, hb0⟩

theorem back_law (s : ByteArray) (w : World) (hs : s.size ≤ 140737488355328) :
    Calls Try.prog 6 #[.string s] w fun e w' => e = .returned (.bool true) ∧ Below w.heap.size w w' := by
  cases hB : ofL 64 s.data.toList
  · cases hC : ofL 33 s.data.toList
    · refine back_none s _ _ _ w hs rfl hB hC rfl rfl ?_
      cases hE : keyL s.data.toList
      · cases hD : evL s.data.toList
        · exact .inr (.inr ⟨rfl, rfl⟩)
        · exact .inr (.inl ⟨srv_head (ev_head hD) (by decide), rfl⟩)
      · exact .inl ⟨srv_key hE, not_of fun h => heads (ev_head h) (key_head hE) (by decide)⟩
    · refine back_some s 33 false true w hs hC (srv_head (of_head hC) (by decide)) hB hC (not_of fun h => heads (ev_head h) (of_head hC) (by decide)) (not_of fun h => heads (key_head h) (of_head hC) (by decide)) (.inr ⟨rfl, rfl⟩)
  · refine back_some s 64 true false w hs hB (srv_head (of_head hB) (by decide)) hB (not_of fun h => heads (of_head h) (of_head hB) (by decide)) (not_of fun h => heads (ev_head h) (of_head hB) (by decide)) (not_of fun h => heads (key_head h) (of_head hB) (by decide)) (.inl ⟨rfl, rfl⟩)
end Go.Proofs.Ytnldjhlgdbhcgaa
