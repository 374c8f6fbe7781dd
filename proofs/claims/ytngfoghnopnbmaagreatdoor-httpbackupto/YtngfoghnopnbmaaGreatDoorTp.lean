/- Plain: what a feed holds stays within bounds, byte by byte. Nothing of the program. -/
import Derived.Test.YtngfoghnopnbmaaGreatDoorTo
namespace Go.Proofs.YtngfoghnopnbmaaGreatDoor
open Go.RowKit
namespace Ht

section
variable {N : Nat} {m m' : FM} {c : UInt8}
theorem Inv.up (h : Inv N m) : Inv (N + 1) m := ⟨h.w, h.d, Nat.le_succ_of_le h.t, h.h, Nat.le_succ_of_le h.b, Nat.le_succ_of_le h.o, h.l, fun p hp => ⟨Nat.le_succ_of_le (h.z p hp).1, Nat.le_succ_of_le (h.z p hp).2⟩, h.e, h.v, h.s, h.q, h.k⟩
theorem sz_arr (l : List UInt8) : (⟨l.toArray⟩ : ByteArray).size = l.length := by rw [Lib.size_eq]
/-- The text grows, where that may be. -/
theorem Inv.keep (h : Inv N m) (hw : m.wt = 2 ∨ m.wt = 3 ∨ m.wt = 6 ∨ m.wt = 9 ∨ m.wt = 10) : Inv (N + 1) { m with tx := m.tx ++ [c] } := by
  have i := h.up
  refine ⟨i.w, i.d, ?_, i.h, i.b, i.o, i.l, i.z, fun e => ?_, fun e => ?_, fun e => ?_, i.q, i.k⟩
  · have := h.t
    show (m.tx ++ [c]).length ≤ N + 1
    simp
    exact this
  · exfalso
    simp only at e
    omega
  · exfalso
    simp only at e
    omega
  · exfalso
    simp only at e
    omega
/-- The text is empty, and something else is awaited. -/
theorem Inv.go (h : Inv N m) (n : Int) (hn : n = 3 ∨ n = 4 ∨ n = 5 ∨ n = 6 ∨ n = 7 ∨ n = 8 ∨ n = 11 ∨ n = 13 ∨ n = 14 ∨ n = 16 ∨ n = 17 ∨ n = 18 ∨ n = 19 ∨ n = 2 ∨ n = 9) : Inv N { m with tx := [], wt := n } := by
  refine ⟨by simp only; omega, h.d, by simp, h.h, h.b, h.o, h.l, h.z, fun _ => rfl, fun _ => by simp, fun _ => ⟨fun c hc => by simp at hc, by simp⟩, fun e => ?_, fun e => ?_⟩
  · exfalso
    simp only at e
    omega
  · exfalso
    simp only at e
    omega
theorem tx_nil (h : m.tx = []) : { m with tx := [] } = m := by
  cases m
  simp only at h
  rw [h]
theorem amiss_no (h : amissM m = (none, m')) : False := by
  unfold amissM at h
  cases h
theorem must_inv {o : UInt8} {n : Int} (hi : Inv N { m with tx := [], wt := n }) (hx : m.tx = []) (h : mustM m c o n = (none, m')) : Inv N m' := by
  unfold mustM at h
  split at h
  · injection h with _ h
    rw [← h]
    have e : { m with wt := n } = { m with tx := [], wt := n } := by
      cases m
      simp only at hx
      rw [hx]
    rw [e]
    exact hi
  · exact (amiss_no h).elim
theorem tMethod_inv (hi : Inv N m) (hw : m.wt = 2) (h : tMethod m c = (none, m')) : Inv (N + 1) m' := by
  unfold tMethod keepM at h
  split at h
  · injection h with _ h
    rw [← h]
    exact hi.keep (.inl hw)
  · split at h
    · injection h with _ h
      rw [← h]
      have i := (hi.go 3 (.inl rfl)).up
      exact ⟨i.w, i.d, i.t, i.h, i.b, i.o, i.l, i.z, i.e, i.v, i.s, i.q, i.k⟩
    · exact (amiss_no h).elim
theorem tTarget_inv (hi : Inv N m) (hw : m.wt = 3) (h : tTarget m c = (none, m')) : Inv (N + 1) m' := by
  unfold tTarget keepM at h
  split at h
  · cases h
  · split at h
    · injection h with _ h
      rw [← h]
      exact hi.keep (.inr (.inl hw))
    · split at h
      · injection h with _ h
        rw [← h]
        have i := (hi.go 4 (.inr (.inl rfl))).up
        exact ⟨i.w, i.d, i.t, i.h, i.b, i.o, i.l, i.z, i.e, i.v, i.s, i.q, i.k⟩
      · exact (amiss_no h).elim
theorem tReason_inv (hi : Inv N m) (hw : m.wt = 6) (h : tReason m c = (none, m')) : Inv (N + 1) m' := by
  unfold tReason keepM at h
  split at h
  · injection h with _ h
    rw [← h]
    exact hi.keep (by omega)
  · split at h
    · injection h with _ h
      rw [← h]
      have i := (hi.go 7 (by omega)).up
      exact ⟨i.w, i.d, i.t, i.h, i.b, i.o, i.l, i.z, i.e, i.v, i.s, i.q, i.k⟩
    · exact (amiss_no h).elim
theorem tVersion_inv (hi : Inv N m) (hw : m.wt = 4) (h : tVersion m c = (none, m')) : Inv (N + 1) m' := by
  unfold tVersion keepM at h
  split at h
  · refine must_inv (m := { m with tx := [] }) ?_ rfl h
    exact (hi.go _ (by split <;> omega)).up
  · split at h
    · rename_i h8 _
      injection h with _ h
      rw [← h]
      have i := hi.up
      have h9 := hi.v hw
      refine ⟨i.w, i.d, by have := hi.t; simp; omega, i.h, i.b, i.o, i.l, i.z, fun e => ?_, fun _ => by simp; omega, fun e => ?_, i.q, i.k⟩
      · exfalso
        simp only at e
        omega
      · exfalso
        simp only at e
        omega
    · exact (amiss_no h).elim
theorem tStatus_inv (hi : Inv N m) (hw : m.wt = 5) (h : tStatus m c = (none, m')) : Inv (N + 1) m' := by
  unfold tStatus keepM at h
  split at h
  · rename_i hc
    injection h with _ h
    rw [← h]
    have i := hi.up
    have h9 := hi.s (.inl hw)
    have hd : hxB c = true := by
      rcases hc with ⟨_, h2⟩ | ⟨_, h2⟩
      · apply dg_hx
        simp only [inB, dgB, Bool.and_eq_true, decide_eq_true_eq] at h2 ⊢
        omega
      · exact dg_hx h2
    refine ⟨i.w, i.d, by have := hi.t; simp; omega, i.h, i.b, i.o, i.l, i.z, fun e => ?_, fun e => ?_, fun _ => ⟨fun x hx => ?_, ?_⟩, i.q, i.k⟩
    · exfalso
      simp only at e
      omega
    · exfalso
      simp only at e
      omega
    · rcases List.mem_append.1 hx with hx | hx
      · exact h9.1 x hx
      · rw [List.mem_singleton.1 hx]
        exact hd
    · simp
      omega
  · split at h
    · injection h with _ h
      rw [← h]
      have i := (hi.go 6 (by omega)).up
      exact ⟨i.w, i.d, i.t, i.h, i.b, i.o, i.l, i.z, i.e, i.v, i.s, i.q, i.k⟩
    · exact (amiss_no h).elim
theorem tName_inv (hi : Inv N m) (hw : m.wt = 9) (h64 : m.g.hs.length < 64) (h : tName m c = (none, m')) : Inv (N + 1) m' := by
  unfold tName keepM at h
  split at h
  · injection h with _ h
    rw [← h]
    exact hi.keep (by omega)
  · split at h
    · injection h with _ h
      rw [← h]
      have i := hi.up
      refine ⟨by simp, i.d, by simp, by simp; omega, i.b, i.o, i.l, fun p hp => ?_, fun _ => rfl, fun _ => by simp, fun _ => ⟨fun c hc => by simp at hc, by simp⟩, fun _ => ⟨_, _, _, rfl⟩, fun e => ?_⟩
      · rcases List.mem_append.1 hp with hp | hp
        · exact i.z p hp
        · rw [List.mem_singleton.1 hp]
          have := hi.t
          simp only [sz_arr]
          exact ⟨by omega, by show (0 : Nat) ≤ _; omega⟩
      · exfalso
        simp only at e
        omega
    · exact (amiss_no h).elim
theorem drop_len (l : List UInt8) : (dropL (dropR l)).length ≤ l.length := by
  unfold dropL dropR
  have h1 := (List.dropWhile_sublist (l := (l.reverse.dropWhile blB).reverse) (p := blB)).length_le
  have h2 := (List.dropWhile_sublist (l := l.reverse) (p := blB)).length_le
  simp only [List.length_reverse] at h1 h2
  omega
theorem tValue_inv (hi : Inv N m) (hw : m.wt = 10) (h : tValue m c = (none, m')) : Inv (N + 1) m' := by
  unfold tValue keepM at h
  split at h
  · injection h with _ h
    rw [← h]
    exact hi.keep (by omega)
  · split at h
    · injection h with _ h
      rw [← h]
      obtain ⟨p, nm, old, hp⟩ := hi.q hw
      have hp2 : setLast m.g.hs ⟨(dropL (dropR m.tx)).toArray⟩ = p ++ [(nm, ⟨(dropL (dropR m.tx)).toArray⟩)] := by rw [hp, setLast_app]
      have i := (hi.go 7 (by omega)).up
      have hh := hi.h
      have hz := i.z
      refine ⟨i.w, i.d, i.t, ?_, i.b, i.o, i.l, ?_, i.e, i.v, i.s, fun e => ?_, i.k⟩
      · simp only [hp2]
        rw [hp] at hh
        simpa using hh
      · simp only [hp2]
        intro x hx
        rcases List.mem_append.1 hx with hx | hx
        · exact hz x (by simp only [hp]; simp [hx])
        · rw [List.mem_singleton.1 hx]
          have h1 := hz (nm, old) (by simp only [hp]; simp)
          have h2 := drop_len m.tx
          have h3 := hi.t
          exact ⟨h1.1, by simp only [sz_arr]; omega⟩
      · exfalso
        simp only at e
        omega
    · exact (amiss_no h).elim
theorem tHeader_inv (hi : Inv N m) (hw : m.wt = 8) (h : tHeader m c = (none, m')) : Inv (N + 1) m' := by
  have hx := hi.e (by omega)
  unfold tHeader at h
  split at h
  · injection h with _ h
    rw [← h]
    have i := (hi.go 11 (by omega)).up
    rw [← hx] at i
    exact i
  · split at h
    · cases h
    · rename_i h64
      have i := hi.go 9 (by omega)
      rw [← hx] at i
      exact tName_inv i rfl (by have := hi.h; simp only; omega) h
theorem tFirst_inv (hi : Inv N m) (hw : m.wt = 1) (h : tFirst m c = (none, m')) : Inv (N + 1) m' := by
  have hx := hi.e (by omega)
  unfold tFirst at h
  split at h
  · have i := hi.go 4 (by omega)
    rw [← hx] at i
    exact tVersion_inv i rfl h
  · have i := hi.go 2 (by omega)
    rw [← hx] at i
    exact tMethod_inv i rfl h
theorem fin_gen (ho : m.wh.length ≤ N) (hl : 0 ≤ m.lf ∧ m.lf ≤ 4294967296) (hx : m.tx = []) : Inv (N + 1) (finM m) := by
  refine ⟨by simp [finM], by simp [finM], by simp [finM, hx], by simp [finM, Msg.zero], by simp [finM, Msg.zero], by simp [finM]; omega, hl, fun p hp => by simp [finM, Msg.zero] at hp, fun _ => hx, fun e => ?_, fun e => ?_, fun e => ?_, fun e => ?_⟩
  all_goals (exfalso; simp [finM] at e)
theorem bodyM_bd (hs : List (ByteArray × ByteArray)) (n : Int) (pc : Bool) (h : bodyM hs = (n, pc, none)) : 0 ≤ n ∧ n ≤ 65536 := by
  unfold bodyM at h
  split at h
  · cases h
    omega
  · rename_i x _
    unfold bodyOne at h
    split at h
    · cases h
      omega
    · split at h
      · cases h
      · split at h
        · cases h
        · rename_i _ h2 h3
          have hl : lenB x.2.data.toList = true := by
            cases hh : lenB x.2.data.toList
            · exact absurd (.inr hh) h2
            · rfl
          simp only [lenB, Bool.and_eq_true, decide_eq_true_eq, List.all_eq_true] at hl
          have hb := num_bd 10 (by decide) _ x.2.data.toList rfl (fun c hc => dg_hx (hl.2 c hc))
          cases h
          omega
  · cases h
theorem tHeadEnd_inv (hi : Inv N m) (hw : m.wt = 11) (h : tHeadEnd m c = (none, m')) : Inv (N + 1) m' := by
  have hx := hi.e (by omega)
  unfold tHeadEnd at h
  split at h
  · obtain ⟨⟨n, pc, er⟩, hR⟩ : ∃ R, bodyM m.g.hs = R := ⟨_, rfl⟩
    rw [hR] at h
    cases er with
    | some e0 => cases h
    | none =>
      have hb := bodyM_bd _ n pc hR
      cases pc with
      | true =>
        simp only [headM] at h
        injection h with _ h
        rw [← h]
        have i := (hi.go 13 (by omega)).up
        rw [← hx] at i
        exact i
      | false =>
        simp only [headM] at h
        split at h
        · rename_i hn
          injection h with _ h
          rw [← h]
          have i := hi.up
          refine ⟨by simp, i.d, i.t, i.h, i.b, i.o, by simp only; omega, i.z, fun _ => hx, fun e => ?_, fun e => ?_, fun e => ?_, fun _ => by simp only; omega⟩
          all_goals (exfalso; simp at e)
        · injection h with _ h
          rw [← h]
          exact fin_gen hi.o hi.l hx
  · exact (amiss_no h).elim
theorem tBody_inv (hi : Inv N m) (hw : m.wt = 12) (h : tBody m c = (none, m')) : Inv (N + 1) m' := by
  have hx := hi.e (by omega)
  have hk := hi.k (.inl hw)
  have hl := hi.l
  unfold tBody at h
  split at h
  · injection h with _ h
    rw [← h]
    exact fin_gen (m := addM m c) hi.o (by simp only [addM]; omega) hx
  · rename_i h0
    injection h with _ h
    rw [← h]
    have i := hi.up
    have hb := hi.b
    exact ⟨i.w, i.d, i.t, i.h, by simp only [addM]; simp; omega, i.o, by simp only [addM]; omega, i.z, fun _ => hx, i.v, i.s, i.q, fun _ => by simp only [addM]; omega⟩
theorem tPiece_inv (hi : Inv N m) (hw : m.wt = 15) (h : tPiece m c = (none, m')) : Inv (N + 1) m' := by
  have hx := hi.e (by omega)
  have hk := hi.k (.inr hw)
  have hl := hi.l
  have i := hi.up
  have hb := hi.b
  unfold tPiece at h
  split at h
  · injection h with _ h
    rw [← h]
    refine ⟨by simp, i.d, i.t, i.h, by simp only [addM]; simp; omega, i.o, by simp only [addM]; omega, i.z, fun _ => hx, fun e => ?_, fun e => ?_, fun e => ?_, fun e => ?_⟩
    all_goals (exfalso; simp at e)
  · injection h with _ h
    rw [← h]
    exact ⟨i.w, i.d, i.t, i.h, by simp only [addM]; simp; omega, i.o, by simp only [addM]; omega, i.z, fun _ => hx, i.v, i.s, i.q, fun _ => by simp only [addM]; omega⟩
theorem tDigits_inv (hi : Inv N m) (hw : m.wt = 13) (h : tDigits m c = (none, m')) : Inv (N + 1) m' := by
  have h9 := hi.s (.inr hw)
  have i := hi.up
  unfold tDigits keepM at h
  split at h
  · rename_i hc
    injection h with _ h
    rw [← h]
    refine ⟨i.w, i.d, by have := hi.t; simp; omega, i.h, i.b, i.o, i.l, i.z, fun e => ?_, fun e => ?_, fun _ => ⟨fun x hx => ?_, ?_⟩, i.q, i.k⟩
    · exfalso
      simp only at e
      omega
    · exfalso
      simp only at e
      omega
    · rcases List.mem_append.1 hx with hx | hx
      · exact h9.1 x hx
      · rw [List.mem_singleton.1 hx]
        exact hc.1
    · simp
      omega
  · split at h
    · injection h with _ h
      rw [← h]
      have hb := num_bd 16 (by decide) _ m.tx rfl h9.1
      have hp : (16 : Int) ^ m.tx.length ≤ 16 ^ 8 := by have := Nat.pow_le_pow_right (n := 16) (by decide) h9.2; exact_mod_cast this
      have hp2 : (16 : Int) ^ 8 = 4294967296 := by decide
      have j := (hi.go 14 (by omega)).up
      refine ⟨j.w, j.d, j.t, j.h, j.b, j.o, by simp only; omega, j.z, j.e, j.v, j.s, j.q, fun e => ?_⟩
      exfalso
      simp at e
    · exact (amiss_no h).elim
theorem tDigitEnd_inv (hi : Inv N m) (hw : m.wt = 14) (h : tDigitEnd m c = (none, m')) : Inv (N + 1) m' := by
  have hx := hi.e (by omega)
  have i := hi.up
  have hl := hi.l
  unfold tDigitEnd at h
  split at h
  · split at h
    · cases h
    · split at h
      · injection h with _ h
        rw [← h]
        have j := (hi.go 18 (by omega)).up
        rw [← hx] at j
        exact j
      · injection h with _ h
        rw [← h]
        refine ⟨by simp, i.d, i.t, i.h, i.b, i.o, i.l, i.z, fun _ => hx, fun e => ?_, fun e => ?_, fun e => ?_, fun _ => by simp only; omega⟩
        all_goals (exfalso; simp at e)
  · exact (amiss_no h).elim
theorem tClose_inv (hi : Inv N m) (hw : m.wt = 19) (h : tClose m c = (none, m')) : Inv (N + 1) m' := by
  have hx := hi.e (by omega)
  unfold tClose at h
  split at h
  · injection h with _ h
    rw [← h]
    exact fin_gen hi.o hi.l hx
  · exact (amiss_no h).elim
theorem take_inv (hi : Inv N m) (h9 : m.wt = 9 → m.g.hs.length < 64) (h : takeM m c = (none, m')) : Inv (N + 1) m' := by
  have hw := hi.w
  have hcase : m.wt = 1 ∨ m.wt = 2 ∨ m.wt = 3 ∨ m.wt = 4 ∨ m.wt = 5 ∨ m.wt = 6 ∨ m.wt = 7 ∨ m.wt = 8 ∨ m.wt = 9 ∨ m.wt = 10 ∨ m.wt = 11 ∨ m.wt = 12 ∨ m.wt = 13 ∨ m.wt = 14 ∨ m.wt = 15 ∨ m.wt = 16 ∨ m.wt = 17 ∨ m.wt = 18 ∨ m.wt = 19 := by omega
  rcases hcase with e | e | e | e | e | e | e | e | e | e | e | e | e | e | e | e | e | e | e <;> simp only [takeM, e] at h
  · exact tFirst_inv hi e (by simpa using h)
  · exact tMethod_inv hi e (by simpa using h)
  · exact tTarget_inv hi e (by simpa using h)
  · exact tVersion_inv hi e (by simpa using h)
  · exact tStatus_inv hi e (by simpa using h)
  · exact tReason_inv hi e (by simpa using h)
  · exact must_inv (hi.go 8 (by omega)).up (hi.e (by omega)) (by simpa using h)
  · exact tHeader_inv hi e (by simpa using h)
  · exact tName_inv hi e (h9 e) (by simpa using h)
  · exact tValue_inv hi e (by simpa using h)
  · exact tHeadEnd_inv hi e (by simpa using h)
  · exact tBody_inv hi e (by simpa using h)
  · exact tDigits_inv hi e (by simpa using h)
  · exact tDigitEnd_inv hi e (by simpa using h)
  · exact tPiece_inv hi e (by simpa using h)
  · exact must_inv (hi.go 17 (by omega)).up (hi.e (by omega)) (by simpa using h)
  · exact must_inv (hi.go 13 (by omega)).up (hi.e (by omega)) (by simpa using h)
  · exact must_inv (hi.go 19 (by omega)).up (hi.e (by omega)) (by simpa using h)
  · exact tClose_inv hi e (by simpa using h)
end
end Ht
end Go.Proofs.YtngfoghnopnbmaaGreatDoor
