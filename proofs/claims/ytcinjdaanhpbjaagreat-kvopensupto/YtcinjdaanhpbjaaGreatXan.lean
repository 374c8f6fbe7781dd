/- A snapshot as the program takes it: by walking its text. remove, clear, follows, readSnap: by walking their texts. -/
import Derived.Test.YtcinjdaanhpbjaaGreatRe
namespace Go.Proofs.YtcinjdaanhpbjaaGreat
open Go.RowKit
namespace Kv
open Bw Rg Dk Rf Wl

theorem KT.cnt {w : World} {k : Ks} {L : List Fl} (h : KvAt w k) (hv : (k.vs.map VR.ab).Perm L) (n : Nat) : KT w k { k with count := n } L (w.setCell ⟨k.sb, 5, none⟩ (.int .u64 (n : Int))) :=
  ⟨h.set5 n, rfl, rfl, rfl, rfl, rfl, rfl, hv, (setFr w k.sb 5 _).mono (fun b _ e => by rw [e]; exact mem_kfoot.2 (.inl rfl)), fun b hb => .inl hb⟩
/-- A key has a value of a row that is apart. -/
theorem KT.put2 {w0 w w' : World} {k0 k : Ks} {L : List Fl} (h : KT w0 k0 k L w) {x : VR} {base : Nat} (hm : MapV w' k.mb (butV x.nm k.vs ++ [x])) (g : w.grownBy w' (some k.mb)) (hr : RowB base w x.v x.bs) (hb : w0.heap.size ≤ base) (hn : ∀ b ∈ x.bl, b ∉ k.foot) (hs : x.nm.size ≤ 255) : KT w0 k0 { k with vs := butV x.nm k.vs ++ [x] } (setK x.nm x.bs L) w' := by
  refine ⟨h.kv.put hm g (hr.mono (Nat.zero_le _)) hn hs, h.sb, h.mb, h.lp, h.db, h.size, h.torn, ?_, h.fr.and (Fr.grown (S := fun b => b ∈ k0.foot ∨ w0.heap.size ≤ b) g (fun b e _ => h.grew b (mem_kfoot.2 (.inr (.inl (Option.some.inj e).symm))))) (fun b hb e => e.elim id (fun e => by omega)), fun b hb' => ?_⟩
  · show ((butV x.nm k.vs ++ [x]).map VR.ab).Perm _
    rw [List.map_append]
    exact (List.perm_append_comm.trans (((rm_vs h.vs).cons _))).trans (ins_perm _ _).symm
  · rcases mem_kfoot.1 hb' with e | e | e | ⟨y, hy, e⟩
    · exact h.grew b (mem_kfoot.2 (.inl e))
    · exact h.grew b (mem_kfoot.2 (.inr (.inl e)))
    · exact h.grew b (mem_kfoot.2 (.inr (.inr (.inl e))))
    · rcases List.mem_append.1 hy with hy | hy
      · exact h.grew b (mem_kfoot.2 (.inr (.inr (.inr ⟨y, (mem_butV.1 hy).1, e⟩))))
      · obtain rfl := List.mem_singleton.1 hy
        exact .inr (Nat.le_trans hb (hr.lt b (by simpa [VR.bl] using e)))
/-- What takeSnap leaves of an empty store. -/
def SnOut (k : Ks) (r : Option (Nat × List Fl)) (w : World) (e : Ending) (w' : World) : Prop := match r with
  | none => e = .returned (.bool false) ∧ Fr (fun b => b ∈ k.foot) w w'
  | some (c, L) => e = .returned (.bool true) ∧ ∃ k', KT w k k' L w' ∧ k'.count = c
/-- Pairs ahead of what is read. -/
def preP (acc : List Fl) : Option (List Fl × RS) → Option (List Fl × RS)
  | none => none
  | some r => some (acc ++ r.1, r.2)
theorem preP_nil (r : Option (List Fl × RS)) : preP [] r = r := by cases r <;> rfl
/-- What the loop of takeSnap keeps. -/
structure SL (w : World) (k : Ks) (N : Nat) (wr : World) (k' : Ks) (acc : List Fl) (s : RS) : Prop where
  rd : RdAt (fun b => b ∈ k.foot) w N s wr
  kt : KT w k k' acc wr
  nn : N ∉ k'.foot
  len : s.1.length ≤ 140737488355328
theorem SL.read {w wr w3 : World} {k k' : Ks} {N : Nat} {acc : List Fl} {s s' : RS} (h : SL w k N wr k' acc s) (h3 : RdAt (fun b => b ∈ k.foot) w N s' w3) (f3 : Fr (fun b => b = N) wr w3) (hl : s'.1.length ≤ 140737488355328) : SL w k N w3 k' acc s' :=
  ⟨h3, ⟨h.kt.kv.fr f3 (fun b hb e => h.nn (e ▸ hb)), h.kt.sb, h.kt.mb, h.kt.lp, h.kt.db, h.kt.size, h.kt.torn, h.kt.vs, h.kt.fr.and f3 (fun b hb e => by have := h.rd.new; exfalso; omega), h.kt.grew⟩, h.nn, hl⟩
theorem SL.put {w wr w' : World} {k k' : Ks} {N base : Nat} {acc : List Fl} {s : RS} (h : SL w k N wr k' acc s) {x : VR} (hm : MapV w' k'.mb (butV x.nm k'.vs ++ [x])) (g : wr.grownBy w' (some k'.mb)) (hr : RowB base wr x.v x.bs) (hb : w.heap.size ≤ base) (hN : N < base) (hn : ∀ b ∈ k'.foot, b < base) (hs : x.nm.size ≤ 255) (hx : ∀ y ∈ acc, y.1 ≠ x.nm) : SL w k N w' { k' with vs := butV x.nm k'.vs ++ [x] } (acc ++ [x.ab]) s := by
  have hxl : ∀ b ∈ x.bl, base ≤ b := fun b hb => hr.lt b (by simpa [VR.bl] using hb)
  have h1 := h.kt.put2 hm g hr hb (fun b hb hc => by have := hxl b hb; have := hn b hc; omega) hs
  refine ⟨h.rd.fr (S := fun b => b = k'.mb) (Fr.grown g (fun b e _ => (Option.some.inj e).symm)) (fun e => h.nn (e ▸ mem_kfoot.2 (.inr (.inl rfl)))) (fun b hb e => ?_), ⟨h1.kv, h1.sb, h1.mb, h1.lp, h1.db, h1.size, h1.torn, h1.vs.trans ?_, h1.fr, h1.grew⟩, fun hc => ?_, h.len⟩
  · rcases h.kt.grew b (e ▸ mem_kfoot.2 (.inr (.inl rfl))) with e2 | e2
    · exact e2
    · omega
  · unfold setK
    rw [rm_none hx]
    exact (ins_perm _ _).trans (List.perm_append_singleton _ _).symm
  · rcases mem_kfoot.1 hc with e | e | e | ⟨y, hy, e⟩
    · exact h.nn (mem_kfoot.2 (.inl e))
    · exact h.nn (mem_kfoot.2 (.inr (.inl e)))
    · exact h.nn (mem_kfoot.2 (.inr (.inr (.inl e))))
    · rcases List.mem_append.1 hy with hy | hy
      · exact h.nn (mem_kfoot.2 (.inr (.inr (.inr ⟨y, (mem_butV.1 hy).1, e⟩))))
      · obtain rfl := List.mem_singleton.1 hy
        have := hxl N e
        omega
theorem leq_lt (a b : ByteArray) : (Op.bytesLess a.toList b.toList || a.toList == b.toList) = !lt b a := by
  have e : (a.toList == b.toList) = decide (a = b) := by
    rw [Lib.toList_data, Lib.toList_data, Bool.eq_iff_iff]
    simp only [beq_iff_eq, decide_eq_true_eq]
    exact ⟨fun h => ByteArray.ext (Array.ext' h), fun h => by rw [h]⟩
  rw [e]
  show (lt a b || decide (a = b)) = !lt b a
  by_cases h : a = b
  · subst h
    have := lt_irr a
    simp [this]
  · by_cases h2 : lt a b = true
    · have h3 : ¬ lt b a = true := fun h3 => lt_irr a (lt_tr h2 h3)
      simp [h2, h3]
    · have h3 := lt_tot h2 h
      simp [h2, h3, h]
theorem leq_str (a b : ByteArray) (W : World) : (binOp .leq 9 (.string a) (.string b)).run Tryz.prog W = .ok (.bool (!lt b a)) W := by
  simp only [binOp, Op.stringOp]
  rw [← leq_lt]
  rfl
set_option maxHeartbeats 8000000 in
set_option maxRecDepth 100000 in
theorem snap_any (w : World) (k : Ks) (v : Value) (bs : List UInt8) (h : KvAt w k) (hv : SlM w v bs) (hvf : bs ≠ [] → ∀ b, blk v = some b → b ∉ k.foot) (hp : k.vs = []) (hl : bs.length ≤ 140737488355328) : Calls Tryz.prog 78 #[.pointer (some ⟨k.sb, 0, none⟩), v] w (SnOut k (snapM bs) w) := by
  obtain ⟨va, vc, hvq⟩ := hv.sl.form
  obtain ⟨m, hm⟩ : ∃ m, bs.length = m := ⟨_, rfl⟩
  rw [hm] at hvq
  obtain ⟨N, hN⟩ : ∃ N, w.heap.size = N := ⟨_, rfl⟩
  have h0 : RdAt (fun b => b ∈ k.foot) w N (bs, false) (w.alloc (.cells #[v, .bool false] 152)) := ⟨⟨v, by rw [← hN]; exact heap_alloc_new _ _, hv, hvf⟩, by omega, Fr.of_below (alloc_below _ _)⟩
  have hs0 : SL w k N (w.alloc (.cells #[v, .bool false] 152)) k [] (bs, false) := ⟨h0, (KT.refl h (by rw [hp]; exact List.Perm.refl _)).below (alloc_below _ _), fun hc => by have := h.lt N hc; omega, hl⟩
  have c8 := number_any h0 8 hl (by decide)
  have hl1 : (numM 8 (bs, false)).2.1.length ≤ 140737488355328 := Nat.le_trans (numM_len 8 (bs, false)) hl
  have hb8 := numM_lt 8 (bs, false)
  obtain ⟨R, hR⟩ : ∃ R, snapM bs = R := ⟨_, rfl⟩
  rw [hR]
  unfold snapM at hR
  simp only at hR
  obtain ⟨A, hA⟩ : ∃ A, numM 8 (bs, false) = A := ⟨_, rfl⟩
  rw [hA] at c8 hl1 hb8 hR
  obtain ⟨a1, s1⟩ := A
  simp only at c8 hl1 hb8 hR
  have c4 := fun W (h : RdAt (fun b => b ∈ k.foot) w N s1 W) => number_any h 4 hl1 (by decide)
  have hl2 : (numM 4 s1).2.1.length ≤ 140737488355328 := Nat.le_trans (numM_len 4 s1) hl1
  have hb2 := numM_lt 4 s1
  obtain ⟨A, hA2⟩ : ∃ A, numM 4 s1 = A := ⟨_, rfl⟩
  rw [hA2] at c4 hl2 hb2 hR
  obtain ⟨b1, s2⟩ := A
  simp only at c4 hl2 hb2 hR
  have HL : Hid (s2.1.length ≤ 140737488355328 ∧ s1.1.length ≤ 140737488355328 ∧ w.heap.size = N) := ⟨hl2, hl1, hN⟩
  obtain ⟨SB, hSB⟩ : ∃ s, k.sb = s := ⟨_, rfl⟩
  have HSB : Hid (k.sb = SB ∧ SL w k N (w.alloc (.cells #[v, .bool false] 152)) k [] (bs, false)) := ⟨hSB, hs0⟩
  rw [hSB]
  clear hv hA hA2 hl1 hl2 hl h0 hm h hp hSB hvf hs0
  subst hvq
  have e8 : (256 : Nat) ^ 8 = 18446744073709551616 := by decide
  have e4 : (256 : Nat) ^ 4 = 4294967296 := by decide
  rw [e8] at hb8
  rw [e4] at hb2
  clear e8 e4
  have hset : ∀ w1, SL w k N w1 k [] s1 → SL w k N (w1.setCell ⟨SB, 5, none⟩ (.int .u64 (a1 : Int))) { k with count := a1 } [] s1 := fun w1 h1 => by
    have h2 := h1.kt.trans (KT.cnt h1.kt.kv h1.kt.vs a1)
    rw [← HSB.out.1]
    have hm : k.sb ∈ k.foot := mem_kfoot.2 (.inl rfl)
    exact ⟨h1.rd.fr (setFr w1 k.sb 5 (.int .u64 (a1 : Int))) (fun e => h1.nn (e ▸ hm)) (fun b hb e => by rw [e]; exact hm), h2, h1.nn, h1.len⟩
  have HSET : Hid (∀ w1, SL w k N w1 k [] s1 → SL w k N (w1.setCell ⟨SB, 5, none⟩ (.int .u64 (a1 : Int))) { k with count := a1 } [] s1) := hset
  clear hset
  by_cases hbig : 4611686018427387904 < a1
  · rw [if_pos hbig] at hR
    subst hR
    have hbig' : (4611686018427387904 : Int) < (a1 : Int) := by omega
    clear c4
    go_enter Tryz.func78, Tryz.ntmps78
    go_wp2_with (first
      | (go_at_call 95; refine Calls.mono c8 ?_; rintro e w1 ⟨rfl, h1, f1⟩; have h2 := HSB.out.2.read h1 f1 HL.out.2.1; have c5 := h2.kt.kv.c5; have z5 := h2.kt.kv.fz 5; rw [HSB.out.1] at c5 z5; have H1 := (show Hid (SL w k N w1 k [] s1) from h2); clear h1 f1 c8 h2))
    go_ret
    exact ⟨rfl, (HSET.out _ H1.out).kt.fr⟩
  · rw [if_neg hbig] at hR
    have hbig' : (a1 : Int) ≤ 4611686018427387904 := by omega
    have HRR : Hid (_ = R) := hR
    clear hbig hR
    go_enter Tryz.func78, Tryz.ntmps78
    go_wp2_with (first
      | (go_at_call 95; refine Calls.mono c8 ?_; rintro e w1 ⟨rfl, h1, f1⟩; have h2 := HSB.out.2.read h1 f1 HL.out.2.1; have c5 := h2.kt.kv.c5; have z5 := h2.kt.kv.fz 5; rw [HSB.out.1] at c5 z5; have H1 := (show Hid (SL w k N w1 k [] s1) from h2); clear h1 f1 c8 h2)
      | (go_at_call 95; refine (c4 _ (HSET.out _ H1.out).rd).mono ?_; rintro e w2 ⟨rfl, h2, f2⟩; have H2 := (show Hid (SL w k N w2 { k with count := a1 } [] s2) from (HSET.out _ H1.out).read h2 f2 HL.out.1); clear h2 f2 c4 H1 c5 z5))
    go_loopw [6, 21] (fun x y wr => ∃ (acc : List Fl) (s : RS) (i : Nat) (k' : Ks) (last : ByteArray), x = .string last ∧ y = .int .u64 (i : Int) ∧ i ≤ b1 ∧ Hid (SL w k N wr k' acc s ∧ k'.count = a1 ∧ acc.length = i ∧ ∀ y ∈ acc, y.1 = last ∨ lt y.1 last = true) ∧ Hid (prsM b1 ⟨#[]⟩ s2 = preP acc (prsM (b1 - i) last s))) (fun _ y _ => b1 - Dk.numOf y)
    case atStart => exact ⟨[], s2, 0, _, ⟨#[]⟩, rfl, rfl, Nat.zero_le _, ⟨H2.out, rfl, rfl, fun y hy => by simp at hy⟩, by show _ = _; rw [preP_nil]; rfl⟩
    case round =>
      obtain ⟨acc, s, i, k', last, rfl, rfl, hi, HR, HS⟩ := hrel
      clear H2
      by_cases hlt : i < b1
      · have hlt' : (i : Int) < (b1 : Int) := by omega
        have ek : IntKind.u64.wrap ((i : Int) + 1) = (i : Int) + 1 := by rw [IntKind.wrap_u64]; omega
        have ck := key_any HR.out.1.rd HR.out.1.len
        have hl3 := Nat.le_trans (keyM_len s) HR.out.1.len
        have hl4 := Nat.le_trans (valM_len (keyM s).2) hl3
        have hk1 : (keyM s).1.length < 256 := Nat.lt_of_le_of_lt (takeM_le _ _) (numM_lt 1 s)
        have hv1 : (valM (keyM s).2).1.length ≤ 4294967296 := Nat.le_of_lt (Nat.lt_of_le_of_lt (takeM_le _ _) (numM_lt 4 (keyM s).2))
        have hS2 : prsM (b1 - i) last s = (if (valM (keyM s).2).2.2 = true ∨ lt last (baK (keyM s).1) = false then none else match prsM (b1 - (i + 1)) (baK (keyM s).1) (valM (keyM s).2).2 with | none => none | some r => some ((baK (keyM s).1, (valM (keyM s).2).1, 0) :: r.1, r.2)) := by
          rw [show b1 - i = (b1 - (i + 1)) + 1 by omega]
          rfl
        obtain ⟨K0, hK0⟩ : ∃ K, keyM s = K := ⟨_, rfl⟩
        rw [hK0] at ck hl3 hl4 hk1 hv1 hS2
        obtain ⟨kb, s3⟩ := K0
        simp only at ck hl3 hl4 hk1 hv1 hS2
        obtain ⟨K, hK⟩ : ∃ K, baK kb = K := ⟨_, rfl⟩
        have hK255 : K.size ≤ 255 := by rw [← hK, baK_size]; omega
        rw [hK] at ck hS2
        have cv := fun W (h : RdAt (fun b => b ∈ k.foot) w N s3 W) => value_any h hl3
        obtain ⟨V0, hV0⟩ : ∃ K, valM s3 = K := ⟨_, rfl⟩
        rw [hV0] at cv hl4 hv1 hS2
        obtain ⟨V, s4⟩ := V0
        obtain ⟨r4, bad⟩ := s4
        simp only at cv hl4 hv1 hS2
        have HL3 : Hid (s3.1.length ≤ 140737488355328 ∧ r4.length ≤ 140737488355328 ∧ K.size ≤ 255 ∧ V.length ≤ 4294967296) := ⟨hl3, hl4, hK255, hv1⟩
        have HSS : Hid (_ = _) := hS2
        clear hK0 hV0 hK hl3 hl4 hk1 hv1 hK255 hS2
        cases bad with
        | true =>
          go_wp2_with (first
            | (go_at_call 96; refine Calls.mono ck ?_; rintro e w3 ⟨rfl, h3, f3⟩; have H3 := (show Hid (SL w k N w3 k' acc s3) from HR.out.1.read h3 f3 HL3.out.1); clear h3 f3)
            | (go_at_call 97; refine (cv _ H3.out.rd).mono ?_; rintro e w4 ⟨v4, rfl, hr4, h4, f4⟩; obtain ⟨va4, vc4, rfl⟩ := hr4.form; have h5 := H3.out.read h4 f4 HL3.out.2.1; have c1 := h4.c1; simp only at c1; have H4 := (show Hid (SL w k N w4 k' acc (r4, true)) from h5); clear h4 f4 h5 hr4))
          go_ret
          have hn : R = none := by
            rw [← HRR.out, HS.out, HSS.out, if_pos (.inl trivial)]
            rfl
          rw [hn]
          exact ⟨rfl, H4.out.kt.fr⟩
        | false =>
          have hle : ∀ W, (binOp .leq 9 (.string K) (.string last)).run Tryz.prog W = .ok (.bool (!lt last K)) W := fun W => leq_str K last W
          cases hll : lt last K with
          | false =>
            rw [hll] at hle
            simp only [Bool.not_false] at hle
            go_wp2_with (first
              | (go_at_call 96; refine Calls.mono ck ?_; rintro e w3 ⟨rfl, h3, f3⟩; have H3 := (show Hid (SL w k N w3 k' acc s3) from HR.out.1.read h3 f3 HL3.out.1); clear h3 f3)
              | (go_at_call 97; refine (cv _ H3.out.rd).mono ?_; rintro e w4 ⟨v4, rfl, hr4, h4, f4⟩; obtain ⟨va4, vc4, hvv⟩ := hr4.form; obtain ⟨vn, hvn⟩ : ∃ n, V.length = n := ⟨_, rfl⟩; rw [hvn] at hvv; have h5 := H3.out.read h4 f4 HL3.out.2.1; have c1 := h4.c1; simp only at c1; have H4 := (show Hid (SL w k N w4 k' acc (r4, false) ∧ RowB w3.heap.size w4 v4 V ∧ v4 = .slice va4 vn vc4 ∧ w.heap.size ≤ w3.heap.size ∧ N < w3.heap.size ∧ ∀ b ∈ k'.foot, b < w3.heap.size) from ⟨h5, hr4, hvv, H3.out.rd.fra.size, H3.out.rd.lt, H3.out.kt.kv.lt⟩); subst hvv; clear h4 f4 h5 hr4 hvn))
            go_ret
            have hn : R = none := by
              rw [← HRR.out, HS.out, HSS.out, if_pos (.inr hll)]
              rfl
            rw [hn]
            exact ⟨rfl, H4.out.1.kt.fr⟩
          | true =>
            rw [hll] at hle
            simp only [Bool.not_true] at hle
            have hfresh : ∀ y ∈ acc, y.1 ≠ K := fun y hy e => by
              rcases HR.out.2.2.2 y hy with h1 | h1
              · rw [← h1, e] at hll
                exact lt_irr _ hll
              · rw [e] at h1
                exact lt_irr _ (lt_tr h1 hll)
            have hab : ∀ y ∈ acc ++ [(K, V, 0)], y.1 = K ∨ lt y.1 K = true := fun y hy => by
              rcases List.mem_append.1 hy with hy | hy
              · rcases HR.out.2.2.2 y hy with h1 | h1
                · exact .inr (h1 ▸ hll)
                · exact .inr (lt_tr h1 hll)
              · rw [List.mem_singleton.1 hy]
                exact .inl rfl
            have hSn : prsM (b1 - i) last s = match prsM (b1 - (i + 1)) K (r4, false) with | none => none | some r => some ((K, V, 0) :: r.1, r.2) := by
              rw [HSS.out, if_neg (fun h => h.elim (fun h => by simp at h) (fun h => by rw [hll] at h; cases h))]
            have HN2 : Hid (prsM b1 ⟨#[]⟩ s2 = preP (acc ++ [(K, V, 0)]) (prsM (b1 - (i + 1)) K (r4, false))) := by
              show _ = _
              rw [HS.out, hSn]
              cases prsM (b1 - (i + 1)) K (r4, false) with
              | none => rfl
              | some r => simp [preP]
            have HF : Hid ((∀ y ∈ acc, y.1 ≠ K) ∧ ∀ y ∈ acc ++ [(K, V, 0)], y.1 = K ∨ lt y.1 K = true) := ⟨hfresh, hab⟩
            have hsb := HR.out.1.kt.sb
            rw [HSB.out.1] at hsb
            have hvl : k'.vs.length < 9223372036854775807 := by
              have h1 := HR.out.1.kt.vs.length_eq
              rw [List.length_map, HR.out.2.2.1] at h1
              omega
            have HVL : Hid (k'.vs.length < 9223372036854775807) := hvl
            clear hfresh hab hSn hll hvl
            go_wp2_with (first
              | (go_at_call 96; refine Calls.mono ck ?_; rintro e w3 ⟨rfl, h3, f3⟩; have H3 := (show Hid (SL w k N w3 k' acc s3) from HR.out.1.read h3 f3 HL3.out.1); clear h3 f3)
              | (go_at_call 97; refine (cv _ H3.out.rd).mono ?_; rintro e w4 ⟨v4, rfl, hr4, h4, f4⟩; obtain ⟨va4, vc4, hvv⟩ := hr4.form; obtain ⟨vn, hvn⟩ : ∃ n, V.length = n := ⟨_, rfl⟩; rw [hvn] at hvv; have h5 := H3.out.read h4 f4 HL3.out.2.1; have c1 := h4.c1; simp only at c1; have c4 := h5.kt.kv.c4; rw [hsb] at c4; have hmp := h5.kt.kv.map; have hnm := h5.kt.kv.names; obtain ⟨cc, hcc⟩ := RowB.slv hr4; obtain ⟨w7, hr7, hm7, hg7⟩ := hmp.store hnm HVL.out ⟨K, cc, V⟩ (show K.size ≤ _ by have := HL3.out.2.2.1; omega); have hr7' : (Instr.mapUpdate 78 (.map (some k'.mb)) (.string K) v4).run Tryz.prog w4 = .ok () w7 := (by rw [hcc]; exact hr7); rw [hvv] at hr7'; have H7 := (show Hid (MapV w7 k'.mb (butV K k'.vs ++ [⟨K, cc, V⟩]) ∧ w4.grownBy w7 (some k'.mb) ∧ v4 = slV cc) from ⟨hm7, hg7, hcc⟩); clear hmp hnm hcc hr7 hm7 hg7;have H4 := (show Hid (SL w k N w4 k' acc (r4, false) ∧ RowB w3.heap.size w4 v4 V ∧ v4 = .slice va4 vn vc4 ∧ w.heap.size ≤ w3.heap.size ∧ N < w3.heap.size ∧ ∀ b ∈ k'.foot, b < w3.heap.size) from ⟨h5, hr4, hvv, H3.out.rd.fra.size, H3.out.rd.lt, H3.out.kt.kv.lt⟩); subst hvv; clear h4 f4 h5 hr4 hvn))
            go_roundw
            case rel =>
              have hrow := H4.out.2.1
              rw [H7.out.2.2] at hrow
              exact ⟨acc ++ [(K, V, 0)], (r4, false), i + 1, { k' with vs := butV K k'.vs ++ [⟨K, cc, V⟩] }, K, rfl, by go_num, hlt, ⟨H4.out.1.put (x := ⟨K, cc, V⟩) H7.out.1 H7.out.2.1 hrow H4.out.2.2.2.1 H4.out.2.2.2.2.1 H4.out.2.2.2.2.2 HL3.out.2.2.1 HF.out.1, HR.out.2.1, by rw [List.length_append, HR.out.2.2.1]; rfl, HF.out.2⟩, HN2⟩
            case measure => show b1 - ((i : Int) + 1).toNat < b1 - (i : Int).toNat; omega
      · have hke : i = b1 := by omega
        subst hke
        have hlt' : ¬ (i : Int) < (i : Int) := by omega
        have hwh := whole_any HR.out.1.rd
        go_wp2_with (go_at_call 98; refine Calls.mono hwh ?_; rintro e w3 ⟨rfl, rfl⟩)
        go_ret
        have e1 := HS.out
        rw [Nat.sub_self] at e1
        have e2 : R = if wholeM s = true then some (a1, acc) else none := by
          rw [← HRR.out, e1]
          simp [prsM, preP]
        rw [e2]
        by_cases hh : wholeM s = true
        · rw [if_pos hh, hh]
          exact ⟨rfl, k', HR.out.1.kt, HR.out.2.1⟩
        · rw [if_neg hh]
          have hf : wholeM s = false := by simpa using hh
          rw [hf]
          exact ⟨rfl, HR.out.1.kt.fr⟩
end Kv
end Go.Proofs.YtcinjdaanhpbjaaGreat

namespace Go.Proofs.YtcinjdaanhpbjaaGreat
open Go.RowKit
namespace Kv
open Bw Rg Dk Rf Wl

theorem Recs.fr {S : Nat → Prop} {base : Nat} {w w' : World} {v : Value} {LL : List (List UInt8)} (h : Recs base w v LL) (f : Fr S w w') (hS : ∀ k, S k → k < base) : Recs base w' v LL := by
  obtain ⟨us, h1, h2, h3⟩ := h
  refine ⟨us, ?_, h2, fun i bs hi => ?_⟩
  · refine ⟨h1.1, ?_⟩
    rcases h1.2 with h4 | ⟨g, cap, cur, e, hb, hg, h4⟩
    · exact .inl h4
    · exact .inr ⟨g, cap, cur, e, hb, (f.block g (lt_of_block hg) (fun hs => by have := hS g hs; omega)).trans hg, h4⟩
  · obtain ⟨u, hu, hr⟩ := h3 i bs hi
    exact ⟨u, hu, hr.other (fun k hk => f.block k (hr.gt k hk) (fun hs => by have := hS k hs; have := hr.lt k hk; omega))⟩
/-- An element of a row of records. -/
theorem Recs.at {base : Nat} {w : World} {v : Value} {LL : List (List UInt8)} (h : Recs base w v LL) {i : Nat} {r : List UInt8} (hi : LL[i]? = some r) : ∃ b cap u, v = .slice (some ⟨b, 0, none⟩) LL.length cap ∧ LL.length ≤ cap ∧ w.cell? ⟨b, 0 + i, none⟩ = some u ∧ RowB base w u r := by
  obtain ⟨us, h1, h2, h3⟩ := h
  obtain ⟨u, hu, hr⟩ := h3 i r hi
  rcases h1.cell with ⟨rfl, _⟩ | ⟨b, cap, rfl, h4, h5, h6⟩
  · simp at hu
  · exact ⟨b, cap, u, by rw [h2], h2 ▸ h4, h6 i u hu, hr⟩
/-- Remove, if there is one. -/
def remA (a : Ab) (s : ByteArray) : Int × Ab := if (removeM a s).1 = 9 then (0, (removeM a s).2) else removeM a s
section
variable {w : World} {d : Ds} {a : Ab}
theorem remove_any (s : ByteArray) (h : DP w d a) (hg : Rf.Good a) (hs : s.size ≤ 140737488355328) : Calls Tryz.prog 44 #[.pointer (some ⟨d.db, 0, none⟩), .string s] w (LOut w d (remA a s)) := by
  obtain ⟨R, hR⟩ : ∃ R, removeM a s = R := ⟨_, rfl⟩
  have c74 : Calls Tryz.prog 74 #[.pointer (some ⟨d.db, 0, none⟩), .string s] w fun e w' => ∃ d', e = .returned (codeV R.1) ∧ DS w d d' R.2 w' := by
    rw [← hR]
    exact dout_ds (dremove h hg s hs)
  have HO : Hid (remA a s = if R.1 = 9 then (0, R.2) else R) := by show _ = _; unfold remA; rw [hR]
  clear h hR hg
  obtain ⟨r, a'⟩ := R
  by_cases hz : r = 0
  · subst hz
    simp only [codeV_zero] at c74
    have n9 := nil_eql 9
    go_enter Tryz.func44, Tryz.ntmps44
    go_wp2_with (go_at_call 74; refine Calls.mono c74 ?_; rintro e w3 ⟨d3, rfl, h3⟩; have H3 := (show Hid (DS w d d3 a' w3) from h3); clear h3 c74)
    go_ret
    unfold LOut
    rw [HO.out]
    exact ⟨d3, rfl, H3.out⟩
  · by_cases hz9 : r = 9
    · subst hz9
      simp only [codeV_ne hz] at c74
      have n9 : ∀ W : World, (binOp .eql 38 (.iface 48 (.int .i64 9)) (.iface 48 (.int .i64 9))).run Tryz.prog W = .ok (.bool true) W := fun W => bin_eerr 9 9 W
      go_enter Tryz.func44, Tryz.ntmps44
      go_wp2_with (go_at_call 74; refine Calls.mono c74 ?_; rintro e w3 ⟨d3, rfl, h3⟩; have H3 := (show Hid (DS w d d3 a' w3) from h3); clear h3 c74)
      go_ret
      unfold LOut
      rw [HO.out]
      exact ⟨d3, rfl, H3.out⟩
    · simp only [codeV_ne hz] at c74
      have n9 : ∀ W : World, (binOp .eql 38 (.iface 48 (.int .i64 r)) (.iface 48 (.int .i64 9))).run Tryz.prog W = .ok (.bool false) W := fun W => by rw [bin_eerr r 9 W]; simp [hz9]
      go_enter Tryz.func44, Tryz.ntmps44
      go_wp2_with (go_at_call 74; refine Calls.mono c74 ?_; rintro e w3 ⟨d3, rfl, h3⟩; have H3 := (show Hid (DS w d d3 a' w3) from h3); clear h3 c74)
      go_ret
      unfold LOut
      rw [HO.out, if_neg hz9]
      exact ⟨d3, by rw [codeV_ne hz]; rfl, H3.out⟩
end
/-- Does a batch follow? -/
def folM (m last n : Nat) (first : Bool) : Bool := if first = true then decide (1 ≤ m ∧ m ≤ n + 1) else decide (m = last + 1)
theorem follows_any (m last n : Nat) (first : Bool) (w : World) (hl : last + 1 < 18446744073709551616) (hn : n + 1 < 18446744073709551616) : Calls Tryz.prog 80 #[.int .u64 (m : Int), .int .u64 (last : Int), .int .u64 (n : Int), .bool first] w fun e w' => e = .returned (.bool (folM m last n first)) ∧ w' = w := by
  have e1 : IntKind.u64.wrap ((last : Int) + 1) = (last : Int) + 1 := by rw [IntKind.wrap_u64]; omega
  have e2 : IntKind.u64.wrap ((n : Int) + 1) = (n : Int) + 1 := by rw [IntKind.wrap_u64]; omega
  obtain ⟨R, hR⟩ : ∃ R, folM m last n first = R := ⟨_, rfl⟩
  have HR : Hid (folM m last n first = R) := hR
  rw [hR]
  clear hR
  cases first with
  | true =>
    have hr : R = decide (1 ≤ m ∧ m ≤ n + 1) := by rw [← HR.out]; rfl
    clear HR
    by_cases h1 : 1 ≤ m
    · have h1' : (1 : Int) ≤ (m : Int) := by omega
      by_cases h2 : m ≤ n + 1
      · have h2' : (m : Int) ≤ (n : Int) + 1 := by omega
        rw [hr, decide_eq_true (⟨h1, h2⟩ : 1 ≤ m ∧ m ≤ n + 1)]
        clear hr
        go_enter Tryz.func80, Tryz.ntmps80
        go_wp2
        go_ret
        exact ⟨by simp, rfl⟩
      · have h2' : ¬ (m : Int) ≤ (n : Int) + 1 := by omega
        rw [hr, decide_eq_false (fun h : 1 ≤ m ∧ m ≤ n + 1 => h2 h.2)]
        clear hr
        go_enter Tryz.func80, Tryz.ntmps80
        go_wp2
        go_ret
        exact ⟨by simp, rfl⟩
    · have h1' : ¬ (1 : Int) ≤ (m : Int) := by omega
      rw [hr, decide_eq_false (fun h : 1 ≤ m ∧ m ≤ n + 1 => h1 h.1)]
      clear hr
      go_enter Tryz.func80, Tryz.ntmps80
      go_wp2
      go_ret
      exact ⟨by simp, rfl⟩
  | false =>
    have hr : R = decide (m = last + 1) := by rw [← HR.out]; rfl
    clear HR
    have hd : decide ((m : Int) = (last : Int) + 1) = decide (m = last + 1) := by
      rw [decide_eq_decide]
      omega
    have hd2 : ((m : Int) == (last : Int) + 1) = decide (m = last + 1) := by
      rw [← hd]
      rfl
    rw [hr]
    clear hr
    go_enter Tryz.func80, Tryz.ntmps80
    go_wp2
    go_ret
    exact ⟨by simp [← hd2], rfl⟩
end Kv
end Go.Proofs.YtcinjdaanhpbjaaGreat
