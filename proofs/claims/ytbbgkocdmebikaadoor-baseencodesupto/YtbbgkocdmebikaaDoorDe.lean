/- What base.Decode does at every text: a contract, by walking its text. -/
import Derived.Test.YtbbgkocdmebikaaDoorEn
namespace Go.Proofs.YtbbgkocdmebikaaDoor
open Go.RowKit
namespace Bw
open Bs

/-- A fault of the number 3 at a place, in a block from base on. -/
def FaultAt (base : Nat) (n : Int) (v : Value) (w : World) : Prop :=
  ∃ b, v = .iface 50 (.pointer (some ⟨b, 0, none⟩)) ∧ base ≤ b ∧ w.heap[b]? = some (.cells #[.int .i64 n, .iface 34 (.int .i64 3)] 55 (0, 0))
theorem FaultAt.below {base : Nat} {n : Int} {v : Value} {w w' : World} (h : FaultAt base n v w) (hb : Below w.heap.size w w') : FaultAt base n v w' := by
  obtain ⟨b, rfl, h1, h2⟩ := h
  exact ⟨b, rfl, h1, (hb.block b (lt_of_block h2)).trans h2⟩
theorem letters_any (u : Bool) (rs : List UInt8) (w : World) (hl : rs.length ≤ 3) (h1 : rs.length ≠ 1) (hw : ∀ c ∈ rs, 0 ≤ wo u c) :
    Calls Tryd.prog 20 #[.string ⟨rs.toArray⟩, .string (abc u)] w fun e w' => e = .returned (.int .u32 (rest4 (vals u rs) : Int)) ∧ ∃ n, w' = w.drewN n := by
  match rs, hl, h1, hw with
  | [], _, _, _ => exact (letters_nil u w).mono fun e w' ⟨h1, h2⟩ => ⟨h1, 0, h2⟩
  | [a], _, h, _ => simp at h
  | [a, b], _, _, hw => exact letters_two u a b w (hw a (by simp)) (hw b (by simp))
  | [a, b, c], _, _, hw => exact letters_three u a b c w (hw a (by simp)) (hw b (by simp)) (hw c (by simp))
theorem rest4_lt : ∀ rs : List Nat, (∀ x ∈ rs, x < 64) → rest4 rs < 16777216
  | [], _ => by simp [rest4]
  | [_], _ => by simp [rest4]
  | [a, b], h => by have := h a (by simp); have := h b (by simp); simp only [rest4]; omega
  | [a, b, c], h => by have := h a (by simp); have := h b (by simp); have := h c (by simp); simp only [rest4]; omega
  | _ :: _ :: _ :: _ :: _, _ => by simp [rest4]
/-- What fills up, of what is left over. -/
def fil4 (rs : List Nat) : Nat := rest4 rs % 2 ^ (24 - 8 * (rs.length * 6 / 8))
theorem fil4_zero : ∀ rs : List Nat, (∀ x ∈ rs, x < 64) → rs.length ≤ 3 → rs.length ≠ 1 → (fil4 rs = 0 ↔ fill rs = 0)
  | [], _, _, _ => by simp [fil4, rest4, fill]
  | [_], _, _, h => by simp at h
  | [a, b], h, _, _ => by
    have h1 := h a (by simp)
    have h2 := h b (by simp)
    show (262144 * a + 4096 * b) % 2 ^ (24 - 8 * (2 * 6 / 8)) = 0 ↔ b % 16 = 0
    rw [show 2 ^ (24 - 8 * (2 * 6 / 8)) = 65536 by decide]
    omega
  | [a, b, c], h, _, _ => by
    have h1 := h a (by simp)
    have h2 := h b (by simp)
    have h3 := h c (by simp)
    show (262144 * a + 4096 * b + 64 * c) % 2 ^ (24 - 8 * (3 * 6 / 8)) = 0 ↔ c % 4 = 0
    rw [show 2 ^ (24 - 8 * (3 * 6 / 8)) = 256 by decide]
    omega
  | _ :: _ :: _ :: _ :: _, _, h, _ => by simp at h
theorem filling_any (rs : List Nat) (w : World) (hx : ∀ x ∈ rs, x < 64) (hl : rs.length ≤ 3) (h1 : rs.length ≠ 1) :
    Calls Tryd.prog 22 #[.int .u32 (rest4 rs : Int), .int .i64 ((rs.length * 6 / 8 : Nat) : Int)] w fun e w' => e = .returned (.int .u32 (fil4 rs : Int)) ∧ w' = w := by
  have hb := rest4_lt rs hx
  match rs, hl, h1, hb with
  | [], _, _, _ => exact fill0 w
  | [a], _, h, _ => simp at h
  | [a, b], _, _, hb =>
    have e1 : [a, b].length * 6 / 8 = 1 := by simp
    have e2 : fil4 [a, b] = rest4 [a, b] % 65536 := by unfold fil4; rw [e1]
    rw [e1, e2]
    exact fill1 _ w hb
  | [a, b, c], _, _, hb =>
    have e1 : [a, b, c].length * 6 / 8 = 2 := by simp
    have e2 : fil4 [a, b, c] = rest4 [a, b, c] % 256 := by unfold fil4; rw [e1]
    rw [e1, e2]
    exact fill2 _ w hb
theorem byts_rest : ∀ rs : List Nat, (∀ x ∈ rs, x < 64) → rs.length ≤ 3 → rs.length ≠ 1 → byts (rest4 rs) (rs.length * 6 / 8) = dec rs
  | [], _, _, _ => by simp [byts, dec]
  | [_], _, _, h => by simp at h
  | [a, b], h, _, _ => by
    have h1 := h a (by simp)
    have h2 := h b (by simp)
    rw [show [a, b].length * 6 / 8 = 1 by simp]
    show byts (262144 * a + 4096 * b) 1 = _
    simp only [byts, List.range, List.range.loop, List.map_cons, List.map_nil, byt, dec, Nat.reduceMul, Nat.reduceSub, Nat.reducePow]
    rw [show (262144 * a + 4096 * b) / 65536 % 256 = a * 4 + b / 16 by omega]
  | [a, b, c], h, _, _ => by
    have h1 := h a (by simp)
    have h2 := h b (by simp)
    have h3 := h c (by simp)
    rw [show [a, b, c].length * 6 / 8 = 2 by simp]
    show byts (262144 * a + 4096 * b + 64 * c) 2 = _
    simp only [byts, List.range, List.range.loop, List.map_cons, List.map_nil, byt, dec, Nat.reduceMul, Nat.reduceSub, Nat.reducePow]
    rw [show (262144 * a + 4096 * b + 64 * c) / 65536 % 256 = a * 4 + b / 16 by omega, show (262144 * a + 4096 * b + 64 * c) / 256 % 256 = b % 16 * 16 + c / 4 by omega]
  | _ :: _ :: _ :: _ :: _, _, h, _ => by simp at h
theorem byts_three (a b c d : Nat) (h1 : a < 64) (h2 : b < 64) (h3 : c < 64) (h4 : d < 64) : byts (262144 * a + 4096 * b + 64 * c + d) 3 = dec [a, b, c, d] := by
  simp only [byts, List.range, List.range.loop, List.map_cons, List.map_nil, byt, dec, Nat.reduceMul, Nat.reduceSub, Nat.reducePow]
  rw [show (262144 * a + 4096 * b + 64 * c + d) / 65536 % 256 = a * 4 + b / 16 by omega, show (262144 * a + 4096 * b + 64 * c + d) / 256 % 256 = b % 16 * 16 + c / 4 by omega, show (262144 * a + 4096 * b + 64 * c + d) / 1 % 256 = c % 4 * 64 + d by omega]
theorem take_four (bs : List UInt8) (I : Nat) (h : I + 3 < bs.length) : bs.take (I + 4) = bs.take I ++ [bs[I], bs[I + 1], bs[I + 2], bs[I + 3]] := by
  have e1 : bs.take (I + 4) = bs.take (I + 3) ++ [bs[I + 3]] := List.take_succ_eq_append_getElem (by omega)
  rw [e1, take_three bs I (by omega)]
  simp only [List.append_assoc, List.cons_append, List.nil_append]
theorem vals_lt (u : Bool) (l : List UInt8) : ∀ x ∈ vals u l, x < 64 := by
  intro x hx
  obtain ⟨c, _, rfl⟩ := List.mem_map.1 hx
  exact vl_lt u c
theorem vals_append (u : Bool) (l m : List UInt8) : vals u (l ++ m) = vals u l ++ vals u m := by simp [vals]
theorem vals_len (u : Bool) (l : List UInt8) : (vals u l).length = l.length := by simp [vals]

theorem fault_at (n : Int) (w w0 : World) (hb : Below w0.heap.size w0 w) : Calls Tryd.prog 19 #[.int .i64 n] w fun e w' => ∃ v, e = .returned v ∧ FaultAt w0.heap.size n v w' ∧ Below w0.heap.size w0 w' := by
  refine (fault_any n w).mono ?_
  rintro e w' ⟨rfl, rfl⟩
  exact ⟨_, rfl, ⟨w.heap.size, rfl, hb.size, heap_alloc_new _ _⟩, hb.alloc hb.size _⟩
theorem rest_str (s : ByteArray) (W : Nat) (_h : W ≤ s.size) : s.extract W s.size = ⟨(s.data.toList.drop W).toArray⟩ := by
  apply ByteArray.ext
  rw [ByteArray.data_extract]
  apply Array.ext'
  simp
  rw [List.take_of_length_le (by simp)]

set_option maxHeartbeats 8000000 in
theorem decode_any (s : ByteArray) (u : Bool) (w : World) (hs : s.size ≤ 140737488351232) :
    Calls Tryd.prog 10 #[.string s, .bool u] w fun e w' => ∃ v x, e = .returned (.tuple #[v, x]) ∧ Below w.heap.size w w' ∧
      ((faultAt u s.data.toList ≠ -1 ∧ v = .slice none 0 0 ∧ FaultAt w.heap.size (faultAt u s.data.toList) x w') ∨ (faultAt u s.data.toList = -1 ∧ x = .nilIface ∧ RowB w.heap.size w' v (dec (vals u s.data.toList)))) := by
  obtain ⟨l, hl⟩ : ∃ l, s.data.toList = l := ⟨_, rfl⟩
  have HL : Hid (s.data.toList = l) := hl
  have hll : l.length = s.size := by rw [← hl]; simp
  have HLL : Hid (l.length = s.size) := hll
  rw [hl]
  clear hl hll
  obtain ⟨F, hF⟩ : ∃ F, faultAt u l = F := ⟨_, rfl⟩
  have HF : Hid (faultAt u l = F) := hF
  rw [hF]
  clear hF
  go_enter Tryd.func10, Tryd.ntmps10
  go_wp2_with (go_at_call 13; refine (abcOf_any u _).mono ?_; rintro e w1 ⟨rfl, hw1⟩; replace hw1 := hw1.symm; subst hw1)
  go_loopw [18] (fun x wr => ∃ k : Nat, x = .int .i64 (k : Int) ∧ k ≤ s.size ∧ wr = w ∧ Hid (bad u (l.drop k) k = bad u l 0)) (fun x _ => s.size - numOf x)
  case atStart => exact ⟨0, rfl, Nat.zero_le _, rfl, rfl⟩
  case round =>
    obtain ⟨k, rfl, hk, hwr, HK⟩ := hrel
    replace hwr := hwr.symm
    subst hwr
    by_cases hlt : k < s.size
    · have hlt' : (k : Int) < (s.size : Int) := by omega
      have hkl : k < l.length := by rw [HLL.out]; exact hlt
      have hd0 : s[k] = l[k] := by
        have h1 := get_list s k hlt (by rw [HL.out]; exact hkl)
        rw [h1]
        have h2 := HL.out
        subst h2
        rfl
      have hhit := bad_hit u l k hkl
      have hnext := bad_next u l k hkl
      obtain ⟨d, hd⟩ : ∃ d, l[k] = d := ⟨_, rfl⟩
      rw [hd] at hd0 hhit hnext
      have cw := fun W' => wo_any u d W'
      obtain ⟨V, hV⟩ : ∃ V, wo u d = V := ⟨_, rfl⟩
      have hVb := wo_cases u d
      rw [hV] at cw hhit hnext hVb
      have hV2 : V < 64 := by omega
      have hV3 : -1 ≤ V := by omega
      clear hd hV hVb
      by_cases hneg : V < 0
      · have HE : Hid (F = (k : Int)) := by
          show _ = _
          rw [← HF.out]
          have h1 := (HK.out.symm.trans (hhit hneg))
          unfold faultAt
          rw [h1, if_pos (by omega)]
        clear hhit hnext
        go_wp2_with (first
          | (go_at_call 18; refine (cw _).mono ?_; rintro e w1 ⟨rfl, hw1⟩; replace hw1 := hw1.symm; subst hw1)
          | (go_at_call 19; refine (fault_at _ _ _ (Below.refl _ _)).mono ?_; rintro e w2 ⟨v2, rfl, hf2, hb2⟩))
        go_ret2
        rw [HE.out]
        exact ⟨_, _, rfl, hb2, .inl ⟨by omega, rfl, hf2⟩⟩
      · have HE : Hid (bad u (l.drop (k + 1)) (k + 1) = bad u l 0) := by
          show _ = _
          rw [← HK.out]
          exact (hnext hneg).symm
        clear hhit hnext
        go_wp2_with (go_at_call 18; refine (cw _).mono ?_; rintro e w1 ⟨rfl, hw1⟩; replace hw1 := hw1.symm; subst hw1)
        go_roundw
        case rel => exact ⟨k + 1, by go_num, by omega, by first | trivial | rfl, HE⟩
        case measure => simp [numOf]; omega
    · have hlt' : ¬ (k : Int) < (s.size : Int) := by omega
      have HB : Hid (bad u l 0 = -1) := by
        show _ = _
        rw [← HK.out, bad_end u l k (by rw [HLL.out]; exact hlt)]
      clear HK
      obtain ⟨R, hR⟩ : ∃ R, s.size % 4 = R := ⟨_, rfl⟩
      have hR4 : R < 4 := by omega
      have r1 : Int.tmod (s.size : Int) 4 = (R : Int) := by rw [Int.tmod_eq_emod_of_nonneg (by omega)]; omega
      have r2 : (s.size : Int) % 4 = (R : Int) := by omega
      by_cases hR1 : R = 1
      · have hR2 : ((R : Int) == 1) = true := by simp [hR1]
        have HE : Hid (F = (s.size : Int) - 1) := by
          show _ = _
          rw [← HF.out]
          unfold faultAt
          rw [HB.out, if_neg (by simp), HLL.out, if_pos (by omega)]
        have hpos : 1 ≤ s.size := by omega
        clear hR hR1
        go_wp2_with (go_at_call 19; refine (fault_at _ _ _ (Below.refl _ _)).mono ?_; rintro e w2 ⟨v2, rfl, hf2, hb2⟩)
        go_ret2
        rw [HE.out]
        exact ⟨_, _, rfl, hb2, .inl ⟨by omega, rfl, hf2⟩⟩
      · have hR2 : ((R : Int) == 1) = false := by simp; omega
        obtain ⟨W, hW⟩ : ∃ W, s.size - R = W := ⟨_, rfl⟩
        have r3 : (s.size : Int) - (R : Int) = (W : Int) := by omega
        have r4 : (s.size : Int) - (W : Int) = (R : Int) := by omega
        have hWs : W ≤ s.size := by omega
        have HW : Hid (W % 4 = 0 ∧ W + R = s.size) := ⟨by omega, by omega⟩
        obtain ⟨rs, hrs⟩ : ∃ rs, l.drop W = rs := ⟨_, rfl⟩
        have hrl : rs.length = R := by rw [← hrs, List.length_drop, HLL.out]; omega
        have hgood : ∀ c ∈ l, 0 ≤ wo u c := none_bad u l 0 HB.out
        have HG : Hid (∀ c ∈ l, 0 ≤ wo u c) := hgood
        have hex : s.extract W s.size = ⟨rs.toArray⟩ := by rw [rest_str s W hWs, HL.out, hrs]
        have c20 := fun W' => letters_any u rs W' (by omega) (by omega) (fun c hc => hgood c (by rw [← hrs] at hc; exact List.mem_of_mem_drop hc))
        have hlv := vals_len u rs
        have hvl := vals_lt u rs
        have c22 := fun W' => filling_any (vals u rs) W' hvl (by omega) (by omega)
        have h4z := fil4_zero (vals u rs) hvl (by omega) (by omega)
        have hb4 := rest4_lt (vals u rs) hvl
        have hbr := byts_rest (vals u rs) hvl (by omega) (by omega)
        rw [hlv, hrl] at c22 hbr
        have c21 := fun W' => bytesLen_any R W' (by omega)
        rw [show R / 4 * 3 + R % 4 * 6 / 8 = R * 6 / 8 by omega] at c21
        obtain ⟨RB, hRB⟩ : ∃ RB, R * 6 / 8 = RB := ⟨_, rfl⟩
        rw [hRB] at c21 c22 hbr
        have hRB3 : RB ≤ 3 := by omega
        obtain ⟨B, hB⟩ : ∃ B, rest4 (vals u rs) = B := ⟨_, rfl⟩
        rw [hB] at c20 c22 hb4 hbr
        obtain ⟨Z, hZ⟩ : ∃ Z, fil4 (vals u rs) = Z := ⟨_, rfl⟩
        rw [hZ] at c22 h4z
        have hsplit : vals u l = vals u (l.take W) ++ vals u rs := by rw [← hrs, ← vals_append, List.take_append_drop]
        have htw : (vals u (l.take W)).length % 4 = 0 := by rw [vals_len, List.length_take, HLL.out]; have := HW.out; omega
        have HD : Hid (dec (vals u l) = dec (vals u (l.take W)) ++ byts B RB) := by show _ = _; rw [hsplit, dec_append _ _ htw, hbr]
        have HZ : Hid (fill (vals u l) = 0 ↔ Z = 0) := by
          show _ ↔ _
          rw [hsplit, fill_append _ _ htw]
          exact h4z.symm
        clear hsplit htw h4z hbr hvl hlv hB hZ hRB hrl hgood hR hW hrs
        by_cases hZ0 : Z = 0
        · have HE : Hid (F = -1) := by
            show _ = _
            rw [← HF.out]
            unfold faultAt
            rw [HB.out, if_neg (by simp), HLL.out, if_neg (by have := HW.out; omega), if_neg (fun h => h (HZ.out.2 hZ0))]
          subst hZ0
          clear hR1
          have hZ1 : (((0 : Nat) : Int) != 0) = false := by decide
          obtain ⟨C, hC⟩ : ∃ C, s.size / 4 * 3 + s.size % 4 * 6 / 8 = C := ⟨_, rfl⟩
          have hCb : C ≤ 281474976710656 := by omega
          have c21n := fun W' => bytesLen_any s.size W' (by omega)
          rw [hC] at c21n
          clear hC
          go_wp2_with (first
            | (go_at_call 20; refine (c20 _).mono ?_; rintro e w1 ⟨rfl, m, hw1⟩; subst hw1; obtain ⟨M, hmk, hrow0⟩ := made w.heap.size (w.drewN m) C hCb (by simp))
            | (go_at_call 21; with_reducible refine (c21 _).mono ?_; rintro e w1 ⟨rfl, hw1⟩; replace hw1 := hw1.symm; subst hw1)
            | (go_at_call 21; with_reducible refine (c21n _).mono ?_; rintro e w1 ⟨rfl, hw1⟩; replace hw1 := hw1.symm; subst hw1)
            | (go_at_call 22; refine (c22 _).mono ?_; rintro e w1 ⟨rfl, hw1⟩; replace hw1 := hw1.symm; subst hw1))
          clear hmk c20 c21 c21n c22
          go_loopw [11, 12] (fun x y wx => ∃ I : Nat, y = .int .i64 (I : Int) ∧ I ≤ W ∧ Hid (I % 4 = 0) ∧ RowB w.heap.size wx x (dec (vals u (l.take I))) ∧ Below w.heap.size w wx) (fun _ y _ => W - numOf y)
          case atStart => exact ⟨0, rfl, Nat.zero_le _, rfl, hrow0, (below_drewN (Below.refl _ _) _).alloc (by simp) _⟩
          case round =>
            obtain ⟨I, rfl, hI, HI, hrw, hb⟩ := hrel
            clear hrow0
            have hsw := hb.size
            have hdl : (dec (vals u (l.take I))).length ≤ 120000000000000 := by rw [dec_len, vals_len, List.length_take, HLL.out]; omega
            by_cases hlt2 : I < W
            · have hlt2' : (I : Int) < (W : Int) := by omega
              have hI4 : I + 4 ≤ W := by have h1 := HI.out; have h2 := HW.out; omega
              have hnl : l.length = s.size := HLL.out
              have ht := take_four l I (by omega)
              have gg : ∀ (i : Nat) (h : i < s.size), s[i] = l[i]'(by omega) := by
                intro i h
                have h1 := get_list s i h (by rw [HL.out]; omega)
                rw [h1]
                have h2 := HL.out
                subst h2
                rfl
              have g0 := gg I (by omega)
              have g1 := gg (I + 1) (by omega)
              have g2 := gg (I + 2) (by omega)
              have g3 := gg (I + 3) (by omega)
              have w0 : 0 ≤ wo u (l[I]'(by omega)) := HG.out _ (List.getElem_mem _)
              have w1 : 0 ≤ wo u (l[I + 1]'(by omega)) := HG.out _ (List.getElem_mem _)
              have w2 : 0 ≤ wo u (l[I + 2]'(by omega)) := HG.out _ (List.getElem_mem _)
              have w3 : 0 ≤ wo u (l[I + 3]'(by omega)) := HG.out _ (List.getElem_mem _)
              obtain ⟨x0, hx0⟩ : ∃ x, l[I]'(by omega) = x := ⟨_, rfl⟩
              obtain ⟨x1, hx1⟩ : ∃ x, l[I + 1]'(by omega) = x := ⟨_, rfl⟩
              obtain ⟨x2, hx2⟩ : ∃ x, l[I + 2]'(by omega) = x := ⟨_, rfl⟩
              obtain ⟨x3, hx3⟩ : ∃ x, l[I + 3]'(by omega) = x := ⟨_, rfl⟩
              rw [hx0, hx1, hx2, hx3] at ht
              rw [hx0] at g0 w0
              rw [hx1] at g1 w1
              rw [hx2] at g2 w2
              rw [hx3] at g3 w3
              have c0 := fun W' => value_any u x0 W' w0
              have c1 := fun W' => value_any u x1 W' w1
              have c2 := fun W' => value_any u x2 W' w2
              have c3 := fun W' => value_any u x3 W' w3
              have l0 := vl_lt u x0
              have l1 := vl_lt u x1
              have l2 := vl_lt u x2
              have l3 := vl_lt u x3
              have HT : Hid (dec (vals u (l.take (I + 4))) = dec (vals u (l.take I)) ++ byts (262144 * vl u x0 + 4096 * vl u x1 + 64 * vl u x2 + vl u x3) 3) := by
                show _ = _
                rw [byts_three _ _ _ _ l0 l1 l2 l3, ht, vals_append, dec_append]
                · rfl
                · rw [vals_len, List.length_take, HLL.out]
                  have h1 := HI.out
                  omega
              obtain ⟨v0, hv0⟩ : ∃ v, vl u x0 = v := ⟨_, rfl⟩
              obtain ⟨v1, hv1⟩ : ∃ v, vl u x1 = v := ⟨_, rfl⟩
              obtain ⟨v2, hv2⟩ : ∃ v, vl u x2 = v := ⟨_, rfl⟩
              obtain ⟨v3, hv3⟩ : ∃ v, vl u x3 = v := ⟨_, rfl⟩
              rw [hv0] at c0 l0
              rw [hv1] at c1 l1
              rw [hv2] at c2 l2
              rw [hv3] at c3 l3
              rw [hv0, hv1, hv2, hv3] at HT
              obtain ⟨q0, hq0⟩ : ∃ q, x0.toNat = q := ⟨_, rfl⟩
              obtain ⟨q1, hq1⟩ : ∃ q, x1.toNat = q := ⟨_, rfl⟩
              obtain ⟨q2, hq2⟩ : ∃ q, x2.toNat = q := ⟨_, rfl⟩
              obtain ⟨q3, hq3⟩ : ∃ q, x3.toNat = q := ⟨_, rfl⟩
              rw [hq0] at c0
              rw [hq1] at c1
              rw [hq2] at c2
              rw [hq3] at c3
              obtain ⟨I1, hI1⟩ : ∃ I1, I + 1 = I1 := ⟨_, rfl⟩
              obtain ⟨I2, hI2⟩ : ∃ I2, I + 2 = I2 := ⟨_, rfl⟩
              obtain ⟨I3, hI3⟩ : ∃ I3, I + 3 = I3 := ⟨_, rfl⟩
              have p0 : I < s.size := by omega
              have p1 : I1 < s.size := by omega
              have p2 : I2 < s.size := by omega
              have p3 : I3 < s.size := by omega
              have y0 : (s[I]'p0).toNat = q0 := by rw [g0]; exact hq0
              have y1 : (s[I1]'p1).toNat = q1 := by subst hI1; rw [g1]; exact hq1
              have y2 : (s[I2]'p2).toNat = q2 := by subst hI2; rw [g2]; exact hq2
              have y3 : (s[I3]'p3).toNat = q3 := by subst hI3; rw [g3]; exact hq3
              have j1 : (I : Int) + 1 = (I1 : Int) := by omega
              have j2 : (I : Int) + 2 = (I2 : Int) := by omega
              have j3 : (I : Int) + 3 = (I3 : Int) := by omega
              have b0 : (I : Int) < (s.size : Int) := by omega
              have b1 : (I1 : Int) < (s.size : Int) := by omega
              have b2 : (I2 : Int) < (s.size : Int) := by omega
              have b3 : (I3 : Int) < (s.size : Int) := by omega
              clear hI1 hI2 hI3 hq0 hq1 hq2 hq3 g0 g1 g2 g3 gg w0 w1 w2 w3 hv0 hv1 hv2 hv3 hx0 hx1 hx2 hx3 ht hnl
              obtain ⟨X0, hX0⟩ : ∃ X, 262144 * v0 = X := ⟨_, rfl⟩
              obtain ⟨X1, hX1⟩ : ∃ X, 4096 * v1 = X := ⟨_, rfl⟩
              obtain ⟨X2, hX2⟩ : ∃ X, 64 * v2 = X := ⟨_, rfl⟩
              obtain ⟨Z1, hZ1'⟩ : ∃ Z, X0 + X1 = Z := ⟨_, rfl⟩
              obtain ⟨Z2, hZ2⟩ : ∃ Z, Z1 + X2 = Z := ⟨_, rfl⟩
              obtain ⟨Z3, hZ3⟩ : ∃ Z, Z2 + v3 = Z := ⟨_, rfl⟩
              have m1 : (v0 : Int) * 262144 = (X0 : Int) := by omega
              have m2 : (v1 : Int) * 4096 = (X1 : Int) := by omega
              have m3 : (v2 : Int) * 64 = (X2 : Int) := by omega
              have m4 : IntKind.u32.wrap (X0 : Int) = (X0 : Int) := by rw [IntKind.wrap_u32']; omega
              have m5 : IntKind.u32.wrap (X1 : Int) = (X1 : Int) := by rw [IntKind.wrap_u32']; omega
              have m6 : IntKind.u32.wrap (X2 : Int) = (X2 : Int) := by rw [IntKind.wrap_u32']; omega
              have m7 : bits .or .u32 (X0 : Int) (X1 : Int) = (Z1 : Int) := or32 18 v0 X1 X0 Z1 (by omega) (by omega) (by omega) (by omega)
              have m8 : bits .or .u32 (Z1 : Int) (X2 : Int) = (Z2 : Int) := or32 12 (64 * v0 + v1) X2 Z1 Z2 (by omega) (by omega) (by omega) (by omega)
              have m9 : bits .or .u32 (Z2 : Int) (v3 : Int) = (Z3 : Int) := or32 6 (4096 * v0 + 64 * v1 + v2) v3 Z2 Z3 (by omega) (by omega) (by omega) (by omega)
              have hX0b : X0 < 16777216 := by omega
              have hX1b : X1 < 16777216 := by omega
              have hX2b : X2 < 16777216 := by omega
              have hZ3b : Z3 < 16777216 := by omega
              rw [hX0, hX1, hX2, hZ1', hZ2, hZ3] at HT
              clear hX0 hX1 hX2 hZ1' hZ2 hZ3
              go_wp2
              go_quiet (first
                | (go_at_call 23; with_reducible refine Calls.quiet_of_same (c0 _))
                | (go_at_call 23; with_reducible refine Calls.quiet_of_same (c1 _))
                | (go_at_call 23; with_reducible refine Calls.quiet_of_same (c2 _))
                | (go_at_call 23; with_reducible refine Calls.quiet_of_same (c3 _)))
              go_wp2_with (go_at_call 24; refine (appB_any w.heap.size _ _ _ Z3 3 (RowB.kept hrw (below_drewN (Below.refl _ _) _)) (by simp; omega) hZ3b (by omega) (by omega)).mono ?_; rintro e w2 ⟨vv, rfl, hr2, hb2⟩)
              have hr3 : RowB w.heap.size w2 vv (dec (vals u (l.take (I + 4)))) := by rw [HT.out]; exact hr2
              have hb3 : Below w.heap.size w w2 := (below_drewN hb _).trans hb2
              go_roundw
              case rel => exact ⟨I + 4, by go_num, hI4, by have h1 := HI.out; show _ = _; omega, hr3, hb3⟩
              case measure => simp [numOf]; omega
            · have hlt2' : ¬ (I : Int) < (W : Int) := by omega
              have hIW : I = W := by omega
              rw [hIW] at hrw hdl
              clear hIW
              go_wp2_with (go_at_call 24; refine (appB_any w.heap.size _ _ _ B RB hrw (by omega) hb4 hRB3 (by omega)).mono ?_; rintro e w2 ⟨vv, rfl, hr2, hb2⟩)
              go_ret2
              rw [HE.out]
              exact ⟨_, _, rfl, hb.trans hb2, .inr ⟨rfl, rfl, by rw [HD.out]; exact hr2⟩⟩
        · have hZ1 : ((Z : Int) != 0) = true := by simp; omega
          have HE : Hid (F = (s.size : Int) - 1) := by
            show _ = _
            rw [← HF.out]
            unfold faultAt
            rw [HB.out, if_neg (by simp), HLL.out, if_neg (by have := HW.out; omega), if_pos (by rw [ne_eq, HZ.out]; exact hZ0)]
          have hpos : 1 ≤ s.size := by
            have h1 := fill_len (vals u l) (by rw [ne_eq, HZ.out]; exact hZ0)
            rw [vals_len, HLL.out] at h1
            exact h1
          clear hR1 hZ0
          go_wp2_with (first
            | (go_at_call 20; refine (c20 _).mono ?_; rintro e w1 ⟨rfl, m, hw1⟩; subst hw1)
            | (go_at_call 21; refine (c21 _).mono ?_; rintro e w1 ⟨rfl, hw1⟩; replace hw1 := hw1.symm; subst hw1)
            | (go_at_call 22; refine (c22 _).mono ?_; rintro e w1 ⟨rfl, hw1⟩; replace hw1 := hw1.symm; subst hw1)
            | (go_at_call 19; refine (fault_at _ _ w (below_drewN (Below.refl _ _) _)).mono ?_; rintro e w2 ⟨v2, rfl, hf2, hb2⟩))
          go_ret2
          rw [HE.out]
          exact ⟨_, _, rfl, hb2, .inl ⟨by omega, rfl, hf2⟩⟩
end Bw
end Go.Proofs.YtbbgkocdmebikaaDoor
