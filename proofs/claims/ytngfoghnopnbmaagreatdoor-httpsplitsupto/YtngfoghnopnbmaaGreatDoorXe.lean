/- The reference's piece of a target, and its Split. -/
import Derived.Test.YtngfoghnopnbmaaGreatDoorYa
import Derived.Test.YtngfoghnopnbmaaGreatDoorSu
import Derived.Test.YtngfoghnopnbmaaGreatDoorXa
import Derived.Deep.RegionHeld3
namespace Go.Proofs.YtngfoghnopnbmaaGreatDoor
open Go.RowKit
namespace Ht
open Bw

/-- A digit's worth; -1: it is none. -/
def hexM (c : UInt8) : Int := if hxB c = true then dvN c else -1
set_option maxRecDepth 20000 in
set_option maxHeartbeats 2000000 in
theorem hex85 (c : UInt8) (w : World) : Calls Tryz.prog 85 #[.int .u8 (c.toNat : Int)] w fun e w' => e = .returned (.int .i64 (hexM c)) ∧ w' = w := by
  have e0 : hexM c = if 48 ≤ c.toNat ∧ c.toNat ≤ 57 then (c.toNat : Int) - 48 else if 97 ≤ c.toNat ∧ c.toNat ≤ 102 then (c.toNat : Int) - 97 + 10 else if 65 ≤ c.toNat ∧ c.toNat ≤ 70 then (c.toNat : Int) - 65 + 10 else -1 := by
    unfold hexM dvN hxB dgB grB inB
    simp only [Bool.or_eq_true, Bool.and_eq_true, decide_eq_true_eq]
    repeat' split
    all_goals omega
  rw [e0]
  have hl : c.toNat < 256 := UInt8.toNat_lt c
  obtain ⟨x, hx⟩ : ∃ x, c.toNat = x := ⟨_, rfl⟩
  rw [hx] at hl ⊢
  clear e0 hx
  by_cases h1 : 48 ≤ x ∧ x ≤ 57
  · rw [if_pos h1]
    have w1 : IntKind.u8.wrap ((x : Int) - 48) = (x : Int) - 48 := by rw [IntKind.wrap_u8]; omega
    have a1 : (48 : Int) ≤ (x : Int) := by omega
    have a2 : (x : Int) ≤ 57 := by omega
    go_enter Tryz.func85, Tryz.ntmps85
    go_wp2
    go_ret
    exact ⟨rfl, rfl⟩
  · rw [if_neg h1]
    by_cases h2 : 97 ≤ x ∧ x ≤ 102
    · rw [if_pos h2]
      have w1 : IntKind.u8.wrap ((x : Int) - 97) = (x : Int) - 97 := by rw [IntKind.wrap_u8]; omega
      have a1 : (97 : Int) ≤ (x : Int) := by omega
      have a2 : (x : Int) ≤ 102 := by omega
      have a3 : (48 : Int) ≤ (x : Int) := by omega
      have a4 : ¬ (x : Int) ≤ 57 := by omega
      go_enter Tryz.func85, Tryz.ntmps85
      go_wp2
      go_ret
      exact ⟨rfl, rfl⟩
    · rw [if_neg h2]
      by_cases h3 : 65 ≤ x ∧ x ≤ 70
      · rw [if_pos h3]
        have w1 : IntKind.u8.wrap ((x : Int) - 65) = (x : Int) - 65 := by rw [IntKind.wrap_u8]; omega
        have a1 : (65 : Int) ≤ (x : Int) := by omega
        have a2 : (x : Int) ≤ 70 := by omega
        have a3 : (48 : Int) ≤ (x : Int) := by omega
        have a4 : ¬ (x : Int) ≤ 57 := by omega
        have a5 : ¬ (97 : Int) ≤ (x : Int) := by omega
        go_enter Tryz.func85, Tryz.ntmps85
        go_wp2
        go_ret
        exact ⟨rfl, rfl⟩
      · rw [if_neg h3]
        have hc : (x < 48) ∨ (57 < x ∧ x < 65) ∨ (70 < x ∧ x < 97) ∨ 102 < x := by omega
        rcases hc with hc | hc | hc | hc
        · have a1 : ¬ (48 : Int) ≤ (x : Int) := by omega
          have a2 : ¬ (97 : Int) ≤ (x : Int) := by omega
          have a3 : ¬ (65 : Int) ≤ (x : Int) := by omega
          go_enter Tryz.func85, Tryz.ntmps85
          go_wp2
          go_ret
          exact ⟨rfl, rfl⟩
        · have a1 : (48 : Int) ≤ (x : Int) := by omega
          have a4 : ¬ (x : Int) ≤ 57 := by omega
          have a2 : ¬ (97 : Int) ≤ (x : Int) := by omega
          have a3 : ¬ (65 : Int) ≤ (x : Int) := by omega
          go_enter Tryz.func85, Tryz.ntmps85
          go_wp2
          go_ret
          exact ⟨rfl, rfl⟩
        · have a1 : (48 : Int) ≤ (x : Int) := by omega
          have a4 : ¬ (x : Int) ≤ 57 := by omega
          have a2 : ¬ (97 : Int) ≤ (x : Int) := by omega
          have a3 : (65 : Int) ≤ (x : Int) := by omega
          have a5 : ¬ (x : Int) ≤ 70 := by omega
          go_enter Tryz.func85, Tryz.ntmps85
          go_wp2
          go_ret
          exact ⟨rfl, rfl⟩
        · have a1 : (48 : Int) ≤ (x : Int) := by omega
          have a4 : ¬ (x : Int) ≤ 57 := by omega
          have a2 : (97 : Int) ≤ (x : Int) := by omega
          have a6 : ¬ (x : Int) ≤ 102 := by omega
          have a3 : (65 : Int) ≤ (x : Int) := by omega
          have a5 : ¬ (x : Int) ≤ 70 := by omega
          go_enter Tryz.func85, Tryz.ntmps85
          go_wp2
          go_ret
          exact ⟨rfl, rfl⟩
/-- How the reference's piece ends. -/
def RpOut (r : Except (Nat × Int) (List UInt8 × Nat)) (w : World) (e : Ending) (w' : World) : Prop :=
  Below w.heap.size w w' ∧ match r with
  | .ok (t, q) => e = .returned (.tuple #[.string ⟨t.toArray⟩, .int .i64 (q : Int), .int .i64 0, .int .i64 0])
  | .error (p, c) => e = .returned (.tuple #[.string ⟨#[]⟩, .int .i64 0, .int .i64 c, .int .i64 (p : Int)])
theorem RpOut.bad {w W : World} {p : Nat} {c : Int} {r : Except (Nat × Int) (List UInt8 × Nat)} (hm : r = .error (p, c)) (hb : Below w.heap.size w W) : RpOut r w (.returned (.tuple #[.string ⟨#[]⟩, .int .i64 0, .int .i64 c, .int .i64 (p : Int)])) W := by
  subst hm
  exact ⟨hb, rfl⟩
theorem RpOut.good {w W : World} {q : Nat} {t : List UInt8} {r : Except (Nat × Int) (List UInt8 × Nat)} (hm : r = .ok (t, q)) (hb : Below w.heap.size w W) : RpOut r w (.returned (.tuple #[.string ⟨t.toArray⟩, .int .i64 (q : Int), .int .i64 0, .int .i64 0])) W := by
  subst hm
  exact ⟨hb, rfl⟩
theorem snd_bad (t : List UInt8) : (sndB t = true ∧ badAt ⟨t.toArray⟩ 0 = -1) ∨ (sndB t = false ∧ 0 ≤ badAt ⟨t.toArray⟩ 0) := by
  have h := badAt_bd ⟨t.toArray⟩
  unfold sndB
  by_cases h1 : badAt ⟨t.toArray⟩ 0 = -1
  · left; exact ⟨by simpa using h1, h1⟩
  · right; exact ⟨by simpa using h1, by omega⟩
theorem mem_take {l : List UInt8} {j : Nat} (h : j < l.length) (c : UInt8) : decide (c ∈ l.take (j + 1)) = (decide (c ∈ l.take j) || decide (l[j] = c)) := by
  rw [List.take_succ_eq_append_getElem h, Bool.eq_iff_iff]
  simp only [List.mem_append, List.mem_singleton, decide_eq_true_eq, Bool.or_eq_true]
  constructor
  · rintro (h | h)
    · exact .inl h
    · exact .inr h.symm
  · rintro (h | h)
    · exact .inl h
    · exact .inr h.symm
theorem res50 {tmps : Array Value} {a b c d : Value} {w : World} (h6 : tmps[6]? = some a) (h7 : tmps[7]? = some b) (h8 : tmps[8]? = some c) (h9 : tmps[9]? = some d) : (results Tryz.f50 tmps).run Tryz.prog w = .ok (.tuple #[a, b, c, d]) w := by
  simp only [results, Tryz.results50]
  simp [go_sem, h6, h7, h8, h9]
theorem rc_bad {c : UInt8} (r : List UInt8) (h : ¬ (tgB c = true ∧ c ≠ 35)) : rcM (c :: r) = none := by
  simp only [rcM]
  rw [if_neg h]
theorem rc_plain {c : UInt8} (r : List UInt8) (h : tgB c = true ∧ c ≠ 35) (h37 : c ≠ 37) : rcM (c :: r) = some (c, 1) := by
  simp only [rcM]
  rw [if_pos h, if_pos h37]
theorem rc_short {r : List UInt8} (h : r.length < 2) : rcM (37 :: r) = none := by
  match r, h with
  | [], _ => simp [rcM]
  | [_], _ => simp [rcM]
  | _ :: _ :: _, h => simp at h; omega
theorem rc_no (a b : UInt8) (r : List UInt8) (h : ¬ (hxB a = true ∧ hxB b = true)) : rcM (37 :: a :: b :: r) = none := by
  simp only [rcM]
  rw [if_neg h]
  simp
theorem rc_two (a b : UInt8) (r : List UInt8) (h : hxB a = true ∧ hxB b = true) : rcM (37 :: a :: b :: r) = some (UInt8.ofNat ((dvN a).toNat * 16 + (dvN b).toNat), 3) := by
  simp only [rcM]
  rw [if_pos h]
  rw [if_pos (by decide), if_neg (by decide)]
section
variable {w : World}
set_option maxRecDepth 20000 in
set_option maxHeartbeats 16000000 in
theorem piece50 (s : ByteArray) (p : Nat) (hp : p ≤ s.size) (hs : s.size ≤ 1000000000) (E : ByteArray) (hE : E.size ≤ 1000) : Calls Tryz.prog 50 #[.string s, .int .i64 (p : Int), .string E] w fun e w' => RpOut (pieceM s.data.toList p E.data.toList) w e w' := by
  obtain ⟨i0, hi, hz0, hz1, hz2⟩ := info_parts info5
  have HSZ : Hid (s.size = s.data.toList.length) := Lib.size_eq s
  have HEZ : Hid (E.size = E.data.toList.length) := Lib.size_eq E
  obtain ⟨R, hR⟩ : ∃ R, pcM E.data.toList (s.size - p) (s.data.toList.drop p) [] 0 = R := ⟨_, rfl⟩
  have HR : Hid (pcM E.data.toList (s.size - p) (s.data.toList.drop p) [] 0 = R) := hR
  obtain ⟨O, hO⟩ : ∃ O, pieceM s.data.toList p E.data.toList = O := ⟨_, rfl⟩
  have HP : Hid (O = pieceF p R) := by
    show _ = _
    rw [← hO]
    unfold pieceM
    rw [← HSZ.out, hR]
  rw [hO]
  clear hR hO
  go_enter Tryz.func50, Tryz.ntmps50
  go_wp2
  go_loopw [1, 11] (fun k u w' => ∃ (n : Nat) (acc : List UInt8), k = .int .i64 (n : Int) ∧ p ≤ n ∧ n ≤ s.size ∧ acc.length ≤ n ∧ RowB w.heap.size w' u acc ∧ Below w.heap.size w w' ∧ Hid (pcM E.data.toList (s.size - n) (s.data.toList.drop n) acc (n - p) = R)) (fun k _ _ => s.size - numOf k)
  case atStart => exact ⟨p, [], rfl, Nat.le_refl _, hp, Nat.zero_le _, RowB.nil _ _, Below.refl _ _, by rw [Nat.sub_self]; exact HR⟩
  case round =>
    obtain ⟨n, acc, rfl, hpn, hn, hacc, hrow, hbw, HK⟩ := hrel
    have hsz := hbw.size
    obtain ⟨va, vl, vc, rfl⟩ : ∃ va vl vc, u11 = .slice va vl vc := by obtain ⟨a, c, e⟩ := hrow.form; exact ⟨_, _, _, e⟩
    have HROW : Hid (RowB w.heap.size wr (.slice va vl vc) acc ∧ Below w.heap.size w wr) := ⟨hrow, hbw⟩
    have hcv := conv_sl hrow.slm
    have q30 := RefW.Bad_any ⟨acc.toArray⟩ wr (by rw [Lib.size_eq]; simp; omega)
    have HC : Hid (∀ W, Below wr.heap.size wr W → (convert 29 9 (.slice va vl vc)).run Tryz.prog W = .ok (.string ⟨acc.toArray⟩) W) := fun W hW => conv_sl (RowB.kept hrow hW).slm
    obtain ⟨B, hB⟩ : ∃ B, badAt ⟨acc.toArray⟩ 0 = B := ⟨_, rfl⟩
    have hsb : (sndB acc = true ∧ B = -1) ∨ (sndB acc = false ∧ 0 ≤ B) := by rw [← hB]; exact snd_bad acc
    rw [hB] at q30
    clear hB hrow hbw
    by_cases hlt : n < s.size
    · have hlt' : (n : Int) < (s.size : Int) := by omega
      have e0 := get_data hlt
      obtain ⟨c, hc⟩ : ∃ c, s[n]'hlt = c := ⟨_, rfl⟩
      have HD : Hid (s.data.toList.drop n = c :: s.data.toList.drop (n + 1)) := by
        have h2 : n < s.data.toList.length := by rw [← HSZ.out]; exact hlt
        rw [hc, List.getElem?_eq_getElem h2] at e0
        show _ = _
        rw [drop_cons h2, Option.some.inj e0]
      clear e0
      have HQ : Hid (Calls Tryz.prog 30 #[.string ⟨acc.toArray⟩] wr fun e w' => e = .returned (.int .i64 B) ∧ Below wr.heap.size wr w') := q30
      have HCV : Hid ((convert 29 9 (.slice va vl vc)).run Tryz.prog wr = .ok (.string ⟨acc.toArray⟩) wr) := hcv
      clear q30 hcv
      go_wp2
      go_loopw [13, 14] (fun b k w' => ∃ j : Nat, k = .int .i64 (j : Int) ∧ j ≤ E.size ∧ b = .bool (decide (c ∈ E.data.toList.take j)) ∧ w' = wr) (fun _ k _ => E.size - numOf k)
      case atStart => exact ⟨0, rfl, Nat.zero_le _, by simp, rfl⟩
      case round =>
        obtain ⟨j, rfl, hj, rfl, rfl⟩ := hrel
        by_cases hjl : j < E.size
        · have hjl' : (j : Int) < (E.size : Int) := by omega
          have hj2 : j < E.data.toList.length := by rw [← HEZ.out]; exact hjl
          obtain ⟨d, hd⟩ : ∃ d, E[j]'hjl = d := ⟨_, rfl⟩
          have HT : Hid (decide (c ∈ E.data.toList.take (j + 1)) = (decide (c ∈ E.data.toList.take j) || ((d.toNat : Int) == (c.toNat : Int)))) := by
            have e0 := get_data hjl
            rw [hd, List.getElem?_eq_getElem hj2] at e0
            show _ = _
            rw [mem_take hj2, Option.some.inj e0]
            congr 1
            rw [Bool.eq_iff_iff]
            simp only [decide_eq_true_eq, beq_iff_eq]
            constructor
            · rintro rfl; rfl
            · intro h; exact UInt8.toNat_inj.1 (by omega)
          obtain ⟨T, hT⟩ : ∃ T, decide (c ∈ E.data.toList.take j) = T := ⟨_, rfl⟩
          rw [hT] at HT ⊢
          clear hT
          cases T with
          | true =>
            go_wp2
            go_roundw
            case rel => exact ⟨j + 1, by simp, hjl, by rw [HT.out]; rfl, trivial⟩
            case measure => simp [numOf]; omega
          | false =>
            go_wp2
            go_roundw
            case rel => exact ⟨j + 1, by simp, hjl, by rw [HT.out]; rfl, trivial⟩
            case measure => simp [numOf]; omega
        · have hjl' : ¬ (j : Int) < (E.size : Int) := by omega
          have hje : E.data.toList.take j = E.data.toList := by rw [List.take_of_length_le]; rw [← HEZ.out]; omega
          rw [hje]
          clear hje
          by_cases hin : c ∈ E.data.toList
          · rw [decide_eq_true hin]
            have HRR : Hid (R = (true, acc, n - p)) := by
              have := HK.out
              rw [HD.out, pc_stop _ _ _ _ _ _ hin (by omega)] at this
              exact this.symm
            have q30 := HQ.out
            have hcv := HCV.out
            clear hin
            rcases hsb with ⟨hsd, rfl⟩ | ⟨hsd, hB0⟩
            · go_wp2_with (go_at_call 30; refine q30.mono ?_; rintro e w3 ⟨rfl, hb3⟩; have hcv3 := HC.out _ hb3)
              refine bodyPost_ret (res50 rfl rfl rfl rfl) rfl ?_
              exact RpOut.good (by rw [HP.out, HRR.out, pieceF, if_pos hsd, Nat.add_sub_cancel' hpn]) (HROW.out.2.trans (hb3.mono hsz))
            · go_wp2_with (go_at_call 30; refine q30.mono ?_; rintro e w3 ⟨rfl, hb3⟩)
              refine bodyPost_ret (res50 rfl rfl rfl rfl) rfl ?_
              exact RpOut.bad (by rw [HP.out, HRR.out, pieceF, if_neg (by rw [hsd]; decide)]) (HROW.out.2.trans (hb3.mono hsz))
          · rw [decide_eq_false hin]
            clear hsb
            have HRN : Hid (rcM (c :: s.data.toList.drop (n + 1)) = none → O = .error (n, 3)) := fun hz => by
              have h1 := HK.out
              rw [HD.out, pc_bad _ _ _ _ _ _ hin hz (by omega)] at h1
              rw [HP.out, ← h1, pieceF, Nat.add_sub_cancel' hpn]
            have HKS : Hid (∀ d z, rcM (c :: s.data.toList.drop (n + 1)) = some (d, z) → n + z ≤ s.size ∧ pcM E.data.toList (s.size - (n + z)) (s.data.toList.drop (n + z)) (acc ++ [d]) (n + z - p) = R) := fun d z hz => by
              have hzb := rc_bd hz
              have hzn : n + z ≤ s.size := by
                have h1 := hzb.2
                rw [← HD.out, List.length_drop, ← HSZ.out] at h1
                omega
              refine ⟨hzn, ?_⟩
              have h1 := HK.out
              have h2 : (s.data.toList.drop (n + 1)).length < s.size - n := by rw [List.length_drop, ← HSZ.out]; omega
              rw [HD.out, pc_go _ _ _ _ _ _ hin hz h2, ← HD.out, List.drop_drop] at h1
              rw [← h1]
              congr 1 <;> omega
            clear hin
            obtain ⟨x, hx⟩ : ∃ x, c.toNat = x := ⟨_, rfl⟩
            have hxl : x < 256 := by rw [← hx]; exact UInt8.toNat_lt _
            have HT : Hid (tgB c = decide (33 ≤ x ∧ x ≤ 126)) := by
              show _ = _
              unfold tgB inB
              rw [hx, Bool.eq_iff_iff]
              simp
            have H35 : Hid (c = 35 ↔ x = 35) := by
              show _ ↔ _
              rw [← hx, ← UInt8.toNat_inj]
              exact Iff.rfl
            have H37 : Hid (c = 37 ↔ x = 37) := by
              show _ ↔ _
              rw [← hx, ← UInt8.toNat_inj]
              exact Iff.rfl
            by_cases hbad : x < 33 ∨ 126 < x ∨ x = 35
            · have HE : Hid (O = .error (n, 3)) := HRN.out (rc_bad _ (by
                rw [HT.out, decide_eq_true_eq]
                intro h
                have h35 : ¬ x = 35 := fun e => h.2 (H35.out.2 e)
                omega))
              clear HRN HKS
              have hcs : (x : Int) < 33 ∨ (¬ (x : Int) < 33 ∧ (126 : Int) < (x : Int)) ∨ (¬ (x : Int) < 33 ∧ ¬ (126 : Int) < (x : Int) ∧ ((x : Int) == 35) = true) := by
                by_cases h1 : x < 33
                · left; omega
                · by_cases h2 : 126 < x
                  · right; left; omega
                  · right; right
                    refine ⟨by omega, by omega, ?_⟩
                    simp; omega
              rcases hcs with h1 | ⟨h1, h2⟩ | ⟨h1, h2, h3⟩
              · go_wp2
                refine bodyPost_ret (res50 rfl rfl rfl rfl) rfl ?_
                exact RpOut.bad HE.out HROW.out.2
              · go_wp2
                refine bodyPost_ret (res50 rfl rfl rfl rfl) rfl ?_
                exact RpOut.bad HE.out HROW.out.2
              · go_wp2
                refine bodyPost_ret (res50 rfl rfl rfl rfl) rfl ?_
                exact RpOut.bad HE.out HROW.out.2
            · have m1 : ¬ (x : Int) < 33 := by omega
              have m2 : ¬ (126 : Int) < (x : Int) := by omega
              have m3 : ((x : Int) == 35) = false := by simp; omega
              have HTG : Hid (tgB c = true ∧ c ≠ 35) := by
                refine ⟨?_, fun e => ?_⟩
                · rw [HT.out, decide_eq_true_eq]; omega
                · have := H35.out.1 e; omega
              by_cases h37 : x = 37
              · have m4 : ((x : Int) == 37) = true := by simp [h37]
                have HC37 : Hid (c = 37) := H37.out.2 h37
                clear h37
                by_cases h3 : s.size ≤ n + 2
                · have h3' : (s.size : Int) ≤ (n : Int) + 2 := by omega
                  have HE : Hid (O = .error (n, 3)) := HRN.out (by rw [HC37.out]; exact rc_short (by rw [List.length_drop, ← HSZ.out]; omega))
                  go_wp2
                  refine bodyPost_ret (res50 rfl rfl rfl rfl) rfl ?_
                  exact RpOut.bad HE.out HROW.out.2
                · have h3' : ¬ (s.size : Int) ≤ (n : Int) + 2 := by omega
                  have h1 : n + 1 < s.size := by omega
                  have h2 : n + 2 < s.size := by omega
                  have h1' : (n : Int) + 1 < (s.size : Int) := by omega
                  have h2' : (n : Int) + 2 < (s.size : Int) := by omega
                  obtain ⟨a, ha⟩ : ∃ a, s[n + 1]'h1 = a := ⟨_, rfl⟩
                  obtain ⟨b, hb⟩ : ∃ b, s[n + 2]'h2 = b := ⟨_, rfl⟩
                  have HDR : Hid (s.data.toList.drop (n + 1) = a :: b :: s.data.toList.drop (n + 3)) := by
                    have k1 : n + 1 < s.data.toList.length := by rw [← HSZ.out]; exact h1
                    have k2 : n + 2 < s.data.toList.length := by rw [← HSZ.out]; exact h2
                    have e1 := get_data h1
                    have e2 := get_data h2
                    rw [ha, List.getElem?_eq_getElem k1] at e1
                    rw [hb, List.getElem?_eq_getElem k2] at e2
                    show _ = _
                    rw [drop_cons k1, Option.some.inj e1, drop_cons k2, Option.some.inj e2]
                  have qa := hex85 a
                  have qb := hex85 b
                  by_cases hA : hxB a = true
                  · by_cases hB : hxB b = true
                    · have ea : hexM a = dvN a := if_pos hA
                      have eb : hexM b = dvN b := if_pos hB
                      have da := dvN_bd hA
                      have db := dvN_bd hB
                      simp only [ea] at qa
                      simp only [eb] at qb
                      have hks := HKS.out _ 3 (by rw [HC37.out, HDR.out]; exact rc_two a b _ ⟨hA, hB⟩)
                      have hD : ((UInt8.ofNat ((dvN a).toNat * 16 + (dvN b).toNat)).toNat : Int) = 16 * dvN a + dvN b := by
                        rw [UInt8.toNat_ofNat']
                        omega
                      obtain ⟨D, hDD⟩ : ∃ D, UInt8.ofNat ((dvN a).toNat * 16 + (dvN b).toNat) = D := ⟨_, rfl⟩
                      rw [hDD] at hD hks
                      obtain ⟨A, hAA⟩ : ∃ A, dvN a = A := ⟨_, rfl⟩
                      obtain ⟨B', hBB⟩ : ∃ A, dvN b = A := ⟨_, rfl⟩
                      rw [hAA] at qa da hD
                      rw [hBB] at qb db hD
                      have hw8 : IntKind.u8.wrap (16 * A + B') = (D.toNat : Int) := wrap8 _ _ hD.symm (by omega) (by omega)
                      have hA0 : ¬ A < 0 := by omega
                      have hB0 : ¬ B' < 0 := by omega
                      have wf3 : IntKind.i64.wrap (16 * A) = 16 * A := by rw [IntKind.wrap_i64]; omega
                      have wf4 : IntKind.i64.wrap (16 * A + B') = 16 * A + B' := by rw [IntKind.wrap_i64]; omega
                      clear hD
                      have HKZ : Hid _ := hks.2
                      have hnz := hks.1
                      clear hks hDD hAA hBB ea eb HRN HKS hA hB
                      obtain ⟨N1, hN1⟩ : ∃ N, n + 1 = N := ⟨_, rfl⟩
                      obtain ⟨N2, hN2⟩ : ∃ N, n + 2 = N := ⟨_, rfl⟩
                      have f1 : (n : Int) + 1 = (N1 : Int) := by omega
                      have f2 : (n : Int) + 2 = (N2 : Int) := by omega
                      have g1 : N1 < s.size := by omega
                      have g2 : N2 < s.size := by omega
                      have g1' : (N1 : Int) < (s.size : Int) := by omega
                      have g2' : (N2 : Int) < (s.size : Int) := by omega
                      have ha' : s[N1]'g1 = a := by subst hN1; exact ha
                      have hb' : s[N2]'g2 = b := by subst hN2; exact hb
                      have g3 : ¬ (s.size : Int) ≤ (N2 : Int) := by omega
                      have wf1 : IntKind.i64.wrap (N1 : Int) = (N1 : Int) := by rw [IntKind.wrap_i64]; omega
                      have wf2 : IntKind.i64.wrap (N2 : Int) = (N2 : Int) := by rw [IntKind.wrap_i64]; omega
                      clear hN1 hN2 ha hb h1' h2' h3'
                      go_wp2_with (first
                        | (have hq := K1; go_at_call 85; refine (qb _).mono ?_; rintro e w1 ⟨rfl, hw⟩; obtain rfl := hw.symm; clear hq)
                        | (go_at_call 85; refine (qa _).mono ?_; rintro e w1 ⟨rfl, hw⟩; obtain rfl := hw.symm; have K1 := trivial))
                      refine wp_region_noPanic ?_
                      refine wp_region_held_drew (S := fun _ => True) (by kernel_rfl) trivial ?_
                      intro hS
                      refine wpAnyH_take (i := 0) (v := .slice va vl vc) rfl (by kernel_rfl) (by kernel_rfl) (by kernel_rfl) (fun _ _ _ h => h) (Or.inl ⟨by kernel_rfl, fun wq hS => by clear hS; go_simp⟩) hS ?_
                      try simp only [Act.put, List.getElem_toArray, List.getElem_cons_zero, List.setIfInBounds_toArray, List.set_cons_zero, List.set_cons_succ]
                      refine wpAnyH_take (i := 1) (v := .string s) rfl (by kernel_rfl) (by kernel_rfl) (by kernel_rfl) (fun _ _ _ h => h) (Or.inl ⟨by kernel_rfl, fun wq hS => by clear hS; go_simp⟩) hS ?_
                      try simp only [Act.put, List.getElem_toArray, List.getElem_cons_succ, List.getElem_cons_zero, List.setIfInBounds_toArray, List.set_cons_zero, List.set_cons_succ]
                      refine wpAnyH_take (i := 2) (v := .int .i64 (n : Int)) rfl (by kernel_rfl) (by kernel_rfl) (by kernel_rfl) (fun _ _ _ h => h) (Or.inl ⟨by kernel_rfl, fun wq hS => by clear hS; go_simp⟩) hS ?_
                      try simp only [Act.put, List.getElem_toArray, List.getElem_cons_succ, List.getElem_cons_zero, List.setIfInBounds_toArray, List.set_cons_zero, List.set_cons_succ]
                      refine wpAnyH_take (i := 3) (v := .int .i64 (N1 : Int)) rfl (by kernel_rfl) (by kernel_rfl) (by kernel_rfl) (fun _ _ _ h => h) (Or.inl ⟨by kernel_rfl, fun wq hS => by clear hS; go_simp⟩) hS ?_
                      try simp only [Act.put, List.getElem_toArray, List.getElem_cons_succ, List.getElem_cons_zero, List.setIfInBounds_toArray, List.set_cons_zero, List.set_cons_succ]
                      refine wpAnyH_take (i := 4) (v := .int .u8 (a.toNat : Int)) rfl (by kernel_rfl) (by kernel_rfl) (by kernel_rfl) (fun _ _ _ h => h) (Or.inl ⟨by kernel_rfl, fun wq hS => by clear hS; go_simp⟩) hS ?_
                      try simp only [Act.put, List.getElem_toArray, List.getElem_cons_succ, List.getElem_cons_zero, List.setIfInBounds_toArray, List.set_cons_zero, List.set_cons_succ]
                      refine wpAnyH_take (i := 7) (v := .string s) rfl (by kernel_rfl) (by kernel_rfl) (by kernel_rfl) (fun _ _ _ h => h) (Or.inl ⟨by kernel_rfl, fun wq hS => by clear hS; go_simp⟩) hS ?_
                      try simp only [Act.put, List.getElem_toArray, List.getElem_cons_succ, List.getElem_cons_zero, List.setIfInBounds_toArray, List.set_cons_zero, List.set_cons_succ]
                      refine wpAnyH_take (i := 8) (v := .int .i64 (n : Int)) rfl (by kernel_rfl) (by kernel_rfl) (by kernel_rfl) (fun _ _ _ h => h) (Or.inl ⟨by kernel_rfl, fun wq hS => by clear hS; go_simp⟩) hS ?_
                      try simp only [Act.put, List.getElem_toArray, List.getElem_cons_succ, List.getElem_cons_zero, List.setIfInBounds_toArray, List.set_cons_zero, List.set_cons_succ]
                      refine wpAnyH_take (i := 9) (v := .int .i64 (N2 : Int)) rfl (by kernel_rfl) (by kernel_rfl) (by kernel_rfl) (fun _ _ _ h => h) (Or.inl ⟨by kernel_rfl, fun wq hS => by clear hS; go_simp⟩) hS ?_
                      try simp only [Act.put, List.getElem_toArray, List.getElem_cons_succ, List.getElem_cons_zero, List.setIfInBounds_toArray, List.set_cons_zero, List.set_cons_succ]
                      refine wpAnyH_take (i := 10) (v := .int .u8 (b.toNat : Int)) rfl (by kernel_rfl) (by kernel_rfl) (by kernel_rfl) (fun _ _ _ h => h) (Or.inl ⟨by kernel_rfl, fun wq hS => by clear hS; go_simp⟩) hS ?_
                      try simp only [Act.put, List.getElem_toArray, List.getElem_cons_succ, List.getElem_cons_zero, List.setIfInBounds_toArray, List.set_cons_zero, List.set_cons_succ]
                      refine wpAnyH_ready (rs := [5]) (by kernel_rfl) (by simp) ?_
                      refine AllReadyH.cons rfl (fun K' hK' => ?_) AllReadyH.nil
                      go_simp
                      refine (qa _).mono ?_
                      rintro e w1 ⟨rfl, hw⟩
                      obtain rfl := hw.symm
                      refine hK'.out _ _ trivial (fun hS => ?_)
                      clear hK' K'
                      try simp only [Act.put, List.getElem_toArray, List.getElem_cons_succ, List.getElem_cons_zero, List.setIfInBounds_toArray, List.set_cons_zero, List.set_cons_succ]
                      refine wpAnyH_take (i := 6) (v := .int .i64 (16 * A)) rfl (by kernel_rfl) (by kernel_rfl) (by kernel_rfl) (fun _ _ _ h => h) (Or.inl ⟨by kernel_rfl, fun wq hS => by clear hS; go_simp⟩) hS ?_
                      try simp only [Act.put, List.getElem_toArray, List.getElem_cons_succ, List.getElem_cons_zero, List.setIfInBounds_toArray, List.set_cons_zero, List.set_cons_succ]
                      refine wpAnyH_ready (rs := [11]) (by kernel_rfl) (by simp) ?_
                      refine AllReadyH.cons rfl (fun K' hK' => ?_) AllReadyH.nil
                      go_simp
                      refine (qb _).mono ?_
                      rintro e w1 ⟨rfl, hw⟩
                      obtain rfl := hw.symm
                      refine hK'.out _ _ trivial (fun hS => ?_)
                      clear hK' K'
                      try simp only [Act.put, List.getElem_toArray, List.getElem_cons_succ, List.getElem_cons_zero, List.setIfInBounds_toArray, List.set_cons_zero, List.set_cons_succ]
                      refine wpAnyH_take (i := 12) (v := .int .i64 (16 * A + B')) rfl (by kernel_rfl) (by kernel_rfl) (by kernel_rfl) (fun _ _ _ h => h) (Or.inl ⟨by kernel_rfl, fun wq hS => by clear hS; go_simp⟩) hS ?_
                      try simp only [Act.put, List.getElem_toArray, List.getElem_cons_succ, List.getElem_cons_zero, List.setIfInBounds_toArray, List.set_cons_zero, List.set_cons_succ]
                      refine wpAnyH_take (i := 13) (v := .int .u8 (D.toNat : Int)) rfl (by kernel_rfl) (by kernel_rfl) (by kernel_rfl) (fun _ _ _ h => h) (Or.inl ⟨by kernel_rfl, fun wq hS => by clear hS; go_simp⟩) hS ?_
                      try simp only [Act.put, List.getElem_toArray, List.getElem_cons_succ, List.getElem_cons_zero, List.setIfInBounds_toArray, List.set_cons_zero, List.set_cons_succ]
                      refine wpAnyH_ready (rs := [14]) (by kernel_rfl) (by simp) ?_
                      refine AllReadyH.cons rfl (fun K' hK' => ?_) AllReadyH.nil
                      go_simp
                      refine hK'.out _ _ trivial (fun hS => ?_)
                      clear hK' K'
                      try simp only [Act.put, List.getElem_toArray, List.getElem_cons_succ, List.getElem_cons_zero, List.setIfInBounds_toArray, List.set_cons_zero, List.set_cons_succ]
                      refine wpAnyH_ready (rs := [15]) (by kernel_rfl) (by simp) ?_
                      refine AllReadyH.cons rfl (fun K' hK' => ?_) AllReadyH.nil
                      refine step_append_own (by rfl) (.tmp 79) (.tmp 93) 29 (by rfl) w.heap.size 5 i0 (.int .u8 0) 1 1 Tryz.underlying29 hi hz0 hz1 hz2 rfl (by decide) (.slice va vl vc) _ _ (by rfl) (RowB.kept (w := wr.drew) HROW.out.1 ((Below.refl _ _).alloc (Nat.le_refl _) _)) ⟨wr.heap.size, 0, none⟩ 1 1 [.int .u8 (D.toNat : Int)] (by rfl) rfl (cells_new wr.drew [.int .u8 (D.toNat : Int)] 5) (by simp [Value.oneCell']) (by unfold maxLen; omega) (by omega) (by simp; omega) ?_
                      intro v' w3 hown' hgrow3 hloc3
                      refine hK'.out _ _ trivial (fun hS => ?_)
                      clear hK' K'
                      try simp only [Act.put, List.getElem_toArray, List.getElem_cons_succ, List.getElem_cons_zero, List.setIfInBounds_toArray, List.set_cons_zero, List.set_cons_succ]
                      refine wpAnyH_take (i := 16) (v := v') rfl (by kernel_rfl) (by kernel_rfl) (by kernel_rfl) (fun _ _ _ h => h) (Or.inl ⟨by kernel_rfl, fun wq hS => by clear hS; go_simp⟩) hS ?_
                      try simp only [Act.put, List.getElem_toArray, List.getElem_cons_succ, List.getElem_cons_zero, List.setIfInBounds_toArray, List.set_cons_zero, List.set_cons_succ]
                      refine wpAnyH_done (by kernel_rfl) ?_ _
                      refine NoPanic.normal ?_
                      have hr3 : RowB w.heap.size w3 v' (acc ++ [D]) := RowB.more hown' rfl rfl
                      have hb3 : Below w.heap.size w w3 := (HROW.out.2.trans ((Below.mono ((below_drewN (Below.refl _ _) 1).alloc (Nat.le_refl _) _) hsz))).trans (RowB.grown (RowB.kept (w := wr.drew) HROW.out.1 ((Below.refl _ _).alloc (Nat.le_refl _) _)) hgrow3 (by simp; omega))
                      clear hown' hgrow3 hloc3
                      go_wp2
                      refine ⟨⟨n + 3, acc ++ [D], by simp, by omega, hnz, by simp; omega, hr3, hb3, HKZ⟩, ?_⟩
                      simp [numOf]
                      omega
                    · have ea : hexM a = dvN a := if_pos hA
                      have eb : hexM b = -1 := if_neg hB
                      have da := dvN_bd hA
                      simp only [ea] at qa
                      simp only [eb] at qb
                      have HE : Hid (O = .error (n, 3)) := HRN.out (by rw [HC37.out, HDR.out]; exact rc_no a b _ (fun h => hB h.2))
                      obtain ⟨A, hAA⟩ : ∃ A, dvN a = A := ⟨_, rfl⟩
                      rw [hAA] at da
                      simp only [hAA] at qa
                      have hA0 : ¬ A < 0 := by omega
                      clear hAA ea eb HRN HKS hA hB
                      go_wp2_with (first
                        | (have hq := K1; go_at_call 85; refine (qb _).mono ?_; rintro e w1 ⟨rfl, hw⟩; obtain rfl := hw.symm; clear hq)
                        | (go_at_call 85; refine (qa _).mono ?_; rintro e w1 ⟨rfl, hw⟩; obtain rfl := hw.symm; have K1 := trivial))
                      refine bodyPost_ret (res50 rfl rfl rfl rfl) rfl ?_
                      exact RpOut.bad HE.out HROW.out.2
                  · have ea : hexM a = -1 := if_neg hA
                    simp only [ea] at qa
                    have HE : Hid (O = .error (n, 3)) := HRN.out (by rw [HC37.out, HDR.out]; exact rc_no a b _ (fun h => hA h.1))
                    clear ea HRN HKS hA
                    go_wp2_with (go_at_call 85; refine (qa _).mono ?_; rintro e w1 ⟨rfl, hw⟩; obtain rfl := hw.symm)
                    refine bodyPost_ret (res50 rfl rfl rfl rfl) rfl ?_
                    exact RpOut.bad HE.out HROW.out.2
              · have m4 : ((x : Int) == 37) = false := by simp; omega
                have hks := HKS.out c 1 (rc_plain _ HTG.out (fun e => h37 (H37.out.1 e)))
                have HKN := hks.2
                have hnz := hks.1
                have HKZ : Hid _ := HKN
                clear HKN hks HRN HKS h37
                have ha := allocB' wr (.cells #[.int .u8 (x : Int)] 5)
                have ho := one_sl wr c
                rw [hx] at ho
                have hr2 := HROW.out.1.kept ha
                go_wp2_with (refine app_any rfl (.tmp 51) (.tmp 53) rfl w.heap.size _ acc rfl hr2 (.slice (some ⟨wr.heap.size, 0, none⟩) 1 1) [c] rfl ho (by simp; omega) (by simp; omega) ?_; intro v' w3 hr3 hb3; have H3 : Hid _ := And.intro hr3 hb3; clear hr3 hb3)
                go_roundw
                case rel => exact ⟨n + 1, acc ++ [c], by simp, by omega, hnz, by simp; omega, H3.out.1, (HROW.out.2.trans (ha.mono hsz)).trans H3.out.2, HKZ⟩
                case measure => simp [numOf]; omega
    · have hlt' : ¬ (n : Int) < (s.size : Int) := by omega
      have HRR : Hid (R = (true, acc, n - p)) := by
        have := HK.out
        rw [List.drop_eq_nil_of_le (by rw [← HSZ.out]; omega), pc_end] at this
        exact this.symm
      rcases hsb with ⟨hsd, rfl⟩ | ⟨hsd, hB0⟩
      · go_wp2_with (go_at_call 30; refine q30.mono ?_; rintro e w3 ⟨rfl, hb3⟩; have hcv3 := HC.out _ hb3)
        refine bodyPost_ret (res50 rfl rfl rfl rfl) rfl ?_
        exact RpOut.good (by rw [HP.out, HRR.out, pieceF, if_pos hsd, Nat.add_sub_cancel' hpn]) (HROW.out.2.trans (hb3.mono hsz))
      · go_wp2_with (go_at_call 30; refine q30.mono ?_; rintro e w3 ⟨rfl, hb3⟩)
        refine bodyPost_ret (res50 rfl rfl rfl rfl) rfl ?_
        exact RpOut.bad (by rw [HP.out, HRR.out, pieceF, if_neg (by rw [hsd]; decide)]) (HROW.out.2.trans (hb3.mono hsz))
end
theorem param_e1 {s : List UInt8} {p : Nat} {e : Nat × Int} (h : pieceM s p [61, 38] = .error e) : paramM s p = .error e := by
  unfold paramM
  rw [h]
theorem param_e2 {s : List UInt8} {p q : Nat} {t : List UInt8} {e : Nat × Int} (h : pieceM s p [61, 38] = .ok (t, q)) (h61 : s[q]? = some 61) (h2 : pieceM s (q + 1) [38] = .error e) : paramM s p = .error e := by
  unfold paramM
  rw [h]
  simp only [h61, if_true, h2]
theorem param_o2 {s : List UInt8} {p q q' : Nat} {t u : List UInt8} (h : pieceM s p [61, 38] = .ok (t, q)) (h61 : s[q]? = some 61) (h2 : pieceM s (q + 1) [38] = .ok (u, q')) : paramM s p = .ok ((t, u), q') := by
  unfold paramM
  rw [h]
  simp only [h61, if_true, h2]
theorem param_o1 {s : List UInt8} {p q : Nat} {t : List UInt8} (h : pieceM s p [61, 38] = .ok (t, q)) (h61 : s[q]? ≠ some 61) : paramM s p = .ok ((t, []), q) := by
  unfold paramM
  rw [h]
  simp only [h61, if_false]
/-- How the reference's Split ends. -/
def RsOut (r : Except (Nat × Int) (List (List UInt8) × List (List UInt8 × List UInt8))) (w : World) (e : Ending) (w' : World) : Prop :=
  Below w.heap.size w w' ∧ match r with
  | .ok (l, q) => ∃ u v, e = .returned (.tuple #[u, v, .int .i64 0, .int .i64 0]) ∧ RowT w.heap.size w' u l ∧ RowP w.heap.size w' v q
  | .error (p, c) => e = .returned (.tuple #[.slice none 0 0, .slice none 0 0, .int .i64 c, .int .i64 (p : Int)])
theorem res24 {tmps : Array Value} {a b c d : Value} {w : World} (h6 : tmps[2]? = some a) (h7 : tmps[3]? = some b) (h8 : tmps[4]? = some c) (h9 : tmps[5]? = some d) : (results Tryz.f24 tmps).run Tryz.prog w = .ok (.tuple #[a, b, c, d]) w := by
  simp only [results, Tryz.results24]
  simp [go_sem, h6, h7, h8, h9]
theorem RsOut.bad {w W : World} {p : Nat} {c : Int} {r : Except (Nat × Int) (List (List UInt8) × List (List UInt8 × List UInt8))} (hm : r = .error (p, c)) (hb : Below w.heap.size w W) : RsOut r w (.returned (.tuple #[.slice none 0 0, .slice none 0 0, .int .i64 c, .int .i64 (p : Int)])) W := by
  subst hm
  exact ⟨hb, rfl⟩
/-- What a query still to be read gives. -/
def JQ (s : List UInt8) (R : Except (Nat × Int) (List (List UInt8 × List UInt8))) (n : Nat) (acc : List (List UInt8 × List UInt8)) : Prop :=
  ((n + 1 < s.length ∨ s[n]? = some 38) → queryL s (s.length - n) n acc = R) ∧ (¬ (n + 1 < s.length ∨ s[n]? = some 38) → R = .ok acc)
theorem JQ.start {s : List UInt8} {p : Nat} (h : ∀ c, s[p]? = some c → c = 63) : JQ s (queryM s p) p [] := by
  unfold queryM
  by_cases hl : s.length - p ≤ 1
  · rw [if_pos hl]
    refine ⟨fun hc => ?_, fun _ => rfl⟩
    rcases hc with hc | hc
    · omega
    · exact absurd (h 38 hc) (by decide)
  · rw [if_neg hl]
    exact ⟨fun _ => rfl, fun hc => absurd (.inl (by omega)) hc⟩
theorem JQ.bad {s : List UInt8} {R : Except (Nat × Int) (List (List UInt8 × List UInt8))} {n : Nat} {acc : List (List UInt8 × List UInt8)} (h : JQ s R n acc) (hc : n + 1 < s.length ∨ s[n]? = some 38) {e : Nat × Int} (hp : paramM s (n + 1) = .error e) : R = .error e := by
  have hl : n < s.length := by
    rcases hc with hc | hc
    · omega
    · exact lt_of_get hc
  rw [← h.1 hc]
  exact query_bad hl (by omega) _ hp
theorem JQ.go {s : List UInt8} {R : Except (Nat × Int) (List (List UInt8 × List UInt8))} {n q : Nat} {acc : List (List UInt8 × List UInt8)} (h : JQ s R n acc) (hc : n + 1 < s.length ∨ s[n]? = some 38) {t : List UInt8 × List UInt8} (hp : paramM s (n + 1) = .ok (t, q)) : q ≤ s.length ∧ n < q ∧ JQ s R q (acc ++ [t]) := by
  have hl : n < s.length := by
    rcases hc with hc | hc
    · omega
    · exact lt_of_get hc
  have hb := param_bd (by omega) hp
  have h1 := h.1 hc
  rw [query_go hl (by omega) _ hp] at h1
  refine ⟨hb.2, by omega, fun _ => h1, fun hn => ?_⟩
  have hq : ¬ q < s.length := fun hq => by
    have := param_at (by omega) hp _ (List.getElem?_eq_getElem hq)
    exact hn (.inr (by rw [List.getElem?_eq_getElem hq, this]))
  rw [query_stop hq] at h1
  exact h1.symm
theorem piece_code {s : List UInt8} {p : Nat} {ends : List UInt8} {b : Nat} {c : Int} (h : pieceM s p ends = .error (b, c)) : c ≠ 0 := by
  unfold pieceM pieceF at h
  split at h
  · injection h with h
    injection h with _ h
    omega
  · split at h
    · cases h
    · injection h with h
      injection h with _ h
      omega
section
variable {w : World}
set_option maxRecDepth 20000 in
set_option maxHeartbeats 16000000 in
theorem split24 (s : ByteArray) (hs : s.size ≤ 1000000000) (w : World) : Calls Tryz.prog 24 #[.string s] w fun e w' => RsOut (splitM s.data.toList) w e w' := by
  have HSZ : Hid (s.size = s.data.toList.length) := Lib.size_eq s
  have HPC : Hid (∀ (p : Nat) (E : ByteArray) (W : World), p ≤ s.size → E.size ≤ 1000 → Calls Tryz.prog 50 #[.string s, .int .i64 (p : Int), .string E] W fun e w' => RpOut (pieceM s.data.toList p E.data.toList) W e w') := fun p E W h1 h2 => piece50 s p h1 hs E h2
  obtain ⟨O, hO⟩ : ∃ O, splitM s.data.toList = O := ⟨_, rfl⟩
  rw [hO]
  by_cases h47 : s.data.toList[0]? = some 47
  · have h0 : 0 < s.size := by rw [HSZ.out]; exact lt_of_get h47
    have h0' : (0 : Int) < (s.size : Int) := by omega
    have hne : (s.toList == ([] : List UInt8)) = false := by
      rw [Lib.toList_data]
      cases hd : s.data.toList with
      | nil => rw [hd] at h47; simp at h47
      | cons a r => rfl
    have hc0 : s[0]'h0 = 47 := by
      have := get_data h0
      rw [h47] at this
      exact (Option.some.inj this).symm
    obtain ⟨RP, hRP⟩ : ∃ R, pathM s.data.toList s.data.toList.length 0 [] = R := ⟨_, rfl⟩
    have HRP : Hid (pathM s.data.toList s.size 0 [] = RP) := by rw [HSZ.out]; exact hRP
    have HOE : Hid (∀ e, RP = .error e → O = .error e) := fun e he => by
      rw [← hO]
      unfold splitM
      rw [if_pos h47, hRP, he]
    have HOO : Hid (∀ l p, RP = .ok (l, p) → O = (match queryM s.data.toList p with
        | .error e => .error e
        | .ok q => .ok (l, q))) := fun l p he => by
      rw [← hO]
      unfold splitM
      rw [if_pos h47, hRP, he]
      rfl
    have HAT : Hid (∀ l p, RP = .ok (l, p) → ∀ c, s.data.toList[p]? = some c → c = 63) := fun l p he => path_at s.data.toList s.data.toList.length 0 [] l p (by omega) (fun c hc => by rw [h47] at hc; exact .inl (Option.some.inj hc).symm) (hRP.trans he)
    clear hRP hO h47
    go_enter Tryz.func24, Tryz.ntmps24
    go_wp2
    clear hc0 hne
    go_loopw [6, 7] (fun u k w' => ∃ (n : Nat) (acc : List (List UInt8)), k = .int .i64 (n : Int) ∧ n ≤ s.size ∧ acc.length ≤ n ∧ RowT w.heap.size w' u acc ∧ Below w.heap.size w w' ∧ Hid (pathM s.data.toList (s.size - n) n acc = RP)) (fun _ k _ => s.size - numOf k)
    case atStart => exact ⟨0, [], rfl, Nat.zero_le _, Nat.zero_le _, World.ownsRow_nil _ _ _ _, Below.refl _ _, HRP⟩
    case round =>
      clear HRP h0 h0'
      obtain ⟨n, acc, rfl, hn, hacc, hrow, hbw, HK⟩ := hrel
      have hsz := hbw.size
      have HB : Hid (RowT w.heap.size wr u6 acc ∧ Below w.heap.size w wr) := ⟨hrow, hbw⟩
      obtain ⟨va, vl, vc, rfl⟩ : ∃ va vl vc, u6 = .slice va vl vc := by obtain ⟨a, c, e⟩ := own_form hrow; exact ⟨_, _, _, e⟩
      clear hrow hbw
      by_cases h47 : s.data.toList[n]? = some 47
      · have hlt : n < s.size := by rw [HSZ.out]; exact lt_of_get h47
        have hlt' : (n : Int) < (s.size : Int) := by omega
        have hc0 : s[n]'hlt = 47 := by
          have := get_data hlt
          rw [h47] at this
          exact (Option.some.inj this).symm
        have q50 := HPC.out (n + 1) ⟨#[47, 63]⟩ wr (by omega) (by decide)
        have eN : ((n + 1 : Nat) : Int) = (n : Int) + 1 := by omega
        rw [eN] at q50
        change Calls Tryz.prog 50 _ _ fun e w' => RpOut (pieceM s.data.toList (n + 1) [47, 63]) _ e w' at q50
        cases hq : pieceM s.data.toList (n + 1) [47, 63] with
        | error x =>
          obtain ⟨b, c⟩ := x
          rw [hq] at q50
          have HE : Hid (O = .error (b, c)) := HOE.out _ (by rw [← HK.out]; exact path_bad h47 (by omega) _ hq)
          have hcn : c ≠ 0 := piece_code hq
          have hcb : (c == 0) = false := by simpa using hcn
          clear hq h47 hcn eN
          go_wp2_with (go_at_call 50; refine q50.mono ?_; rintro e w3 ⟨hb3, he⟩; obtain rfl := he)
          refine bodyPost_ret (res24 rfl rfl rfl rfl) rfl ?_
          exact RsOut.bad HE.out (HB.out.2.trans (hb3.mono hsz))
        | ok x =>
          obtain ⟨t, q⟩ := x
          rw [hq] at q50
          have hqb := piece_bd (by rw [← HSZ.out]; omega) hq
          rw [← HSZ.out] at hqb
          have HK2 : Hid (pathM s.data.toList (s.size - q) q (acc ++ [t]) = RP) := by
            have := HK.out
            rw [path_go h47 (by rw [← HSZ.out]; omega) _ hq, ← HSZ.out] at this
            exact this
          clear hq h47 eN
          go_wp2_with (first
            | (go_at_call 50; refine q50.mono ?_; rintro e w3 ⟨hb3, he⟩; obtain rfl := he; have hz3 := hb3.size; have hr3 := RowT.kept HB.out.1 hb3; have ha3 := allocB' w3 (.cells #[.string ⟨t.toArray⟩] 9); have hx3 : (w3.alloc (.cells #[.string ⟨t.toArray⟩] 9)).cell? ⟨w3.heap.size, 0, none⟩ = some (.string ⟨t.toArray⟩) := new_cell w3 [.string ⟨t.toArray⟩] 9 0 _ rfl; have H3 : Hid (Below w.heap.size w w3) := HB.out.2.trans (hb3.mono hsz); clear hb3)
            | (refine app_t rfl (.tmp 48) (.tmp 50) rfl w.heap.size _ acc rfl (hr3.kept ha3) w3.heap.size t rfl hx3 (by omega) (by simp; omega) ?_; intro v' w5 hr hb; have H5 : Hid (RowT w.heap.size w5 v' (acc ++ [t]) ∧ Below w.heap.size w w5) := ⟨hr, (H3.out.trans (ha3.mono (by omega))).trans hb⟩; clear hr hb hx3))
          go_roundw
          case rel => exact ⟨q, acc ++ [t], rfl, hqb.2.1, by simp; omega, H5.out.1, H5.out.2, HK2⟩
          case measure => simp [numOf]; omega
      · have HRR : Hid (RP = .ok (acc, n)) := by
          have := HK.out
          rw [path_stop h47] at this
          exact this.symm
        obtain ⟨RQ, hRQ⟩ : ∃ R, queryM s.data.toList n = R := ⟨_, rfl⟩
        have HQ0 : Hid (JQ s.data.toList RQ n []) := by rw [← hRQ]; exact JQ.start (HAT.out _ _ HRR.out)
        have HQE : Hid (∀ e, RQ = .error e → O = .error e) := fun e he => by rw [HOO.out _ _ HRR.out, hRQ, he]
        have HQO : Hid (∀ q, RQ = .ok q → O = .ok (acc, q)) := fun q he => by rw [HOO.out _ _ HRR.out, hRQ, he]
        clear hRQ HRR HK HOE HOO HAT
        have hcond : (¬ (n : Int) < (s.size : Int) ∧ True) ∨ ∃ (hlt : n < s.size) (c : UInt8), (n : Int) < (s.size : Int) ∧ s[n]'hlt = c ∧ ((c.toNat : Int) == 47) = false := by
          by_cases hlt : n < s.size
          · refine .inr ⟨hlt, _, by omega, rfl, ?_⟩
            have h1 := get_data hlt
            exact u8_ne (b := 47) (fun e => h47 (by rw [h1, e]))
          · exact .inl ⟨by omega, trivial⟩
        clear h47
        rcases hcond with ⟨hlt', -⟩ | ⟨hlt, c, hlt', hc0, hcn⟩
        all_goals
          go_wp2
          try clear hlt'
          try clear hc0 hcn
          go_loopw [7, 12] (fun k u w' => ∃ (n : Nat) (qs : List (List UInt8 × List UInt8)), k = .int .i64 (n : Int) ∧ n ≤ s.size ∧ qs.length ≤ n ∧ RowP wr.heap.size w' u qs ∧ Below wr.heap.size wr w' ∧ Hid (JQ s.data.toList RQ n qs)) (fun k _ _ => s.size - numOf k)
          case atStart => exact ⟨n, [], rfl, hn, Nat.zero_le _, World.ownsRow_nil _ _ _ _, Below.refl _ _, HQ0⟩
          case round =>
            clear HQ0
            obtain ⟨m, qs, rfl, hm, hqs, hrow, hbw, HK⟩ := hrel
            have hzz := hbw.size
            have HF : Hid (∀ W : World, Below wr.heap.size wr W → Below w.heap.size w W) := fun W hW => (HB.out.2.trans (hbw.mono hsz)).trans (hW.mono (by omega))
            have HBT : Hid (RowT w.heap.size wr (.slice va vl vc) acc ∧ RowP w.heap.size wr u12 qs) := ⟨RowT.kept HB.out.1 hbw, own_mono hrow (by omega)⟩
            have HROW : Hid (RowP _ wr u12 qs ∧ Below _ _ wr) := ⟨hrow, hbw⟩
            obtain ⟨ua, ul, uc, rfl⟩ : ∃ va vl vc, u12 = .slice va vl vc := by obtain ⟨a, c, e⟩ := own_form hrow; exact ⟨_, _, _, e⟩
            clear hrow hbw
            by_cases hc : m + 1 < s.data.toList.length ∨ s.data.toList[m]? = some 38
            · have hml : m < s.size := by
                rw [HSZ.out]
                rcases hc with hc | hc
                · omega
                · exact lt_of_get hc
              have hml' : (m : Int) < (s.size : Int) := by omega
              have q50 := HPC.out (m + 1) ⟨#[61, 38]⟩ wr (by omega) (by decide)
              have eN : ((m + 1 : Nat) : Int) = (m : Int) + 1 := by omega
              rw [eN] at q50
              change Calls Tryz.prog 50 _ _ fun e w' => RpOut (pieceM s.data.toList (m + 1) [61, 38]) _ e w' at q50
              have hcc : ((m : Int) + 1 < (s.size : Int) ∧ True) ∨ (¬ (m : Int) + 1 < (s.size : Int) ∧ s[m]'hml = 38) := by
                by_cases h1 : m + 1 < s.size
                · exact .inl ⟨by omega, trivial⟩
                · refine .inr ⟨by omega, ?_⟩
                  rcases hc with hc | hc
                  · rw [← HSZ.out] at hc; omega
                  · have := get_data hml
                    rw [hc] at this
                    exact (Option.some.inj this).symm
              have HC : Hid _ := hc
              clear hc eN
              cases hq : pieceM s.data.toList (m + 1) [61, 38] with
              | error x =>
                obtain ⟨b, c⟩ := x
                rw [hq] at q50
                have HE : Hid (O = .error (b, c)) := HQE.out _ (HK.out.bad HC.out (param_e1 hq))
                have hcn : c ≠ 0 := piece_code hq
                have hcb : (c == 0) = false := by simpa using hcn
                clear hq hcn
                rcases hcc with ⟨k1, -⟩ | ⟨k1, k2⟩
                all_goals
                  go_wp2_with (go_at_call 50; refine q50.mono ?_; rintro e w3 ⟨hb3, he⟩; obtain rfl := he)
                  refine bodyPost_ret (res24 rfl rfl rfl rfl) rfl ?_
                  exact RsOut.bad HE.out (HF.out _ hb3)
              | ok x =>
                obtain ⟨t, q⟩ := x
                rw [hq] at q50
                have hqb := piece_bd (by rw [← HSZ.out]; omega) hq
                rw [← HSZ.out] at hqb
                by_cases h61 : s.data.toList[q]? = some 61
                · have hql : q < s.size := by rw [HSZ.out]; exact lt_of_get h61
                  have hql' : (q : Int) < (s.size : Int) := by omega
                  have hq0 : s[q]'hql = 61 := by
                    have := get_data hql
                    rw [h61] at this
                    exact (Option.some.inj this).symm
                  have HP2 : Hid (∀ W : World, Calls Tryz.prog 50 #[.string s, .int .i64 ((q : Int) + 1), .string ⟨#[38]⟩] W fun e w' => RpOut (pieceM s.data.toList (q + 1) [38]) W e w') := fun W => by
                    have := HPC.out (q + 1) ⟨#[38]⟩ W (by omega) (by decide)
                    rw [show ((q + 1 : Nat) : Int) = (q : Int) + 1 by omega] at this
                    exact this
                  cases hq2 : pieceM s.data.toList (q + 1) [38] with
                  | error x =>
                    obtain ⟨b, c⟩ := x
                    rw [hq2] at HP2
                    have HE : Hid (O = .error (b, c)) := HQE.out _ (HK.out.bad HC.out (param_e2 hq h61 hq2))
                    have hcn : c ≠ 0 := piece_code hq2
                    have hcb : (c == 0) = false := by simpa using hcn
                    clear hq hq2 h61 hcn
                    rcases hcc with ⟨k1, -⟩ | ⟨k1, k2⟩
                    rotate_left
                    · exfalso; omega
                    all_goals
                      go_wp2_with (first
                        | (have hq' := H3; go_at_call 50; refine (HP2.out _).mono ?_; clear hq'; rintro e w4 ⟨hb4, he⟩; obtain rfl := he; have H4 : Hid _ := H3.out.trans (hb4.mono hz3); clear hb4)
                        | (go_at_call 50; refine q50.mono ?_; rintro e w3 ⟨hb3, he⟩; obtain rfl := he; have hz3 := hb3.size; have H3 : Hid (Below wr.heap.size wr w3) := hb3; clear hb3))
                      refine bodyPost_ret (res24 rfl rfl rfl rfl) rfl ?_
                      exact RsOut.bad HE.out (HF.out _ H4.out)
                  | ok x =>
                    obtain ⟨t2, q2⟩ := x
                    rw [hq2] at HP2
                    have HGO := HK.out.go HC.out (param_o2 hq h61 hq2)
                    rw [← HSZ.out] at HGO
                    have hg1 := HGO.1
                    have hg2 := HGO.2.1
                    have HG3 : Hid _ := HGO.2.2
                    clear hq hq2 h61 HGO
                    rcases hcc with ⟨k1, -⟩ | ⟨k1, k2⟩
                    rotate_left
                    · exfalso; omega
                    all_goals
                      go_wp2_with (first
                        | (have hq' := H3; go_at_call 50; refine (HP2.out _).mono ?_; clear hq'; rintro e w4 ⟨hb4, he⟩; obtain rfl := he; have hz4 := hb4.size; have hb04 := H3.out.trans (hb4.mono hz3); have hr4 := RowP.kept HROW.out.1 hb04; have ha4 := allocB' w4 (.cells #[.string ⟨t.toArray⟩, .string ⟨t2.toArray⟩] 69); have hx0 : (w4.alloc (.cells #[.string ⟨t.toArray⟩, .string ⟨t2.toArray⟩] 69)).cell? ⟨w4.heap.size, 0, none⟩ = some (.string ⟨t.toArray⟩) := new_cell w4 [.string ⟨t.toArray⟩, .string ⟨t2.toArray⟩] 69 0 _ rfl; have hx1 : (w4.alloc (.cells #[.string ⟨t.toArray⟩, .string ⟨t2.toArray⟩] 69)).cell? ⟨w4.heap.size, 1, none⟩ = some (.string ⟨t2.toArray⟩) := new_cell w4 [.string ⟨t.toArray⟩, .string ⟨t2.toArray⟩] 69 1 _ rfl; have H4 : Hid _ := hb04; clear hb4 hb04)
                        | (go_at_call 50; refine q50.mono ?_; rintro e w3 ⟨hb3, he⟩; obtain rfl := he; have hz3 := hb3.size; have H3 : Hid (Below wr.heap.size wr w3) := hb3; clear hb3)
                        | (refine app_p rfl (.tmp 106) (.tmp 110) rfl _ _ qs rfl (hr4.kept ha4) w4.heap.size (t, t2) rfl hx0 hx1 (by omega) (by simp; omega) ?_; intro v' w5 hr hb; have H5 : Hid _ := And.intro hr ((HROW.out.2.trans (H4.out.mono hzz)).trans ((ha4.mono (by omega)).trans hb)); clear hr hb hx0 hx1))
                      go_roundw
                      case rel => exact ⟨q2, qs ++ [(t, t2)], rfl, hg1, by simp; omega, H5.out.1, H5.out.2, HG3⟩
                      case measure => simp [numOf]; omega
                · have HGO := HK.out.go HC.out (param_o1 hq h61)
                  rw [← HSZ.out] at HGO
                  have hg1 := HGO.1
                  have hg2 := HGO.2.1
                  have HG3 : Hid _ := HGO.2.2
                  have hcd : (¬ (q : Int) < (s.size : Int) ∧ True) ∨ ∃ (hlt : q < s.size) (c : UInt8), (q : Int) < (s.size : Int) ∧ s[q]'hlt = c ∧ ((c.toNat : Int) == 61) = false := by
                    by_cases hlt : q < s.size
                    · refine .inr ⟨hlt, _, by omega, rfl, ?_⟩
                      have h1 := get_data hlt
                      exact u8_ne (b := 61) (fun e => h61 (by rw [h1, e]))
                    · exact .inl ⟨by omega, trivial⟩
                  clear hq h61 HGO
                  have hce : (((m : Int) + 1 < (s.size : Int)) ∧ (¬ (q : Int) < (s.size : Int))) ∨ (((m : Int) + 1 < (s.size : Int)) ∧ ∃ (hlt : q < s.size) (c : UInt8), (q : Int) < (s.size : Int) ∧ s[q]'hlt = c ∧ ((c.toNat : Int) == 61) = false) ∨ (¬ (m : Int) + 1 < (s.size : Int) ∧ s[m]'hml = 38 ∧ ¬ (q : Int) < (s.size : Int)) := by
                    rcases hcc with ⟨k1, -⟩ | ⟨k1, k2⟩
                    · rcases hcd with ⟨d1, -⟩ | d
                      · exact .inl ⟨k1, d1⟩
                      · exact .inr (.inl ⟨k1, d⟩)
                    · exact .inr (.inr ⟨k1, k2, by omega⟩)
                  clear hcc hcd
                  rcases hce with ⟨k1, d1⟩ | ⟨k1, hlq, c2, d1, d2, d3⟩ | ⟨k1, k2, d1⟩
                  all_goals
                      go_wp2_with (first
                        | (go_at_call 50; refine q50.mono ?_; rintro e w4 ⟨hb4, he⟩; obtain rfl := he; have hz4 := hb4.size; have hr4 := RowP.kept HROW.out.1 hb4; have ha4 := allocB' w4 (.cells #[.string ⟨t.toArray⟩, .string ⟨#[]⟩] 69); have hx0 : (w4.alloc (.cells #[.string ⟨t.toArray⟩, .string ⟨#[]⟩] 69)).cell? ⟨w4.heap.size, 0, none⟩ = some (.string ⟨t.toArray⟩) := new_cell w4 [.string ⟨t.toArray⟩, .string ⟨#[]⟩] 69 0 _ rfl; have hx1 : (w4.alloc (.cells #[.string ⟨t.toArray⟩, .string ⟨#[]⟩] 69)).cell? ⟨w4.heap.size, 1, none⟩ = some (.string ⟨#[]⟩) := new_cell w4 [.string ⟨t.toArray⟩, .string ⟨#[]⟩] 69 1 _ rfl; have H4 : Hid _ := hb4; clear hb4)
                        | (refine app_p rfl (.tmp 106) (.tmp 110) rfl _ _ qs rfl (hr4.kept ha4) w4.heap.size (t, []) rfl hx0 hx1 (by omega) (by simp; omega) ?_; intro v' w5 hr hb; have H5 : Hid _ := And.intro hr ((HROW.out.2.trans (H4.out.mono hzz)).trans ((ha4.mono (by omega)).trans hb)); clear hr hb hx0 hx1))
                      go_roundw
                      case rel => exact ⟨q, qs ++ [(t, [])], rfl, hg1, by simp; omega, H5.out.1, H5.out.2, HG3⟩
                      case measure => simp [numOf]; omega
            · have HE : Hid (O = .ok (acc, qs)) := HQO.out _ (HK.out.2 hc)
              have hcc : ¬ (m : Int) + 1 < (s.size : Int) ∧ ((¬ (m : Int) < (s.size : Int) ∧ True) ∨ ∃ (hlt : m < s.size) (c : UInt8), (m : Int) < (s.size : Int) ∧ s[m]'hlt = c ∧ ((c.toNat : Int) == 38) = false) := by
                refine ⟨fun h => hc (.inl (by rw [← HSZ.out]; omega)), ?_⟩
                by_cases hlt : m < s.size
                · refine .inr ⟨hlt, _, by omega, rfl, ?_⟩
                  have h1 := get_data hlt
                  exact u8_ne (b := 38) (fun e => hc (.inr (by rw [h1, e])))
                · exact .inl ⟨by omega, trivial⟩
              clear hc
              obtain ⟨k1, k2⟩ := hcc
              rcases k2 with ⟨k2, -⟩ | ⟨hlm, c2, k2, k3, k4⟩
              all_goals
                go_wp2
                refine bodyPost_ret (res24 rfl rfl rfl rfl) rfl ?_
                rw [HE.out]
                exact ⟨HF.out _ (Below.refl _ _), _, _, rfl, HBT.out.1, HBT.out.2⟩
  · have HE : Hid (O = .error (0, 3)) := by
      show _ = _
      rw [← hO]
      unfold splitM
      rw [if_neg h47]
    by_cases h0 : s.size = 0
    · have hne : (s.toList == ([] : List UInt8)) = true := by
        have hnil : s.data.toList = [] := List.eq_nil_of_length_eq_zero (by rw [← HSZ.out]; exact h0)
        rw [Lib.toList_data, hnil]
        rfl
      clear h47 hO
      go_enter Tryz.func24, Tryz.ntmps24
      go_wp2
      refine bodyPost_ret (res24 rfl rfl rfl rfl) rfl ?_
      exact RsOut.bad (p := 0) HE.out (Below.refl _ _)
    · have h0l : 0 < s.size := by omega
      have h0' : (0 : Int) < (s.size : Int) := by omega
      obtain ⟨c, hc⟩ : ∃ c, s[0]'h0l = c := ⟨_, rfl⟩
      have hcn : ((c.toNat : Int) == 47) = false := u8_ne (b := 47) (fun e => h47 (by rw [get_data h0l, hc, e]))
      have hne : (s.toList == ([] : List UInt8)) = false := by
        rw [Lib.toList_data]
        cases hd : s.data.toList with
        | nil => have := HSZ.out; rw [hd] at this; exact absurd this h0
        | cons a r => rfl
      clear h47 hO h0
      go_enter Tryz.func24, Tryz.ntmps24
      go_wp2
      refine bodyPost_ret (res24 rfl rfl rfl rfl) rfl ?_
      exact RsOut.bad (p := 0) HE.out (Below.refl _ _)
end
end Ht
end Go.Proofs.YtngfoghnopnbmaaGreatDoor
