/- The reference's trimmed, and whether a header may be written. -/
import Derived.Test.YtngfoghnopnbmaaGreatDoorWb
import Derived.Lib.ConvBytes
namespace Go.Proofs.YtngfoghnopnbmaaGreatDoor
open Go.RowKit
namespace Ht
open Bw

theorem dropL_len (l : List UInt8) : (dropL l).length ≤ l.length := (List.dropWhile_sublist _).length_le
theorem dropL_hit {c : UInt8} {l : List UInt8} (h : blB c = true) : (dropL (c :: l)).length ≤ l.length := by
  unfold dropL
  rw [List.dropWhile_cons, if_pos h]
  exact (List.dropWhile_sublist _).length_le
theorem dropL_miss {c : UInt8} {l : List UInt8} (h : blB c = false) : dropL (c :: l) = c :: l := by
  unfold dropL
  rw [List.dropWhile_cons, if_neg (by rw [h]; decide)]
theorem dropR_len (l : List UInt8) : (dropR l).length ≤ l.length := by
  unfold dropR
  rw [List.length_reverse]
  have := (List.dropWhile_sublist (p := blB) (l := l.reverse)).length_le
  simpa using this
theorem dropR_hit {c : UInt8} {l : List UInt8} (h : blB c = true) : (dropR (l ++ [c])).length ≤ l.length := by
  unfold dropR
  rw [List.length_reverse, List.reverse_append, List.reverse_singleton, List.singleton_append, List.dropWhile_cons, if_pos h]
  have := (List.dropWhile_sublist (p := blB) (l := l.reverse)).length_le
  simpa using this
theorem dropR_miss {c : UInt8} {l : List UInt8} (h : blB c = false) : dropR (l ++ [c]) = l ++ [c] := by
  unfold dropR
  rw [List.reverse_append, List.reverse_singleton, List.singleton_append, List.dropWhile_cons, if_neg (by rw [h]; decide)]
  simp
/-- A text is bare just if neither its first nor its last byte is a blank. -/
theorem bar_iff (l : List UInt8) (h0 : 0 < l.length) : barB l = (!blB l[0] && !blB (l[l.length - 1]'(by omega))) := by
  obtain ⟨r, c, rfl⟩ : ∃ r c, l = r ++ [c] := ⟨l.dropLast, l.getLast (by intro e; rw [e] at h0; simp at h0), (List.dropLast_concat_getLast _).symm⟩
  have hlast : (r ++ [c])[(r ++ [c]).length - 1]'(by simp) = c := by simp
  rw [hlast]
  unfold barB
  cases hc : blB c with
  | true =>
    rw [decide_eq_false]
    · simp
    · intro e
      have h1 := dropR_hit (l := r) hc
      have h2 := dropL_len (dropR (r ++ [c]))
      rw [e, List.length_append] at h2
      simp at h2
      omega
  | false =>
    rw [dropR_miss hc]
    obtain ⟨d, s, hd⟩ : ∃ d s, r ++ [c] = d :: s := by
      cases h : r ++ [c] with
      | nil => simp at h
      | cons d s => exact ⟨d, s, rfl⟩
    simp only [hd, List.getElem_cons_zero]
    cases hdb : blB d with
    | true =>
      rw [decide_eq_false]
      · simp
      · intro e
        have h1 := dropL_hit (l := s) hdb
        rw [e] at h1
        simp only [List.length_cons] at h1
        omega
    | false =>
      rw [dropL_miss hdb]
      simp
theorem conv_slb' {w : World} {v : Value} {bs : List UInt8} (h : SlB w v bs) : (convert 29 9 v).run Tryz.prog w = .ok (.string ⟨bs.toArray⟩) w := by
  rcases h with ⟨rfl, a, cap, rfl⟩ | ⟨b, off, cap, rfl, h1, hc⟩
  · cases a with
    | none => exact Lib.run_convert_nil_bytes w 29 9 5 cap Tryz.underlying29 Tryz.underlying5 Tryz.underlying9
    | some x => exact run_convert_bytes_back (P := Tryz.prog) w 29 9 5 x cap [] Tryz.underlying29 Tryz.underlying5 Tryz.underlying9 (fun j hj => by simp at hj)
  · exact run_convert_bytes_back (P := Tryz.prog) w 29 9 5 ⟨b, off, none⟩ cap bs Tryz.underlying29 Tryz.underlying5 Tryz.underlying9 (fun j hj => by rw [addO]; exact hc j hj)
theorem sl_cut {w : World} {b off cap : Nat} {bs : List UInt8} (hc : ∀ j (h : j < bs.length), w.cell? ⟨b, off + j, none⟩ = some (.int .u8 (bs[j].toNat : Int))) (hcap : bs.length ≤ cap) (p n : Nat) (h : p + n ≤ bs.length) : SlB w (.slice (some ⟨b, off + p, none⟩) n (cap - p)) ((bs.drop p).take n) := by
  have hl : ((bs.drop p).take n).length = n := by rw [List.length_take, List.length_drop]; omega
  refine .inr ⟨b, off + p, cap - p, by rw [hl], by rw [hl]; omega, fun j hj => ?_⟩
  rw [hl] at hj
  rw [Nat.add_assoc, hc (p + j) (by omega)]
  simp
theorem bar_nil : barB [] = true := rfl
theorem bl_int (c : UInt8) : blB c = (((c.toNat : Int) == 32) || ((c.toNat : Int) == 9)) := by
  unfold blB
  have e : ∀ k : UInt8, decide (c = k) = ((c.toNat : Int) == (k.toNat : Int)) := fun k => by
    rw [Bool.eq_iff_iff]
    simp only [decide_eq_true_eq, beq_iff_eq]
    constructor
    · rintro rfl; rfl
    · intro h; exact UInt8.toNat_inj.1 (by omega)
  rw [e 32, e 9]
  rfl
set_option maxRecDepth 20000 in
set_option maxHeartbeats 8000000 in
theorem trim80 (bs : List UInt8) (hl : bs.length ≤ 1000000000) (b off cap : Nat) (hcap : bs.length ≤ cap) (w : World) (hc : ∀ j (h : j < bs.length), w.cell? ⟨b, off + j, none⟩ = some (.int .u8 (bs[j].toNat : Int))) (h0 : 0 < bs.length) :
    Calls Tryz.prog 80 #[.slice (some ⟨b, off, none⟩) bs.length cap] w fun e w' => ∃ S : ByteArray, e = .returned (.string S) ∧ decide (S.data.toList = bs) = barB bs ∧ w' = w := by
  have HC : Hid (∀ j (h : j < bs.length), w.cell? ⟨b, off + j, none⟩ = some (.int .u8 (bs[j].toNat : Int))) := hc
  have HB : Hid (barB bs = (!blB (bs[0]'h0) && !blB (bs[bs.length - 1]'(by omega)))) := bar_iff bs h0
  clear hc
  go_enter Tryz.func80, Tryz.ntmps80
  go_wp2
  go_loopw [3] (fun u w' => ∃ f : Nat, u = .int .i64 (f : Int) ∧ f ≤ bs.length ∧ Hid (∀ j (h : j < bs.length), j < f → blB bs[j] = true) ∧ w' = w) (fun u _ => bs.length - numOf u)
  case atStart => exact ⟨0, rfl, Nat.zero_le _, (fun j _ hj => by omega), rfl⟩
  case round =>
    obtain ⟨f, rfl, hf, HF, rfl⟩ := hrel
    by_cases hlt : f < bs.length
    · have hlt' : (f : Int) < (bs.length : Int) := by omega
      obtain ⟨c, hcc⟩ : ∃ c, bs[f] = c := ⟨_, rfl⟩
      have hcell := HC.out f hlt
      rw [hcc] at hcell
      have hbl := bl_int c
      cases hb : blB c with
      | true =>
        have HF2 : Hid (∀ j (h : j < bs.length), j < f + 1 → blB bs[j] = true) := fun j h hj => by
          by_cases hjf : j = f
          · subst hjf; rw [hcc]; exact hb
          · exact HF.out j h (by omega)
        rw [hb] at hbl
        clear hb HF
        by_cases h32 : (c.toNat : Int) = 32
        · rw [h32] at hcell
          clear hbl h32 hcc
          go_wp2
          go_roundw
          case rel => exact ⟨f + 1, by simp, hlt, HF2, trivial⟩
          case measure => simp [numOf]; omega
        · have h32' : ((c.toNat : Int) == 32) = false := by simpa using h32
          have h9 : (c.toNat : Int) = 9 := by simpa [h32'] using hbl.symm
          rw [h9] at hcell
          clear hbl h32 h32' h9 hcc
          go_wp2
          go_roundw
          case rel => exact ⟨f + 1, by simp, hlt, HF2, trivial⟩
          case measure => simp [numOf]; omega
      | false =>
        have HNB : Hid (blB (bs[f]'hlt) = false) := by show _ = _; rw [hcc]; exact hb
        rw [hb] at hbl
        have h32 : ((c.toNat : Int) == 32) = false := by
          cases h : ((c.toNat : Int) == 32) with
          | true => rw [h] at hbl; simp at hbl
          | false => rfl
        have h9 : ((c.toNat : Int) == 9) = false := by
          rw [h32] at hbl
          simpa using hbl.symm
        clear hb hbl
        go_wp2
        clear h32 h9 hcell hcc
        go_loopw [4] (fun u w' => ∃ t : Nat, u = .int .i64 (t : Int) ∧ f < t ∧ t ≤ bs.length ∧ Hid (∀ j (h : j < bs.length), t ≤ j → blB bs[j] = true) ∧ w' = wr) (fun u _ => numOf u)
        case atStart => exact ⟨bs.length, rfl, hlt, Nat.le_refl _, (fun j h hj => by omega), rfl⟩
        case round =>
          obtain ⟨t, rfl, hft, htl, HT, rfl⟩ := hrel
          have hft' : (f : Int) < (t : Int) := by omega
          obtain ⟨t, rfl⟩ : ∃ k, t = k + 1 := ⟨t - 1, by omega⟩
          have et : ((t + 1 : Nat) : Int) - 1 = (t : Int) := by omega
          have htlt : (t : Int) < (bs.length : Int) := by omega
          obtain ⟨d, hd⟩ : ∃ d, bs[t]'(by omega) = d := ⟨_, rfl⟩
          have hcell := HC.out t (by omega)
          rw [hd] at hcell
          have hbl := bl_int d
          cases hb : blB d with
          | true =>
            have hne : t ≠ f := fun e => by
              subst e
              have := HNB.out
              rw [hd, hb] at this
              cases this
            have HT2 : Hid (∀ j (h : j < bs.length), t ≤ j → blB bs[j] = true) := fun j h hj => by
              by_cases hjt : j = t
              · subst hjt; rw [hd]; exact hb
              · exact HT.out j h (by omega)
            rw [hb] at hbl
            clear hb HT
            by_cases h32 : (d.toNat : Int) = 32
            · rw [h32] at hcell
              clear hbl h32 hd
              go_wp2
              go_roundw
              case rel => exact ⟨t, by simp, by omega, by omega, HT2, trivial⟩
              case measure => simp [numOf]
            · have h32' : ((d.toNat : Int) == 32) = false := by simpa using h32
              have h9 : (d.toNat : Int) = 9 := by simpa [h32'] using hbl.symm
              rw [h9] at hcell
              clear hbl h32 h32' h9 hd
              go_wp2
              go_roundw
              case rel => exact ⟨t, by simp, by omega, by omega, HT2, trivial⟩
              case measure => simp [numOf]
          | false =>
            have HR : Hid (decide ((⟨((bs.drop f).take (t + 1 - f)).toArray⟩ : ByteArray).data.toList = bs) = barB bs) := by
              show _ = _
              rw [HB.out]
              by_cases hf0 : f = 0
              · subst hf0
                rw [HNB.out]
                by_cases ht : t + 1 = bs.length
                · have e2 : bs.length - 1 = t := by omega
                  simp only [e2, hd, hb]
                  rw [decide_eq_true]
                  · rfl
                  · simp only [List.drop_zero, Nat.sub_zero, ht, List.take_length]
                · have hlast := HT.out (bs.length - 1) (by omega) (by omega)
                  rw [hlast, decide_eq_false]
                  · rfl
                  · intro e
                    have := congrArg List.length e
                    simp at this
                    omega
              · have h1 := HF.out 0 h0 (by omega)
                rw [h1, decide_eq_false]
                · rfl
                · intro e
                  have := congrArg List.length e
                  simp at this
                  omega
            have hu := sl_cut (HC.out) hcap f (t + 1 - f) (by omega)
            have hcv := conv_slb' hu
            obtain ⟨S, hS⟩ : ∃ S : ByteArray, (⟨((bs.drop f).take (t + 1 - f)).toArray⟩ : ByteArray) = S := ⟨_, rfl⟩
            rw [hS] at hcv HR
            rw [hb] at hbl
            have h32 : ((d.toNat : Int) == 32) = false := by
              cases h : ((d.toNat : Int) == 32) with
              | true => rw [h] at hbl; simp at hbl
              | false => rfl
            have h9 : ((d.toNat : Int) == 9) = false := by
              rw [h32] at hbl
              simpa using hbl.symm
            have hfc : f < cap := by omega
            have htc : t + 1 ≤ cap := by omega
            clear hb hbl hd hu hS HT HF HB
            go_wp2
            go_ret
            exact ⟨_, rfl, HR.out, rfl⟩
    · have hlt' : ¬ (f : Int) < (bs.length : Int) := by omega
      obtain rfl : f = bs.length := by omega
      have h1 := HF.out 0 h0 (by omega)
      have HR : Hid (barB bs = false) := by show _ = _; rw [HB.out, h1]; rfl
      have hne : decide (([] : List UInt8) = bs) = false := by
        rw [decide_eq_false]
        intro e
        rw [← e] at h0
        simp at h0
      have hz : ∀ (x : Addr) (c : Nat), (convert 29 9 (.slice (some x) 0 c)).run Tryz.prog wr = .ok (.string ⟨#[]⟩) wr := fun x c => run_convert_bytes_back (P := Tryz.prog) wr 29 9 5 x c [] Tryz.underlying29 Tryz.underlying5 Tryz.underlying9 (fun j hj => by simp at hj)
      clear h1 HF HB
      go_wp2
      go_loopw [4] (fun u w' => u = .int .i64 (bs.length : Int) ∧ w' = wr) (fun _ _ => 0)
      case atStart => exact ⟨rfl, rfl⟩
      case round =>
        obtain ⟨rfl, rfl⟩ := hrel
        go_wp2
        all_goals
          go_ret
          exact ⟨_, rfl, by rw [HR.out]; exact hne, rfl⟩
set_option maxHeartbeats 2000000 in
theorem trim80_nil (a : Option Addr) (cap : Nat) (w : World) : Calls Tryz.prog 80 #[.slice a 0 cap] w fun e w' => e = .returned (.string ⟨#[]⟩) ∧ w' = w := by
  have hz : ∀ (x : Option Addr) (c : Nat), (convert 29 9 (.slice x 0 c)).run Tryz.prog w = .ok (.string ⟨#[]⟩) w := fun x c => conv_slb' (.inl ⟨rfl, _, _, rfl⟩)
  go_enter Tryz.func80, Tryz.ntmps80
  go_wp2
  go_loopw [3] (fun u w' => u = .int .i64 0 ∧ w' = w) (fun _ _ => 0)
  case atStart => exact ⟨rfl, rfl⟩
  case round =>
    obtain ⟨rfl, rfl⟩ := hrel
    go_wp2
    go_loopw [4] (fun u w' => u = .int .i64 0 ∧ w' = wr) (fun _ _ => 0)
    case atStart => exact ⟨rfl, rfl⟩
    case round =>
      obtain ⟨rfl, rfl⟩ := hrel
      go_wp2
      all_goals
        go_ret
        exact ⟨rfl, rfl⟩
/-- Bytes made of a text, trimmed. -/
theorem trim_conv (s : ByteArray) (hs : s.size ≤ 1000000000) (w : World) : Calls Tryz.prog 80 #[.slice (some ⟨w.heap.size, 0, none⟩) s.size (grownCap w s.size 0 5)] (Lib.bytesWorld w 5 s) fun e w' => ∃ S : ByteArray, e = .returned (.string S) ∧ (S.toList == s.toList) = barB s.data.toList ∧ w' = Lib.bytesWorld w 5 s := by
  have hsz := Lib.size_eq s
  by_cases h0 : s.size = 0
  · have hnil : s.data.toList = [] := List.eq_nil_of_length_eq_zero (by omega)
    rw [h0]
    refine (trim80_nil _ _ _).mono ?_
    rintro e w' ⟨rfl, rfl⟩
    exact ⟨_, rfl, by rw [Lib.toList_data, Lib.toList_data, hnil]; rfl, rfl⟩
  · have key := trim80 s.data.toList (by omega) w.heap.size 0 (grownCap w s.size 0 5) (by rw [← hsz]; exact grownCap_ge w s.size 0 5) (Lib.bytesWorld w 5 s) (fun j hj => by
      rw [Nat.zero_add, Lib.bytesWorld_cell w 5 s j (by omega), List.getD_eq_getElem?_getD, List.getElem?_eq_getElem hj]
      rfl) (by omega)
    rw [← hsz] at key
    refine key.mono ?_
    rintro e w' ⟨S, rfl, h1, rfl⟩
    refine ⟨S, rfl, ?_, rfl⟩
    rw [← h1, Lib.toList_data, Lib.toList_data, Bool.eq_iff_iff]
    simp
end Ht
end Go.Proofs.YtngfoghnopnbmaaGreatDoor
