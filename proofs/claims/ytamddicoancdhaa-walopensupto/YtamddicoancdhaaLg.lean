/- A log in memory; what wal.isName, Open, Append and Clear do, by walking their texts. -/
import Derived.Test.YtamddicoancdhaaDq
import Derived.Test.YtamddicoancdhaaCi
namespace Go.Proofs.Ytamddicoancdhaa
open Go.RowKit
namespace Wl
open Bw Rg Dk

/-- A log: its disk, its file's name. -/
def LogAt (w : World) (lb db : Nat) (s : ByteArray) : Prop := w.heap[lb]? = some (.cells #[.pointer (some ⟨db, 0, none⟩), .string s] 70 (0, 0))
theorem LogAt.lt {w : World} {lb db : Nat} {s : ByteArray} (h : LogAt w lb db s) : lb < w.heap.size := lt_of_block h
theorem LogAt.c0 {w : World} {lb db : Nat} {s : ByteArray} (h : LogAt w lb db s) : w.cell? ⟨lb, 0, none⟩ = some (.pointer (some ⟨db, 0, none⟩)) := by
  unfold LogAt at h
  simp [World.cell?, h]
theorem LogAt.c1 {w : World} {lb db : Nat} {s : ByteArray} (h : LogAt w lb db s) : w.cell? ⟨lb, 1, none⟩ = some (.string s) := by
  unfold LogAt at h
  simp [World.cell?, h]
theorem LogAt.fr {S : Nat → Prop} {w w' : World} {lb db : Nat} {s : ByteArray} (h : LogAt w lb db s) (f : Fr S w w') (hn : ¬ S lb) : LogAt w' lb db s := (f.block lb h.lt hn).trans h
theorem bin_nerr (a b : Int) (W : World) : (binOp .neq 25 (.iface 47 (.int .i64 a)) (.iface 47 (.int .i64 b))).run Try.prog W = .ok (.bool (!(a == b))) W := by
  simp only [binOp]
  simp [Op.equal, Op.maxDepth, eq_err a b W]
set_option maxHeartbeats 1000000 in
theorem wisName_any (s : ByteArray) (w : World) (hs : s.size ≤ 140737488355328) : Calls Try.prog 34 #[.string s] w fun e w' => e = .returned (.bool (isNm s)) ∧ Below w.heap.size w w' := by
  have hok : Ok ⟨0, true, -1, 0, []⟩ := ok _ (by decide)
  have hap := fun (w1 : World) (h : DiskIs w.heap.size w1 (w.heap.size + 1) ⟨0, true, -1, 0, []⟩) => appendD h (Below.refl _ _) hok s (.slice none 0 0) [] hs (.inl ⟨rfl, .inl rfl⟩) (fun x l c e _ => by cases e) (by simp [usedA])
  by_cases hn : isNm s = true
  · have ha : (appendA ⟨0, true, -1, 0, []⟩ s []).1 = 0 := by simp [appendA, hn, usedA, stepA]
    have c20 : ∀ w1, DiskIs w.heap.size w1 (w.heap.size + 1) ⟨0, true, -1, 0, []⟩ → Calls Try.prog 20 #[.pointer (some ⟨w.heap.size + 1, 0, none⟩), .string s, .slice none 0 0] w1 fun e w' => e = .returned .nilIface ∧ Below w.heap.size w1 w' := fun w1 h => by
      refine (hap w1 h).mono ?_
      rw [ha]
      rintro e w2 ⟨rfl, -, hb2⟩
      exact ⟨rfl, hb2⟩
    rw [hn]
    go_enter Try.func34, Try.ntmps34
    go_wp2_with first
      | (go_at_call 17; refine (newD 0 w (by decide)).mono ?_; rintro e w1 ⟨rfl, hd1, hb1⟩; have HD1 := (show Hid (DiskIs w.heap.size w1 (w.heap.size + 1) ⟨0, true, -1, 0, []⟩) from hd1); have HB1 := (show Hid (Below w.heap.size w w1) from hb1); clear hd1 hb1)
      | (go_at_call 20; refine (c20 _ HD1.out).mono ?_; rintro e w2 ⟨rfl, hb2⟩; have HB2 := (show Hid (Below w.heap.size w w2) from HB1.out.trans hb2); clear hb2)
    go_ret
    exact ⟨rfl, HB2.out⟩
  · have hn' : isNm s = false := by simpa using hn
    have ha : (appendA ⟨0, true, -1, 0, []⟩ s []).1 = 1 := by simp [appendA, hn']
    have c20 : ∀ w1, DiskIs w.heap.size w1 (w.heap.size + 1) ⟨0, true, -1, 0, []⟩ → Calls Try.prog 20 #[.pointer (some ⟨w.heap.size + 1, 0, none⟩), .string s, .slice none 0 0] w1 fun e w' => e = .returned (code 1) ∧ Below w.heap.size w1 w' := fun w1 h => by
      refine (hap w1 h).mono ?_
      rw [ha]
      rintro e w2 ⟨rfl, -, hb2⟩
      exact ⟨rfl, hb2⟩
    rw [hn']
    go_enter Try.func34, Try.ntmps34
    go_wp2_with first
      | (go_at_call 17; refine (newD 0 w (by decide)).mono ?_; rintro e w1 ⟨rfl, hd1, hb1⟩; have HD1 := (show Hid (DiskIs w.heap.size w1 (w.heap.size + 1) ⟨0, true, -1, 0, []⟩) from hd1); have HB1 := (show Hid (Below w.heap.size w w1) from hb1); clear hd1 hb1)
      | (go_at_call 20; refine (c20 _ HD1.out).mono ?_; rintro e w2 ⟨rfl, hb2⟩; have HB2 := (show Hid (Below w.heap.size w w2) from HB1.out.trans hb2); clear hb2)
    go_ret
    exact ⟨rfl, HB2.out⟩
/-- Open without a disk, or at what is no name. -/
theorem open_nil (s : ByteArray) (w : World) : Calls Try.prog 19 #[.pointer none, .string s] w fun e w' => e = .returned (.tuple #[.pointer none, .slice none 0 0, code 1]) ∧ w' = w := by
  go_enter Try.func19, Try.ntmps19
  go_wp2
  go_ret3
  exact ⟨rfl, rfl⟩
theorem open_bad (s : ByteArray) (db : Nat) (w : World) (hs : s.size ≤ 140737488355328) (hn : isNm s = false) : Calls Try.prog 19 #[.pointer (some ⟨db, 0, none⟩), .string s] w fun e w' => e = .returned (.tuple #[.pointer none, .slice none 0 0, code 1]) ∧ Below w.heap.size w w' := by
  have c34 := wisName_any s w hs
  rw [hn] at c34
  go_enter Try.func19, Try.ntmps19
  go_wp2_with (go_at_call 34; refine Calls.mono c34 ?_; rintro e w1 ⟨rfl, hb1⟩)
  go_ret3
  exact ⟨rfl, hb1⟩
/-- What Open leaves of a file. -/
def trim : Option (List UInt8 × Nat) → Option (List UInt8 × Nat)
  | none => none
  | some y => if (scan y.1).2 < y.1.length then some (y.1.take (scan y.1).2, (scan y.1).2) else some y
/-- What Open answers. -/
def OpenOut (w : World) (d : Ds) (s : ByteArray) (o : Option (List UInt8 × Nat)) (e : Ending) (w' : World) : Prop :=
  ∃ d' lb v, d'.db = d.db ∧ e = .returned (.tuple #[.pointer (some ⟨lb, 0, none⟩), v, .nilIface]) ∧ DQ w' d' s ⟨true, -1, trim o⟩ ∧ LogAt w' lb d.db s ∧ lb ∉ d'.foot ∧ w.heap.size ≤ lb ∧ SlS w' v (scan (byt o)).1 ∧ Fr (Of d) w w' ∧ Grew d d' w
theorem new_log (w : World) (d : Ds) (s : ByteArray) {x : S1} (h : DQ w d s x) : let w' := w.alloc (.cells #[.pointer (some ⟨d.db, 0, none⟩), .string s] 70); LogAt w' w.heap.size d.db s ∧ w.heap.size ∉ d.foot := by
  refine ⟨heap_alloc_new _ _, fun hc => ?_⟩
  have := h.at'.lt _ hc
  omega
set_option maxHeartbeats 1000000 in
theorem open_none (w : World) (d : Ds) (s : ByteArray) (h : DQ w d s ⟨true, -1, none⟩) (hs : s.size ≤ 140737488355328) (hn : isNm s = true) : Calls Try.prog 19 #[.pointer (some ⟨d.db, 0, none⟩), .string s] w (OpenOut w d s none) := by
  have c34 := wisName_any s w hs
  rw [hn] at c34
  have n1 : ∀ W : World, (binOp .neq 25 (.iface 47 (.int .i64 9)) (.iface 47 (.int .i64 9))).run Try.prog W = .ok (.bool false) W := fun W => bin_nerr 9 9 W
  have hsc : scan [] = ([], 0) := scan_none (if_pos (by simp))
  have csc := fun W => scan_any (.slice none 0 0) [] W (.inl ⟨rfl, .inl rfl⟩) (by simp)
  rw [hsc] at csc
  obtain ⟨D, hD⟩ : ∃ D, d.db = D := ⟨_, rfl⟩
  have HD : Hid (d.db = D) := hD
  have HQ : Hid (DQ w d s ⟨true, -1, none⟩) := h
  rw [hD]
  clear hD h
  go_enter Try.func19, Try.ntmps19
  go_wp2_with first
    | (go_at_call 34; refine Calls.mono c34 ?_; rintro e w1 ⟨rfl, hb1⟩; have HB1 := (show Hid (Below w.heap.size w w1) from hb1); have hrd := qread_none (HQ.out.below hb1) rfl rfl hs; rw [HD.out] at hrd; clear hb1)
    | (go_at_call 21; refine Calls.mono hrd ?_; rintro e w2 ⟨rfl, rfl⟩; clear hrd)
    | (go_at_call 14; refine (csc _).mono ?_; rintro e w3 ⟨v3, rfl, hr3, hb3⟩; have HB3 := (show Hid (Below w.heap.size w w3) from HB1.out.trans (hb3.mono HB1.out.size)); have HR3 := (show Hid (SlS w3 v3 []) from hr3.sls); clear hr3 hb3)
    | (go_at_call 36; refine (sclone_any s _ (by omega)).mono ?_; rintro e w4 ⟨rfl, hb4⟩; have HB4 := (show Hid (Below w.heap.size w w4) from HB3.out.trans (hb4.mono HB3.out.size)); have HR4 := (show Hid (SlS w4 v3 []) from HR3.out.below hb4); clear hb4)
  go_ret3
  have hb5 : Below w.heap.size w (w4.alloc (.cells #[.pointer (some ⟨D, 0, none⟩), .string s] 70)) := HB4.out.alloc HB4.out.size _
  obtain ⟨h1, h2⟩ := new_log w4 d s (HQ.out.below HB4.out)
  rw [HD.out] at h1
  refine ⟨d, _, _, rfl, rfl, HQ.out.below hb5, HD.out.symm ▸ h1, h2, HB4.out.size, ?_, Fr.of_below hb5, Grew.refl _ _⟩
  show SlS _ _ (scan []).1
  rw [hsc]
  exact HR4.out.below ((Below.refl _ _).alloc (Nat.le_refl _) _)
set_option maxHeartbeats 1000000 in
theorem open_whole (w : World) (d : Ds) (s : ByteArray) (bs : List UInt8) (sy : Nat) (h : DQ w d s ⟨true, -1, some (bs, sy)⟩) (hs : s.size ≤ 140737488355328) (hn : isNm s = true) (hbl : bs.length ≤ 1099511627776) (hw : ¬ (scan bs).2 < bs.length) : Calls Try.prog 19 #[.pointer (some ⟨d.db, 0, none⟩), .string s] w (OpenOut w d s (some (bs, sy))) := by
  have c34 := wisName_any s w hs
  rw [hn] at c34
  obtain ⟨D, hD⟩ : ∃ D, d.db = D := ⟨_, rfl⟩
  have HD : Hid (d.db = D) := hD
  have HQ : Hid (DQ w d s ⟨true, -1, some (bs, sy)⟩) := h
  rw [hD]
  have htr : trim (some (bs, sy)) = some (bs, sy) := if_neg hw
  have HTR : Hid (trim (some (bs, sy)) = some (bs, sy)) := htr
  obtain ⟨n, hn2⟩ : ∃ n, bs.length = n := ⟨_, rfl⟩
  obtain ⟨t, ht⟩ : ∃ t, (scan bs).2 = t := ⟨_, rfl⟩
  have hw' : ¬ (t : Int) < (n : Int) := by omega
  have HN : Hid (bs.length = n ∧ (scan bs).2 = t ∧ bs.length ≤ 1099511627776) := ⟨hn2, ht, hbl⟩
  clear hD h htr hn2 ht hw hbl
  go_enter Try.func19, Try.ntmps19
  go_wp2_with first
    | (go_at_call 34; refine Calls.mono c34 ?_; rintro e w1 ⟨rfl, hb1⟩; have HB1 := (show Hid (Below w.heap.size w w1) from hb1); have hrd := qread (HQ.out.below hb1) rfl rfl; rw [HD.out] at hrd; clear hb1)
    | (go_at_call 21; refine Calls.mono hrd ?_; rintro e w2 ⟨v2, rfl, hr2, hb2⟩; have HB2 := (show Hid (Below w.heap.size w w2) from HB1.out.trans (hb2.mono HB1.out.size)); have HR2 := (show Hid (SlM w2 v2 bs) from hr2.slm); have hlen2 := SlM.len HR2.out; rw [HN.out.1] at hlen2; clear hrd hr2 hb2)
    | (go_at_call 14; refine (scan_any v2 bs _ HR2.out HN.out.2.2).mono ?_; rw [HN.out.2.1]; rintro e w3 ⟨v3, rfl, hr3, hb3⟩; have HB3 := (show Hid (Below w.heap.size w w3) from HB2.out.trans (hb3.mono HB2.out.size)); have HR3 := (show Hid (SlS w3 v3 (scan bs).1) from hr3.sls); clear hr3 hb3)
    | (go_at_call 36; refine (sclone_any s _ (by omega)).mono ?_; rintro e w4 ⟨rfl, hb4⟩; have HB4 := (show Hid (Below w.heap.size w w4) from HB3.out.trans (hb4.mono HB3.out.size)); have HR4 := (show Hid (SlS w4 v3 (scan bs).1) from HR3.out.below hb4); clear hb4)
  go_ret3
  have hb5 : Below w.heap.size w (w4.alloc (.cells #[.pointer (some ⟨D, 0, none⟩), .string s] 70)) := HB4.out.alloc HB4.out.size _
  obtain ⟨h1, h2⟩ := new_log w4 d s (HQ.out.below HB4.out)
  rw [HD.out] at h1
  refine ⟨d, _, _, rfl, rfl, ?_, HD.out.symm ▸ h1, h2, HB4.out.size, HR4.out.below ((Below.refl _ _).alloc (Nat.le_refl _) _), Fr.of_below hb5, Grew.refl _ _⟩
  rw [HTR.out]
  exact HQ.out.below hb5
set_option maxHeartbeats 1000000 in
theorem open_torn (w : World) (d : Ds) (s : ByteArray) (bs : List UInt8) (sy : Nat) (h : DQ w d s ⟨true, -1, some (bs, sy)⟩) (hs : s.size ≤ 140737488355328) (hn : isNm s = true) (hbl : bs.length ≤ 1099511627776) (hw : (scan bs).2 < bs.length) : Calls Try.prog 19 #[.pointer (some ⟨d.db, 0, none⟩), .string s] w (OpenOut w d s (some (bs, sy))) := by
  have c34 := wisName_any s w hs
  rw [hn] at c34
  obtain ⟨D, hD⟩ : ∃ D, d.db = D := ⟨_, rfl⟩
  have HD : Hid (d.db = D) := hD
  have HQ : Hid (DQ w d s ⟨true, -1, some (bs, sy)⟩) := h
  rw [hD]
  have htr : trim (some (bs, sy)) = some (bs.take (scan bs).2, (scan bs).2) := if_pos hw
  obtain ⟨n, hn2⟩ : ∃ n, bs.length = n := ⟨_, rfl⟩
  obtain ⟨t, ht⟩ : ∃ t, (scan bs).2 = t := ⟨_, rfl⟩
  have hw' : (t : Int) < (n : Int) := by omega
  rw [ht] at htr
  have HTR : Hid (trim (some (bs, sy)) = some (bs.take t, t)) := htr
  have HN : Hid (bs.length = n ∧ (scan bs).2 = t ∧ bs.length ≤ 1099511627776 ∧ t ≤ bs.length) := ⟨hn2, ht, hbl, by omega⟩
  have ctr : ∀ W, DQ W d s ⟨true, -1, some (bs, sy)⟩ → Calls Try.prog 35 #[.pointer (some ⟨d.db, 0, none⟩), .string s, .int .i64 (t : Int)] W fun e w' => ∃ d', d'.db = d.db ∧ e = .returned .nilIface ∧ DQ w' d' s ⟨true, -1, some (bs.take t, t)⟩ ∧ Fr (Of d) W w' ∧ Grew d d' W := fun W hW => qtrunc hW rfl rfl (by show (-1 : Int) ≠ 0; decide) t (by omega)
  rw [hD] at ctr
  clear hD h htr hn2 ht hw hbl
  go_enter Try.func19, Try.ntmps19
  go_wp2_with first
    | (go_at_call 34; refine Calls.mono c34 ?_; rintro e w1 ⟨rfl, hb1⟩; have HB1 := (show Hid (Below w.heap.size w w1) from hb1); have hrd := qread (HQ.out.below hb1) rfl rfl; rw [HD.out] at hrd; clear hb1)
    | (go_at_call 21; refine Calls.mono hrd ?_; rintro e w2 ⟨v2, rfl, hr2, hb2⟩; have HB2 := (show Hid (Below w.heap.size w w2) from HB1.out.trans (hb2.mono HB1.out.size)); have HR2 := (show Hid (SlM w2 v2 bs) from hr2.slm); have hlen2 := SlM.len HR2.out; rw [HN.out.1] at hlen2; clear hrd hr2 hb2)
    | (go_at_call 14; refine (scan_any v2 bs _ HR2.out HN.out.2.2.1).mono ?_; rw [HN.out.2.1]; rintro e w3 ⟨v3, rfl, hr3, hb3⟩; have HB3 := (show Hid (Below w.heap.size w w3) from HB2.out.trans (hb3.mono HB2.out.size)); have HR3 := (show Hid (Recs w2.heap.size w3 v3 (scan bs).1) from hr3); clear hr3 hb3)
    | (go_at_call 35; refine (ctr _ (HQ.out.below HB3.out)).mono ?_; rintro e w5 ⟨d5, hdb5, rfl, hq5, hf5, hg5⟩; have HR5 := (show Hid (SlS w5 v3 (scan bs).1) from (HR3.out.fr hf5 (fun k hk => Nat.lt_of_lt_of_le (HQ.out.at'.lt k hk) HB2.out.size)).sls); have H5 := (show Hid (d5.db = D ∧ DQ w5 d5 s ⟨true, -1, some (bs.take t, t)⟩ ∧ Fr (Of d) w w5 ∧ Grew d d5 w) from ⟨hdb5, hq5, (Fr.of_below HB3.out).and hf5 (fun _ _ e => e), fun k hk => (hg5 k hk).imp id (fun h => Nat.le_trans HB3.out.size h)⟩); clear hdb5 hq5 hf5 hg5)
    | (go_at_call 36; refine (sclone_any s _ (by omega)).mono ?_; rintro e w6 ⟨rfl, hb6⟩; have HR6 := (show Hid (SlS w6 v3 (scan bs).1) from HR5.out.below hb6); have H6 := (show Hid (d5.db = D ∧ DQ w6 d5 s ⟨true, -1, some (bs.take t, t)⟩ ∧ Fr (Of d) w w6 ∧ Grew d d5 w) from ⟨H5.out.1, H5.out.2.1.below hb6, H5.out.2.2.1.and (Fr.of_below (S := Of d) hb6) (fun _ _ e => e), H5.out.2.2.2⟩); clear hb6)
  go_ret3
  obtain ⟨e1, e2, e3, e4⟩ := H6.out
  have hba : Below w6.heap.size w6 (w6.alloc (.cells #[.pointer (some ⟨D, 0, none⟩), .string s] 70)) := (Below.refl _ _).alloc (Nat.le_refl _) _
  obtain ⟨h1, h2⟩ := new_log w6 d5 s e2
  rw [e1] at h1
  refine ⟨d5, _, _, e1.trans HD.out.symm, rfl, ?_, HD.out.symm ▸ h1, h2, e3.size, HR6.out.below hba, e3.and (Fr.of_below (S := Of d) hba) (fun _ _ e => e), e4⟩
  rw [HTR.out]
  exact e2.below hba
theorem open_any (w : World) (d : Ds) (s : ByteArray) (o : Option (List UInt8 × Nat)) (h : DQ w d s ⟨true, -1, o⟩) (hs : s.size ≤ 140737488355328) (hn : isNm s = true) (hbl : (byt o).length ≤ 1099511627776) : Calls Try.prog 19 #[.pointer (some ⟨d.db, 0, none⟩), .string s] w (OpenOut w d s o) := by
  cases o with
  | none => exact open_none w d s h hs hn
  | some y =>
    obtain ⟨bs, sy⟩ := y
    by_cases hw : (scan bs).2 < bs.length
    · exact open_torn w d s bs sy h hs hn hbl hw
    · exact open_whole w d s bs sy h hs hn hbl hw
end Wl
end Go.Proofs.Ytamddicoancdhaa
