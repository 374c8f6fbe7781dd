/- A log in memory; what wal.isName, Open, Append and Clear do at any disk, told by the model: by walking their texts. -/
import Derived.Test.YtcinjdaanhpbjaaGreatXaj
import Derived.Test.YtcinjdaanhpbjaaGreatXah
namespace Go.Proofs.YtcinjdaanhpbjaaGreat
open Go.RowKit
namespace Wl
open Bw Rg Dk Rf

/-- A log: its disk, its file's name. -/
def LogAt (w : World) (lb db : Nat) (s : ByteArray) : Prop := w.heap[lb]? = some (.cells #[.pointer (some ⟨db, 0, none⟩), .string s] 124 (0, 0))
theorem LogAt.lt {w : World} {lb db : Nat} {s : ByteArray} (h : LogAt w lb db s) : lb < w.heap.size := lt_of_block h
theorem LogAt.c0 {w : World} {lb db : Nat} {s : ByteArray} (h : LogAt w lb db s) : w.cell? ⟨lb, 0, none⟩ = some (.pointer (some ⟨db, 0, none⟩)) := by
  unfold LogAt at h
  simp [World.cell?, h]
theorem LogAt.c1 {w : World} {lb db : Nat} {s : ByteArray} (h : LogAt w lb db s) : w.cell? ⟨lb, 1, none⟩ = some (.string s) := by
  unfold LogAt at h
  simp [World.cell?, h]
theorem LogAt.fr {S : Nat → Prop} {w w' : World} {lb db : Nat} {s : ByteArray} (h : LogAt w lb db s) (f : Fr S w w') (hn : ¬ S lb) : LogAt w' lb db s := (f.block lb h.lt hn).trans h
theorem LogAt.below {w w' : World} {lb db : Nat} {s : ByteArray} (h : LogAt w lb db s) (f : Below w.heap.size w w') : LogAt w' lb db s := (f.block lb h.lt).trans h
theorem bin_nerr (a b : Int) (W : World) : (binOp .neq 38 (.iface 48 (.int .i64 a)) (.iface 48 (.int .i64 b))).run Tryz.prog W = .ok (.bool (!(a == b))) W := by
  simp only [binOp]
  simp [Op.equal, Op.maxDepth, eq_err a b W]
theorem eq_nil (n : Int) (W : World) : (Op.equalIn 10000 38 .nilIface (.iface 48 (.int .i64 n))).run Tryz.prog W = .ok false W := by
  rw [show (10000 : Nat) = 9999 + 1 from rfl, Op.equalIn]
  simp only [Sem.run_bind, run_underlying Tryz.underlying38, Result.andThen_ok]
  simp
theorem nil_eql (n : Int) (W : World) : (binOp .eql 38 .nilIface (.iface 48 (.int .i64 n))).run Tryz.prog W = .ok (.bool false) W := by
  simp only [binOp]
  simp [Op.equal, Op.maxDepth, eq_nil n W]
theorem codeV_ne {n : Int} (h : n ≠ 0) : codeV n = code n := if_neg h
theorem codeV_zero : codeV 0 = .nilIface := rfl
/-- What calls leave of a disk. -/
structure DS (w : World) (d d' : Ds) (a' : Ab) (w' : World) : Prop where
  db : d'.db = d.db
  dp : DP w' d' a'
  fr : Fr (Of d) w w'
  grew : Grew d d' w
section
variable {w w' w'' : World} {d d' d'' : Ds} {a' a'' : Ab}
theorem DS.refl (h : DP w d a') : DS w d d a' w := ⟨rfl, h, Fr.refl _ _, fun _ h => .inl h⟩
theorem DS.below (h : DS w d d' a' w') (hb : Below w'.heap.size w' w'') : DS w d d' a' w'' := ⟨h.db, h.dp.below hb, h.fr.and (Fr.of_below (S := Of d) hb) (fun _ _ e => e), h.grew⟩
theorem DS.trans (h : DS w d d' a' w') (k : DS w' d' d'' a'' w'') : DS w d d'' a'' w'' := by
  refine ⟨k.db.trans h.db, k.dp, ⟨k.fr.os.trans h.fr.os, k.fr.tape.trans h.fr.tape, k.fr.output.trans h.fr.output, Nat.le_trans h.fr.size k.fr.size, fun b hb hn => ?_⟩, fun b hb => ?_⟩
  · refine (k.fr.block b (Nat.lt_of_lt_of_le hb h.fr.size) (fun hc => ?_)).trans (h.fr.block b hb hn)
    rcases h.grew b hc with h1 | h1
    · exact hn h1
    · omega
  · rcases k.grew b hb with h1 | h1
    · exact h.grew b h1
    · exact .inr (Nat.le_trans h.fr.size h1)
theorem DS.of (h : DP w d a'') (hb : Below w.heap.size w w') : DS w d d a'' w' := (DS.refl h).below hb
end
theorem dout_ds {w : World} {d : Ds} {r : Int × Ab} {f : Nat} {args : Array Value} (h : Calls Tryz.prog f args w (DOut w d r)) : Calls Tryz.prog f args w fun e w' => ∃ d', e = .returned (codeV r.1) ∧ DS w d d' r.2 w' := by
  refine h.mono ?_
  rintro e w' ⟨d', h1, h2, h3, h4, h5⟩
  exact ⟨d', h2, h1, h3, h4, h5⟩
set_option maxHeartbeats 1000000 in
theorem wisName_any (s : ByteArray) (w : World) (hs : s.size ≤ 140737488355328) : Calls Tryz.prog 100 #[.string s] w fun e w' => e = .returned (.bool (isNm s)) ∧ Below w.heap.size w w' := by
  have hok : Ok ⟨0, true, -1, 0, []⟩ := ok _ (by decide)
  have hap := fun (w1 : World) (h : DiskIs w.heap.size w1 (w.heap.size + 1) ⟨0, true, -1, 0, []⟩) => appendD h (Below.refl _ _) hok s (.slice none 0 0) [] hs (.inl ⟨rfl, .inl rfl⟩) (fun x l c e _ => by cases e) (by simp [usedA])
  by_cases hn : isNm s = true
  · have ha : (appendA ⟨0, true, -1, 0, []⟩ s []).1 = 0 := by simp [appendA, hn, usedA, stepA]
    have c20 : ∀ w1, DiskIs w.heap.size w1 (w.heap.size + 1) ⟨0, true, -1, 0, []⟩ → Calls Tryz.prog 27 #[.pointer (some ⟨w.heap.size + 1, 0, none⟩), .string s, .slice none 0 0] w1 fun e w' => e = .returned .nilIface ∧ Below w.heap.size w1 w' := fun w1 h => by
      refine (hap w1 h).mono ?_
      rw [ha]
      rintro e w2 ⟨rfl, -, hb2⟩
      exact ⟨rfl, hb2⟩
    rw [hn]
    go_enter Tryz.func100, Tryz.ntmps100
    go_wp2_with first
      | (go_at_call 26; refine (newD 0 w (by decide)).mono ?_; rintro e w1 ⟨rfl, hd1, hb1⟩; have HD1 := (show Hid (DiskIs w.heap.size w1 (w.heap.size + 1) ⟨0, true, -1, 0, []⟩) from hd1); have HB1 := (show Hid (Below w.heap.size w w1) from hb1); clear hd1 hb1)
      | (go_at_call 27; refine (c20 _ HD1.out).mono ?_; rintro e w2 ⟨rfl, hb2⟩; have HB2 := (show Hid (Below w.heap.size w w2) from HB1.out.trans hb2); clear hb2)
    go_ret
    exact ⟨rfl, HB2.out⟩
  · have hn' : isNm s = false := by simpa using hn
    have ha : (appendA ⟨0, true, -1, 0, []⟩ s []).1 = 1 := by simp [appendA, hn']
    have c20 : ∀ w1, DiskIs w.heap.size w1 (w.heap.size + 1) ⟨0, true, -1, 0, []⟩ → Calls Tryz.prog 27 #[.pointer (some ⟨w.heap.size + 1, 0, none⟩), .string s, .slice none 0 0] w1 fun e w' => e = .returned (code 1) ∧ Below w.heap.size w1 w' := fun w1 h => by
      refine (hap w1 h).mono ?_
      rw [ha]
      rintro e w2 ⟨rfl, -, hb2⟩
      exact ⟨rfl, hb2⟩
    rw [hn']
    go_enter Tryz.func100, Tryz.ntmps100
    go_wp2_with first
      | (go_at_call 26; refine (newD 0 w (by decide)).mono ?_; rintro e w1 ⟨rfl, hd1, hb1⟩; have HD1 := (show Hid (DiskIs w.heap.size w1 (w.heap.size + 1) ⟨0, true, -1, 0, []⟩) from hd1); have HB1 := (show Hid (Below w.heap.size w w1) from hb1); clear hd1 hb1)
      | (go_at_call 27; refine (c20 _ HD1.out).mono ?_; rintro e w2 ⟨rfl, hb2⟩; have HB2 := (show Hid (Below w.heap.size w w2) from HB1.out.trans hb2); clear hb2)
    go_ret
    exact ⟨rfl, HB2.out⟩
/-- Open of a file's log: an error's number, what is left. -/
def opnA (a : Ab) (s : ByteArray) : Int × Ab :=
  if a.on = false then (11, a) else if (scan (readM a s).1).2 < (readM a s).1.length then truncM a s ((scan (readM a s).1).2 : Nat) else (0, a)
/-- What Open answers. -/
def OpnOut (w : World) (d : Ds) (a : Ab) (s : ByteArray) (e : Ending) (w' : World) : Prop :=
  ∃ d' lp v, e = .returned (.tuple #[ptrV lp, v, codeV (opnA a s).1]) ∧ DS w d d' (opnA a s).2 w' ∧ ((opnA a s).1 = 0 → ∃ lb, lp = some lb ∧ LogAt w' lb d.db s ∧ lb ∉ d'.foot ∧ w.heap.size ≤ lb)
theorem new_log {w : World} {d : Ds} {a : Ab} (D : Nat) (s : ByteArray) (h : DP w d a) : let w' := w.alloc (.cells #[.pointer (some ⟨D, 0, none⟩), .string s] 124); LogAt w' w.heap.size D s ∧ w.heap.size ∉ d.foot := by
  refine ⟨heap_alloc_new _ _, fun hc => ?_⟩
  have := h.at'.lt _ hc
  omega
section
variable {w : World} {d : Ds} {a : Ab}
theorem opn_off (s : ByteArray) (h : DP w d a) (hg : Rf.Good a) (hs : s.size ≤ 140737488355328) (hn : isNm s = true) (ho : a.on = false) : Calls Tryz.prog 81 #[.pointer (some ⟨d.db, 0, none⟩), .string s] w (OpnOut w d a s) := by
  have c100 := wisName_any s w hs
  rw [hn] at c100
  have n1 : ∀ W : World, (binOp .neq 38 (.iface 48 (.int .i64 11)) (.iface 48 (.int .i64 9))).run Tryz.prog W = .ok (.bool true) W := fun W => bin_nerr 11 9 W
  have HO : Hid (opnA a s = (11, a)) := if_pos ho
  have c18 : ∀ W, Below w.heap.size w W → Calls Tryz.prog 18 #[.pointer (some ⟨d.db, 0, none⟩), .string s] W fun e w' => ∃ v, e = .returned (.tuple #[v, code 11]) ∧ RowB W.heap.size w' v [] ∧ Below W.heap.size W w' := fun W hb => by
    have hr : readM a s = ([], 11) := if_pos ho
    have h1 := dread (h.below hb) hg s hs
    rw [hr] at h1
    exact h1
  obtain ⟨D, hD⟩ : ∃ D, d.db = D := ⟨_, rfl⟩
  have HQ : Hid (DP w d a ∧ d.db = D) := ⟨h, hD⟩
  rw [hD] at c18 ⊢
  clear hD h
  go_enter Tryz.func81, Tryz.ntmps81
  go_wp2_with first
    | (go_at_call 100; refine Calls.mono c100 ?_; rintro e w1 ⟨rfl, hb1⟩; have HB1 := (show Hid (Below w.heap.size w w1) from hb1); clear hb1)
    | (go_at_call 18; refine (c18 _ HB1.out).mono ?_; rintro e w2 ⟨v2, rfl, -, hb2⟩; have HB2 := (show Hid (Below w.heap.size w w2) from HB1.out.trans (hb2.mono HB1.out.size)); clear hb2)
  go_ret3
  unfold OpnOut
  rw [HO.out]
  exact ⟨d, none, _, rfl, DS.of HQ.out.1 HB2.out, fun h => absurd h (show ¬ (11 : Int) = 0 by decide)⟩
set_option maxHeartbeats 1000000 in
theorem opn_none (s : ByteArray) (h : DP w d a) (hg : Rf.Good a) (hs : s.size ≤ 140737488355328) (hn : isNm s = true) (ho : a.on = true) (hf : findA s a.L = none) : Calls Tryz.prog 81 #[.pointer (some ⟨d.db, 0, none⟩), .string s] w (OpnOut w d a s) := by
  have c100 := wisName_any s w hs
  rw [hn] at c100
  have n1 : ∀ W : World, (binOp .neq 38 (.iface 48 (.int .i64 9)) (.iface 48 (.int .i64 9))).run Tryz.prog W = .ok (.bool false) W := fun W => bin_nerr 9 9 W
  have hr : readM a s = ([], 9) := by simp [readM, ho, hf]
  have hsc : scan [] = ([], 0) := scan_none (if_pos (by simp))
  have HO : Hid (opnA a s = (0, a)) := by show _ = _; unfold opnA; rw [hr, hsc, if_neg (by simp [ho]), if_neg (by simp)]
  have csc := fun W v (hv : SlM W v []) => scan_any v [] W hv (by simp)
  rw [hsc] at csc
  have c18 : ∀ W, Below w.heap.size w W → Calls Tryz.prog 18 #[.pointer (some ⟨d.db, 0, none⟩), .string s] W fun e w' => ∃ v, e = .returned (.tuple #[v, code 9]) ∧ RowB W.heap.size w' v [] ∧ Below W.heap.size W w' := fun W hb => by
    have h1 := dread (h.below hb) hg s hs
    rw [hr] at h1
    exact h1
  obtain ⟨D, hD⟩ : ∃ D, d.db = D := ⟨_, rfl⟩
  have HQ : Hid (DP w d a ∧ d.db = D) := ⟨h, hD⟩
  rw [hD] at c18 ⊢
  clear hD h hr hsc
  go_enter Tryz.func81, Tryz.ntmps81
  go_wp2_with first
    | (go_at_call 100; refine Calls.mono c100 ?_; rintro e w1 ⟨rfl, hb1⟩; have HB1 := (show Hid (Below w.heap.size w w1) from hb1); clear hb1)
    | (go_at_call 18; refine (c18 _ HB1.out).mono ?_; rintro e w2 ⟨v2, rfl, hr2, hb2⟩; have HB2 := (show Hid (Below w.heap.size w w2) from HB1.out.trans (hb2.mono HB1.out.size)); have HR2 := (show Hid (SlM w2 v2 []) from hr2.slm); have hlen2 := SlM.len HR2.out; clear hr2 hb2)
    | (go_at_call 77; refine (csc _ _ HR2.out).mono ?_; rintro e w3 ⟨v3, rfl, hr3, hb3⟩; have HB3 := (show Hid (Below w.heap.size w w3) from HB2.out.trans (hb3.mono HB2.out.size)); clear hr3 hb3)
    | (go_at_call 57; refine (sclone_any s _ (by omega)).mono ?_; rintro e w4 ⟨rfl, hb4⟩; have HB4 := (show Hid (Below w.heap.size w w4) from HB3.out.trans (hb4.mono HB3.out.size)); clear hb4)
  go_ret3
  have hb5 : Below w.heap.size w (w4.alloc (.cells #[.pointer (some ⟨D, 0, none⟩), .string s] 124)) := HB4.out.alloc HB4.out.size _
  obtain ⟨h1, h2⟩ := new_log D s (HQ.out.1.below HB4.out)
  unfold OpnOut
  rw [HO.out, HQ.out.2]
  exact ⟨d, some w4.heap.size, _, rfl, DS.of HQ.out.1 hb5, fun _ => ⟨_, rfl, h1, h2, HB4.out.size⟩⟩
set_option maxHeartbeats 1000000 in
theorem opn_whole (s : ByteArray) (bs : List UInt8) (h : DP w d a) (hg : Rf.Good a) (hs : s.size ≤ 140737488355328) (hn : isNm s = true) (ho : a.on = true) (hr : readM a s = (bs, 0)) (hbl : bs.length ≤ 1099511627776) (hw : ¬ (scan bs).2 < bs.length) : Calls Tryz.prog 81 #[.pointer (some ⟨d.db, 0, none⟩), .string s] w (OpnOut w d a s) := by
  have c100 := wisName_any s w hs
  rw [hn] at c100
  have HO : Hid (opnA a s = (0, a)) := by show _ = _; unfold opnA; rw [hr, if_neg (by simp [ho]), if_neg hw]
  have c18 : ∀ W, Below w.heap.size w W → Calls Tryz.prog 18 #[.pointer (some ⟨d.db, 0, none⟩), .string s] W fun e w' => ∃ v, e = .returned (.tuple #[v, .nilIface]) ∧ RowB W.heap.size w' v bs ∧ Below W.heap.size W w' := fun W hb => by
    have h1 := dread (h.below hb) hg s hs
    rw [hr] at h1
    exact h1
  obtain ⟨D, hD⟩ : ∃ D, d.db = D := ⟨_, rfl⟩
  have HQ : Hid (DP w d a ∧ d.db = D) := ⟨h, hD⟩
  rw [hD] at c18 ⊢
  obtain ⟨n, hn2⟩ : ∃ n, bs.length = n := ⟨_, rfl⟩
  obtain ⟨t, ht⟩ : ∃ t, (scan bs).2 = t := ⟨_, rfl⟩
  have hw' : ¬ (t : Int) < (n : Int) := by omega
  have HN : Hid (bs.length = n ∧ (scan bs).2 = t ∧ bs.length ≤ 1099511627776) := ⟨hn2, ht, hbl⟩
  clear hD h hr hn2 ht hw hbl
  go_enter Tryz.func81, Tryz.ntmps81
  go_wp2_with first
    | (go_at_call 100; refine Calls.mono c100 ?_; rintro e w1 ⟨rfl, hb1⟩; have HB1 := (show Hid (Below w.heap.size w w1) from hb1); clear hb1)
    | (go_at_call 18; refine (c18 _ HB1.out).mono ?_; rintro e w2 ⟨v2, rfl, hr2, hb2⟩; have HB2 := (show Hid (Below w.heap.size w w2) from HB1.out.trans (hb2.mono HB1.out.size)); have HR2 := (show Hid (SlM w2 v2 bs) from hr2.slm); have hlen2 := SlM.len HR2.out; rw [HN.out.1] at hlen2; clear hr2 hb2)
    | (go_at_call 77; refine (scan_any v2 bs _ HR2.out HN.out.2.2).mono ?_; rw [HN.out.2.1]; rintro e w3 ⟨v3, rfl, hr3, hb3⟩; have HB3 := (show Hid (Below w.heap.size w w3) from HB2.out.trans (hb3.mono HB2.out.size)); clear hr3 hb3)
    | (go_at_call 57; refine (sclone_any s _ (by omega)).mono ?_; rintro e w4 ⟨rfl, hb4⟩; have HB4 := (show Hid (Below w.heap.size w w4) from HB3.out.trans (hb4.mono HB3.out.size)); clear hb4)
  go_ret3
  have hb5 : Below w.heap.size w (w4.alloc (.cells #[.pointer (some ⟨D, 0, none⟩), .string s] 124)) := HB4.out.alloc HB4.out.size _
  obtain ⟨h1, h2⟩ := new_log D s (HQ.out.1.below HB4.out)
  unfold OpnOut
  rw [HO.out, HQ.out.2]
  exact ⟨d, some w4.heap.size, _, rfl, DS.of HQ.out.1 hb5, fun _ => ⟨_, rfl, h1, h2, HB4.out.size⟩⟩
set_option maxHeartbeats 1000000 in
theorem opn_torn (s : ByteArray) (bs : List UInt8) (h : DP w d a) (hg : Rf.Good a) (hs : s.size ≤ 140737488355328) (hn : isNm s = true) (ho : a.on = true) (hr : readM a s = (bs, 0)) (hbl : bs.length ≤ 1099511627776) (hw : (scan bs).2 < bs.length) (htr : ∀ W, DP W d a → Calls Tryz.prog 66 #[.pointer (some ⟨d.db, 0, none⟩), .string s, .int .i64 ((scan bs).2 : Int)] W (DOut W d (truncM a s ((scan bs).2 : Nat)))) : Calls Tryz.prog 81 #[.pointer (some ⟨d.db, 0, none⟩), .string s] w (OpnOut w d a s) := by
  have c100 := wisName_any s w hs
  rw [hn] at c100
  have c18 : ∀ W, Below w.heap.size w W → Calls Tryz.prog 18 #[.pointer (some ⟨d.db, 0, none⟩), .string s] W fun e w' => ∃ v, e = .returned (.tuple #[v, .nilIface]) ∧ RowB W.heap.size w' v bs ∧ Below W.heap.size W w' := fun W hb => by
    have h1 := dread (h.below hb) hg s hs
    rw [hr] at h1
    exact h1
  have ho2 : opnA a s = truncM a s ((scan bs).2 : Nat) := by unfold opnA; rw [hr, if_neg (by simp [ho]), if_pos hw]
  obtain ⟨R, hR⟩ : ∃ R, truncM a s ((scan bs).2 : Nat) = R := ⟨_, rfl⟩
  rw [hR] at ho2 htr
  have HO : Hid (opnA a s = R) := ho2
  obtain ⟨D, hD⟩ : ∃ D, d.db = D := ⟨_, rfl⟩
  have HQ : Hid (DP w d a ∧ d.db = D) := ⟨h, hD⟩
  obtain ⟨n, hn2⟩ : ∃ n, bs.length = n := ⟨_, rfl⟩
  obtain ⟨t, ht⟩ : ∃ t, (scan bs).2 = t := ⟨_, rfl⟩
  have c66 := fun W hW => dout_ds (htr W hW)
  rw [hD] at c18 c66 ⊢
  rw [ht] at c66
  have hw' : (t : Int) < (n : Int) := by omega
  have HN : Hid (bs.length = n ∧ (scan bs).2 = t ∧ bs.length ≤ 1099511627776) := ⟨hn2, ht, hbl⟩
  clear hD h hr hn2 ht hw hbl hR htr ho2
  obtain ⟨r, a'⟩ := R
  by_cases hz : r = 0
  · subst hz
    simp only [codeV_zero] at c66
    go_enter Tryz.func81, Tryz.ntmps81
    go_wp2_with first
      | (go_at_call 100; refine Calls.mono c100 ?_; rintro e w1 ⟨rfl, hb1⟩; have HB1 := (show Hid (Below w.heap.size w w1) from hb1); clear hb1)
      | (go_at_call 18; refine (c18 _ HB1.out).mono ?_; rintro e w2 ⟨v2, rfl, hr2, hb2⟩; have HB2 := (show Hid (Below w.heap.size w w2) from HB1.out.trans (hb2.mono HB1.out.size)); have HR2 := (show Hid (SlM w2 v2 bs) from hr2.slm); have hlen2 := SlM.len HR2.out; rw [HN.out.1] at hlen2; clear hr2 hb2)
      | (go_at_call 77; refine (scan_any v2 bs _ HR2.out HN.out.2.2).mono ?_; rw [HN.out.2.1]; rintro e w3 ⟨v3, rfl, hr3, hb3⟩; have HB3 := (show Hid (Below w.heap.size w w3) from HB2.out.trans (hb3.mono HB2.out.size)); clear hr3 hb3)
      | (go_at_call 66; refine (c66 _ (HQ.out.1.below HB3.out)).mono ?_; rintro e w5 ⟨d5, rfl, h5⟩; have H5 := (show Hid (DS w d d5 a' w5) from (DS.of HQ.out.1 HB3.out).trans h5); clear h5)
      | (go_at_call 57; refine (sclone_any s _ (by omega)).mono ?_; rintro e w6 ⟨rfl, hb6⟩; have H6 := (show Hid (DS w d d5 a' w6) from H5.out.below hb6); clear hb6)
    go_ret3
    have hb7 : Below w6.heap.size w6 (w6.alloc (.cells #[.pointer (some ⟨D, 0, none⟩), .string s] 124)) := (Below.refl _ _).alloc (Nat.le_refl _) _
    obtain ⟨h1, h2⟩ := new_log D s H6.out.dp
    unfold OpnOut
    rw [HO.out, HQ.out.2]
    exact ⟨d5, some w6.heap.size, _, rfl, H6.out.below hb7, fun _ => ⟨_, rfl, h1, h2, H6.out.fr.size⟩⟩
  · simp only [codeV_ne hz] at c66
    go_enter Tryz.func81, Tryz.ntmps81
    go_wp2_with first
      | (go_at_call 100; refine Calls.mono c100 ?_; rintro e w1 ⟨rfl, hb1⟩; have HB1 := (show Hid (Below w.heap.size w w1) from hb1); clear hb1)
      | (go_at_call 18; refine (c18 _ HB1.out).mono ?_; rintro e w2 ⟨v2, rfl, hr2, hb2⟩; have HB2 := (show Hid (Below w.heap.size w w2) from HB1.out.trans (hb2.mono HB1.out.size)); have HR2 := (show Hid (SlM w2 v2 bs) from hr2.slm); have hlen2 := SlM.len HR2.out; rw [HN.out.1] at hlen2; clear hr2 hb2)
      | (go_at_call 77; refine (scan_any v2 bs _ HR2.out HN.out.2.2).mono ?_; rw [HN.out.2.1]; rintro e w3 ⟨v3, rfl, hr3, hb3⟩; have HB3 := (show Hid (Below w.heap.size w w3) from HB2.out.trans (hb3.mono HB2.out.size)); clear hr3 hb3)
      | (go_at_call 66; refine (c66 _ (HQ.out.1.below HB3.out)).mono ?_; rintro e w5 ⟨d5, rfl, h5⟩; have H5 := (show Hid (DS w d d5 a' w5) from (DS.of HQ.out.1 HB3.out).trans h5); clear h5)
    go_ret3
    unfold OpnOut
    rw [HO.out]
    exact ⟨d5, none, _, by rw [codeV_ne hz]; rfl, H5.out, fun h => absurd h hz⟩
end
end Wl
end Go.Proofs.YtcinjdaanhpbjaaGreat
