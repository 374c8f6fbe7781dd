/- Keys: by walking its text: a range over the map, in whatever order, and a sort. -/
import Derived.Test.YtcinjdaanhpbjaaGreatXap
import Derived.Sort.KeysCollected
import Derived.Sort.OwnSorted
namespace Go.Proofs.YtcinjdaanhpbjaaGreat
open Go.RowKit
namespace Kv
open Bw Rg Dk Rf Wl

def bl (s : ByteArray) : List UInt8 := s.data.toList
theorem bl_inj {a b : ByteArray} (h : bl a = bl b) : a = b := ByteArray.ext (Array.toList_inj.1 h)
/-- The keys that begin so. -/
def keysM (p : ByteArray) (L : List Fl) : List (List UInt8) := (L.filter fun x => Lib.hasPrefix (bl x.1) (bl p)).map fun x => bl x.1
/-- The keys that begin so of those that are no longer to come. -/
def met (left : Lit → Bool) (p : ByteArray) (vs : List VR) : List (List UInt8) := (vs.filter fun f => !left (key f.nm) && Lib.hasPrefix (bl f.nm) (bl p)).map fun f => bl f.nm
theorem met_other {left : Lit → Bool} {p s : ByteArray} {vs : List VR} (h : ∀ f ∈ vs, f.nm ≠ s) : met (fun z => left z && !z.sameKey (key s)) p vs = met left p vs := by
  unfold met
  congr 1
  apply List.filter_congr
  intro x hx
  have e : (key x.nm).sameKey (key s) = false := Maps.sameKey_ne (fun e => h x hx (key_inj e))
  simp [e]
theorem met_step {left : Lit → Bool} {p : ByteArray} {f : VR} {vs : List VR} (hn : (vs.map VR.nm).Nodup) (hf : f ∈ vs) (hl : left (key f.nm) = true) : (met (fun z => left z && !z.sameKey (key f.nm)) p vs).Perm (if Lib.hasPrefix (bl f.nm) (bl p) = true then met left p vs ++ [bl f.nm] else met left p vs) := by
  obtain ⟨l1, l2, rfl⟩ := List.append_of_mem hf
  rw [List.map_append, List.map_cons, List.nodup_append, List.nodup_cons] at hn
  obtain ⟨_, ⟨h1, _⟩, h2⟩ := hn
  have n1 : ∀ g ∈ l1, g.nm ≠ f.nm := fun g hg e => h2 g.nm (List.mem_map_of_mem hg) f.nm (by simp) e
  have n2 : ∀ g ∈ l2, g.nm ≠ f.nm := fun g hg e => h1 (e ▸ List.mem_map_of_mem hg)
  have e : ∀ left', met left' p (l1 ++ f :: l2) = met left' p l1 ++ (met left' p [f] ++ met left' p l2) := fun left' => by
    unfold met
    rw [List.filter_append, List.map_append]
    congr 1
    rw [show f :: l2 = [f] ++ l2 from rfl, List.filter_append, List.map_append]
  rw [e, e, met_other n1, met_other n2]
  have hs := WideAt.sameKey_self (key_is f.nm)
  have e1 : met left p [f] = [] := by simp [met, hl]
  rw [e1, List.nil_append]
  by_cases hp : Lib.hasPrefix (bl f.nm) (bl p) = true
  · have e2 : met (fun z => left z && !z.sameKey (key f.nm)) p [f] = [bl f.nm] := by simp [met, hs, hp]
    rw [e2, if_pos hp, List.append_assoc]
    exact List.Perm.append_left _ List.perm_append_comm
  · have e2 : met (fun z => left z && !z.sameKey (key f.nm)) p [f] = [] := by simp [met, hp]
    rw [e2, if_neg hp, List.nil_append]
theorem met_all {left : Lit → Bool} {p : ByteArray} {vs : List VR} (h : ∀ f ∈ vs, left (key f.nm) = true) : met left p vs = [] := by
  unfold met
  rw [List.filter_eq_nil_iff.2 (fun f hf => by simp [h f hf])]
  rfl
theorem met_none {left : Lit → Bool} {p : ByteArray} {vs : List VR} {L : List Fl} (h : ∀ kl, left kl = false) (hp : (vs.map VR.ab).Perm L) : (met left p vs).Perm (keysM p L) := by
  have e : met left p vs = keysM p (vs.map VR.ab) := by
    unfold met keysM
    rw [List.filter_map, List.map_map]
    congr 1
    apply List.filter_congr
    intro x hx
    simp [h, VR.ab]
  rw [e]
  exact (hp.filter _).map _
theorem keysM_sorted {p : ByteArray} {L : List Fl} (h : Up L) : (keysM p L).mergeSort (fun x y => decide (x ≤ y)) = keysM p L := by
  apply List.mergeSort_of_pairwise
  unfold keysM
  rw [List.pairwise_map]
  have h1 : (L.filter fun x => Lib.hasPrefix (bl x.1) (bl p)).Pairwise fun x y => lt x.1 y.1 = true := h.sublist List.filter_sublist
  refine h1.imp ?_
  intro x y h2
  rw [decide_eq_true_eq]
  exact List.le_of_lt ((lt_iff _ _).1 h2)
/-- A row of texts that the call owns. -/
def RowT (base : Nat) (w : World) (v : Value) (ss : List (List UInt8)) : Prop := w.ownsRow base 9 1 v ss.length (ss.map encStr)
theorem info9 : (Tryz.prog.info? 9).map (fun i => (i.zero, i.size, i.bytes)) = some (some (.string ⟨#[]⟩), 1, 16) := by kernel_rfl
theorem RowT.nil (base : Nat) (w : World) : RowT base w (.slice none 0 0) [] := World.ownsRow_nil _ _ _ _
theorem RowT.kept {base : Nat} {w w' : World} {v : Value} {ss : List (List UInt8)} (h : RowT base w v ss) (f : Below w.heap.size w w') : RowT base w' v ss := own_kept h f
theorem RowT.lt {base : Nat} {w : World} {v : Value} {ss : List (List UInt8)} (h : RowT base w v ss) : ∀ k, v.ownBlock = some k → base ≤ k := by
  intro k hk
  rcases h.2 with ⟨rfl, _⟩ | ⟨b, cap, cur, rfl, hb, _⟩
  · cases hk
  · have e : b = k := by simpa [Value.ownBlock] using hk
    omega
/-- One text, put behind a row of texts. -/
theorem app_t {w : World} {ops : Array Oper} {rest : List Oper} {o : Oper} {a : Act} {Q : Exit → Act → World → Prop} (hgd : o.guard = none) (s x : Operand)
    (ho : o.op = .call { callee := .builtin .append, args := #[s, x], argTypes := #[57, 57] }) (base : Nat) (v : Value) (ss : List (List UInt8)) (hs : a.eval s = v) (hrow : RowT base w v ss) (K : ByteArray) (hx : a.eval x = .slice (some ⟨w.heap.size, 0, none⟩) 1 1)
    (hlen : ss.length ≤ 1099511627776) (hbase : base ≤ w.heap.size)
    (h : ∀ v' w', RowT base w' v' (ss ++ [bl K]) → w.grownBy w' v.ownBlock → wpList Tryz.prog ops Q rest (a.put o.dst v') w') : wpList Tryz.prog ops Q (o :: rest) a (w.alloc (.cells #[.string K] 9)) := by
  obtain ⟨i0, hi, hz0, hz1, hz2⟩ := info_parts info9
  have hba : Below w.heap.size w (w.alloc (.cells #[.string K] 9)) := (Below.refl _ _).alloc (Nat.le_refl _) _
  refine wpList_append_own _ hgd s x 57 ho base 9 i0 _ 1 16 Tryz.underlying57 hi hz0 hz1 hz2 rfl (by decide) v _ _ hs (hrow.kept hba) ⟨w.heap.size, 0, none⟩ 1 1 [.string K] hx rfl (cell_one_new w _ _) (by simp [Value.oneCell']) (by unfold maxLen; omega) (by omega) (by simp; omega) ?_
  intro v' w3 hown' hgrow3 _
  refine h v' w3 ?_ ⟨hgrow3.os, hgrow3.tape, hgrow3.output, Nat.le_trans hba.size hgrow3.size, fun k hk hn => ?_⟩
  · unfold RowT
    rw [List.length_append, List.map_append]
    have e : [bl K].map encStr = [.string K] := by simp [encStr, bl]
    rw [e]
    exact hown'
  · rw [hgrow3.block k (Nat.lt_of_lt_of_le hk hba.size) hn]
    exact hba.block k hk
theorem hid {p : Prop} (h : p) : Hid p := h
theorem RowT.iter {base r : Nat} {w w1 : World} {v : Value} {ss : List (List UInt8)} (h : RowT base w v ss) (hr : some r ≠ v.ownBlock) (hg : w.grownBy w1 (some r)) : RowT base w1 v ss := by
  obtain ⟨h2, h3⟩ := h
  refine ⟨h2, ?_⟩
  rcases h3 with h3 | ⟨g, cap, cur, e, hb, hc, h4⟩
  · exact .inl h3
  · exact .inr ⟨g, cap, cur, e, hb, (hg.block g (lt_of_block hc) (fun e2 => hr (by rw [e]; exact e2.symm))).trans hc, h4⟩
set_option maxHeartbeats 4000000 in
set_option maxRecDepth 100000 in
theorem keys_any (w : World) (k : Ks) (L : List Fl) (s : ByteArray) (h : KvAt w k) (hp : (k.vs.map VR.ab).Perm L) (hu : Up L) (hL : L.length ≤ 1099511627776) : Calls Tryz.prog 22 #[.pointer (some ⟨k.sb, 0, none⟩), .string s] w fun e w' => ∃ v, e = .returned v ∧ RowT w.heap.size w' v (keysM s L) ∧ Below w.heap.size w w' := by
  have c4 := h.c4
  obtain ⟨D, hown, hsz, hhas, hat⟩ := h.map
  have hlen : k.vs.length = L.length := by rw [← hp.length_eq, List.length_map]
  have HH : Hid (∀ x : ByteArray, Maps.has D (key x) = k.vs.any fun f => decide (f.nm = x)) := hhas
  have HA : Hid (∀ f ∈ k.vs, ∀ z, D.atKey (key f.nm) z = slD f.c) := hat
  have HK : Hid (KvAt w k ∧ (k.vs.map VR.ab).Perm L ∧ Up L ∧ k.vs.length ≤ 1099511627776) := ⟨h, hp, hu, by omega⟩
  have hmlt := h.map.lt
  obtain ⟨SB, hSB⟩ : ∃ x, k.sb = x := ⟨_, rfl⟩
  rw [hSB] at c4 ⊢
  clear hhas hat hSB h hp hu hL hlen hsz
  go_enter Tryz.func22, Tryz.ntmps22
  go_wp2_with (first
    | (at_range; refine wpList_range_own _ rfl _ 78 rfl 9 43 law9 Tryz.underlying78 _ k.mb k.vs.length D rfl hown ?_; intro w0 hrg0 hg0 hs0)
    | go_in)
  go_frame
  go_loopw [5] (fun x wr => ∃ (left : Lit → Bool) (cnt : Nat) (ss : List (List UInt8)), wr.ranges Tryz.prog 9 slElem k.mb w.heap.size k.vs.length D left cnt ∧ Hid (∀ kl, left kl = true → Maps.has D kl = true) ∧ Hid (RowT w.heap.size wr x ss ∧ ss.Perm (met left s k.vs)) ∧ Below w.heap.size w wr)
    (fun _ wr => wr.rangeLeft k.mb w.heap.size)
  case atStart =>
    refine ⟨_, _, [], hrg0, fun kl e => e, ⟨RowT.nil _ _, ?_⟩, (Below.refl _ _).grown hg0 (Nat.le_refl _) (fun j hj => by cases hj)⟩
    rw [met_all]
    intro f hf
    rw [HH.out f.nm, List.any_eq_true]
    exact ⟨f, hf, by simp⟩
  case round =>
    obtain ⟨left, cnt, ss, hrg, HL, HR, hnx⟩ := hrel
    clear hrg0 hg0 hs0
    go_wp2_with (first
      | (at_next; refine next_val rfl _ rfl k.mb w.heap.size k.vs.length k.vs D left cnt rfl hrg HL.out HH.out HA.out ?_ ?_)
      | go_in)
    · intro _ hl0
      have hpm : ss.Perm (keysM s L) := HR.out.2.trans (met_none hl0 HK.out.2.1)
      have hsort : ss.mergeSort (fun x y => decide (x ≤ y)) = keysM s L := by rw [← keysM_sorted HK.out.2.2.1]; exact mergeSort_of_perm hpm
      have HP : Hid (ss.Perm (keysM s L) ∧ ss.mergeSort (fun x y => decide (x ≤ y)) = keysM s L) := ⟨hpm, hsort⟩
      have HN : Hid (Below w.heap.size w wr) := hnx
      have hrow := HR.out.1
      have hszz : ss.length < 4611686018427387904 := by
        rw [hpm.length_eq]
        unfold keysM
        rw [List.length_map]
        have h1 := List.length_filter_le (fun x : Fl => Lib.hasPrefix (bl x.1) (bl s)) L
        have h2 := HK.out.2.1.length_eq
        rw [List.length_map] at h2
        have := HK.out.2.2.2
        omega
      clear hnx hpm hsort HR
      rcases hrow.2 with ⟨hv, h0⟩ | ⟨g, cap, cur, hv, hbase, hb, h1, h2, h3, h4⟩
      · subst hv
        have cs := fun W => slices_Sort_string_none none 0 W
        have hnil : ss = [] := List.eq_nil_of_length_eq_zero h0
        clear hrow
        go_wp2_with (go_at_call 58; refine (cs _).mono ?_; rintro e w5 ⟨rfl, rfl⟩)
        go_ret
        have e := HP.out.1.length_eq
        rw [h0] at e
        rw [List.eq_nil_of_length_eq_zero e.symm]
        exact ⟨_, rfl, RowT.nil _ _, HN.out⟩
      · subst hv
        have hg : g < wr.heap.size := lt_of_block hb
        have hh : Go.Sort.Holds encStr wr g 0 ss.toArray := holds_of_block hb (by simpa using h4)
        have cs := slices_Sort_string g 0 cap ss wr hh hg hszz
        have hl9 : (ss.mergeSort fun x y => decide (x ≤ y)).length = ss.length := List.length_mergeSort _
        have HG : Hid (∀ n os, (Go.Sort.grow (Go.Sort.putRow encStr (Go.Sort.ahead wr n) g 0 (ss.mergeSort fun x y => decide (x ≤ y)).toArray) os).ownsRow w.heap.size 9 1 (.slice (some ⟨g, 0, none⟩) ss.length cap) ss.length ((ss.mergeSort fun x y => decide (x ≤ y)).map encStr) ∧ wr.grownBy (Go.Sort.grow (Go.Sort.putRow encStr (Go.Sort.ahead wr n) g 0 (ss.mergeSort fun x y => decide (x ≤ y)).toArray) os) (some g)) := fun n os => ⟨ownsRow_sorted hl9 hbase hb h1 h2 h3, grownBy_sorted _⟩
        have HBS : Hid (w.heap.size ≤ g) := hbase
        clear hrow hb h1 h2 h3 h4 hh hl9 hbase
        go_wp2_with (go_at_call 58; refine Calls.mono cs ?_; rintro e w5 ⟨rfl, n5, os5, hw5⟩; have h5 := HG.out n5 os5; rw [← hw5] at h5; have H5 := (show Hid (w5.ownsRow w.heap.size 9 1 (.slice (some ⟨g, 0, none⟩) ss.length cap) ss.length ((ss.mergeSort fun x y => decide (x ≤ y)).map encStr) ∧ wr.grownBy w5 (some g)) from h5); clear h5 hw5 cs)
        go_ret
        have e := HP.out.1.length_eq
        refine ⟨_, rfl, ?_, ⟨H5.out.2.os.trans HN.out.os, H5.out.2.tape.trans HN.out.tape, H5.out.2.output.trans HN.out.output, Nat.le_trans HN.out.size H5.out.2.size, fun j hj => (H5.out.2.block j (Nat.lt_of_lt_of_le hj HN.out.size) (fun e => by have := Option.some.inj e; have := HBS.out; omega)).trans (HN.out.block j hj)⟩⟩
        unfold RowT
        rw [← e, ← HP.out.2]
        exact H5.out.1
    · intro f w1 cnt1 hf hl hrg1 hlt hg1 hs1 hen
      have hnx1 : Below w.heap.size w w1 := hnx.grown hg1 hnx.size (fun j hj => by cases hj; exact Nat.le_refl _)
      have hstep := met_step (p := s) HK.out.1.names hf hl
      have hri := row_ne_iter HR.out.1 hrg
      have hrow1 := HR.out.1.iter hri hg1
      have hri1 := row_ne_iter hrow1 hrg1
      have hrm1 := row_ne_low hrow1 hmlt
      have hX : f.nm.size ≤ 255 := HK.out.1.short f hf
      have hssl : ss.length ≤ 1099511627776 := by
        rw [HR.out.2.length_eq]
        unfold met
        rw [List.length_map]
        have := List.length_filter_le (fun f : VR => !left (key f.nm) && Lib.hasPrefix (bl f.nm) (bl s)) k.vs
        have := HK.out.2.2.2
        omega
      obtain ⟨X, hXX⟩ : ∃ X, f.nm = X := ⟨_, rfl⟩
      obtain ⟨V, hV⟩ : ∃ X, f.v = X := ⟨_, rfl⟩
      rw [hXX] at hen hstep hX
      rw [hV] at hen
      have hrg1' := hrg1
      rw [hXX] at hrg1'
      have c56 := fun W => strings_HasPrefix X s W
      have HR1 := hid (And.intro hrow1 (And.intro hnx1 (And.intro hX hssl)))
      have HG1 := hid (And.intro hrg1' (And.intro hlt (And.intro hri1 hrm1)))
      have HLE : Hid (wr.rangeLeft k.mb w.heap.size = cnt) := hrg.left_eq
      clear hXX hV hnx hri hri1 hrm1 hrow1 hnx1 hX hssl hrg1 hrg1' hg1 hs1 hlt hrg
      cases hpx : Lib.hasPrefix (bl X) (bl s) with
      | false =>
        have hpx' : Lib.hasPrefix X.data.toList s.data.toList = false := hpx
        rw [hpx] at hstep
        rw [hpx'] at c56
        have hs2 : (met (fun z => left z && !z.sameKey (key X)) s k.vs).Perm (met left s k.vs) := by simpa using hstep
        have HS := hid hs2
        clear hs2
        clear hstep hpx hpx'
        go_wp2_with (go_at_call 56; refine (c56 _).mono ?_; rintro e w5 ⟨rfl, hw5⟩; obtain rfl := hw5.symm; clear hw5)
        go_roundw
        case rel => exact ⟨_, cnt1, ss, HG1.out.1, fun kl e => HL.out kl (by simp at e; exact e.1), ⟨HR1.out.1, HR.out.2.trans HS.out.symm⟩, HR1.out.2.1⟩
        case measure => rw [HG1.out.1.left_eq, HLE.out]; exact HG1.out.2.1
      | true =>
        have hpx' : Lib.hasPrefix X.data.toList s.data.toList = true := hpx
        rw [hpx] at hstep
        rw [hpx'] at c56
        have hs2 : (met (fun z => left z && !z.sameKey (key X)) s k.vs).Perm (met left s k.vs ++ [bl X]) := by simpa using hstep
        have HS := hid hs2
        clear hs2
        clear hstep hpx hpx'
        go_wp2_with (first
          | (go_at_call 56; refine (c56 _).mono ?_; rintro e w5 ⟨rfl, hw5⟩; obtain rfl := hw5.symm; clear hw5)
          | (go_at_call 57; refine (sclone_any X _ (by have := HR1.out.2.2.1; omega)).mono ?_; rintro e w6 ⟨rfl, hb6⟩; have H6 := (show Hid (Below w1.heap.size w1 w6) from hb6); clear hb6)
          | (have hq := H6; clear hq; refine app_t rfl (.tmp 19) (.tmp 22) rfl w.heap.size _ ss rfl (HR1.out.1.kept H6.out) X rfl HR1.out.2.2.2 (by have := H6.out.size; have := HR1.out.2.1.size; omega) ?_; intro v7 w7 hr7 hg7; have H7 := hid (And.intro hr7 hg7); clear hr7 hg7))
        go_roundw
        case rel =>
          have hb6 : w1.grownBy w6 none := ⟨H6.out.os, H6.out.tape, H6.out.output, H6.out.size, fun j hj _ => H6.out.block j hj⟩
          have hrg6 := (HG1.out.1.kept (row := none) hb6 (by simp) (by simp)).kept H7.out.2 HG1.out.2.2.2 HG1.out.2.2.1
          have hlow := HR1.out.1.lt
          exact ⟨_, cnt1, ss ++ [bl X], hrg6, fun kl e => HL.out kl (by simp at e; exact e.1), ⟨H7.out.1, (HR.out.2.append_right [bl X]).trans HS.out.symm⟩, (HR1.out.2.1.trans (H6.out.mono HR1.out.2.1.size)).grown H7.out.2 (by have := H6.out.size; have := HR1.out.2.1.size; omega) (fun j hj => hlow j hj)⟩
        case measure =>
          have hb6 : w1.grownBy w6 none := ⟨H6.out.os, H6.out.tape, H6.out.output, H6.out.size, fun j hj _ => H6.out.block j hj⟩
          have hrg6 := (HG1.out.1.kept (row := none) hb6 (by simp) (by simp)).kept H7.out.2 HG1.out.2.2.2 HG1.out.2.2.1
          rw [hrg6.left_eq, HLE.out]
          exact HG1.out.2.1
end Kv
end Go.Proofs.YtcinjdaanhpbjaaGreat
