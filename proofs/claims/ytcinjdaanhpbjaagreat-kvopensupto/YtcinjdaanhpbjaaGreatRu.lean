/- readSnap: by walking its text. -/
import Derived.Test.YtcinjdaanhpbjaaGreatXan
namespace Go.Proofs.YtcinjdaanhpbjaaGreat
open Go.RowKit
namespace Kv
open Bw Rg Dk Rf Wl

/-- What the snapshot tells. -/
def oneM (bs : List UInt8) : Option (Nat × List Fl) := match (scan bs).1 with
  | [r] => if (scan bs).2 < bs.length then none else snapM r
  | _ => none
def snapO (a : Ab) : Option (Nat × List Fl) := match findA ssnap a.L with
  | none => some (0, [])
  | some x => oneM x.2.1
/-- How readSnap ends. -/
def RsOut (k : Ks) (r : Option (Nat × List Fl)) (w : World) (e : Ending) (w' : World) : Prop := match r with
  | none => e = .returned (code 13) ∧ Fr (fun b => b ∈ k.foot) w w'
  | some (c, L) => e = .returned .nilIface ∧ ∃ k', KT w k k' L w' ∧ k'.count = c
theorem bin_feql (a b : Int) (h : (a == b) = false) (W : World) : (binOp .eql 38 (.iface 48 (.int .i64 a)) (.iface 48 (.int .i64 b))).run Tryz.prog W = .ok (.bool false) W := by rw [bin_eerr a b W, h]
theorem bin_teql (a : Int) (W : World) : (binOp .eql 38 (.iface 48 (.int .i64 a)) (.iface 48 (.int .i64 a))).run Tryz.prog W = .ok (.bool true) W := by rw [bin_eerr a a W]; simp
section
variable {w : World} {k : Ks} {d : Ds} {a : Ab}
theorem rsnap_off (h : KvAt w k) (hd : DP w d a) (hdb : k.db = d.db) (hg : Rf.Good a) (ho : a.on = false) : Calls Tryz.prog 53 #[.pointer (some ⟨k.sb, 0, none⟩)] w fun e w' => e = .returned (code 11) ∧ Below w.heap.size w w' := by
  have c0 := h.c0
  have n1 := bin_feql 11 9 rfl
  have c18 : Calls Tryz.prog 18 #[.pointer (some ⟨d.db, 0, none⟩), .string ⟨#[115, 110, 97, 112]⟩] w fun e w' => ∃ v, e = .returned (.tuple #[v, code 11]) ∧ RowB w.heap.size w' v [] ∧ Below w.heap.size w w' := by
    have hr : readM a ssnap = ([], 11) := if_pos ho
    have h1 := dread hd hg ssnap (by decide)
    rw [hr] at h1
    exact h1
  rw [← hdb] at c18
  obtain ⟨SB, hSB⟩ : ∃ s, k.sb = s := ⟨_, rfl⟩
  obtain ⟨D, hD⟩ : ∃ s, k.db = s := ⟨_, rfl⟩
  rw [hD] at c18 c0
  rw [hSB] at c0 ⊢
  clear hSB hD h hd
  go_enter Tryz.func53, Tryz.ntmps53
  go_wp2_with (go_at_call 18; refine Calls.mono c18 ?_; rintro e w2 ⟨v2, rfl, -, hb2⟩; have HB2 := (show Hid (Below w.heap.size w w2) from hb2); clear hb2 c18)
  go_ret
  exact ⟨rfl, HB2.out⟩
set_option maxHeartbeats 2000000 in
set_option maxRecDepth 100000 in
theorem rsnap_on (h : KvAt w k) (hd : DP w d a) (hdb : k.db = d.db) (hvs : k.vs = []) (hc : k.count = 0) (hg : Rf.Good a) (ho : a.on = true) (hu : usedA a.L ≤ 1099511627776) : Calls Tryz.prog 53 #[.pointer (some ⟨k.sb, 0, none⟩)] w (RsOut k (snapO a) w) := by
  have c0 := h.c0
  obtain ⟨SB, hSB⟩ : ∃ s, k.sb = s := ⟨_, rfl⟩
  obtain ⟨D, hD⟩ : ∃ s, k.db = s := ⟨_, rfl⟩
  have n1 := bin_teql 9
  have n2 := nil_eql 9
  cases hf : findA ssnap a.L with
  | none =>
    have c18 : Calls Tryz.prog 18 #[.pointer (some ⟨d.db, 0, none⟩), .string ⟨#[115, 110, 97, 112]⟩] w fun e w' => ∃ v, e = .returned (.tuple #[v, code 9]) ∧ RowB w.heap.size w' v [] ∧ Below w.heap.size w w' := by
      have hr : readM a ssnap = ([], 9) := by simp [readM, ho, hf]
      have h1 := dread hd hg ssnap (by decide)
      rw [hr] at h1
      exact h1
    have hs : snapO a = some (0, []) := by unfold snapO; rw [hf]
    rw [hs]
    rw [← hdb, hD] at c18
    have HH : Hid (KvAt w k ∧ k.vs = [] ∧ k.count = 0) := ⟨h, hvs, hc⟩
    rw [hD] at c0
    rw [hSB] at c0 ⊢
    clear hSB hD h hd hs hf
    go_enter Tryz.func53, Tryz.ntmps53
    go_wp2_with (go_at_call 18; refine Calls.mono c18 ?_; rintro e w2 ⟨v2, rfl, -, hb2⟩; have HB2 := (show Hid (Below w.heap.size w w2) from hb2); clear hb2 c18)
    go_ret
    exact ⟨rfl, k, (KT.refl HH.out.1 (by rw [HH.out.2.1]; exact List.Perm.refl _)).below HB2.out, HH.out.2.2⟩
  | some x =>
    obtain ⟨bs, hbs⟩ : ∃ bs, x.2.1 = bs := ⟨_, rfl⟩
    have hbl : bs.length ≤ 1099511627776 := by
      have h1 : x.2.1.length ≤ usedA a.L := by
        obtain ⟨L1, L2, e⟩ := List.append_of_mem (find_some hf).1
        unfold usedA
        rw [e, List.map_append, List.sum_append, List.map_cons, List.sum_cons]
        omega
      rw [hbs] at h1
      omega
    have c18 : ∀ W, Below w.heap.size w W → Calls Tryz.prog 18 #[.pointer (some ⟨d.db, 0, none⟩), .string ⟨#[115, 110, 97, 112]⟩] W fun e w' => ∃ v, e = .returned (.tuple #[v, .nilIface]) ∧ RowB W.heap.size w' v bs ∧ Below W.heap.size W w' := fun W hW => by
      have hr : readM a ssnap = (bs, 0) := by simp [readM, ho, hf, hbs]
      have h1 := dread (hd.below hW) hg ssnap (by decide)
      rw [hr] at h1
      exact h1
    have hs : snapO a = oneM bs := by unfold snapO; rw [hf, ← hbs]
    rw [hs]
    rw [← hdb, hD] at c18
    obtain ⟨n, hn2⟩ : ∃ n, bs.length = n := ⟨_, rfl⟩
    obtain ⟨t, ht⟩ : ∃ t, (scan bs).2 = t := ⟨_, rfl⟩
    obtain ⟨q, hq⟩ : ∃ q, (scan bs).1.length = q := ⟨_, rfl⟩
    have HN : Hid (bs.length = n ∧ (scan bs).2 = t ∧ bs.length ≤ 1099511627776) := ⟨hn2, ht, hbl⟩
    have HQ : Hid (KvAt w k ∧ k.vs = [] ∧ (scan bs).1.length = q ∧ k.sb = SB) := ⟨h, hvs, hq, hSB⟩
    have hqb : q ≤ 1099511627776 := by have := (scan_le _ bs (Nat.le_refl _)).2; omega
    rw [hD] at c0
    rw [hSB] at c0 ⊢
    obtain ⟨R, hR⟩ : ∃ R, oneM bs = R := ⟨_, rfl⟩
    have HR : Hid (oneM bs = R) := hR
    rw [hR]
    clear hSB hD h hd hs hf hbs hn2 ht hq hbl hR
    by_cases hq1 : q = 1
    · subst hq1
      by_cases hw : t < n
      · have hw' : (t : Int) < (n : Int) := by omega
        have hRn : R = none := by
          rw [← HR.out]
          unfold oneM
          split
          · rw [if_pos (by rw [HN.out.1, HN.out.2.1]; exact hw)]
          · rfl
        subst hRn
        go_enter Tryz.func53, Tryz.ntmps53
        go_wp2_with first
          | (go_at_call 18; refine (c18 _ (Below.refl _ _)).mono ?_; rintro e w2 ⟨v2, rfl, hr2, hb2⟩; have HB2 := (show Hid (Below w.heap.size w w2) from hb2); have HR2 := (show Hid (SlM w2 v2 bs) from hr2.slm); have hlen2 := SlM.len HR2.out; rw [HN.out.1] at hlen2; clear hr2 hb2)
          | (go_at_call 77; refine (scan_any v2 bs _ HR2.out HN.out.2.2).mono ?_; rw [HN.out.2.1]; rintro e w3 ⟨v3, rfl, hr3, hb3⟩; have HB3 := (show Hid (Below w.heap.size w w3) from HB2.out.trans (hb3.mono HB2.out.size)); have HR3 := (show Hid (Recs w2.heap.size w3 v3 (scan bs).1) from hr3); have hlen3 := SlS.len HR3.out.sls; rw [HQ.out.2.2.1] at hlen3; clear hr3 hb3)
        go_ret
        exact ⟨rfl, Fr.of_below HB3.out⟩
      · have hw' : (n : Int) ≤ (t : Int) := by omega
        obtain ⟨r, hr⟩ := List.length_eq_one_iff.1 HQ.out.2.2.1
        have hRr : R = snapM r := by
          rw [← HR.out]
          unfold oneM
          rw [hr]
          exact if_neg (by rw [HN.out.1, HN.out.2.1]; exact hw)
        have HRL : Hid ((scan bs).1 = [r] ∧ r.length ≤ 2097152) := ⟨hr, (scan_take _ bs (Nat.le_refl _)).2 r (by rw [hr]; simp)⟩
        have HRR : Hid (R = snapM r) := hRr
        clear hr hRr
        cases hsn : R with
        | none =>
          go_enter Tryz.func53, Tryz.ntmps53
          go_wp2_with first
            | (go_at_call 18; refine (c18 _ (Below.refl _ _)).mono ?_; rintro e w2 ⟨v2, rfl, hr2, hb2⟩; have HB2 := (show Hid (Below w.heap.size w w2) from hb2); have HR2 := (show Hid (SlM w2 v2 bs) from hr2.slm); have hlen2 := SlM.len HR2.out; rw [HN.out.1] at hlen2; clear hr2 hb2)
            | (go_at_call 77; refine (scan_any v2 bs _ HR2.out HN.out.2.2).mono ?_; rw [HN.out.2.1]; rintro e w3 ⟨v3, rfl, hr3, hb3⟩; have HB3 := (show Hid (Below w.heap.size w w3) from HB2.out.trans (hb3.mono HB2.out.size)); have HR3 := (show Hid (Recs w2.heap.size w3 v3 (scan bs).1) from hr3); have hlen3 := SlS.len HR3.out.sls; rw [HQ.out.2.2.1] at hlen3; obtain ⟨b3, cap3, u3, hv3, hcap3, hc3, hu3⟩ := Recs.at HR3.out (i := 0) (r := r) (by rw [HRL.out.1]; rfl); rw [HQ.out.2.2.1] at hv3 hcap3; have HU3 := (show Hid (RowB w2.heap.size w3 u3 r ∧ w.heap.size ≤ w2.heap.size) from ⟨hu3, HB2.out.size⟩); clear hr3 hb3 hu3 HR3; subst hv3)
            | (go_at_call 78; have hK3 := HQ.out.1.below HB3.out; have csn := snap_any w3 k u3 r hK3 HU3.out.1.slm (fun hne b hb hc => by have h1 := HU3.out.1.lt b (own_blk HU3.out.1 hne b hb); have h2 := HQ.out.1.lt b hc; have h3 := HU3.out.2; omega) HQ.out.2.1 (by have := HRL.out.2; omega); rw [HQ.out.2.2.2, ← HRR.out, hsn] at csn; refine Calls.mono csn ?_; rintro e w4 ⟨rfl, f4⟩; have H4 := (show Hid (Fr (fun b => b ∈ k.foot) w w4) from (Fr.of_below HB3.out).and f4 (fun _ _ e => e)); clear f4 hK3 csn)
          go_ret
          exact ⟨rfl, H4.out⟩
        | some cl =>
          obtain ⟨c, L⟩ := cl
          go_enter Tryz.func53, Tryz.ntmps53
          go_wp2_with first
            | (go_at_call 18; refine (c18 _ (Below.refl _ _)).mono ?_; rintro e w2 ⟨v2, rfl, hr2, hb2⟩; have HB2 := (show Hid (Below w.heap.size w w2) from hb2); have HR2 := (show Hid (SlM w2 v2 bs) from hr2.slm); have hlen2 := SlM.len HR2.out; rw [HN.out.1] at hlen2; clear hr2 hb2)
            | (go_at_call 77; refine (scan_any v2 bs _ HR2.out HN.out.2.2).mono ?_; rw [HN.out.2.1]; rintro e w3 ⟨v3, rfl, hr3, hb3⟩; have HB3 := (show Hid (Below w.heap.size w w3) from HB2.out.trans (hb3.mono HB2.out.size)); have HR3 := (show Hid (Recs w2.heap.size w3 v3 (scan bs).1) from hr3); have hlen3 := SlS.len HR3.out.sls; rw [HQ.out.2.2.1] at hlen3; obtain ⟨b3, cap3, u3, hv3, hcap3, hc3, hu3⟩ := Recs.at HR3.out (i := 0) (r := r) (by rw [HRL.out.1]; rfl); rw [HQ.out.2.2.1] at hv3 hcap3; have HU3 := (show Hid (RowB w2.heap.size w3 u3 r ∧ w.heap.size ≤ w2.heap.size) from ⟨hu3, HB2.out.size⟩); clear hr3 hb3 hu3 HR3; subst hv3)
            | (go_at_call 78; have hK3 := HQ.out.1.below HB3.out; have csn := snap_any w3 k u3 r hK3 HU3.out.1.slm (fun hne b hb hc => by have h1 := HU3.out.1.lt b (own_blk HU3.out.1 hne b hb); have h2 := HQ.out.1.lt b hc; have h3 := HU3.out.2; omega) HQ.out.2.1 (by have := HRL.out.2; omega); rw [HQ.out.2.2.2, ← HRR.out, hsn] at csn; refine Calls.mono csn ?_; rintro e w4 ⟨rfl, k4, hk4, hc4⟩; have hkt := (KT.refl HQ.out.1 (by rw [HQ.out.2.1])).below HB3.out; have H4 := (show Hid (KT w k k4 L w4 ∧ k4.count = c) from ⟨KT.trans (L := []) hkt hk4, hc4⟩); clear hk4 hc4 hK3 hkt csn)
          go_ret
          exact ⟨rfl, k4, H4.out⟩
    · have hq1' : ¬ (q : Int) = 1 := by omega
      have hq2 : ((q : Int) == 1) = false := by simpa using hq1'
      have hRn : R = none := by
        rw [← HR.out]
        unfold oneM
        split
        · rename_i r hr
          have := HQ.out.2.2.1
          rw [hr] at this
          exact absurd this.symm hq1
        · rfl
      subst hRn
      go_enter Tryz.func53, Tryz.ntmps53
      go_wp2_with first
          | (go_at_call 18; refine (c18 _ (Below.refl _ _)).mono ?_; rintro e w2 ⟨v2, rfl, hr2, hb2⟩; have HB2 := (show Hid (Below w.heap.size w w2) from hb2); have HR2 := (show Hid (SlM w2 v2 bs) from hr2.slm); have hlen2 := SlM.len HR2.out; rw [HN.out.1] at hlen2; clear hr2 hb2)
          | (go_at_call 77; refine (scan_any v2 bs _ HR2.out HN.out.2.2).mono ?_; rw [HN.out.2.1]; rintro e w3 ⟨v3, rfl, hr3, hb3⟩; have HB3 := (show Hid (Below w.heap.size w w3) from HB2.out.trans (hb3.mono HB2.out.size)); have HR3 := (show Hid (Recs w2.heap.size w3 v3 (scan bs).1) from hr3); have hlen3 := SlS.len HR3.out.sls; rw [HQ.out.2.2.1] at hlen3; clear hr3 hb3)
      go_ret
      exact ⟨rfl, Fr.of_below HB3.out⟩
end
end Kv
end Go.Proofs.YtcinjdaanhpbjaaGreat
