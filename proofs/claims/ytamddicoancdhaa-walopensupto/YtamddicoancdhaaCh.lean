/- WalScans at all bytes, by walking its text. -/
import Derived.Test.YtamddicoancdhaaCg
namespace Go.Proofs.Ytamddicoancdhaa
open Go.RowKit
namespace Wl
open Bw Rg

theorem RowB.set {base : Nat} {w : World} {g n cap : Nat} {cs : List UInt8} (h : RowB base w (.slice (some ⟨g, 0, none⟩) n cap) cs) (i : Nat) (c : UInt8) : RowB base (w.setCell ⟨g, i, none⟩ (.int .u8 (c.toNat : Int))) (.slice (some ⟨g, 0, none⟩) n cap) (cs.set i c) := by
  obtain ⟨h1, h2⟩ := h
  refine ⟨by rw [Lib.byteCells_length, Nat.mul_one], ?_⟩
  rcases h2 with ⟨h2, _⟩ | ⟨g', cap', cur, e, hb, hg, hn, hc, hz, ht⟩
  · cases h2
  · cases e
    refine .inr ⟨g, cap, cur.set! i (.int .u8 (c.toNat : Int)), by rw [List.length_set], hb, ?_, by rw [List.length_set]; exact hn, hc, by simp [hz], ?_⟩
    · simp [World.setCell, Array.getElem?_modify, hg]
    · rw [List.length_set, Array.set!_eq_setIfInBounds, Array.toList_setIfInBounds, List.take_set, ht]
      simp [Lib.byteCells, List.map_set]
theorem Recs.fr {S : Nat → Prop} {base : Nat} {w w' : World} {v : Value} {LL : List (List UInt8)} (h : Recs base w v LL) (f : Fr S w w') (hS : ∀ k, S k → k < base) : Recs base w' v LL := by
  obtain ⟨us, h1, h2, h3⟩ := h
  refine ⟨us, ?_, h2, fun i bs hi => ?_⟩
  · refine ⟨h1.1, ?_⟩
    rcases h1.2 with h4 | ⟨g, cap, cur, e, hb, hg, h4⟩
    · exact .inl h4
    · exact .inr ⟨g, cap, cur, e, hb, (f.block g (lt_of_block hg) (fun hs => by have := hS g hs; omega)).trans hg, h4⟩
  · obtain ⟨u, hu, hr⟩ := h3 i bs hi
    exact ⟨u, hu, hr.other (fun k hk => f.block k (hr.gt k hk) (fun hs => by have := hS k hs; have := hr.lt k hk; omega))⟩
theorem Refs.fr {S : Nat → Prop} {base : Nat} {w0 w w' : World} {v : Value} {LL : List (List UInt8)} (h : Refs base w0 w v LL) (f : Fr S w w') (hS : ∀ k, v.ownBlock = some k → ¬ S k) : Refs base w0 w' v LL := by
  obtain ⟨us, h1, h2, h3⟩ := h
  refine ⟨us, ⟨h1.1, ?_⟩, h2, h3⟩
  rcases h1.2 with h4 | ⟨g, cap, cur, e, hb, hg, h4⟩
  · exact .inl h4
  · exact .inr ⟨g, cap, cur, e, hb, (f.block g (lt_of_block hg) (hS g (by rw [e]; rfl))).trans hg, h4⟩
theorem Refs.lt {base : Nat} {w0 w : World} {v : Value} {LL : List (List UInt8)} (h : Refs base w0 w v LL) : ∀ k, v.ownBlock = some k → base ≤ k ∧ k < w.heap.size := by
  obtain ⟨us, h1, h2, h3⟩ := h
  exact fun k hk => ⟨h1.lt k hk, h1.gt k hk⟩
theorem RowB.at {base : Nat} {w : World} {p : Option Addr} {n cap : Nat} {cs : List UInt8} (h : RowB base w (.slice p n cap) cs) {i : Nat} (hi : i < cs.length) : ∃ g, p = some ⟨g, 0, none⟩ ∧ w.cell? ⟨g, i, none⟩ = some (.int .u8 (cs[i].toNat : Int)) ∧ w.frozen? ⟨g, i, none⟩ = false := by
  have hc := h.cell
  rcases h.2 with ⟨_, h0⟩ | ⟨g, cap', cur, e, hb, hg, hn, hm, hz, ht⟩
  · omega
  · cases e
    refine ⟨g, rfl, ?_, by simp [World.frozen?, hg]⟩
    rcases hc with ⟨rfl, _⟩ | ⟨b, off, c, he, h2, h3⟩
    · simp at hi
    · cases he
      have := h3 i hi
      rwa [Nat.zero_add] at this
theorem same_true (u v : Value) (L : List (List UInt8)) (w : World) (hu : SlS w u L) (hv : SlS w v L) (hl : L.length ≤ 1099511627776) :
    Calls Try.prog 16 #[u, v] w fun e w' => e = .returned (.bool true) ∧ Below w.heap.size w w' := by
  have := same_any u v L L w hu hv hl hl
  rwa [decide_eq_true rfl] at this
/-- What the loop that turns a row's bytes keeps. -/
def Turned (base : Nat) (v : Value) (n : Nat) (w wr : World) : Prop := ∃ cs : List UInt8, cs.length = n ∧ RowB base wr v cs ∧ Fr (fun k => v.ownBlock = some k) w wr
set_option maxHeartbeats 2000000 in
theorem scans_law (v : Value) (bs : List UInt8) (w : World) (hv : SlM w v bs) (hl : bs.length ≤ 1099511627776) : Calls Try.prog 4 #[v] w fun e w' => e = .returned (.bool true) ∧ Below w.heap.size w w' := by
  have HV : Hid (SlM w v bs) := hv
  have HL : Hid (bs.length ≤ 1099511627776) := hl
  have HA : Hid True := trivial
  obtain ⟨p, c, hvf⟩ := hv.sl.form
  subst hvf
  have hsl := scan_le bs.length bs (Nat.le_refl _)
  obtain ⟨L, hL⟩ : ∃ L, (scan bs).1 = L := ⟨_, rfl⟩
  obtain ⟨t, hT⟩ : ∃ t, (scan bs).2 = t := ⟨_, rfl⟩
  rw [hL] at hsl
  have HS : Hid ((scan bs).1 = L ∧ (scan bs).2 = t ∧ L.length ≤ 1099511627776) := ⟨hL, hT, by omega⟩
  clear hv hl hL hT hsl
  have HE : Hid True := trivial
  go_enter Try.func4, Try.ntmps4
  go_wp2_with first
    | (go_at_call 8; refine (up_any w).mono ?_; rintro e w1 ⟨rfl, hb1⟩; have HB1 := (show Hid (Below w.heap.size w w1) from hb1); have HV1 := (show Hid (SlM w1 _ bs) from HV.out.below hb1 (Nat.le_refl _)); clear hb1)
    | (have hq := HA; clear hq; refine app_any rfl (.tmp 13) (.tmp 14) rfl w1.heap.size (.slice none 0 0) [] rfl (RowB.nil _ _) _ bs rfl HV1.out (by simp; have := HL.out; omega) (Nat.le_refl _) ?_; rintro v2 w2 hr2 hb2; rw [List.nil_append] at hr2; obtain ⟨p2, c2, rfl⟩ := hr2.form; have HO := (show Hid (RowB w1.heap.size w2 (.slice p2 bs.length c2) bs) from hr2); have HB2 := (show Hid (Below w.heap.size w w2) from HB1.out.trans (hb2.mono HB1.out.size)); clear hr2 hb2 HA)
    | (go_at_call 14; refine (scan_any _ bs _ HO.out.slm HL.out).mono ?_; rw [HS.out.1, HS.out.2.1]; rintro e w3 ⟨x3, rfl, hr3, hb3⟩; have HR3 := (show Hid (Recs w2.heap.size w3 x3 L) from hr3); have HB3 := (show Hid (Below w2.heap.size w2 w3) from hb3); clear hr3 hb3)
    | (go_at_call 15; refine (rscan_any _ bs w _ HV.out (HB2.out.trans (HB3.out.mono HB2.out.size)) HL.out).mono ?_; rw [HS.out.1, HS.out.2.1]; rintro e w4 ⟨x4, rfl, hr4, hb4⟩; have HR4 := (show Hid (Refs w3.heap.size w w4 x4 L) from hr4); have HR34 := (show Hid (Recs w2.heap.size w4 x3 L) from HR3.out.kept hb4); have HB4 := (show Hid (Below w2.heap.size w2 w4) from HB3.out.trans (hb4.mono HB3.out.size)); clear hr4 hb4)
    | (go_at_call 16; have hq := HE; clear hq; refine (same_true x3 x4 L _ HR34.out.sls (HR4.out.sls (HB2.out.trans (HB4.out.mono HB2.out.size))) HS.out.2.2).mono ?_; rintro e w5 ⟨rfl, hb5⟩; have HR5 := (show Hid (Refs w3.heap.size w w5 x4 L) from HR4.out.kept hb5); have HR35 := (show Hid (Recs w2.heap.size w5 x3 L) from HR34.out.kept hb5); have HB5 := (show Hid (Below w2.heap.size w2 w5) from HB4.out.trans (hb5.mono HB4.out.size)); have HO5 := (show Hid (Turned w1.heap.size (.slice p2 bs.length c2) bs.length w5 w5) from ⟨bs, rfl, HO.out.kept HB5.out, Fr.refl _ _⟩); clear hb5 HE)
  obtain ⟨n, hn⟩ : ∃ n, bs.length = n := ⟨_, rfl⟩
  have HN : Hid (bs.length = n) := hn
  rw [hn] at HO5 HV HV1 HO ⊢
  have hnl : n ≤ 1099511627776 := by rw [← hn]; exact HL.out
  clear hn
  have HLT : Hid (∀ k, (Value.slice p2 n c2).ownBlock = some k → w1.heap.size ≤ k ∧ k < w2.heap.size) := fun k hk => ⟨HO.out.lt k hk, HO.out.gt k hk⟩
  clear HO HV1
  go_loopw [10] (fun y wr => ∃ k : Nat, y = .int .i64 (k : Int) ∧ k ≤ n ∧ Hid (Turned w1.heap.size (.slice p2 n c2) n w5 wr)) (fun y _ => n - numOf y)
  case atStart => exact ⟨0, rfl, Nat.zero_le _, HO5⟩
  case round =>
    obtain ⟨k, rfl, hk, HK⟩ := hrel
    by_cases hlt : k < n
    · have hlt' : (k : Int) < (n : Int) := by omega
      have hk0 : (0 : Int) ≤ (k : Int) := by omega
      obtain ⟨cs, hcl, hrow, hfr⟩ := HK.out
      obtain ⟨g, hp, hcell, hfz⟩ := RowB.at hrow (i := k) (by omega)
      subst hp
      have hxl := (cs[k]).toNat_lt
      obtain ⟨x, hx⟩ : ∃ x, (cs[k]).toNat = x := ⟨_, rfl⟩
      rw [hx] at hcell hxl
      have hxor : bits .xor .u8 (x : Int) 255 = ((x ^^^ 255 : Nat) : Int) := u8_xor_nat x 255 (by omega) (by decide)
      have hyl : x ^^^ 255 < 256 := Nat.xor_lt_two_pow (n := 8) (by omega) (by decide)
      obtain ⟨y, hy⟩ : ∃ y, x ^^^ 255 = y := ⟨_, rfl⟩
      rw [hy] at hxor hyl
      have hset := RowB.set hrow k y.toUInt8
      rw [u8n, Nat.mod_eq_of_lt hyl] at hset
      have HK2 : Hid (Turned w1.heap.size (.slice (some ⟨g, 0, none⟩) n c2) n w5 _) := ⟨_, by rw [List.length_set]; exact hcl, hset, hfr.and (Fr.setCell _ _ _ (show (Value.slice (some ⟨g, 0, none⟩) n c2).ownBlock = some g from rfl)) (fun _ _ h => h)⟩
      clear hset hrow hfr hcl hx hy HK
      go_wp2
      go_roundw
      case rel => exact ⟨k + 1, by go_num, hlt, HK2⟩
      case measure => simp [numOf]; omega
    · have hlt' : ¬ (k : Int) < (n : Int) := by omega
      rename_i wr
      obtain ⟨cs, _, _, hfr⟩ := HK.out
      have HF : Hid (Fr (fun k => (Value.slice p2 n c2).ownBlock = some k) w5 wr) := hfr
      have HBw : Hid (Below w.heap.size w wr) := (HB2.out.trans (HB5.out.mono HB2.out.size)).trans (hfr.below (Nat.le_trans HB2.out.size HB5.out.size) (fun k hk hc => by have := (HLT.out k hc).1; have := HB1.out.size; omega))
      have HR6 : Hid (Refs w3.heap.size w wr x4 L) := HR5.out.fr hfr (fun k hk hc => by have := (HR5.out.lt k hk).1; have := (HLT.out k hc).2; have := HB3.out.size; omega)
      have HR36 : Hid (Recs w2.heap.size wr x3 L) := HR35.out.fr hfr (fun k hc => (HLT.out k hc).2)
      have htt : ((t : Int) == (t : Int)) = true := by simp
      clear hfr
      go_wp2_with (go_at_call 16; refine (same_true x3 x4 L _ HR36.out.sls (HR6.out.sls HBw.out) HS.out.2.2).mono ?_; rintro e w7 ⟨rfl, hb7⟩)
      go_ret
      exact ⟨rfl, HBw.out.trans (hb7.mono HBw.out.size)⟩
end Wl
end Go.Proofs.Ytamddicoancdhaa
