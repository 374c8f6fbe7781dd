/- HttpPieces: however bytes are cut, the messages and the fault are the same. -/
import Derived.Test.YtngfoghnopnbmaaGreatDoorPc
namespace Go.Proofs.YtngfoghnopnbmaaGreatDoor
open Go.RowKit
namespace Ht
open Bw

/-- A slice holds these numbers. -/
def SlZ (w : World) (v : Value) (zs : List Int) : Prop := ∃ a c, v = .slice a zs.length c ∧ ∀ i (h : i < zs.length), ∃ b off, a = some ⟨b, off, none⟩ ∧ b < w.heap.size ∧ w.cell? ⟨b, off + i, none⟩ = some (.int .i64 zs[i])
/-- Two feeds are made; then the first is fed. -/
theorem two_feeds {w w2 w3 : World} {ans : Bool} (k2 : FA (fun _ => False) (w.heap.size + 1) w.heap.size (FM.new ans) (.slice none 0 0) (.slice none 0 0) (.slice none 0 0) (.slice none 0 0) [] w2) (k3 : FA (fun _ => False) (w2.heap.size + 1) w2.heap.size (FM.new ans) (.slice none 0 0) (.slice none 0 0) (.slice none 0 0) (.slice none 0 0) [] w3) (b3 : Below w2.heap.size w2 w3) :
    FeedAt (fun _ => False) w3.heap.size w.heap.size (FM.new ans) w3 ∧ w.heap.size < w2.heap.size ∧ w2.heap.size < w3.heap.size := by
  have e2 := lt_of_block k2.c
  have e3 := lt_of_block k3.c
  exact ⟨⟨_, _, _, _, _, (k2.keep b3).rebase (by omega) (Nat.le_refl _) ⟨rfl, rfl, rfl, rfl⟩⟩, e2, e3⟩
section
variable {w : World}
theorem comp34 : (Tryz.prog.info? 34).map (·.comparable) = some true := by kernel_rfl
theorem eq_err (a b : Int) (W : World) : (Op.equalIn 10000 31 (.iface 34 (.int .i64 a)) (.iface 34 (.int .i64 b))).run Tryz.prog W = .ok (a == b) W := by
  obtain ⟨i, hi, hc⟩ := Option.map_eq_some_iff.1 comp34
  rw [show (10000 : Nat) = 9999 + 1 from rfl, Op.equalIn]
  simp only [Sem.run_bind, run_underlying Tryz.underlying31, Result.andThen_ok]
  simp [typeInfo, hi, hc]
  rw [show (9999 : Nat) = 9998 + 1 from rfl]
  exact run_equalIn_int (P := Tryz.prog) W 9998 34 .i64 .i64 a b Tryz.underlying34
theorem bin_err (a b : Int) (W : World) : (binOp .eql 31 (.iface 34 (.int .i64 a)) (.iface 34 (.int .i64 b))).run Tryz.prog W = .ok (.bool (a == b)) W := by
  simp only [binOp]
  simp [Op.equal, Op.maxDepth, eq_err a b W]
theorem fr_below {S : Nat → Prop} {D : Nat} {a b : World} (h : Below D a b) (hs : ∀ k, D ≤ k → S k) : Fr S a b :=
  ⟨h.os, h.tape, h.output, h.size, fun k _ hn => h.block k (Nat.lt_of_not_le (fun e => hn (hs k e)))⟩
set_option maxRecDepth 20000 in
set_option maxHeartbeats 16000000 in
theorem pieces_good (bs : List UInt8) (hbs : bs.length ≤ 100000000) (vb : Value) (hvb : SlM w vb bs) (zs : List Int) (hzl : zs.length ≤ 1000000000) (vz : Value) (hvz : SlZ w vz zs) (ans : Bool) (hp : Pow w) {mF : FM} (hrun : runM (FM.new ans) bs = (none, mF)) :
    Calls Tryz.prog 7 #[vb, vz, .bool ans] w fun e w' => e = .returned (.bool true) ∧ Below w.heap.size w w' := by
  have HVB : Hid (SlM w vb bs) := hvb
  have HVZ : Hid (SlZ w vz zs) := hvz
  have HRUN : Hid (runM (FM.new ans) bs = (none, mF)) := hrun
  have HP : Hid (Pow w) := hp
  have q9 := shown9 w hp
  have kc := fun (W : World) (C : Array Value) (n c : Nat) => Lib.run_convert_bytes_const (P := Tryz.prog) W 29 5 C n c Tryz.underlying29 Tryz.underlying5
  have hokF := run_ok _ (new_ok ans) hrun
  have hwF := hokF.i.o
  have H12 : Hid (∀ (W : World) (B fb : Nat), FeedAt (fun _ => False) B fb (FM.new ans) W → Below w.heap.size w W → w.heap.size ≤ fb → fb < B → Calls Tryz.prog 12 #[.pointer (some ⟨fb, 0, none⟩), vb] W fun e w' => ∃ v, e = .returned (.tuple #[v, .nilIface]) ∧ Handed B mF.wh v w' ∧ FeedAt (fun _ => False) B fb mF.rest w' ∧ Frf (fun _ => False) B fb W w') := fun W B fb h hb h1 h2 => by
    refine (feed_good bs (N := 0) (by omega) h (new_ok ans) (by simp [FM.new]) hrun vb (HVB.out.below hb (Nat.le_refl _)) (fun x l c e hl => ?_)).mono (fun e w' hfed => hfed.ends)
    subst e
    rcases HVB.out with ⟨rfl, _ | ⟨y, cap, e, _⟩⟩ | ⟨b, off, cap, e, _, _, hc⟩
    · rename_i e; cases e
    · injection e with _ e _; omega
    · injection e with e e2 _
      injection e with e
      subst e
      have hb2 : b < w.heap.size := cell_lt (hc 0 (by omega))
      exact ⟨by simp only; omega, .inl (by simp only; omega)⟩
  have hm5 := method105
  have hee := bin_err
  obtain ⟨va, vc, rfl⟩ : ∃ a c, vb = .slice a bs.length c := by
    rcases hvb.cases with ⟨rfl, a, c, rfl⟩ | ⟨b, off, c, rfl, _⟩
    · exact ⟨_, _, rfl⟩
    · exact ⟨_, _, rfl⟩
  obtain ⟨za, zc, rfl, -⟩ := hvz
  clear hvb hrun hp
  go_enter Tryz.func7, Tryz.ntmps7
  go_wp2_with (first
    | (go_at_call 9; refine q9.mono ?_; rintro e w1 ⟨rfl, b1⟩; have hz1 := b1.size; have H1 : Hid (Below w.heap.size w w1) := b1; clear b1)
    | (have hq := H2; go_at_call 10; refine (new10 ans _).mono ?_; clear hq; rintro e w3 ⟨rfl, k3, b3⟩; have hz3 := b3.size; have H3 : Hid (FeedAt (fun _ => False) w3.heap.size w1.heap.size (FM.new ans) w3 ∧ w1.heap.size < w2.heap.size ∧ w2.heap.size < w3.heap.size ∧ FA (fun _ => False) (w2.heap.size + 1) w2.heap.size (FM.new ans) (.slice none 0 0) (.slice none 0 0) (.slice none 0 0) (.slice none 0 0) [] w3 ∧ Below w.heap.size w w3) := (by obtain ⟨q1, q2, q3⟩ := two_feeds H2.out.1 k3 b3; exact ⟨q1, q2, q3, k3, H2.out.2.trans (b3.mono H2.out.2.size)⟩); clear k3 b3)
    | (go_at_call 10; refine (new10 ans _).mono ?_; rintro e w2 ⟨rfl, k2, b2⟩; have hz2 := b2.size; have H2 : Hid (FA (fun _ => False) (w1.heap.size + 1) w1.heap.size (FM.new ans) (.slice none 0 0) (.slice none 0 0) (.slice none 0 0) (.slice none 0 0) [] w2 ∧ Below w.heap.size w w2) := ⟨k2, H1.out.trans (b2.mono hz1)⟩; clear k2 b2)
    | (go_at_call 12; refine (H12.out _ _ _ H3.out.1 H3.out.2.2.2.2 hz1 (by have := H3.out.2.1; have := H3.out.2.2.1; omega)).mono ?_; rintro e w4 ⟨vl, rfl, h4, k4, f4⟩; have hz4 := f4.size; have H4 : Hid (Handed w3.heap.size mF.wh vl w4 ∧ FeedAt (fun _ => False) w3.heap.size w1.heap.size mF.rest w4 ∧ Frf (fun _ => False) w3.heap.size w1.heap.size w3 w4) := ⟨h4, k4, f4⟩; clear h4 k4 f4))
  clear q9
  obtain ⟨k4a, q12, q23, k3a, b3a⟩ := H3.out
  have HO : Hid (w.heap.size ≤ w1.heap.size ∧ w1.heap.size < w2.heap.size ∧ w2.heap.size < w3.heap.size ∧ w3.heap.size ≤ w4.heap.size) := ⟨hz1, q12, q23, hz4⟩
  have HG4 : Hid (FeedAt (fun _ => False) w4.heap.size w2.heap.size (FM.new ans) w4) := by
    have hk : ∀ k, k < w3.heap.size → k ≠ w1.heap.size → w4.heap[k]? = w3.heap[k]? := fun k h1 h2 => H4.out.2.2.block k h1 (fun e => by omega)
    have := k3a
    exact ⟨_, _, _, _, _, ⟨(hk _ q23 (by omega)).trans k3a.c, RowB.nil _ _, World.ownsRow_nil _ _ _ _, RowB.nil _ _, k3a.d, World.ownsRow_nil _ _ _ _, rfl, by omega, Nat.le_refl _, fun k hk => hk.elim⟩⟩
  have HB4 : Hid (Below w.heap.size w w4) := b3a.trans (Fr.below H4.out.2.2 (by have := b3a.size; omega) (fun k hk => by omega))
  clear k4a q12 q23 k3a b3a
  go_loopw [12, 13, 14, 15] (fun um uh ua ui w' => ∃ p i : Nat, ua = .int .i64 (p : Int) ∧ ui = .int .i64 (i : Int) ∧ p ≤ bs.length ∧ i ≤ p ∧ Fr (fun k => k = w2.heap.size ∨ w4.heap.size ≤ k) w4 w' ∧ Hid (PSt ans bs w4.heap.size w2.heap.size p um uh w')) (fun _ _ ua _ _ => bs.length - numOf ua)
  case atStart => exact ⟨0, 0, rfl, rfl, Nat.zero_le _, Nat.le_refl _, Fr.refl _ _, .inl ⟨rfl, FM.new ans, fun _ => False, by rw [List.take_zero]; rfl, fun k hk => hk.elim, HG4.out, Acc.nil _ _ _⟩⟩
  case round =>
    obtain ⟨p, i, rfl, rfl, hpl, hip, hfr, HS⟩ := hrel
    have HBW : Hid (Below w.heap.size w wr) := HB4.out.trans (Fr.below hfr HB4.out.size (fun k hk => by have := HO.out; omega))
    rcases HS.out with ⟨rfl, mp, G, hA1, hA2, hA3, hA4⟩ | ⟨kh, y, mx, G, rfl, hB1, hB2, hB3, hB4⟩
    · by_cases hlt : p < bs.length
      · have hlt' : (p : Int) < (bs.length : Int) := by omega
        obtain ⟨b, off, cap, e1, hcap1, hcap2, hcell⟩ : ∃ b off cap, Value.slice va bs.length vc = .slice (some ⟨b, off, none⟩) bs.length cap ∧ bs.length ≤ cap ∧ cap ≤ 9223372036854775807 ∧ ∀ j (h : j < bs.length), wr.cell? ⟨b, off + j, none⟩ = some (.int .u8 (bs[j].toNat : Int)) := by
          rcases (HVB.out.below HBW.out (Nat.le_refl _)).cases with ⟨e, _⟩ | h
          · rw [e] at hlt; simp at hlt
          · exact h
        injection e1 with e1 _ e2
        subst e1 e2
        have hbw0 : b < w.heap.size := by
          rcases HVB.out.cases with ⟨e, _⟩ | ⟨b', off', cap', e, _, _, hc⟩
          · rw [e] at hlt; simp at hlt
          · injection e with e _ _
            injection e with e
            injection e with e
            subst e
            exact cell_lt (hc 0 (by omega))
        have hcapb : bs.length ≤ vc ∧ vc ≤ 9223372036854775807 := ⟨hcap1, hcap2⟩
        clear HS
        by_cases hi : i < zs.length
        · have hi' : (i : Int) < (zs.length : Int) := by omega
          obtain ⟨_, _, e3, hzc⟩ := HVZ.out
          injection e3 with e3 _ e4
          subst e3 e4
          obtain ⟨zb, zo, rfl, hzb, hzz⟩ := hzc i hi
          have cz := (HBW.out.cell (p := ⟨zb, zo + i, none⟩) hzb).trans hzz
          obtain ⟨z, hz⟩ : ∃ z, zs[i] = z := ⟨_, rfl⟩
          rw [hz] at cz
          clear hzz hz hzc
          by_cases hz0 : 0 < z
          · by_cases hzr : z < (bs.length : Int) - (p : Int)
            · obtain ⟨n, rfl⟩ : ∃ n : Nat, z = n := ⟨z.toNat, by omega⟩
              have hpn : p + n ≤ bs.length := by omega
              have hn1 : 1 ≤ n := by omega
              have HNN : Hid (p + n ≤ bs.length ∧ 1 ≤ n) := ⟨hpn, hn1⟩
              have hu := sl_part hcell hcapb p n hpn
              have q12 := piece_step hbs hA1 hA2 hA3 hpn _ hu (fun y l c e _ => by injection e with e; injection e with e; subst e; exact ⟨by simp only; have := HO.out; omega, by simp only; have := HO.out; omega⟩)
              have HA : Hid (Acc G w4.heap.size mp.wh u12 wr ∧ w2.heap.size < w4.heap.size) := ⟨hA4, by have := HO.out; omega⟩
              have hw4 := hfr.size
              clear hu
              go_wp2_with (first
                | (go_at_call 12; refine q12.mono ?_; rintro e w5 ⟨v5, err5, l5, mr5, rfl, -, hg5, hf5, hlen5, hnx5⟩; have hz5 := hf5.size; have H5 : Hid (Gave G w4.heap.size w2.heap.size l5 mr5 v5 w5 ∧ Frf G w4.heap.size w2.heap.size wr w5 ∧ Acc G w4.heap.size mp.wh u12 w5) := ⟨hg5, hf5, HA.out.1.frf HA.out.2 hf5 hA2⟩; have HX5 : Hid _ := hnx5; clear hg5 hf5 hnx5 q12)
                | (refine app_m rfl (.tmp 89) (.tmp 90) rfl hA2 _ mp.wh rfl H5.out.2.2 v5 l5 mr5 rfl H5.out.1 hlen5 (by omega) ?_; intro v6 w6 G6 g6 a6 f6 b6 x6; have H6 : Hid (PSt ans bs w4.heap.size w2.heap.size (p + n) v6 err5 w6 ∧ Below w4.heap.size w5 w6) := ⟨HX5.out _ _ _ g6 a6 f6 x6, b6⟩; clear g6 a6 f6 b6 x6))
              go_roundw
              case rel => exact ⟨p + n, i + 1, by simp, by simp, HNN.out.1, by have := HNN.out.2; omega, (hfr.and (H5.out.2.1.mono (fun k _ e => e.imp id (fun e => e.1))) (fun _ _ x => x)).and (fr_below H6.out.2 (fun k e => .inr e)) (fun _ _ x => x), H6.out.1⟩
              case measure => have := HNN.out.2; simp [numOf]; omega
            · obtain ⟨n, hn⟩ : ∃ n : Nat, (bs.length : Int) - (p : Int) = n := ⟨bs.length - p, by omega⟩
              rw [hn] at hzr
              have hpn : p + n ≤ bs.length := by omega
              have hn1 : 1 ≤ n := by omega
              have HNN : Hid (p + n ≤ bs.length ∧ 1 ≤ n) := ⟨hpn, hn1⟩
              have hu := sl_part hcell hcapb p n hpn
              have q12 := piece_step hbs hA1 hA2 hA3 hpn _ hu (fun y l c e _ => by injection e with e; injection e with e; subst e; exact ⟨by simp only; have := HO.out; omega, by simp only; have := HO.out; omega⟩)
              have HA : Hid (Acc G w4.heap.size mp.wh u12 wr ∧ w2.heap.size < w4.heap.size) := ⟨hA4, by have := HO.out; omega⟩
              have hw4 := hfr.size
              clear hu
              go_wp2_with (first
                | (go_at_call 12; refine q12.mono ?_; rintro e w5 ⟨v5, err5, l5, mr5, rfl, -, hg5, hf5, hlen5, hnx5⟩; have hz5 := hf5.size; have H5 : Hid (Gave G w4.heap.size w2.heap.size l5 mr5 v5 w5 ∧ Frf G w4.heap.size w2.heap.size wr w5 ∧ Acc G w4.heap.size mp.wh u12 w5) := ⟨hg5, hf5, HA.out.1.frf HA.out.2 hf5 hA2⟩; have HX5 : Hid _ := hnx5; clear hg5 hf5 hnx5 q12)
                | (refine app_m rfl (.tmp 89) (.tmp 90) rfl hA2 _ mp.wh rfl H5.out.2.2 v5 l5 mr5 rfl H5.out.1 hlen5 (by omega) ?_; intro v6 w6 G6 g6 a6 f6 b6 x6; have H6 : Hid (PSt ans bs w4.heap.size w2.heap.size (p + n) v6 err5 w6 ∧ Below w4.heap.size w5 w6) := ⟨HX5.out _ _ _ g6 a6 f6 x6, b6⟩; clear g6 a6 f6 b6 x6))
              go_roundw
              case rel => exact ⟨p + n, i + 1, by simp, by simp, HNN.out.1, by have := HNN.out.2; omega, (hfr.and (H5.out.2.1.mono (fun k _ e => e.imp id (fun e => e.1))) (fun _ _ x => x)).and (fr_below H6.out.2 (fun k e => .inr e)) (fun _ _ x => x), H6.out.1⟩
              case measure => have := HNN.out.2; simp [numOf]; omega
          · obtain ⟨n, hn⟩ : ∃ n : Nat, (bs.length : Int) - (p : Int) = n := ⟨bs.length - p, by omega⟩
            have hpn : p + n ≤ bs.length := by omega
            have hn1 : 1 ≤ n := by omega
            have HNN : Hid (p + n ≤ bs.length ∧ 1 ≤ n) := ⟨hpn, hn1⟩
            have hu := sl_part hcell hcapb p n hpn
            have q12 := piece_step hbs hA1 hA2 hA3 hpn _ hu (fun y l c e _ => by injection e with e; injection e with e; subst e; exact ⟨by simp only; have := HO.out; omega, by simp only; have := HO.out; omega⟩)
            have HA : Hid (Acc G w4.heap.size mp.wh u12 wr ∧ w2.heap.size < w4.heap.size) := ⟨hA4, by have := HO.out; omega⟩
            have hw4 := hfr.size
            clear hu
            go_wp2_with (first
              | (go_at_call 12; refine q12.mono ?_; rintro e w5 ⟨v5, err5, l5, mr5, rfl, -, hg5, hf5, hlen5, hnx5⟩; have hz5 := hf5.size; have H5 : Hid (Gave G w4.heap.size w2.heap.size l5 mr5 v5 w5 ∧ Frf G w4.heap.size w2.heap.size wr w5 ∧ Acc G w4.heap.size mp.wh u12 w5) := ⟨hg5, hf5, HA.out.1.frf HA.out.2 hf5 hA2⟩; have HX5 : Hid _ := hnx5; clear hg5 hf5 hnx5 q12)
              | (refine app_m rfl (.tmp 89) (.tmp 90) rfl hA2 _ mp.wh rfl H5.out.2.2 v5 l5 mr5 rfl H5.out.1 hlen5 (by omega) ?_; intro v6 w6 G6 g6 a6 f6 b6 x6; have H6 : Hid (PSt ans bs w4.heap.size w2.heap.size (p + n) v6 err5 w6 ∧ Below w4.heap.size w5 w6) := ⟨HX5.out _ _ _ g6 a6 f6 x6, b6⟩; clear g6 a6 f6 b6 x6))
            go_roundw
            case rel => exact ⟨p + n, i + 1, by simp, by simp, HNN.out.1, by have := HNN.out.2; omega, (hfr.and (H5.out.2.1.mono (fun k _ e => e.imp id (fun e => e.1))) (fun _ _ x => x)).and (fr_below H6.out.2 (fun k e => .inr e)) (fun _ _ x => x), H6.out.1⟩
            case measure => have := HNN.out.2; simp [numOf]; omega
        · have hi' : ¬ (i : Int) < (zs.length : Int) := by omega
          obtain ⟨n, hn⟩ : ∃ n : Nat, (bs.length : Int) - (p : Int) = n := ⟨bs.length - p, by omega⟩
          have hpn : p + n ≤ bs.length := by omega
          have hn1 : 1 ≤ n := by omega
          have HNN : Hid (p + n ≤ bs.length ∧ 1 ≤ n) := ⟨hpn, hn1⟩
          have hu := sl_part hcell hcapb p n hpn
          have q12 := piece_step hbs hA1 hA2 hA3 hpn _ hu (fun y l c e _ => by injection e with e; injection e with e; subst e; exact ⟨by simp only; have := HO.out; omega, by simp only; have := HO.out; omega⟩)
          have HA : Hid (Acc G w4.heap.size mp.wh u12 wr ∧ w2.heap.size < w4.heap.size) := ⟨hA4, by have := HO.out; omega⟩
          have hw4 := hfr.size
          clear hu
          go_wp2_with (first
            | (go_at_call 12; refine q12.mono ?_; rintro e w5 ⟨v5, err5, l5, mr5, rfl, -, hg5, hf5, hlen5, hnx5⟩; have hz5 := hf5.size; have H5 : Hid (Gave G w4.heap.size w2.heap.size l5 mr5 v5 w5 ∧ Frf G w4.heap.size w2.heap.size wr w5 ∧ Acc G w4.heap.size mp.wh u12 w5) := ⟨hg5, hf5, HA.out.1.frf HA.out.2 hf5 hA2⟩; have HX5 : Hid _ := hnx5; clear hg5 hf5 hnx5 q12)
            | (refine app_m rfl (.tmp 89) (.tmp 90) rfl hA2 _ mp.wh rfl H5.out.2.2 v5 l5 mr5 rfl H5.out.1 hlen5 (by omega) ?_; intro v6 w6 G6 g6 a6 f6 b6 x6; have H6 : Hid (PSt ans bs w4.heap.size w2.heap.size (p + n) v6 err5 w6 ∧ Below w4.heap.size w5 w6) := ⟨HX5.out _ _ _ g6 a6 f6 x6, b6⟩; clear g6 a6 f6 b6 x6))
          go_roundw
          case rel => exact ⟨p + n, i + 1, by simp, by simp, HNN.out.1, by have := HNN.out.2; omega, (hfr.and (H5.out.2.1.mono (fun k _ e => e.imp id (fun e => e.1))) (fun _ _ x => x)).and (fr_below H6.out.2 (fun k e => .inr e)) (fun _ _ x => x), H6.out.1⟩
          case measure => have := HNN.out.2; simp [numOf]; omega
      · have hlt' : ¬ (p : Int) < (bs.length : Int) := by omega
        obtain rfl : mp = mF := by
          rw [List.take_of_length_le (by omega), HRUN.out] at hA1
          injection hA1 with _ hA1
          exact hA1.symm
        have HM : Hid (Acc G w4.heap.size mp.wh u12 wr) := hA4
        have HGF : Hid (FeedAt G w4.heap.size w2.heap.size mp.rest wr) := hA3
        have HF : Hid (FeedAt (fun _ => False) w3.heap.size w1.heap.size mp.rest wr) := H4.out.2.1.keep2 hfr.size (fun k hk e => hfr.block k hk (fun e2 => by have := HO.out; omega))
        have HL : Hid (Handed w3.heap.size mp.wh vl wr) := H4.out.1.keep2 (fun k hk e => hfr.block k hk (fun e2 => by have := HO.out; omega))
        have q14 : Calls Tryz.prog 14 #[vl, u12] wr fun e w' => e = .returned (.bool true) ∧ Below wr.heap.size wr w' := by
          obtain ⟨ok1, zs1, a1, a2, -⟩ := HL.out
          obtain ⟨ok2, zs2, c1, c2, -⟩ := HM.out
          exact alike14 mp.wh (own_bound a1) _ _ _ (own_msl a1 a2) (own_msl c1 c2)
        clear HS hA1 hA3 hA4
        go_wp2_with (go_at_call 14; refine q14.mono ?_; rintro e w7 ⟨rfl, b7⟩; have hz7 := b7.size; have B7 : Hid (Below wr.heap.size wr w7) := b7; clear b7)
        go_quiet (fail)
        obtain ⟨w8, hw8⟩ : ∃ v, w7.drewN nq = v := ⟨_, rfl⟩
        have b8 : Below w7.heap.size w7 w8 := by rw [← hw8]; exact drewB _ _ _
        rw [hw8]
        clear hw8
        have B8 : Hid (Below wr.heap.size wr w8) := B7.out.trans (b8.mono hz7)
        have qf : Calls Tryz.prog 16 #[.pointer (some ⟨w1.heap.size, 0, none⟩)] w8 fun e w' => e = .returned (.bool (decide (mp.rest.wt ≠ 0 ∧ mp.rest.wt ≠ 1))) ∧ w' = w8 := by
          obtain ⟨vt, vh, vb', vw, zs', k⟩ := HF.out
          exact open16 (k.keep B8.out)
        have qg : Calls Tryz.prog 16 #[.pointer (some ⟨w2.heap.size, 0, none⟩)] w8 fun e w' => e = .returned (.bool (decide (mp.rest.wt ≠ 0 ∧ mp.rest.wt ≠ 1))) ∧ w' = w8 := by
          obtain ⟨vt, vh, vb', vw, zs', k⟩ := HGF.out
          exact open16 (k.keep B8.out)
        obtain ⟨O, hO⟩ : ∃ O, decide (mp.rest.wt ≠ 0 ∧ mp.rest.wt ≠ 1) = O := ⟨_, rfl⟩
        rw [hO] at qf qg
        clear hO b8
        go_wp2_with (first
          | (have hq := K9; go_at_call 16; refine qg.mono ?_; clear hq; rintro e w10 ⟨rfl, rfl⟩)
          | (go_at_call 16; refine qf.mono ?_; rintro e w9 ⟨rfl, rfl⟩; have K9 := trivial))
        go_ret
        exact ⟨by simp, HBW.out.trans (B8.out.mono HBW.out.size)⟩
    · rw [HRUN.out] at hB1
      cases hB1
set_option maxRecDepth 20000 in
set_option maxHeartbeats 16000000 in
theorem pieces_bad (bs : List UInt8) (hbs : bs.length ≤ 100000000) (vb : Value) (hvb : SlM w vb bs) (zs : List Int) (hzl : zs.length ≤ 1000000000) (vz : Value) (hvz : SlZ w vz zs) (ans : Bool) (hp : Pow w) {mF : FM} {x : Int} (hrun : runM (FM.new ans) bs = (some x, mF)) :
    Calls Tryz.prog 7 #[vb, vz, .bool ans] w fun e w' => e = .returned (.bool true) ∧ Below w.heap.size w w' := by
  have HVB : Hid (SlM w vb bs) := hvb
  have HVZ : Hid (SlZ w vz zs) := hvz
  have HRUN : Hid (runM (FM.new ans) bs = (some x, mF)) := hrun
  have HP : Hid (Pow w) := hp
  have q9 := shown9 w hp
  have kc := fun (W : World) (C : Array Value) (n c : Nat) => Lib.run_convert_bytes_const (P := Tryz.prog) W 29 5 C n c Tryz.underlying29 Tryz.underlying5
  obtain ⟨z1, z2, z3, z4, z5⟩ := run_bad_wh _ (new_ok ans) hrun
  have HTK : Hid ((-9223372036854775808 ≤ mF.tk ∧ mF.tk ≤ 9223372036854775807) ∧ -9223372036854775808 ≤ x ∧ x ≤ 9223372036854775807) := by
    simp only [FM.new] at z2 z3
    show _ ∧ _
    omega
  have H12 : Hid (∀ (W : World) (B fb : Nat), FeedAt (fun _ => False) B fb (FM.new ans) W → Below w.heap.size w W → w.heap.size ≤ fb → fb < B → Calls Tryz.prog 12 #[.pointer (some ⟨fb, 0, none⟩), vb] W fun e w' => ∃ v k, e = .returned (.tuple #[v, .iface 105 (.pointer (some ⟨k, 0, none⟩))]) ∧ w'.heap[k]? = some (.cells #[.int .i64 mF.tk, .iface 34 (.int .i64 x)] 107 (0, 0)) ∧ B ≤ k ∧ Handed B mF.wh v w' ∧ FeedAt (fun _ => False) B fb (FM.shut false) w' ∧ Frf (fun _ => False) B fb W w') := fun W B fb h hb h1 h2 => by
    refine (feed_bad bs (N := 0) (by omega) h (new_ok ans) (by simp [FM.new]) hrun vb (HVB.out.below hb (Nat.le_refl _)) (fun x l c e hl => ?_)).mono (fun e w' hfed => hfed.ends)
    subst e
    rcases HVB.out with ⟨rfl, _ | ⟨y, cap, e, _⟩⟩ | ⟨b, off, cap, e, _, _, hc⟩
    · rename_i e; cases e
    · injection e with _ e _; omega
    · injection e with e e2 _
      injection e with e
      subst e
      have hb2 : b < w.heap.size := cell_lt (hc 0 (by omega))
      exact ⟨by simp only; omega, .inl (by simp only; omega)⟩
  clear z1 z2 z3 z4 z5
  have hm5 := method105
  have hee := bin_err
  obtain ⟨va, vc, rfl⟩ : ∃ a c, vb = .slice a bs.length c := by
    rcases hvb.cases with ⟨rfl, a, c, rfl⟩ | ⟨b, off, c, rfl, _⟩
    · exact ⟨_, _, rfl⟩
    · exact ⟨_, _, rfl⟩
  obtain ⟨za, zc, rfl, -⟩ := hvz
  clear hvb hrun hp
  go_enter Tryz.func7, Tryz.ntmps7
  go_wp2_with (first
    | (go_at_call 9; refine q9.mono ?_; rintro e w1 ⟨rfl, b1⟩; have hz1 := b1.size; have H1 : Hid (Below w.heap.size w w1) := b1; clear b1)
    | (have hq := H2; go_at_call 10; refine (new10 ans _).mono ?_; clear hq; rintro e w3 ⟨rfl, k3, b3⟩; have hz3 := b3.size; have H3 : Hid (FeedAt (fun _ => False) w3.heap.size w1.heap.size (FM.new ans) w3 ∧ w1.heap.size < w2.heap.size ∧ w2.heap.size < w3.heap.size ∧ FA (fun _ => False) (w2.heap.size + 1) w2.heap.size (FM.new ans) (.slice none 0 0) (.slice none 0 0) (.slice none 0 0) (.slice none 0 0) [] w3 ∧ Below w.heap.size w w3) := (by obtain ⟨q1, q2, q3⟩ := two_feeds H2.out.1 k3 b3; exact ⟨q1, q2, q3, k3, H2.out.2.trans (b3.mono H2.out.2.size)⟩); clear k3 b3)
    | (go_at_call 10; refine (new10 ans _).mono ?_; rintro e w2 ⟨rfl, k2, b2⟩; have hz2 := b2.size; have H2 : Hid (FA (fun _ => False) (w1.heap.size + 1) w1.heap.size (FM.new ans) (.slice none 0 0) (.slice none 0 0) (.slice none 0 0) (.slice none 0 0) [] w2 ∧ Below w.heap.size w w2) := ⟨k2, H1.out.trans (b2.mono hz1)⟩; clear k2 b2)
    | (go_at_call 12; refine (H12.out _ _ _ H3.out.1 H3.out.2.2.2.2 hz1 (by have := H3.out.2.1; have := H3.out.2.2.1; omega)).mono ?_; rintro e w4 ⟨vl, kf, rfl, c4, kf4, h4, k4, f4⟩; have hz4 := f4.size; have H4 : Hid (Handed w3.heap.size mF.wh vl w4 ∧ FeedAt (fun _ => False) w3.heap.size w1.heap.size (FM.shut false) w4 ∧ Frf (fun _ => False) w3.heap.size w1.heap.size w3 w4 ∧ w4.heap[kf]? = some (.cells #[.int .i64 mF.tk, .iface 34 (.int .i64 x)] 107 (0, 0)) ∧ w3.heap.size ≤ kf) := ⟨h4, k4, f4, c4, kf4⟩; clear h4 k4 f4 c4))
  clear q9
  obtain ⟨k4a, q12, q23, k3a, b3a⟩ := H3.out
  have HO : Hid (w.heap.size ≤ w1.heap.size ∧ w1.heap.size < w2.heap.size ∧ w2.heap.size < w3.heap.size ∧ w3.heap.size ≤ w4.heap.size) := ⟨hz1, q12, q23, hz4⟩
  have HG4 : Hid (FeedAt (fun _ => False) w4.heap.size w2.heap.size (FM.new ans) w4) := by
    have hk : ∀ k, k < w3.heap.size → k ≠ w1.heap.size → w4.heap[k]? = w3.heap[k]? := fun k h1 h2 => H4.out.2.2.1.block k h1 (fun e => by omega)
    have := k3a
    exact ⟨_, _, _, _, _, ⟨(hk _ q23 (by omega)).trans k3a.c, RowB.nil _ _, World.ownsRow_nil _ _ _ _, RowB.nil _ _, k3a.d, World.ownsRow_nil _ _ _ _, rfl, by omega, Nat.le_refl _, fun k hk => hk.elim⟩⟩
  have HB4 : Hid (Below w.heap.size w w4) := b3a.trans (Fr.below H4.out.2.2.1 (by have := b3a.size; omega) (fun k hk => by omega))
  clear k4a q12 q23 k3a b3a
  go_loopw [12, 13, 14, 15] (fun um uh ua ui w' => ∃ p i : Nat, ua = .int .i64 (p : Int) ∧ ui = .int .i64 (i : Int) ∧ p ≤ bs.length ∧ i ≤ p ∧ Fr (fun k => k = w2.heap.size ∨ w4.heap.size ≤ k) w4 w' ∧ Hid (PSt ans bs w4.heap.size w2.heap.size p um uh w')) (fun _ _ ua _ _ => bs.length - numOf ua)
  case atStart => exact ⟨0, 0, rfl, rfl, Nat.zero_le _, Nat.le_refl _, Fr.refl _ _, .inl ⟨rfl, FM.new ans, fun _ => False, by rw [List.take_zero]; rfl, fun k hk => hk.elim, HG4.out, Acc.nil _ _ _⟩⟩
  case round =>
    obtain ⟨p, i, rfl, rfl, hpl, hip, hfr, HS⟩ := hrel
    have HBW : Hid (Below w.heap.size w wr) := HB4.out.trans (Fr.below hfr HB4.out.size (fun k hk => by have := HO.out; omega))
    rcases HS.out with ⟨rfl, mp, G, hA1, hA2, hA3, hA4⟩ | ⟨kh, y, mx, G, rfl, hB1, hB2, hB3, hB4⟩
    · by_cases hlt : p < bs.length
      · have hlt' : (p : Int) < (bs.length : Int) := by omega
        obtain ⟨b, off, cap, e1, hcap1, hcap2, hcell⟩ : ∃ b off cap, Value.slice va bs.length vc = .slice (some ⟨b, off, none⟩) bs.length cap ∧ bs.length ≤ cap ∧ cap ≤ 9223372036854775807 ∧ ∀ j (h : j < bs.length), wr.cell? ⟨b, off + j, none⟩ = some (.int .u8 (bs[j].toNat : Int)) := by
          rcases (HVB.out.below HBW.out (Nat.le_refl _)).cases with ⟨e, _⟩ | h
          · rw [e] at hlt; simp at hlt
          · exact h
        injection e1 with e1 _ e2
        subst e1 e2
        have hbw0 : b < w.heap.size := by
          rcases HVB.out.cases with ⟨e, _⟩ | ⟨b', off', cap', e, _, _, hc⟩
          · rw [e] at hlt; simp at hlt
          · injection e with e _ _
            injection e with e
            injection e with e
            subst e
            exact cell_lt (hc 0 (by omega))
        have hcapb : bs.length ≤ vc ∧ vc ≤ 9223372036854775807 := ⟨hcap1, hcap2⟩
        clear HS
        by_cases hi : i < zs.length
        · have hi' : (i : Int) < (zs.length : Int) := by omega
          obtain ⟨_, _, e3, hzc⟩ := HVZ.out
          injection e3 with e3 _ e4
          subst e3 e4
          obtain ⟨zb, zo, rfl, hzb, hzz⟩ := hzc i hi
          have cz := (HBW.out.cell (p := ⟨zb, zo + i, none⟩) hzb).trans hzz
          obtain ⟨z, hz⟩ : ∃ z, zs[i] = z := ⟨_, rfl⟩
          rw [hz] at cz
          clear hzz hz hzc
          by_cases hz0 : 0 < z
          · by_cases hzr : z < (bs.length : Int) - (p : Int)
            · obtain ⟨n, rfl⟩ : ∃ n : Nat, z = n := ⟨z.toNat, by omega⟩
              have hpn : p + n ≤ bs.length := by omega
              have hn1 : 1 ≤ n := by omega
              have HNN : Hid (p + n ≤ bs.length ∧ 1 ≤ n) := ⟨hpn, hn1⟩
              have hu := sl_part hcell hcapb p n hpn
              have q12 := piece_step hbs hA1 hA2 hA3 hpn _ hu (fun y l c e _ => by injection e with e; injection e with e; subst e; exact ⟨by simp only; have := HO.out; omega, by simp only; have := HO.out; omega⟩)
              have HA : Hid (Acc G w4.heap.size mp.wh u12 wr ∧ w2.heap.size < w4.heap.size) := ⟨hA4, by have := HO.out; omega⟩
              have hw4 := hfr.size
              clear hu
              go_wp2_with (first
                | (go_at_call 12; refine q12.mono ?_; rintro e w5 ⟨v5, err5, l5, mr5, rfl, -, hg5, hf5, hlen5, hnx5⟩; have hz5 := hf5.size; have H5 : Hid (Gave G w4.heap.size w2.heap.size l5 mr5 v5 w5 ∧ Frf G w4.heap.size w2.heap.size wr w5 ∧ Acc G w4.heap.size mp.wh u12 w5) := ⟨hg5, hf5, HA.out.1.frf HA.out.2 hf5 hA2⟩; have HX5 : Hid _ := hnx5; clear hg5 hf5 hnx5 q12)
                | (refine app_m rfl (.tmp 89) (.tmp 90) rfl hA2 _ mp.wh rfl H5.out.2.2 v5 l5 mr5 rfl H5.out.1 hlen5 (by omega) ?_; intro v6 w6 G6 g6 a6 f6 b6 x6; have H6 : Hid (PSt ans bs w4.heap.size w2.heap.size (p + n) v6 err5 w6 ∧ Below w4.heap.size w5 w6) := ⟨HX5.out _ _ _ g6 a6 f6 x6, b6⟩; clear g6 a6 f6 b6 x6))
              go_roundw
              case rel => exact ⟨p + n, i + 1, by simp, by simp, HNN.out.1, by have := HNN.out.2; omega, (hfr.and (H5.out.2.1.mono (fun k _ e => e.imp id (fun e => e.1))) (fun _ _ x => x)).and (fr_below H6.out.2 (fun k e => .inr e)) (fun _ _ x => x), H6.out.1⟩
              case measure => have := HNN.out.2; simp [numOf]; omega
            · obtain ⟨n, hn⟩ : ∃ n : Nat, (bs.length : Int) - (p : Int) = n := ⟨bs.length - p, by omega⟩
              rw [hn] at hzr
              have hpn : p + n ≤ bs.length := by omega
              have hn1 : 1 ≤ n := by omega
              have HNN : Hid (p + n ≤ bs.length ∧ 1 ≤ n) := ⟨hpn, hn1⟩
              have hu := sl_part hcell hcapb p n hpn
              have q12 := piece_step hbs hA1 hA2 hA3 hpn _ hu (fun y l c e _ => by injection e with e; injection e with e; subst e; exact ⟨by simp only; have := HO.out; omega, by simp only; have := HO.out; omega⟩)
              have HA : Hid (Acc G w4.heap.size mp.wh u12 wr ∧ w2.heap.size < w4.heap.size) := ⟨hA4, by have := HO.out; omega⟩
              have hw4 := hfr.size
              clear hu
              go_wp2_with (first
                | (go_at_call 12; refine q12.mono ?_; rintro e w5 ⟨v5, err5, l5, mr5, rfl, -, hg5, hf5, hlen5, hnx5⟩; have hz5 := hf5.size; have H5 : Hid (Gave G w4.heap.size w2.heap.size l5 mr5 v5 w5 ∧ Frf G w4.heap.size w2.heap.size wr w5 ∧ Acc G w4.heap.size mp.wh u12 w5) := ⟨hg5, hf5, HA.out.1.frf HA.out.2 hf5 hA2⟩; have HX5 : Hid _ := hnx5; clear hg5 hf5 hnx5 q12)
                | (refine app_m rfl (.tmp 89) (.tmp 90) rfl hA2 _ mp.wh rfl H5.out.2.2 v5 l5 mr5 rfl H5.out.1 hlen5 (by omega) ?_; intro v6 w6 G6 g6 a6 f6 b6 x6; have H6 : Hid (PSt ans bs w4.heap.size w2.heap.size (p + n) v6 err5 w6 ∧ Below w4.heap.size w5 w6) := ⟨HX5.out _ _ _ g6 a6 f6 x6, b6⟩; clear g6 a6 f6 b6 x6))
              go_roundw
              case rel => exact ⟨p + n, i + 1, by simp, by simp, HNN.out.1, by have := HNN.out.2; omega, (hfr.and (H5.out.2.1.mono (fun k _ e => e.imp id (fun e => e.1))) (fun _ _ x => x)).and (fr_below H6.out.2 (fun k e => .inr e)) (fun _ _ x => x), H6.out.1⟩
              case measure => have := HNN.out.2; simp [numOf]; omega
          · obtain ⟨n, hn⟩ : ∃ n : Nat, (bs.length : Int) - (p : Int) = n := ⟨bs.length - p, by omega⟩
            have hpn : p + n ≤ bs.length := by omega
            have hn1 : 1 ≤ n := by omega
            have HNN : Hid (p + n ≤ bs.length ∧ 1 ≤ n) := ⟨hpn, hn1⟩
            have hu := sl_part hcell hcapb p n hpn
            have q12 := piece_step hbs hA1 hA2 hA3 hpn _ hu (fun y l c e _ => by injection e with e; injection e with e; subst e; exact ⟨by simp only; have := HO.out; omega, by simp only; have := HO.out; omega⟩)
            have HA : Hid (Acc G w4.heap.size mp.wh u12 wr ∧ w2.heap.size < w4.heap.size) := ⟨hA4, by have := HO.out; omega⟩
            have hw4 := hfr.size
            clear hu
            go_wp2_with (first
              | (go_at_call 12; refine q12.mono ?_; rintro e w5 ⟨v5, err5, l5, mr5, rfl, -, hg5, hf5, hlen5, hnx5⟩; have hz5 := hf5.size; have H5 : Hid (Gave G w4.heap.size w2.heap.size l5 mr5 v5 w5 ∧ Frf G w4.heap.size w2.heap.size wr w5 ∧ Acc G w4.heap.size mp.wh u12 w5) := ⟨hg5, hf5, HA.out.1.frf HA.out.2 hf5 hA2⟩; have HX5 : Hid _ := hnx5; clear hg5 hf5 hnx5 q12)
              | (refine app_m rfl (.tmp 89) (.tmp 90) rfl hA2 _ mp.wh rfl H5.out.2.2 v5 l5 mr5 rfl H5.out.1 hlen5 (by omega) ?_; intro v6 w6 G6 g6 a6 f6 b6 x6; have H6 : Hid (PSt ans bs w4.heap.size w2.heap.size (p + n) v6 err5 w6 ∧ Below w4.heap.size w5 w6) := ⟨HX5.out _ _ _ g6 a6 f6 x6, b6⟩; clear g6 a6 f6 b6 x6))
            go_roundw
            case rel => exact ⟨p + n, i + 1, by simp, by simp, HNN.out.1, by have := HNN.out.2; omega, (hfr.and (H5.out.2.1.mono (fun k _ e => e.imp id (fun e => e.1))) (fun _ _ x => x)).and (fr_below H6.out.2 (fun k e => .inr e)) (fun _ _ x => x), H6.out.1⟩
            case measure => have := HNN.out.2; simp [numOf]; omega
        · have hi' : ¬ (i : Int) < (zs.length : Int) := by omega
          obtain ⟨n, hn⟩ : ∃ n : Nat, (bs.length : Int) - (p : Int) = n := ⟨bs.length - p, by omega⟩
          have hpn : p + n ≤ bs.length := by omega
          have hn1 : 1 ≤ n := by omega
          have HNN : Hid (p + n ≤ bs.length ∧ 1 ≤ n) := ⟨hpn, hn1⟩
          have hu := sl_part hcell hcapb p n hpn
          have q12 := piece_step hbs hA1 hA2 hA3 hpn _ hu (fun y l c e _ => by injection e with e; injection e with e; subst e; exact ⟨by simp only; have := HO.out; omega, by simp only; have := HO.out; omega⟩)
          have HA : Hid (Acc G w4.heap.size mp.wh u12 wr ∧ w2.heap.size < w4.heap.size) := ⟨hA4, by have := HO.out; omega⟩
          have hw4 := hfr.size
          clear hu
          go_wp2_with (first
            | (go_at_call 12; refine q12.mono ?_; rintro e w5 ⟨v5, err5, l5, mr5, rfl, -, hg5, hf5, hlen5, hnx5⟩; have hz5 := hf5.size; have H5 : Hid (Gave G w4.heap.size w2.heap.size l5 mr5 v5 w5 ∧ Frf G w4.heap.size w2.heap.size wr w5 ∧ Acc G w4.heap.size mp.wh u12 w5) := ⟨hg5, hf5, HA.out.1.frf HA.out.2 hf5 hA2⟩; have HX5 : Hid _ := hnx5; clear hg5 hf5 hnx5 q12)
            | (refine app_m rfl (.tmp 89) (.tmp 90) rfl hA2 _ mp.wh rfl H5.out.2.2 v5 l5 mr5 rfl H5.out.1 hlen5 (by omega) ?_; intro v6 w6 G6 g6 a6 f6 b6 x6; have H6 : Hid (PSt ans bs w4.heap.size w2.heap.size (p + n) v6 err5 w6 ∧ Below w4.heap.size w5 w6) := ⟨HX5.out _ _ _ g6 a6 f6 x6, b6⟩; clear g6 a6 f6 b6 x6))
          go_roundw
          case rel => exact ⟨p + n, i + 1, by simp, by simp, HNN.out.1, by have := HNN.out.2; omega, (hfr.and (H5.out.2.1.mono (fun k _ e => e.imp id (fun e => e.1))) (fun _ _ x => x)).and (fr_below H6.out.2 (fun k e => .inr e)) (fun _ _ x => x), H6.out.1⟩
          case measure => have := HNN.out.2; simp [numOf]; omega
      · exfalso
        rw [List.take_of_length_le (by omega), HRUN.out] at hA1
        cases hA1
    · rw [HRUN.out] at hB1
      injection hB1 with e1 e2
      injection e1 with e1
      subst e1 e2
      have HM : Hid (Acc G w4.heap.size mF.wh u12 wr) := hB4
      have HGF : Hid (FeedAt G w4.heap.size w2.heap.size (FM.shut false) wr) := hB3
      have HKH : Hid (wr.heap[kh]? = some (.cells #[.int .i64 mF.tk, .iface 34 (.int .i64 x)] 107 (0, 0))) := hB2
      have HKF : Hid (wr.heap[kf]? = some (.cells #[.int .i64 mF.tk, .iface 34 (.int .i64 x)] 107 (0, 0))) := (hfr.block kf (lt_of_block H4.out.2.2.2.1) (fun e2 => by have := HO.out; have := H4.out.2.2.2.2; have := lt_of_block H4.out.2.2.2.1; omega)).trans H4.out.2.2.2.1
      have HF : Hid (FeedAt (fun _ => False) w3.heap.size w1.heap.size (FM.shut false) wr) := H4.out.2.1.keep2 hfr.size (fun k hk e => hfr.block k hk (fun e2 => by have := HO.out; omega))
      have HL : Hid (Handed w3.heap.size mF.wh vl wr) := H4.out.1.keep2 (fun k hk e => hfr.block k hk (fun e2 => by have := HO.out; omega))
      have q14 : Calls Tryz.prog 14 #[vl, u12] wr fun e w' => e = .returned (.bool true) ∧ Below wr.heap.size wr w' := by
        obtain ⟨ok1, zs1, a1, a2, -⟩ := HL.out
        obtain ⟨ok2, zs2, c1, c2, -⟩ := HM.out
        exact alike14 mF.wh (own_bound a1) _ _ _ (own_msl a1 a2) (own_msl c1 c2)
      clear HS hB2 hB3 hB4
      by_cases hlt : p < bs.length
      · have hlt' : (p : Int) < (bs.length : Int) := by omega
        go_wp2_with (go_at_call 14; refine q14.mono ?_; rintro e w7 ⟨rfl, b7⟩; have hz7 := b7.size; have B7 : Hid (Below wr.heap.size wr w7) := b7; clear b7)
        go_quiet (fail)
        obtain ⟨w8, hw8⟩ : ∃ v, w7.drewN nq = v := ⟨_, rfl⟩
        have b8 : Below w7.heap.size w7 w8 := by rw [← hw8]; exact drewB _ _ _
        rw [hw8]
        clear hw8
        have hz8 : wr.heap.size ≤ w8.heap.size := Nat.le_trans hz7 b8.size
        have B8 : Hid (Below wr.heap.size wr w8) := B7.out.trans (b8.mono hz7)
        have HQF : Hid (∀ W, Below wr.heap.size wr W → ∀ v, Calls Tryz.prog 12 #[.pointer (some ⟨w1.heap.size, 0, none⟩), v] W fun e w' => e = .returned (.tuple #[.slice none 0 0, .iface 34 (.int .i64 30)]) ∧ w' = W) := fun W hW v => by
          obtain ⟨vt, vh, vb', vw, zs', k⟩ := HF.out
          exact feed_shut (k.keep hW) rfl v
        have HQG : Hid (∀ W, Below wr.heap.size wr W → ∀ v, Calls Tryz.prog 12 #[.pointer (some ⟨w2.heap.size, 0, none⟩), v] W fun e w' => e = .returned (.tuple #[.slice none 0 0, .iface 34 (.int .i64 30)]) ∧ w' = W) := fun W hW v => by
          obtain ⟨vt, vh, vb', vw, zs', k⟩ := HGF.out
          exact feed_shut (k.keep hW) rfl v
        have HQO : Hid (∀ W, Below wr.heap.size wr W → Calls Tryz.prog 16 #[.pointer (some ⟨w1.heap.size, 0, none⟩)] W fun e w' => e = .returned (.bool false) ∧ w' = W) := fun W hW => by
          obtain ⟨vt, vh, vb', vw, zs', k⟩ := HF.out
          exact open16 (k.keep hW)
        have HQ1 : Hid (∀ W, Below wr.heap.size wr W → Calls Tryz.prog 194 #[.pointer (some ⟨kf, 0, none⟩)] W fun e w' => e = .returned (.string (fltS mF.tk x)) ∧ Below W.heap.size W w') := fun W hW => flt194 kf mF.tk x HTK.out.1 HTK.out.2 W (HP.out.of ((HBW.out.trans (hW.mono HBW.out.size)).block 2 HP.out.lt)) ((hW.block kf (lt_of_block HKF.out)).trans HKF.out)
        have HQ2 : Hid (∀ W, Below wr.heap.size wr W → Calls Tryz.prog 194 #[.pointer (some ⟨kh, 0, none⟩)] W fun e w' => e = .returned (.string (fltS mF.tk x)) ∧ Below W.heap.size W w') := fun W hW => flt194 kh mF.tk x HTK.out.1 HTK.out.2 W (HP.out.of ((HBW.out.trans (hW.mono HBW.out.size)).block 2 HP.out.lt)) ((hW.block kh (lt_of_block HKH.out)).trans HKH.out)
        obtain ⟨T, hT⟩ : ∃ T, fltS mF.tk x = T := ⟨_, rfl⟩
        rw [hT] at HQ1 HQ2
        have HA8 : Hid (∀ mk, Below wr.heap.size wr (w8.alloc (.cells #[.int .u8 71, .int .u8 69, .int .u8 84, .int .u8 32, .int .u8 47, .int .u8 32, .int .u8 72, .int .u8 84, .int .u8 84, .int .u8 80, .int .u8 47, .int .u8 49, .int .u8 46, .int .u8 49, .int .u8 13, .int .u8 10, .int .u8 13, .int .u8 10] 5 mk))) := fun mk => B8.out.trans (((Below.refl _ w8).alloc (Nat.le_refl _) _).mono hz8)
        clear hT b8
        go_wp2_with (first
          | (have hq := K9; go_at_call 12; refine (HQG.out _ (HA8.out _) _).mono ?_; clear hq; rintro e w10 ⟨rfl, rfl⟩; have B10 : Hid _ := HA8.out (18, 19))
          | (go_at_call 12; refine (HQF.out _ B8.out _).mono ?_; rintro e w9 ⟨rfl, rfl⟩; have K9 := trivial)
          | (have hq := B11; go_at_call 194; refine (HQ2.out _ B11.out).mono ?_; clear hq; rintro e w12 ⟨rfl, b12⟩; have B12 : Hid (Below wr.heap.size wr w12) := B11.out.trans (b12.mono B11.out.size); clear b12)
          | (go_at_call 194; refine (HQ1.out _ (HA8.out _)).mono ?_; rintro e w11 ⟨rfl, b11⟩; have B11 : Hid (Below wr.heap.size wr w11) := (HA8.out _).trans (b11.mono (HA8.out _).size); clear b11)
          | (go_at_call 16; refine (HQO.out _ B12.out).mono ?_; rintro e w13 ⟨rfl, rfl⟩))
        go_ret
        exact ⟨by simp, HBW.out.trans (B12.out.mono HBW.out.size)⟩
      · have hlt' : ¬ (p : Int) < (bs.length : Int) := by omega
        go_wp2_with (go_at_call 14; refine q14.mono ?_; rintro e w7 ⟨rfl, b7⟩; have hz7 := b7.size; have B7 : Hid (Below wr.heap.size wr w7) := b7; clear b7)
        go_quiet (fail)
        obtain ⟨w8, hw8⟩ : ∃ v, w7.drewN nq = v := ⟨_, rfl⟩
        have b8 : Below w7.heap.size w7 w8 := by rw [← hw8]; exact drewB _ _ _
        rw [hw8]
        clear hw8
        have hz8 : wr.heap.size ≤ w8.heap.size := Nat.le_trans hz7 b8.size
        have B8 : Hid (Below wr.heap.size wr w8) := B7.out.trans (b8.mono hz7)
        have HQF : Hid (∀ W, Below wr.heap.size wr W → ∀ v, Calls Tryz.prog 12 #[.pointer (some ⟨w1.heap.size, 0, none⟩), v] W fun e w' => e = .returned (.tuple #[.slice none 0 0, .iface 34 (.int .i64 30)]) ∧ w' = W) := fun W hW v => by
          obtain ⟨vt, vh, vb', vw, zs', k⟩ := HF.out
          exact feed_shut (k.keep hW) rfl v
        have HQG : Hid (∀ W, Below wr.heap.size wr W → ∀ v, Calls Tryz.prog 12 #[.pointer (some ⟨w2.heap.size, 0, none⟩), v] W fun e w' => e = .returned (.tuple #[.slice none 0 0, .iface 34 (.int .i64 30)]) ∧ w' = W) := fun W hW v => by
          obtain ⟨vt, vh, vb', vw, zs', k⟩ := HGF.out
          exact feed_shut (k.keep hW) rfl v
        have HQO : Hid (∀ W, Below wr.heap.size wr W → Calls Tryz.prog 16 #[.pointer (some ⟨w1.heap.size, 0, none⟩)] W fun e w' => e = .returned (.bool false) ∧ w' = W) := fun W hW => by
          obtain ⟨vt, vh, vb', vw, zs', k⟩ := HF.out
          exact open16 (k.keep hW)
        have HQ1 : Hid (∀ W, Below wr.heap.size wr W → Calls Tryz.prog 194 #[.pointer (some ⟨kf, 0, none⟩)] W fun e w' => e = .returned (.string (fltS mF.tk x)) ∧ Below W.heap.size W w') := fun W hW => flt194 kf mF.tk x HTK.out.1 HTK.out.2 W (HP.out.of ((HBW.out.trans (hW.mono HBW.out.size)).block 2 HP.out.lt)) ((hW.block kf (lt_of_block HKF.out)).trans HKF.out)
        have HQ2 : Hid (∀ W, Below wr.heap.size wr W → Calls Tryz.prog 194 #[.pointer (some ⟨kh, 0, none⟩)] W fun e w' => e = .returned (.string (fltS mF.tk x)) ∧ Below W.heap.size W w') := fun W hW => flt194 kh mF.tk x HTK.out.1 HTK.out.2 W (HP.out.of ((HBW.out.trans (hW.mono HBW.out.size)).block 2 HP.out.lt)) ((hW.block kh (lt_of_block HKH.out)).trans HKH.out)
        obtain ⟨T, hT⟩ : ∃ T, fltS mF.tk x = T := ⟨_, rfl⟩
        rw [hT] at HQ1 HQ2
        have HA8 : Hid (∀ mk, Below wr.heap.size wr (w8.alloc (.cells #[.int .u8 71, .int .u8 69, .int .u8 84, .int .u8 32, .int .u8 47, .int .u8 32, .int .u8 72, .int .u8 84, .int .u8 84, .int .u8 80, .int .u8 47, .int .u8 49, .int .u8 46, .int .u8 49, .int .u8 13, .int .u8 10, .int .u8 13, .int .u8 10] 5 mk))) := fun mk => B8.out.trans (((Below.refl _ w8).alloc (Nat.le_refl _) _).mono hz8)
        clear hT b8
        go_wp2_with (first
          | (have hq := K9; go_at_call 12; refine (HQG.out _ (HA8.out _) _).mono ?_; clear hq; rintro e w10 ⟨rfl, rfl⟩; have B10 : Hid _ := HA8.out (18, 19))
          | (go_at_call 12; refine (HQF.out _ B8.out _).mono ?_; rintro e w9 ⟨rfl, rfl⟩; have K9 := trivial)
          | (have hq := B11; go_at_call 194; refine (HQ2.out _ B11.out).mono ?_; clear hq; rintro e w12 ⟨rfl, b12⟩; have B12 : Hid (Below wr.heap.size wr w12) := B11.out.trans (b12.mono B11.out.size); clear b12)
          | (go_at_call 194; refine (HQ1.out _ (HA8.out _)).mono ?_; rintro e w11 ⟨rfl, b11⟩; have B11 : Hid (Below wr.heap.size wr w11) := (HA8.out _).trans (b11.mono (HA8.out _).size); clear b11)
          | (go_at_call 16; refine (HQO.out _ B12.out).mono ?_; rintro e w13 ⟨rfl, rfl⟩))
        go_ret
        exact ⟨by simp, HBW.out.trans (B12.out.mono HBW.out.size)⟩
end
end Ht
end Go.Proofs.YtngfoghnopnbmaaGreatDoor
