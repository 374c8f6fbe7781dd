/- do: a batch is done in memory: by walking its text. -/
import Derived.Test.YtcinjdaanhpbjaaGreatXam
import Derived.Deep.RegionHeld
namespace Go.Proofs.YtcinjdaanhpbjaaGreat
open Go.RowKit
namespace Kv
open Bw Rg Dk Rf Wl

/-- What do leaves. -/
def DoOut (k : Ks) (L : List Fl) (w : World) (e : Ending) (w' : World) : Prop := e = .returned (.tuple #[]) ∧ ∃ k', KT w k k' L w' ∧ k'.count = k.count + 1
set_option maxHeartbeats 8000000 in
set_option maxRecDepth 100000 in
theorem do_any (w : World) (k : Ks) (v : Value) (l : List Wrt) (L : List Fl) (h : KvAt w k) (hv : WsIs (fun b => b ∈ k.foot) w v l) (hp : (k.vs.map VR.ab).Perm L) (hk : ∀ x ∈ l, x.key.size ≤ 255 ∧ x.val.length ≤ 140737488355328) (hl : l.length ≤ 2305843009213693952) (hL : L.length ≤ 4611686018427387904) (hc : k.count < 9223372036854775807) : Calls Tryz.prog 38 #[.pointer (some ⟨k.sb, 0, none⟩), v] w (DoOut k (doAll l L) w) := by
  obtain ⟨va, vc, hvf⟩ := hv.form
  obtain ⟨m, hm⟩ : ∃ m, l.length = m := ⟨_, rfl⟩
  rw [hm] at hvf
  have HP : Hid (KvAt w k ∧ WsIs (fun b => b ∈ k.foot) w v l ∧ (k.vs.map VR.ab).Perm L ∧ (∀ x ∈ l, x.key.size ≤ 255 ∧ x.val.length ≤ 140737488355328) ∧ l.length = m ∧ m ≤ 2305843009213693952 ∧ L.length ≤ 4611686018427387904 ∧ k.count < 9223372036854775807) := ⟨h, hv, hp, hk, hm, by omega, hL, hc⟩
  obtain ⟨SB, hSB⟩ : ∃ s, k.sb = s := ⟨_, rfl⟩
  have HSB : Hid (k.sb = SB) := hSB
  rw [hSB]
  clear h hv hp hk hl hL hc hm hSB
  obtain ⟨LL, hLL⟩ : ∃ x, doAll l L = x := ⟨_, rfl⟩
  have HLL : Hid (doAll l L = LL) := hLL
  rw [hLL]
  clear hLL
  subst hvf
  go_enter Tryz.func38, Tryz.ntmps38
  go_wp2
  go_loopw [8] (fun y wr => ∃ (i : Nat) (k' : Ks), y = .int .i64 (i : Int) ∧ i ≤ m ∧ Hid (KT w k k' (doAll (l.take i) L) wr ∧ k'.count = k.count)) (fun y _ => m - Dk.numOf y)
  case atStart => exact ⟨0, k, rfl, Nat.zero_le _, KT.refl HP.out.1 HP.out.2.2.1, rfl⟩
  case round =>
    obtain ⟨i, k', rfl, hi, HR⟩ := hrel
    have hsb := HR.out.1.sb
    rw [HSB.out] at hsb
    by_cases hlt : i < m
    · have hlt' : (i : Int) < (m : Int) := by omega
      have hm61 := HP.out.2.2.2.2.2.1
      have e9 : wrap64 ((i : Int) + 1) = (i : Int) + 1 := by unfold wrap64; omega
      clear hm61
      have hil : i < l.length := by have := HP.out.2.2.2.2.1; omega
      obtain ⟨x, hx⟩ : ∃ x, l[i]? = some x := ⟨_, List.getElem?_eq_getElem hil⟩
      have hws := HP.out.2.1.fr HR.out.1.fr (fun _ _ e => e)
      rcases hws with ⟨e0, -⟩ | ⟨b, off, cap, hq, hlc, hnS, hcell⟩
      · rw [e0] at hil
        simp at hil
      · obtain ⟨u, c0, c1, c2, c3, c4⟩ := hcell i x hx
        rw [Nat.mul_comm 3 i] at c0 c1 c2
        injection hq with e1 e2 e3
        subst e1
        subst e3
        clear e2
        have htake : doAll (l.take (i + 1)) L = doK x (doAll (l.take i) L) := by
          rw [List.take_add_one, hx]
          show (l.take i ++ [x]).foldl _ L = _
          rw [List.foldl_append]
          rfl
        have hkx := HP.out.2.2.2.1 x (List.mem_of_getElem? hx)
        obtain ⟨ua, uc, hu⟩ := c3.sl.form
        obtain ⟨n, hn⟩ : ∃ n, x.val.length = n := ⟨_, rfl⟩
        rw [hn] at hu
        have HX : Hid (doAll (l.take (i + 1)) L = doK x (doAll (l.take i) L) ∧ SlM wr u x.val ∧ x.key.size ≤ 255 ∧ x.val.length ≤ 140737488355328) := ⟨htake, c3, hkx⟩
        have hmc : m ≤ vc := by have := HP.out.2.2.2.2.1; omega
        clear hcell c4 htake hkx c3 hx hlc hn
        subst hu
        obtain ⟨K, hK⟩ : ∃ s, x.key = s := ⟨_, rfl⟩
        rw [hK] at c0
        have hsl : x.key.size ≤ 9223372036854775807 := by have := HX.out.2.2.1; omega
        have hvl : k'.vs.length < 9223372036854775807 := by
          have h1 := HR.out.1.vs.length_eq
          have h2 := doAll_len (l.take i) L
          rw [List.length_map] at h1
          have := HP.out
          rw [List.length_take] at h2
          omega
        have HV : Hid (x.key.size ≤ 9223372036854775807 ∧ k'.vs.length < 9223372036854775807) := ⟨hsl, hvl⟩
        clear hsl hvl
        cases hd : x.drop with
        | true =>
          rw [hd] at c2
          go_wp2
          obtain ⟨W1, hW1⟩ : ∃ W, wr.alloc (.cells #[.string K, .slice ua n uc, .bool true] 45) = W := ⟨_, rfl⟩
          obtain ⟨N1, hN1⟩ : ∃ N, wr.heap.size = N := ⟨_, rfl⟩
          have g1 : W1.heap[N1]? = some (.cells #[.string K, .slice ua n uc, .bool true] 45 (0, 0)) := by rw [← hW1, ← hN1]; exact heap_alloc_new _ _
          have H1 : Hid (KT w k k' (doAll (l.take i) L) W1 ∧ k'.count = k.count ∧ x.drop = true ∧ x.key = K) := ⟨HR.out.1.below (by rw [← hW1]; exact alloc_below _ _), HR.out.2, hd, hK⟩
          rw [hW1]
          clear hW1 c0 c1 c2
          have hkv := H1.out.1.kv
          have hl1 := hkv.lt _ (mem_kfoot.2 (.inl rfl))
          have k4 : ∀ z : Cl W1.heap.size W1, z.u.cell? ⟨SB, 4, none⟩ = some (.map (some k'.mb)) := fun z => z.cell (by rw [← hsb]; exact hkv.c4) (by rw [← hsb]; exact hl1)
          have k1 : ∀ z : Cl W1.heap.size W1, z.u.cell? ⟨N1, 0, none⟩ = some (.string K) := fun z => z.cell (heap_cell g1) (lt_of_block g1)
          have hne := Cl.ne W1.heap.size W1
          clear hkv hl1 g1
          apply region_cl_tail (N := W1.heap.size) (W := W1) 6 8 (by kernel_rfl) (Below.refl _ _)
          case hl => simp only [List.take_succ_cons, List.take_zero]; rfl
          case ht => simp only [List.drop_succ_cons, List.drop_zero]; rfl
          case hB => kernel_rfl
          case hT => kernel_rfl
          case h =>
            repeat (go_big_quiet_step (fail))
            refine wpQuiet_nil ?_
            rintro _ ⟨z, rfl⟩
            have HZ : Hid (Below W1.heap.size W1 z.u) := z.h
            obtain ⟨w2, hw2⟩ : ∃ w2, z.u = w2 := ⟨_, rfl⟩
            rw [hw2] at HZ ⊢
            clear hw2 hne k4 k1
            have H2 : Hid (KT w k k' (doAll (l.take i) L) w2) := H1.out.1.below HZ.out
            obtain ⟨w3, hr3, hm3, hg3⟩ := H2.out.kv.map.drop H2.out.kv.names (s := K) (by rw [← H1.out.2.2.2]; exact HV.out.1) 0
            have H3 : Hid (MapV w3 k'.mb (butV K k'.vs) ∧ w2.grownBy w3 (some k'.mb)) := ⟨hm3, hg3⟩
            clear hm3 hg3
            go_wp2
            go_roundw
            case rel =>
              refine ⟨i + 1, { k' with vs := butV K k'.vs }, by go_num, hlt, ?_, H1.out.2.1⟩
              have e : doAll (l.take (i + 1)) L = rm K (doAll (l.take i) L) := by rw [HX.out.1]; unfold doK; rw [if_pos H1.out.2.2.1, H1.out.2.2.2]
              rw [e]
              exact H2.out.trans (KT.del H2.out.kv H2.out.vs H3.out.1 H3.out.2)
            case measure => rw [e9]; show m - ((i : Int) + 1).toNat < m - (i : Int).toNat; omega
        | false =>
          rw [hd] at c2
          go_wp2
          obtain ⟨W1, hW1⟩ : ∃ W, wr.alloc (.cells #[.string K, .slice ua n uc, .bool false] 45) = W := ⟨_, rfl⟩
          obtain ⟨N1, hN1⟩ : ∃ N, wr.heap.size = N := ⟨_, rfl⟩
          have g1 : W1.heap[N1]? = some (.cells #[.string K, .slice ua n uc, .bool false] 45 (0, 0)) := by rw [← hW1, ← hN1]; exact heap_alloc_new _ _
          have H1 : Hid (KT w k k' (doAll (l.take i) L) W1 ∧ k'.count = k.count ∧ x.drop = false ∧ x.key = K ∧ SlM W1 (.slice ua n uc) x.val) := ⟨HR.out.1.below (by rw [← hW1]; exact alloc_below _ _), HR.out.2, hd, hK, HX.out.2.1.below (by rw [← hW1]; exact alloc_below _ _) (Nat.le_refl _)⟩
          have hkv := H1.out.1.kv
          have hl1 := hkv.lt _ (mem_kfoot.2 (.inl rfl))
          have hn1 : k'.sb ≠ k'.mb := hkv.ne_sb.1
          have hn2 : N1 ≠ k'.mb := by have := HR.out.1.kv.map.lt; omega
          rw [hW1]
          clear hW1 c0 c1 c2 hd hK
          obtain ⟨MB, hMB⟩ : ∃ s, k'.mb = s := ⟨_, rfl⟩
          have HMB : Hid (k'.mb = MB) := hMB
          have LM : Hid (∀ wq, Fr (fun b => b = MB) W1 wq → wq.cell? ⟨SB, 4, none⟩ = some (.map (some MB))) := fun wq hq => (World.cell?_of_block (a := ⟨SB, 4, none⟩) (hq.block SB (by rw [← hsb]; exact hl1) (by rw [← hsb, ← hMB]; exact hn1))).trans (by rw [← hsb, ← hMB]; exact hkv.c4)
          have LK : Hid (∀ wq, Fr (fun b => b = MB) W1 wq → wq.cell? ⟨N1, 0, none⟩ = some (.string K)) := fun wq hq => (World.cell?_of_block (a := ⟨N1, 0, none⟩) (hq.block N1 (lt_of_block g1) (by rw [← hMB]; exact hn2))).trans (heap_cell g1)
          have LV : Hid (∀ wq, Fr (fun b => b = MB) W1 wq → wq.cell? ⟨N1, 1, none⟩ = some (.slice ua n uc)) := fun wq hq => (World.cell?_of_block (a := ⟨N1, 1, none⟩) (hq.block N1 (lt_of_block g1) (by rw [← hMB]; exact hn2))).trans (heap_cell g1)
          have HK255 : Hid (K.size ≤ 255) := by show _ ≤ _; rw [← H1.out.2.2.2.1]; exact HX.out.2.2.1
          clear hkv hl1 g1 hMB hn1 hn2
          refine wp_region_held_drew (S := fun w' => Fr (fun b => b = MB) W1 w') (by kernel_rfl) (Fr.of_below (drawn_below (Below.refl _ _))) ?_
          intro hS
          refine wpAnyH_take (i := 0) (v := .pointer (some ⟨SB, 0, none⟩)) rfl (by kernel_rfl) (by kernel_rfl) (by kernel_rfl) (fun _ _ _ h => h) (Or.inl ⟨by kernel_rfl, fun wq hS => by clear hS; go_simp⟩) hS ?_
          try simp only [Act.put, List.getElem_toArray, List.getElem_cons_zero, List.setIfInBounds_toArray, List.set_cons_zero, List.set_cons_succ]
          refine wpAnyH_take (i := 1) (v := .pointer (some ⟨SB, 0, none⟩)) rfl (by kernel_rfl) (by kernel_rfl) (by kernel_rfl) (fun _ _ _ h => h) (Or.inl ⟨by kernel_rfl, fun wq hS => by clear hS; go_simp⟩) hS ?_
          try simp only [Act.put, List.getElem_toArray, List.getElem_cons_succ, List.getElem_cons_zero, List.setIfInBounds_toArray, List.set_cons_zero, List.set_cons_succ]
          refine wpAnyH_take (i := 2) (v := .pointer (some ⟨SB, 4, none⟩)) rfl (by kernel_rfl) (by kernel_rfl) (by kernel_rfl) (fun _ _ _ h => h) (Or.inl ⟨by kernel_rfl, fun wq hS => by clear hS; go_simp⟩) hS ?_
          try simp only [Act.put, List.getElem_toArray, List.getElem_cons_succ, List.getElem_cons_zero, List.setIfInBounds_toArray, List.set_cons_zero, List.set_cons_succ]
          refine wpAnyH_take (i := 3) (v := .map (some MB)) rfl (by kernel_rfl) (by kernel_rfl) (by kernel_rfl) (fun _ _ _ h => h) (Or.inl ⟨by kernel_rfl, fun wq hS => by have h8 := LM.out wq hS; clear hS; go_simp⟩) hS ?_
          try simp only [Act.put, List.getElem_toArray, List.getElem_cons_succ, List.getElem_cons_zero, List.setIfInBounds_toArray, List.set_cons_zero, List.set_cons_succ]
          refine wpAnyH_take (i := 4) (v := .pointer (some ⟨N1, 0, none⟩)) rfl (by kernel_rfl) (by kernel_rfl) (by kernel_rfl) (fun _ _ _ h => h) (Or.inl ⟨by kernel_rfl, fun wq hS => by clear hS; go_simp⟩) hS ?_
          try simp only [Act.put, List.getElem_toArray, List.getElem_cons_succ, List.getElem_cons_zero, List.setIfInBounds_toArray, List.set_cons_zero, List.set_cons_succ]
          refine wpAnyH_take (i := 5) (v := .string K) rfl (by kernel_rfl) (by kernel_rfl) (by kernel_rfl) (fun _ _ _ h => h) (Or.inl ⟨by kernel_rfl, fun wq hS => by have h8 := LK.out wq hS; clear hS; go_simp⟩) hS ?_
          try simp only [Act.put, List.getElem_toArray, List.getElem_cons_succ, List.getElem_cons_zero, List.setIfInBounds_toArray, List.set_cons_zero, List.set_cons_succ]
          refine wpAnyH_take (i := 7) (v := .pointer (some ⟨N1, 1, none⟩)) rfl (by kernel_rfl) (by kernel_rfl) (by kernel_rfl) (fun _ _ _ h => h) (Or.inl ⟨by kernel_rfl, fun wq hS => by clear hS; go_simp⟩) hS ?_
          try simp only [Act.put, List.getElem_toArray, List.getElem_cons_succ, List.getElem_cons_zero, List.setIfInBounds_toArray, List.set_cons_zero, List.set_cons_succ]
          refine wpAnyH_take (i := 8) (v := .slice ua n uc) rfl (by kernel_rfl) (by kernel_rfl) (by kernel_rfl) (fun _ _ _ h => h) (Or.inl ⟨by kernel_rfl, fun wq hS => by have h8 := LV.out wq hS; clear hS; go_simp⟩) hS ?_
          try simp only [Act.put, List.getElem_toArray, List.getElem_cons_succ, List.getElem_cons_zero, List.setIfInBounds_toArray, List.set_cons_zero, List.set_cons_succ]
          refine wpAnyH_ready (rs := [6]) (by kernel_rfl) (by simp) ?_
          refine AllReadyH.cons rfl (fun K' hK' => ?_) AllReadyH.nil
          go_simp
          refine (sclone_any K _ (by have := HK255.out; omega)).mono ?_
          rintro e w5 ⟨rfl, hb5⟩
          have HB5 : Hid (Below W1.heap.size W1 w5) := (drawn_below (Below.refl _ _)).trans hb5
          refine hK'.out _ _ (Fr.of_below HB5.out) (fun hS5 => ?_)
          clear hK' K' hS hb5
          try simp only [Act.put, List.getElem_toArray, List.getElem_cons_succ, List.getElem_cons_zero, List.setIfInBounds_toArray, List.set_cons_zero, List.set_cons_succ]
          refine wpAnyH_ready (rs := [9]) (by kernel_rfl) (by simp) ?_
          refine AllReadyH.cons rfl (fun K' hK' => ?_) AllReadyH.nil
          go_simp
          refine (Dk.clone_any (.slice ua n uc) x.val _ (H1.out.2.2.2.2.below HB5.out (Nat.le_refl _)) HX.out.2.2.2).mono ?_
          rintro e w6 ⟨v6, rfl, hr6, hb6⟩
          obtain ⟨c6, hc6⟩ := RowB.slv hr6
          have H6 : Hid (RowB W1.heap.size w6 (slV c6) x.val ∧ Below W1.heap.size W1 w6) := ⟨hc6 ▸ hr6.mono HB5.out.size, HB5.out.trans (hb6.mono HB5.out.size)⟩
          refine hK'.out _ _ (Fr.of_below H6.out.2) (fun hS6 => ?_)
          obtain ⟨a6, k6, hv6⟩ := hr6.form
          have HC6 : Hid (slV c6 = .slice a6 x.val.length k6) := hc6.symm.trans hv6
          clear hK' K' hb6 hr6 hS5 hc6
          subst hv6
          try simp only [Act.put, List.getElem_toArray, List.getElem_cons_succ, List.getElem_cons_zero, List.setIfInBounds_toArray, List.set_cons_zero, List.set_cons_succ]
          have hkv6 := H1.out.1.kv.below H6.out.2
          obtain ⟨w7, hr7, hm7, hg7⟩ := hkv6.map.store hkv6.names HV.out.2 ⟨K, c6, x.val⟩ (show K.size ≤ _ by have := HK255.out; omega)
          have H7 : Hid (MapV w7 k'.mb (butV K k'.vs ++ [⟨K, c6, x.val⟩]) ∧ w6.grownBy w7 (some k'.mb)) := ⟨hm7, hg7⟩
          have hr7' : (Instr.mapUpdate 78 (.map (some MB)) (.string K) (.slice a6 x.val.length k6)).run Tryz.prog w6 = .ok () w7 := by rw [← HMB.out, ← HC6.out]; exact hr7
          clear hr7 hm7 hkv6 hg7
          refine wpAnyH_ready (rs := [10]) (by kernel_rfl) (by simp) ?_
          refine AllReadyH.cons rfl (fun K' hK' => ?_) AllReadyH.nil
          go_simp
          have fr7 : Fr (fun b => b = MB) W1 w7 := (Fr.of_below H6.out.2).and (Fr.grown (S := fun b => b = MB) H7.out.2 (fun b e _ => by rw [← HMB.out]; exact (Option.some.inj e).symm)) (fun _ _ e => e)
          refine hK'.out _ _ fr7 (fun hS7 => ?_)
          clear hK' K' hr7' hS7 fr7
          try simp only [Act.put, List.getElem_toArray, List.getElem_cons_succ, List.getElem_cons_zero, List.setIfInBounds_toArray, List.set_cons_zero, List.set_cons_succ]
          refine wpAnyH_done (by kernel_rfl) ?_ _
          go_wp2
          go_roundw
          case rel =>
            refine ⟨i + 1, { k' with vs := butV K k'.vs ++ [⟨K, c6, x.val⟩] }, by go_num, hlt, ?_, H1.out.2.1⟩
            have e : doAll (l.take (i + 1)) L = setK K x.val (doAll (l.take i) L) := by rw [HX.out.1]; unfold doK; rw [if_neg (by rw [H1.out.2.2.1]; simp), H1.out.2.2.2.1]
            rw [e]
            exact H1.out.1.trans (KT.put (x := ⟨K, c6, x.val⟩) H1.out.1.kv H6.out.2 H1.out.1.vs H7.out.1 H7.out.2 H6.out.1 HK255.out)
          case measure => rw [e9]; show m - ((i : Int) + 1).toNat < m - (i : Int).toNat; omega
    · have hlt' : ¬ (i : Int) < (m : Int) := by omega
      have hie : i = m := by omega
      have e1 : doAll (l.take i) L = LL := by rw [List.take_of_length_le (by have := HP.out.2.2.2.2.1; omega)]; exact HLL.out
      have hkv := HR.out.1.kv
      have c5 : wr.cell? ⟨SB, 5, none⟩ = some (.int .u64 (k'.count : Int)) := by rw [← hsb]; exact hkv.c5
      have z5 : wr.frozen? ⟨SB, 5, none⟩ = false := by rw [← hsb]; exact hkv.fz 5
      have hcw : IntKind.u64.wrap ((k'.count : Int) + 1) = (k'.count : Int) + 1 := by rw [IntKind.wrap_u64]; have := HR.out.2; have := HP.out.2.2.2.2.2.2.2; omega
      have HE : Hid (doAll (l.take i) L = LL) := e1
      clear hkv e1
      go_wp2
      go_end0
      have h5 := HR.out.1.kv.set5 (k'.count + 1)
      have f5 := setFr wr k'.sb 5 (.int .u64 ((k'.count + 1 : Nat) : Int))
      rw [Int.natCast_add] at h5 f5
      have hrr := HR.out.1
      rw [HE.out] at hrr
      rw [← hsb]
      refine ⟨rfl, { k' with count := k'.count + 1 }, ⟨h5, hrr.sb, hrr.mb, hrr.lp, hrr.db, hrr.size, hrr.torn, hrr.vs, hrr.fr.and (f5.mono (fun b _ e => by rw [e, hrr.sb]; exact mem_kfoot.2 (.inl rfl))) (fun _ _ e => e), hrr.grew⟩, by show k'.count + 1 = _; rw [HR.out.2]⟩
end Kv
end Go.Proofs.YtcinjdaanhpbjaaGreat
