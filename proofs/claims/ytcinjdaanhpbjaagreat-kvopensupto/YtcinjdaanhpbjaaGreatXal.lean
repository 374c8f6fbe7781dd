/- The reference's reader: number: by walking its text. A write as the program reads it: by walking its text. -/
import Derived.Test.YtcinjdaanhpbjaaGreatXak
namespace Go.Proofs.YtcinjdaanhpbjaaGreat
open Go.RowKit
namespace Kv
open Bw Rg Dk Rf Wl

/-- A number of so many bytes; of eight with the highest bit set: bad. -/
def numQ (n : Nat) (s : RS) : Nat × RS := if 9223372036854775808 ≤ leN (takeQ n s).1 then (0, ((takeQ n s).2.1, true)) else (leN (takeQ n s).1, (takeQ n s).2)
theorem leN_drop {l : List UInt8} {k : Nat} (h : k < l.length) : leN (l.drop k) = (l[k]).toNat + 256 * leN (l.drop (k + 1)) := by
  rw [List.drop_eq_getElem_cons h]
  rfl
theorem leN_top {l : List UInt8} (h : l.length ≤ 8) : 9223372036854775808 ≤ leN l ↔ ∃ h : l.length = 8, 127 < (l[7]'(by omega)).toNat := by
  by_cases h8 : l.length = 8
  · have h7 : 7 < l.length := by omega
    have e := leN_take h7
    rw [List.take_of_length_le (by omega)] at e
    have hb := leN_lt (l.take 7)
    rw [List.length_take, Nat.min_eq_left (by omega)] at hb
    have hx := (l[7]).toNat_lt
    have p : 256 ^ 7 = 72057594037927936 := by decide
    rw [p] at e hb
    constructor
    · intro hle
      exact ⟨h8, by omega⟩
    · rintro ⟨_, hx'⟩
      omega
  · have hb := leN_lt l
    have hm : 256 ^ l.length ≤ 256 ^ 7 := Nat.pow_le_pow_right (by decide) (by omega)
    have p : 256 ^ 7 = 72057594037927936 := by decide
    constructor
    · intro hle
      omega
    · rintro ⟨h, -⟩
      exact absurd h h8
theorem wrap_step (d x : Nat) : wrap64 (wrap64 (256 * wrap64 (d : Int)) + (x : Int)) = wrap64 ((x + 256 * d : Nat) : Int) := by
  unfold wrap64
  omega
/-- How far down the loop is. -/
def Dn (i : Value) (j : Nat) : Prop := (j = 0 ∧ i = .int .i64 (-1)) ∨ ∃ k : Nat, j = k + 1 ∧ i = .int .i64 (k : Int)
section
variable {F : Nat → Prop} {B w w' : World} {rb : Nat} {s : RS}
set_option maxHeartbeats 2000000 in
theorem numq_any (h : RqAt F B rb s w) (n : Nat) (hl : s.1.length ≤ 140737488355328) (hn : n ≤ 8) : Calls Tryz.prog 87 #[.pointer (some ⟨rb, 0, none⟩), .int .i64 (n : Int)] w fun e w' => e = .returned (.int .i64 ((numQ n s).1 : Int)) ∧ RqAt F B rb (numQ n s).2 w' ∧ Fr (fun k => k = rb) w w' := by
  have ct := takeq_any h n hl (by omega)
  have hle := (takeQ_le n s).1
  unfold numQ
  obtain ⟨r, hr⟩ : ∃ r, takeQ n s = r := ⟨_, rfl⟩
  rw [hr] at ct hle ⊢
  obtain ⟨bs, s'⟩ := r
  simp only at hle ⊢
  have hle8 : bs.length ≤ 8 := Nat.le_trans hle hn
  clear hr h hle
  obtain ⟨q, hq⟩ : ∃ q : Nat × RS, (if 9223372036854775808 ≤ leN bs then (0, (s'.1, true)) else (leN bs, s')) = q := ⟨_, rfl⟩
  rw [hq]
  have HQ : Hid ((if 9223372036854775808 ≤ leN bs then (0, (s'.1, true)) else (leN bs, s')) = q) := hq
  clear hq
  go_enter Tryz.func87, Tryz.ntmps87
  go_wp2_with (go_at_call 88; refine Calls.mono ct ?_; rintro e w1 ⟨v, rfl, hv0, hnf, h1, f1⟩; have hv := SlM.freeN hv0 h1.fra hnf; clear hv0; have hlen := SlM.len hv; have H1 := (show Hid (RqAt F B rb s' w1 ∧ Fr (fun k => k = rb) w w1) from ⟨h1, f1⟩); have HV := (show Hid (SlM w1 v bs) from hv); simp only at hlen; clear hv h1 f1 hnf)
  obtain ⟨m, hm⟩ : ∃ m, bs.length = m := ⟨_, rfl⟩
  have HM : Hid (bs.length = m) := hm
  rw [hm] at hlen hle8
  go_loop [6, 7] (fun y i => ∃ j d : Nat, Dn i j ∧ y = .int .i64 (wrap64 (d : Int)) ∧ j ≤ m ∧ Hid (d = leN (bs.drop j))) (fun _ i => (Int.toNat (match i with | .int _ z => z + 1 | _ => 0)))
  case atStart =>
    refine ⟨m, 0, ?_, by rw [show wrap64 ((0 : Nat) : Int) = 0 from by unfold wrap64; omega], Nat.le_refl _, ?_⟩
    · rcases Nat.eq_zero_or_pos m with h0 | h0
      · exact .inl ⟨h0, by rw [hm, h0]; rfl⟩
      · exact .inr ⟨m - 1, by omega, by congr 1; omega⟩
    · show _ = _
      rw [List.drop_of_length_le (by omega)]
      rfl
  case round =>
    obtain ⟨j, d, hj, rfl, hjm, HD⟩ := hrel
    rcases hj with ⟨rfl, rfl⟩ | ⟨k, rfl, rfl⟩
    · have HD' : d = leN bs := HD.out
      by_cases hbig : 9223372036854775808 ≤ leN bs
      · obtain ⟨h8, hx⟩ := (leN_top (by rw [hm]; exact hle8)).mp hbig
        have HB : Hid (9223372036854775808 ≤ leN bs) := hbig
        rcases HV.out.cases with ⟨e0, -⟩ | ⟨b, off, cap, rfl, hbl, hcp, hcl⟩
        · rw [e0] at h8
          simp at h8
        · have hc := hcl 7 (by omega)
          obtain ⟨x, hx'⟩ : ∃ x, (bs[7]).toNat = x := ⟨_, rfl⟩
          rw [hx'] at hc hx
          rw [hm] at hbl h8
          have hm8 : (m : Int) = 8 := by omega
          have hxi : (127 : Int) < (x : Int) := by omega
          clear hcl hx' hbig HD HD' hjm
          have c1 := H1.out.1.c1
          have z1 := H1.out.1.fz 1
          rw [hm]
          go_wp2
          go_ret
          have e := HQ.out
          rw [if_pos HB.out] at e
          subst e
          exact ⟨rfl, H1.out.1.set1 true, H1.out.2.and (setFr _ _ _ _) (fun _ _ e => e)⟩
      · have HB : Hid (¬ 9223372036854775808 ≤ leN bs) := hbig
        have hwd : wrap64 (d : Int) = (d : Int) := by unfold wrap64; omega
        rw [hwd]
        by_cases h8 : bs.length = 8
        · rcases HV.out.cases with ⟨e0, -⟩ | ⟨b, off, cap, rfl, hbl, hcp, hcl⟩
          · rw [e0] at h8
            simp at h8
          · have hc := hcl 7 (by omega)
            have hx := fun hx => hbig ((leN_top (by rw [hm]; exact hle8)).mpr ⟨h8, hx⟩)
            obtain ⟨x, hx'⟩ : ∃ x, (bs[7]).toNat = x := ⟨_, rfl⟩
            rw [hx'] at hc hx
            rw [hm] at hbl h8
            have hm8 : (m : Int) = 8 := by omega
            have hxi : ¬ (127 : Int) < (x : Int) := fun h => hx (by omega)
            have HE : Hid (d = leN bs) := HD'
            clear hcl hx' hbig HD HD' hjm hwd
            rw [hm]
            go_wp2
            go_ret
            have e := HQ.out
            rw [if_neg HB.out] at e
            subst e
            exact ⟨by rw [HE.out]; rfl, H1.out.1, H1.out.2⟩
        · have hm8 : ¬ (m : Int) = 8 := by omega
          have HE : Hid (d = leN bs) := HD'
          clear hbig HD HD' hjm hwd
          go_wp2
          go_ret
          have e := HQ.out
          rw [if_neg HB.out] at e
          subst e
          exact ⟨by rw [HE.out]; rfl, H1.out.1, H1.out.2⟩
    · have hkb : k < bs.length := by omega
      rcases HV.out.cases with ⟨e0, -⟩ | ⟨b, off, cap, rfl, hbl, hcp, hcl⟩
      · rw [e0] at hkb
        simp at hkb
      · have hc := hcl k hkb
        obtain ⟨x, hx⟩ : ∃ x, (bs[k]).toNat = x := ⟨_, rfl⟩
        have HS : Hid (x + 256 * d = leN (bs.drop k)) := by
          show _ = _
          rw [leN_drop hkb, hx, HD.out]
        have hxl : x < 256 := by rw [← hx]; exact (bs[k]).toNat_lt
        have hwx : IntKind.i64.wrap (x : Int) = (x : Int) := by rw [IntKind.wrap_i64]; omega
        have hst := wrap_step d x
        have hwk : wrap64 ((k : Int) - 1) = (k : Int) - 1 := by unfold wrap64; omega
        rw [hx] at hc
        rw [hm] at hbl
        clear hcl hx hkb HD
        rw [hm]
        go_wp2
        go_round
        case rel =>
          refine ⟨k, x + 256 * d, ?_, by rw [hst], by omega, HS⟩
          rcases Nat.eq_zero_or_pos k with h0 | h0
          · exact .inl ⟨h0, by rw [h0]; rfl⟩
          · exact .inr ⟨k - 1, by omega, by congr 1; omega⟩
        case measure => show ((k : Int) - 1 + 1).toNat < ((k : Int) + 1).toNat; omega
end
end Kv
end Go.Proofs.YtcinjdaanhpbjaaGreat

namespace Go.Proofs.YtcinjdaanhpbjaaGreat
open Go.RowKit
namespace Kv
open Bw Rg Dk Rf Wl
section
variable {F : Nat → Prop} {B w w' : World} {rb : Nat} {s : RS}
/-- What write hands out. -/
def WrOut (F : Nat → Prop) (B : World) (rb : Nat) (r : Wrt × RS) (w : World) (e : Ending) (w' : World) : Prop := ∃ v, e = .returned (.agg #[.string r.1.key, v, .bool r.1.drop]) ∧ RowB w.heap.size w' v r.1.val ∧ RdAt F B rb r.2 w' ∧ Fr (fun k => k = rb) w w'
theorem keyM_len (s : RS) : (keyM s).2.1.length ≤ s.1.length := Nat.le_trans (takeM_len _ _) (numM_len 1 s)
theorem valM_len (s : RS) : (valM s).2.1.length ≤ s.1.length := Nat.le_trans (takeM_len _ _) (numM_len 4 s)
theorem heap_cell {b i : Nat} {cs : Array Value} {ty : TypeId} (h : w.heap[b]? = some (.cells cs ty (0, 0))) : w.cell? ⟨b, i, none⟩ = cs[i]? := by simp [World.cell?, h]
theorem heap_fz {b i : Nat} {cs : Array Value} {ty : TypeId} (h : w.heap[b]? = some (.cells cs ty (0, 0))) : w.frozen? ⟨b, i, none⟩ = false := by simp [World.frozen?, h]
theorem alloc_below (w : World) (o : Obj) : Below w.heap.size w (w.alloc o) := (Below.refl _ _).alloc (Nat.le_refl _) _
theorem info45 : (Tryz.prog.info? 45).map (·.size) = some 3 := by kernel_rfl
theorem load45 {N : Nat} {a b c : Value} (h : w.heap[N]? = some (.cells #[a, b, c] 45 (0, 0))) : (loadVar 45 ⟨N, 0, none⟩).run Tryz.prog w = .ok (.agg #[a, b, c]) w :=
  run_loadVar_mid (P := Tryz.prog) w N 0 45 [a, b, c] _ (fun j v hv => by rw [Nat.zero_add, heap_cell h]; simpa using hv) Tryz.underlying45 rfl info45
/-- The end of write: what lies in the two variables, and that they are new. -/
theorem write_end {w0 w3 : World} {N0 N1 : Nat} {r : RS} {v u : Value} {K : ByteArray} {d : Bool} {bs : List UInt8} (h : RdAt F B rb r w3) (f : Fr (fun k => k = rb) w0 w3) (h0 : w3.heap[N0]? = some (.cells #[.string ⟨#[]⟩, .slice none 0 0, .bool false] 45 (0, 0))) (hn0 : w0.heap.size ≤ N0) (hn1 : w0.heap.size ≤ N1) (hr : rb < w0.heap.size) (hv : RowB w0.heap.size w3 v bs) (w4 : World) (h4 : w4 = w3 ∨ w4 = w3.setCell ⟨N1, 1, none⟩ u ∨ w4 = w3.setCell ⟨N1, 2, none⟩ u) (hne : N0 ≠ N1) (hb : N1 ∉ v.ownBlock.toList ∧ N0 ∉ v.ownBlock.toList) :
    let w5 := (((w4.setCell ⟨N0, 0, none⟩ (.string K)).setCell ⟨N0, 1, none⟩ v).setCell ⟨N0, 2, none⟩ (.bool d))
    (loadVar 45 ⟨N0, 0, none⟩).run Tryz.prog w5 = .ok (.agg #[.string K, v, .bool d]) w5 ∧ RowB w0.heap.size w5 v bs ∧ RdAt F B rb r w5 ∧ Fr (fun k => k = rb) w0 w5 := by
  intro w5
  have hB := h.fra.size
  have hnew := h.new
  have hBw : B.heap.size ≤ w0.heap.size := by omega
  have f4 : Fr (fun k => k = N1) w3 w4 := by
    rcases h4 with rfl | rfl | rfl
    · exact Fr.refl _ _
    · exact setFr _ _ _ _
    · exact setFr _ _ _ _
  have f5 : Fr (fun k => k = N0) w4 w5 := ((setFr _ _ _ _).and (setFr _ _ _ _) (fun _ _ e => e)).and (setFr _ _ _ _) (fun _ _ e => e)
  have g4 : w4.heap[N0]? = some (.cells #[.string ⟨#[]⟩, .slice none 0 0, .bool false] 45 (0, 0)) := (f4.block _ (lt_of_block h0) hne).trans h0
  have g5 : w5.heap[N0]? = some (.cells #[.string K, v, .bool d] 45 (0, 0)) := set_heap (set_heap (set_heap g4 (.string K)) v) (.bool d)
  have f35 : Fr (fun k => k = N0 ∨ k = N1) w3 w5 := (f4.mono (fun _ _ e => .inr e)).and f5 (fun _ _ e => .inl e)
  refine ⟨load45 g5, hv.other (fun k hk => f35.block k (hv.gt k hk) (fun e => ?_)), h.fr f35 (fun e => by omega) (fun k hk e => by exfalso; omega), ⟨f35.os.trans f.os, f35.tape.trans f.tape, f35.output.trans f.output, Nat.le_trans f.size f35.size, fun k hk hn => (f35.block k (Nat.lt_of_lt_of_le hk f.size) (fun e => by omega)).trans (f.block k hk hn)⟩⟩
  rcases e with rfl | rfl
  · exact hb.2 (by rw [hk]; simp)
  · exact hb.1 (by rw [hk]; simp)
set_option maxHeartbeats 1000000 in
theorem write_any (h : RdAt F B rb s w) (hl : s.1.length ≤ 140737488355328) : Calls Tryz.prog 99 #[.pointer (some ⟨rb, 0, none⟩)] w (WrOut F B rb (wrM s) w) := by
  have h0 : RdAt F B rb s (w.alloc (.cells #[.string ⟨#[]⟩, .slice none 0 0, .bool false] 45)) := h.below ((Below.refl _ _).alloc (Nat.le_refl _) _)
  have ck := key_any h0 hl
  have hl2 := Nat.le_trans (keyM_len s) hl
  have hl3 := Nat.le_trans (numM_len 1 _) hl2
  have HR : Hid (rb < w.heap.size) := h.lt
  unfold WrOut wrM
  obtain ⟨K, hK⟩ : ∃ K, baK (keyM s).1 = K := ⟨_, rfl⟩
  obtain ⟨s1, hs1⟩ : ∃ s1, (keyM s).2 = s1 := ⟨_, rfl⟩
  rw [hK, hs1] at ck ⊢
  rw [hs1] at hl2 hl3
  obtain ⟨n, hn⟩ : ∃ n, (numM 1 s1).1 = n := ⟨_, rfl⟩
  obtain ⟨s2, hs2⟩ : ∃ s2, (numM 1 s1).2 = s2 := ⟨_, rfl⟩
  have HL : Hid (s1.1.length ≤ 140737488355328 ∧ s2.1.length ≤ 140737488355328 ∧ (numM 1 s1).1 = n ∧ (numM 1 s1).2 = s2) := ⟨hl2, hs2 ▸ hl3, hn, hs2⟩
  rw [hn, hs2]
  clear hK hs1 hn hs2 hl2 hl3 h0 h hl
  obtain ⟨N0, hN0⟩ : ∃ N, w.heap.size = N := ⟨_, rfl⟩
  have HN0 : Hid (w.heap.size = N0) := hN0
  by_cases hz : n = 0
  · subst hz
    simp only [if_true]
    go_enter Tryz.func99, Tryz.ntmps99
    go_wp2_with (first
      | (go_at_call 96; refine Calls.mono ck ?_; rintro e w1 ⟨rfl, h1, f1⟩; have b1 := f1.block N0 (by simp [← HN0.out]) (by have := HR.out; have := HN0.out; omega); rw [← HN0.out, heap_alloc_new] at b1; rw [HN0.out] at b1; obtain ⟨N1, hN1⟩ : ∃ N, w1.heap.size = N := ⟨_, rfl⟩; have H1 := (show Hid (RdAt F B rb s1 w1 ∧ Fr (fun k => k = rb) w w1 ∧ w1.heap[N0]? = some (.cells #[.string ⟨#[]⟩, .slice none 0 0, .bool false] 45 (0, 0)) ∧ w1.heap.size = N1) from ⟨h1, (Fr.of_below (S := fun k => k = rb) (alloc_below _ _)).and f1 (fun _ _ e => e), b1, hN1⟩); clear h1 f1 b1 ck)
      | (go_at_call 95; refine (number_any (H1.out.1.below (alloc_below _ _)) 1 HL.out.1 (by decide)).mono ?_; rw [HL.out.2.2.1, HL.out.2.2.2]; rintro e w2 ⟨rfl, h3, f3⟩; have H3 := (show Hid (RdAt F B rb s2 w2 ∧ Fr (fun k => k = rb) (w1.alloc (.cells #[.string K, .slice none 0 0, .bool false] 45)) w2) from ⟨h3, f3⟩); clear h3 f3)
      | (go_at_call 97; refine (value_any H3.out.1 HL.out.2.1).mono ?_; rintro e w3 ⟨v, rfl, hv, h4, f4⟩; obtain ⟨va, vc, rfl⟩ := hv.form; have f5 := H3.out.2.and f4 (fun _ _ e => e); have hh := H1.out.2.2.2; have hrb := H1.out.1.lt; have hn0 := lt_of_block H1.out.2.2.1; have hr0 := HR.out; have hn00 := HN0.out; have hsz : (w1.alloc (.cells #[.string K, .slice none 0 0, .bool false] 45)).heap.size = w1.heap.size + 1 := (by simp); have g1 := f5.block N1 (by omega) (by omega); have g0 := f5.block N0 (by omega) (by omega); rw [← hh, heap_alloc_new, hh] at g1; rw [Below.heap_alloc _ _ _ hn0, H1.out.2.2.1] at g0; have c10 : w3.cell? ⟨N1, 0, none⟩ = some (.string K) := heap_cell g1; have c11 : w3.cell? ⟨N1, 1, none⟩ = some (.slice none 0 0) := heap_cell g1; have c12 : w3.cell? ⟨N1, 2, none⟩ = some (.bool false) := heap_cell g1; have z10 := heap_fz (i := 0) g1; have z11 := heap_fz (i := 1) g1; have z12 := heap_fz (i := 2) g1; have c00 : w3.cell? ⟨N0, 0, none⟩ = some (.string ⟨#[]⟩) := heap_cell g0; have c01 : w3.cell? ⟨N0, 1, none⟩ = some (.slice none 0 0) := heap_cell g0; have c02 : w3.cell? ⟨N0, 2, none⟩ = some (.bool false) := heap_cell g0; have z00 := heap_fz (i := 0) g0; have z01 := heap_fz (i := 1) g0; have z02 := heap_fz (i := 2) g0; have hne : N0 ≠ N1 := (by omega); have hne2 : ¬ N1 = N0 := (by omega)))
    have f6 := (H1.out.2.1.and (Fr.of_below (S := fun k => k = rb) (alloc_below _ _)) (fun _ _ e => e)).and f5 (fun _ _ e => e)
    have hsz2 := H3.out.2.size
    have e := write_end (K := K) (d := false) (u := .slice va (valM s2).1.length vc) h4 f6 g0 (by omega) (by have := H1.out.2.1.size; omega) hr0 (hv.mono (by have := H1.out.2.1.size; omega)) _ (.inr (.inl rfl)) hne ⟨fun hm => by have := hv.lt N1 (by simpa using hm); omega, fun hm => by have := hv.lt N0 (by simpa using hm); omega⟩
    exact bodyPost_ret (results_cell Tryz.results99 rfl e.1) rfl ⟨_, rfl, e.2⟩
  · have hz0 : ((n : Int) == 0) = false := by simpa using hz
    have hz1 : ¬ (n : Int) = 0 := by omega
    rw [if_neg hz]
    by_cases h1 : n = 1
    · subst h1
      rw [if_pos rfl]
      go_enter Tryz.func99, Tryz.ntmps99
      go_wp2_with (first
        | (go_at_call 96; refine Calls.mono ck ?_; rintro e w1 ⟨rfl, h1, f1⟩; have b1 := f1.block N0 (by simp [← HN0.out]) (by have := HR.out; have := HN0.out; omega); rw [← HN0.out, heap_alloc_new] at b1; rw [HN0.out] at b1; obtain ⟨N1, hN1⟩ : ∃ N, w1.heap.size = N := ⟨_, rfl⟩; have H1 := (show Hid (RdAt F B rb s1 w1 ∧ Fr (fun k => k = rb) w w1 ∧ w1.heap[N0]? = some (.cells #[.string ⟨#[]⟩, .slice none 0 0, .bool false] 45 (0, 0)) ∧ w1.heap.size = N1) from ⟨h1, (Fr.of_below (S := fun k => k = rb) (alloc_below _ _)).and f1 (fun _ _ e => e), b1, hN1⟩); clear h1 f1 b1 ck)
        | (go_at_call 95; refine (number_any (H1.out.1.below (alloc_below _ _)) 1 HL.out.1 (by decide)).mono ?_; rw [HL.out.2.2.1, HL.out.2.2.2]; rintro e w2 ⟨rfl, h3, f3⟩; have H3 := (show Hid (RdAt F B rb s2 w2 ∧ Fr (fun k => k = rb) (w1.alloc (.cells #[.string K, .slice none 0 0, .bool false] 45)) w2) from ⟨h3, f3⟩); clear h3 f3; have f5 := H3.out.2; have hh := H1.out.2.2.2; have hrb := H1.out.1.lt; have hn0 := lt_of_block H1.out.2.2.1; have hr0 := HR.out; have hn00 := HN0.out; have hsz : (w1.alloc (.cells #[.string K, .slice none 0 0, .bool false] 45)).heap.size = w1.heap.size + 1 := (by simp); have g1 := f5.block N1 (by omega) (by omega); have g0 := f5.block N0 (by omega) (by omega); rw [← hh, heap_alloc_new, hh] at g1; rw [Below.heap_alloc _ _ _ hn0, H1.out.2.2.1] at g0; have c10 : w2.cell? ⟨N1, 0, none⟩ = some (.string K) := heap_cell g1; have c11 : w2.cell? ⟨N1, 1, none⟩ = some (.slice none 0 0) := heap_cell g1; have c12 : w2.cell? ⟨N1, 2, none⟩ = some (.bool false) := heap_cell g1; have z10 := heap_fz (i := 0) g1; have z11 := heap_fz (i := 1) g1; have z12 := heap_fz (i := 2) g1; have c00 : w2.cell? ⟨N0, 0, none⟩ = some (.string ⟨#[]⟩) := heap_cell g0; have c01 : w2.cell? ⟨N0, 1, none⟩ = some (.slice none 0 0) := heap_cell g0; have c02 : w2.cell? ⟨N0, 2, none⟩ = some (.bool false) := heap_cell g0; have z00 := heap_fz (i := 0) g0; have z01 := heap_fz (i := 1) g0; have z02 := heap_fz (i := 2) g0; have hne : N0 ≠ N1 := (by omega); have hne2 : ¬ N1 = N0 := (by omega)))
      have f6 := (H1.out.2.1.and (Fr.of_below (S := fun k => k = rb) (alloc_below _ _)) (fun _ _ e => e)).and f5 (fun _ _ e => e)
      have e := write_end (K := K) (d := true) (u := .bool true) H3.out.1 f6 g0 (by omega) (by have := H1.out.2.1.size; omega) hr0 (RowB.nil _ _) _ (.inr (.inr rfl)) hne ⟨by simp [Value.ownBlock], by simp [Value.ownBlock]⟩
      exact bodyPost_ret (results_cell Tryz.results99 rfl e.1) rfl ⟨_, rfl, e.2⟩
    · have hz2 : ((n : Int) == 1) = false := by simp; omega
      have hz3 : ¬ (n : Int) = 1 := by omega
      rw [if_neg h1, orT]
      go_enter Tryz.func99, Tryz.ntmps99
      go_wp2_with (first
        | (go_at_call 96; refine Calls.mono ck ?_; rintro e w1 ⟨rfl, h1, f1⟩; have b1 := f1.block N0 (by simp [← HN0.out]) (by have := HR.out; have := HN0.out; omega); rw [← HN0.out, heap_alloc_new] at b1; rw [HN0.out] at b1; obtain ⟨N1, hN1⟩ : ∃ N, w1.heap.size = N := ⟨_, rfl⟩; have H1 := (show Hid (RdAt F B rb s1 w1 ∧ Fr (fun k => k = rb) w w1 ∧ w1.heap[N0]? = some (.cells #[.string ⟨#[]⟩, .slice none 0 0, .bool false] 45 (0, 0)) ∧ w1.heap.size = N1) from ⟨h1, (Fr.of_below (S := fun k => k = rb) (alloc_below _ _)).and f1 (fun _ _ e => e), b1, hN1⟩); clear h1 f1 b1 ck)
        | (go_at_call 95; refine (number_any (H1.out.1.below (alloc_below _ _)) 1 HL.out.1 (by decide)).mono ?_; rw [HL.out.2.2.1, HL.out.2.2.2]; rintro e w2 ⟨rfl, h3, f3⟩; have H3 := (show Hid (RdAt F B rb s2 w2 ∧ Fr (fun k => k = rb) (w1.alloc (.cells #[.string K, .slice none 0 0, .bool false] 45)) w2) from ⟨h3, f3⟩); clear h3 f3; have f5 := H3.out.2; have hh := H1.out.2.2.2; have hrb := H1.out.1.lt; have hn0 := lt_of_block H1.out.2.2.1; have hr0 := HR.out; have hn00 := HN0.out; have hsz : (w1.alloc (.cells #[.string K, .slice none 0 0, .bool false] 45)).heap.size = w1.heap.size + 1 := (by simp); have g1 := f5.block N1 (by omega) (by omega); have g0 := f5.block N0 (by omega) (by omega); rw [← hh, heap_alloc_new, hh] at g1; rw [Below.heap_alloc _ _ _ hn0, H1.out.2.2.1] at g0; have c10 : w2.cell? ⟨N1, 0, none⟩ = some (.string K) := heap_cell g1; have c11 : w2.cell? ⟨N1, 1, none⟩ = some (.slice none 0 0) := heap_cell g1; have c12 : w2.cell? ⟨N1, 2, none⟩ = some (.bool false) := heap_cell g1; have z10 := heap_fz (i := 0) g1; have z11 := heap_fz (i := 1) g1; have z12 := heap_fz (i := 2) g1; have c00 : w2.cell? ⟨N0, 0, none⟩ = some (.string ⟨#[]⟩) := heap_cell g0; have c01 : w2.cell? ⟨N0, 1, none⟩ = some (.slice none 0 0) := heap_cell g0; have c02 : w2.cell? ⟨N0, 2, none⟩ = some (.bool false) := heap_cell g0; have z00 := heap_fz (i := 0) g0; have z01 := heap_fz (i := 1) g0; have z02 := heap_fz (i := 2) g0; have hne : N0 ≠ N1 := (by omega); have hne2 : ¬ N1 = N0 := (by omega); have z1 := H3.out.1.fz 1; have c1 := H3.out.1.c1; have r0 : ¬ rb = N0 := (by omega); have r1 : ¬ rb = N1 := (by omega); have r2 : ¬ N0 = rb := (by omega); have r3 : ¬ N1 = rb := (by omega)))
      have f6 := ((H1.out.2.1.and (Fr.of_below (S := fun k => k = rb) (alloc_below _ _)) (fun _ _ e => e)).and f5 (fun _ _ e => e)).and (setFr w2 rb 1 (.bool true)) (fun _ _ e => e)
      have g0' := ((setFr w2 rb 1 (.bool true)).block N0 (lt_of_block g0) r2).trans g0
      have e := write_end (K := K) (d := false) (u := .bool true) (H3.out.1.set1 true) f6 g0' (by omega) (by have := H1.out.2.1.size; omega) hr0 (RowB.nil _ _) _ (.inl rfl) hne ⟨by simp [Value.ownBlock], by simp [Value.ownBlock]⟩
      exact bodyPost_ret (results_cell Tryz.results99 rfl e.1) rfl ⟨_, rfl, e.2⟩
end
end Kv
end Go.Proofs.YtcinjdaanhpbjaaGreat
