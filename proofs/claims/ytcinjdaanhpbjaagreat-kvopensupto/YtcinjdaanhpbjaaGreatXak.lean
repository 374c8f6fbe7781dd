/- The program's reader of records: its pieces, one by one, told by the model: by walking their texts. The reference's reader: take: by walking its text. -/
import Derived.Test.YtcinjdaanhpbjaaGreatKc
import Derived.Test.YtcinjdaanhpbjaaGreatLh
namespace Go.Proofs.YtcinjdaanhpbjaaGreat
open Go.RowKit
namespace Kv
open Bw Rg Dk Rf Wl

/-- A reader in block rb, that reads bytes of the world B; since B nothing old has turned but F. -/
structure RdAt (F : Nat → Prop) (B : World) (rb : Nat) (s : RS) (w : World) : Prop where
  cells : ∃ v, w.heap[rb]? = some (.cells #[v, .bool s.2] 152 (0, 0)) ∧ SlM B v s.1 ∧ (s.1 ≠ [] → ∀ b, blk v = some b → ¬ F b)
  new : B.heap.size ≤ rb
  fra : Fr F B w
section
variable {F : Nat → Prop} {B w w' : World} {rb : Nat} {s : RS}
theorem RdAt.bel (h : RdAt (fun _ => False) B rb s w) : Below B.heap.size B w := h.fra.below (Nat.le_refl _) (fun _ _ => id)
theorem RdAt.fr {S : Nat → Prop} (h : RdAt F B rb s w) (f : Fr S w w') (hn : ¬ S rb) (hB : ∀ k, k < B.heap.size → S k → F k) : RdAt F B rb s w' := by
  obtain ⟨v, h1, h2⟩ := h.cells
  exact ⟨⟨v, (f.block _ (lt_of_block h1) hn).trans h1, h2⟩, h.new, h.fra.and f hB⟩
theorem RdAt.below (h : RdAt F B rb s w) (f : Below w.heap.size w w') : RdAt F B rb s w' := h.fr (S := fun _ => False) (Fr.of_below f) id (fun _ _ e => e.elim)
theorem RdAt.lt (h : RdAt F B rb s w) : rb < w.heap.size := by
  obtain ⟨v, h1, h2⟩ := h.cells
  exact lt_of_block h1
theorem RdAt.set1 (h : RdAt F B rb s w) (b : Bool) : RdAt F B rb (s.1, b) (w.setCell ⟨rb, 1, none⟩ (.bool b)) := by
  obtain ⟨v, h1, h2⟩ := h.cells
  exact ⟨⟨v, set_heap h1 _, h2⟩, h.new, h.fra.and (setFr w rb 1 (.bool b)) (fun k hk e => by have := h.new; exfalso; omega)⟩
theorem RdAt.set0 (h : RdAt F B rb s w) {v : Value} {bs : List UInt8} (hv : SlM B v bs) (hF : bs ≠ [] → ∀ b, blk v = some b → ¬ F b) : RdAt F B rb (bs, s.2) (w.setCell ⟨rb, 0, none⟩ v) := by
  obtain ⟨u, h1, h2⟩ := h.cells
  exact ⟨⟨v, set_heap h1 _, hv, hF⟩, h.new, h.fra.and (setFr w rb 0 v) (fun k hk e => by have := h.new; exfalso; omega)⟩
theorem SlM.freeN {S : Nat → Prop} {w w' : World} {v : Value} {bs : List UInt8} (h : SlM w v bs) (f : Fr S w w') (hn : bs ≠ [] → ∀ b, blk v = some b → ¬ S b) : SlM w' v bs := by
  by_cases hb : bs = []
  · subst hb
    rcases h with h | ⟨b, off, cap, rfl, h1, h2, _⟩
    · exact .inl h
    · exact .inr ⟨b, off, cap, rfl, h1, h2, fun j hj => absurd hj (by simp)⟩
  · exact SlM.free h f (hn hb)
theorem RdAt.c1 (h : RdAt F B rb s w) : w.cell? ⟨rb, 1, none⟩ = some (.bool s.2) := by
  obtain ⟨v, h1, h2⟩ := h.cells
  simp [World.cell?, h1]
theorem RdAt.c0 (h : RdAt F B rb s w) : ∃ v, w.cell? ⟨rb, 0, none⟩ = some v ∧ SlM w v s.1 := by
  obtain ⟨v, h1, h2, h3⟩ := h.cells
  exact ⟨v, by simp [World.cell?, h1], SlM.freeN h2 h.fra h3⟩
theorem RdAt.fz (h : RdAt F B rb s w) (i : Nat) : w.frozen? ⟨rb, i, none⟩ = false := by
  obtain ⟨v, h1, h2⟩ := h.cells
  simp [World.frozen?, h1]
/-- What take hands out. -/
def TkOut (F : Nat → Prop) (B : World) (rb : Nat) (r : List UInt8 × RS) (w : World) (e : Ending) (w' : World) : Prop := ∃ v, e = .returned v ∧ SlM w' v r.1 ∧ RdAt F B rb r.2 w' ∧ Fr (fun k => k = rb) w w'
set_option maxHeartbeats 1000000 in
theorem take_any (h : RdAt F B rb s w) (n : Nat) (hl : s.1.length ≤ 140737488355328) (_hn : n ≤ 9223372036854775807) : Calls Tryz.prog 114 #[.pointer (some ⟨rb, 0, none⟩), .int .i64 (n : Int)] w (TkOut F B rb (takeM n s) w) := by
  obtain ⟨v, h1, h2, h3⟩ := h.cells
  have HH : Hid (RdAt F B rb s w) := h
  have c0 : w.cell? ⟨rb, 0, none⟩ = some v := by simp [World.cell?, h1]
  have c1 : w.cell? ⟨rb, 1, none⟩ = some (.bool s.2) := by simp [World.cell?, h1]
  have z0 : w.frozen? ⟨rb, 0, none⟩ = false := by simp [World.frozen?, h1]
  have z1 : w.frozen? ⟨rb, 1, none⟩ = false := by simp [World.frozen?, h1]
  have hlen := SlM.len h2
  obtain ⟨bs, bad⟩ := s
  simp only at h2 hl c1 hlen h3
  clear h h1
  unfold TkOut takeM
  cases bad with
  | true =>
    clear h2 h3
    rw [if_pos (.inl rfl)]
    go_enter Tryz.func114, Tryz.ntmps114
    go_wp2
    go_ret
    exact ⟨_, rfl, .inl ⟨rfl, .inl rfl⟩, HH.out.set1 true, setFr _ _ _ _⟩
  | false =>
    by_cases hlt : bs.length < n
    · have hlt' : (bs.length : Int) < (n : Int) := by omega
      rw [if_pos (.inr hlt)]
      clear h2 h3
      go_enter Tryz.func114, Tryz.ntmps114
      go_wp2
      go_ret
      exact ⟨_, rfl, .inl ⟨rfl, .inl rfl⟩, HH.out.set1 true, setFr _ _ _ _⟩
    · have hlt' : ¬ (bs.length : Int) < (n : Int) := by omega
      rw [if_neg (fun h => h.elim (by simp) hlt)]
      obtain ⟨u, hu, su, bu⟩ := SlM.upto h2 n (by omega) .i64
      obtain ⟨x, hx, sx, bx⟩ := SlM.from h2 n (by omega) .i64
      obtain ⟨xa, xc, hxv⟩ := sx.sl.form
      obtain ⟨xl, hxl⟩ : ∃ xl, (bs.drop n).length = xl := ⟨_, rfl⟩
      rw [hxl] at hxv
      subst hxv
      have hF : ∀ {l : List UInt8} {z : Value}, (l ≠ [] → bs ≠ []) → blk z = blk v → l ≠ [] → ∀ b, blk z = some b → ¬ F b := fun h4 h5 h6 b h7 => h3 (h4 h6) b (by rw [← h5]; exact h7)
      have HU : Hid (SlM B u (bs.take n) ∧ SlM B (.slice xa xl xc) (bs.drop n) ∧ (bs.take n ≠ [] → ∀ b, blk u = some b → ¬ F b) ∧ (bs.drop n ≠ [] → ∀ b, blk (.slice xa xl xc) = some b → ¬ F b)) := ⟨su, sx, hF (fun h e => h (by rw [e]; simp)) bu, hF (fun h e => h (by rw [e]; simp)) bx⟩
      clear h2 su sx hlt hxl h3 hF bu bx
      go_enter Tryz.func114, Tryz.ntmps114
      go_wp2
      go_ret
      have hs := HH.out.set0 HU.out.2.1 HU.out.2.2.2
      exact ⟨_, rfl, SlM.freeN HU.out.1 hs.fra HU.out.2.2.1, hs, setFr _ _ _ _⟩
theorem leN_take {l : List UInt8} {i : Nat} (h : i < l.length) : leN (l.take (i + 1)) = leN (l.take i) + 256 ^ i * (l[i]).toNat := by
  induction l generalizing i with
  | nil => simp at h
  | cons b r ih =>
    cases i with
    | zero => simp [leN]
    | succ i =>
      have e := ih (i := i) (by simpa using h)
      simp only [List.take_succ_cons, leN, List.getElem_cons_succ, e, Nat.pow_succ]
      rw [Nat.mul_add, ← Nat.mul_assoc, Nat.mul_comm 256 (256 ^ i)]
      omega
theorem or64 (A : Nat) (y : Nat) (i : Nat) (hi : i < 8) (hA : A < 256 ^ i) (hy : y < 256) : bits .or .u64 (A : Int) ((y * 256 ^ i : Nat) : Int) = ((A + 256 ^ i * y : Nat) : Int) := by
  have hm : 256 ^ i ≤ 256 ^ 7 := Nat.pow_le_pow_right (by decide) (by omega)
  have h7 : 256 ^ 7 = 72057594037927936 := by decide
  have hz : 256 ^ i * y ≤ 72057594037927936 * 255 := Nat.mul_le_mul (by omega) (by omega)
  rw [u64_or_nat _ _ (by omega) (by rw [Nat.mul_comm]; omega)]
  have e : 256 ^ i = 2 ^ (8 * i) := by rw [Nat.pow_mul]
  rw [e] at hA ⊢
  have := Nat.shiftLeft_add_eq_or_of_lt (i := 8 * i) (b := A) hA y
  rw [Nat.shiftLeft_eq] at this
  rw [Nat.or_comm, ← this, Nat.mul_comm y, Nat.add_comm]
theorem orw (A y i : Nat) (hi : i < 8) (hA : A < 256 ^ i) (hy : y < 256) : bits .or .u64 (A : Int) (IntKind.u64.wrap (IntKind.u64.wrap (y : Int) * 2 ^ (8 * i))) = ((A + 256 ^ i * y : Nat) : Int) := by
  rw [← or64 A y i hi hA hy]
  have e1 : IntKind.u64.wrap (y : Int) = (y : Int) := by rw [IntKind.wrap_u64]; omega
  have e : (256 : Nat) ^ i = 2 ^ (8 * i) := by rw [Nat.pow_mul]
  have e2 : (y : Int) * 2 ^ (8 * i) = ((y * 256 ^ i : Nat) : Int) := by rw [e]; push_cast; rfl
  have hm : 256 ^ i ≤ 256 ^ 7 := Nat.pow_le_pow_right (by decide) (by omega)
  have h7 : 256 ^ 7 = 72057594037927936 := by decide
  have hz : y * 256 ^ i ≤ 255 * 72057594037927936 := Nat.mul_le_mul (by omega) (by omega)
  rw [e1, e2, IntKind.wrap_u64]
  congr 1
  omega
set_option maxHeartbeats 2000000 in
theorem number_any (h : RdAt F B rb s w) (n : Nat) (hl : s.1.length ≤ 140737488355328) (hn : n ≤ 8) : Calls Tryz.prog 95 #[.pointer (some ⟨rb, 0, none⟩), .int .i64 (n : Int)] w fun e w' => e = .returned (.int .u64 ((numM n s).1 : Int)) ∧ RdAt F B rb (numM n s).2 w' ∧ Fr (fun k => k = rb) w w' := by
  have ct := take_any h n hl (by omega)
  have hle := takeM_le n s
  unfold numM
  obtain ⟨bs, hbs⟩ : ∃ bs, (takeM n s).1 = bs := ⟨_, rfl⟩
  obtain ⟨s', hs'⟩ : ∃ s', (takeM n s).2 = s' := ⟨_, rfl⟩
  have hR : takeM n s = (bs, s') := by rw [← hbs, ← hs']
  rw [hR] at ct hle ⊢
  simp only at hle ⊢
  clear hbs hs' hR h
  go_enter Tryz.func95, Tryz.ntmps95
  go_wp2_with (go_at_call 114; refine Calls.mono ct ?_; rintro e w1 ⟨v, rfl, hv, h1, f1⟩; have hlen := SlM.len hv; have H1 := (show Hid (RdAt F B rb s' w1 ∧ Fr (fun k => k = rb) w w1) from ⟨h1, f1⟩); have HV := (show Hid (SlM w1 v bs) from hv); clear hv h1 f1)
  obtain ⟨m, hm⟩ : ∃ m, bs.length = m := ⟨_, rfl⟩
  have HM : Hid (bs.length = m) := hm
  rw [hm] at hlen
  go_loop [5, 12] (fun y i => ∃ k d : Nat, i = .int .i64 (k : Int) ∧ y = .int .u64 (d : Int) ∧ k ≤ m ∧ Hid (d = leN (bs.take k))) (fun _ i => m - Dk.numOf i)
  case atStart => exact ⟨0, 0, rfl, rfl, Nat.zero_le _, by show _ = _; simp [leN]⟩
  case round =>
    obtain ⟨k, d, rfl, rfl, hk, HD⟩ := hrel
    by_cases hlt : k < m
    · have hlt' : (k : Int) < (m : Int) := by omega
      have hkb : k < bs.length := by rw [HM.out]; exact hlt
      rcases HV.out.cases with ⟨e0, -⟩ | ⟨b, off, cap, rfl, hbl, hcp, hcl⟩
      · rw [e0] at hkb
        simp at hkb
      · have hc := hcl k hkb
        obtain ⟨x, hx⟩ : ∃ x, (bs[k]).toNat = x := ⟨_, rfl⟩
        rw [hx] at hc
        clear hcl
        rw [HM.out]
        rw [HM.out] at hbl
        have hd8 : d < 256 ^ k := by
          have h1 := leN_lt (bs.take k)
          rw [← HD.out, List.length_take] at h1
          exact Nat.lt_of_lt_of_le h1 (Nat.pow_le_pow_right (by decide) (by omega))
        have hor := orw d x k (by omega) hd8 (by rw [← hx]; exact (bs[k]).toNat_lt)
        have HS : Hid (d + 256 ^ k * x = leN (bs.take (k + 1))) := by
          show _ = _
          rw [leN_take hkb, hx, HD.out]
        clear hd8 hx
        go_wp2
        go_round
        case rel => exact ⟨k + 1, d + 256 ^ k * x, by go_num, by rw [Int.natCast_add, Int.natCast_mul, Int.natCast_pow]; rfl, hlt, HS⟩
        case measure => show m - ((k : Int) + 1).toNat < m - (k : Int).toNat; omega
    · have hlt' : ¬ (k : Int) < (m : Int) := by omega
      go_wp2
      go_ret
      refine ⟨?_, H1.out.1, H1.out.2⟩
      rw [HD.out, List.take_of_length_le (by rw [HM.out]; omega)]
      rfl
theorem numM_len (n : Nat) (s : RS) : (numM n s).2.1.length ≤ s.1.length := takeM_len n s
theorem orT (s : RS) : orBad true s = (s.1, true) := rfl
theorem orF (s : RS) : orBad false s = s := rfl
set_option maxHeartbeats 1000000 in
theorem key_any (h : RdAt F B rb s w) (hl : s.1.length ≤ 140737488355328) : Calls Tryz.prog 96 #[.pointer (some ⟨rb, 0, none⟩)] w fun e w' => e = .returned (.string (baK (keyM s).1)) ∧ RdAt F B rb (keyM s).2 w' ∧ Fr (fun k => k = rb) w w' := by
  have cn := number_any h 1 hl (by decide)
  have hn := numM_lt 1 s
  have hl1 := Nat.le_trans (numM_len 1 s) hl
  unfold keyM
  obtain ⟨n, hn1⟩ : ∃ n, (numM 1 s).1 = n := ⟨_, rfl⟩
  obtain ⟨s1, hs1⟩ : ∃ s1, (numM 1 s).2 = s1 := ⟨_, rfl⟩
  rw [hn1, hs1] at cn ⊢
  rw [hn1] at hn
  rw [hs1] at hl1
  have ew : IntKind.i64.wrap (n : Int) = (n : Int) := by rw [IntKind.wrap_i64]; omega
  have HL : Hid (n < 256 ∧ s1.1.length ≤ 140737488355328) := ⟨by omega, hl1⟩
  clear hn1 hs1 hn hl1 h hl
  by_cases hz : n = 0
  · subst hz
    rw [show decide ((0 : Nat) = 0) = true from rfl, orT]
    go_enter Tryz.func96, Tryz.ntmps96
    go_wp2_with (first
      | (go_at_call 95; refine Calls.mono cn ?_; rintro e w1 ⟨rfl, h1, f1⟩; have z1 := h1.fz 1; have c1 := h1.c1; have H2 := (show Hid (RdAt F B rb (s1.1, true) (w1.setCell ⟨rb, 1, none⟩ (.bool true)) ∧ Fr (fun k => k = rb) w (w1.setCell ⟨rb, 1, none⟩ (.bool true))) from ⟨h1.set1 true, f1.and (setFr w1 rb 1 (.bool true)) (fun _ _ e => e)⟩); clear h1 f1 cn)
      | (go_at_call 114; refine (take_any H2.out.1 0 HL.out.2 (by decide)).mono ?_; rintro e w2 ⟨v, rfl, hv, h2, f2⟩; have hc := SlM.conv hv; have H3 := (show Hid (RdAt F B rb (takeM 0 (s1.1, true)).2 w2 ∧ Fr (fun k => k = rb) w w2) from ⟨h2, H2.out.2.and f2 (fun _ _ e => e)⟩); clear hv h2 f2))
    go_ret
    exact ⟨rfl, H3.out⟩
  · have hz' : ((n : Int) == 0) = false := by simpa using hz
    have hz2 : ¬ (n : Int) = 0 := by omega
    rw [show decide (n = 0) = false from decide_eq_false hz, orF]
    go_enter Tryz.func96, Tryz.ntmps96
    go_wp2_with (first
      | (go_at_call 95; refine Calls.mono cn ?_; rintro e w1 ⟨rfl, h1, f1⟩; have H2 := (show Hid (RdAt F B rb s1 w1 ∧ Fr (fun k => k = rb) w w1) from ⟨h1, f1⟩); clear h1 f1 cn)
      | (go_at_call 114; refine (take_any H2.out.1 n HL.out.2 (by have := HL.out.1; omega)).mono ?_; rintro e w2 ⟨v, rfl, hv, h2, f2⟩; have hc := SlM.conv hv; have H3 := (show Hid (RdAt F B rb (takeM n s1).2 w2 ∧ Fr (fun k => k = rb) w w2) from ⟨h2, H2.out.2.and f2 (fun _ _ e => e)⟩); clear hv h2 f2))
    go_ret
    exact ⟨rfl, H3.out⟩
/-- What value hands out. -/
def VlOut (F : Nat → Prop) (B : World) (rb : Nat) (r : List UInt8 × RS) (w : World) (e : Ending) (w' : World) : Prop := ∃ v, e = .returned v ∧ RowB w.heap.size w' v r.1 ∧ RdAt F B rb r.2 w' ∧ Fr (fun k => k = rb) w w'
set_option maxHeartbeats 1000000 in
theorem value_any (h : RdAt F B rb s w) (hl : s.1.length ≤ 140737488355328) : Calls Tryz.prog 97 #[.pointer (some ⟨rb, 0, none⟩)] w (VlOut F B rb (valM s) w) := by
  have cn := number_any h 4 hl (by decide)
  have hn := numM_lt 4 s
  have hl1 := Nat.le_trans (numM_len 4 s) hl
  unfold VlOut valM
  obtain ⟨n, hn1⟩ : ∃ n, (numM 4 s).1 = n := ⟨_, rfl⟩
  obtain ⟨s1, hs1⟩ : ∃ s1, (numM 4 s).2 = s1 := ⟨_, rfl⟩
  rw [hn1, hs1] at cn ⊢
  rw [hn1] at hn
  rw [hs1] at hl1
  have ew : IntKind.i64.wrap (n : Int) = (n : Int) := by rw [IntKind.wrap_i64]; omega
  have HL : Hid (n < 4294967296 ∧ s1.1.length ≤ 140737488355328) := ⟨by omega, hl1⟩
  clear hn1 hs1 hn hl1 h hl
  by_cases hz : 262144 < n
  · have hz' : (262144 : Int) < (n : Int) := by omega
    rw [show decide (262144 < n) = true from decide_eq_true hz, orT]
    go_enter Tryz.func97, Tryz.ntmps97
    go_wp2_with (first
      | (go_at_call 95; refine Calls.mono cn ?_; rintro e w1 ⟨rfl, h1, f1⟩; have z1 := h1.fz 1; have c1 := h1.c1; have H2 := (show Hid (RdAt F B rb (s1.1, true) (w1.setCell ⟨rb, 1, none⟩ (.bool true)) ∧ Fr (fun k => k = rb) w (w1.setCell ⟨rb, 1, none⟩ (.bool true))) from ⟨h1.set1 true, f1.and (setFr w1 rb 1 (.bool true)) (fun _ _ e => e)⟩); clear h1 f1 cn)
      | (go_at_call 114; refine (take_any H2.out.1 n HL.out.2 (by have := HL.out.1; omega)).mono ?_; rintro e w2 ⟨v, rfl, hv, h2, f2⟩; have H3 := (show Hid (SlM w2 v (takeM n (s1.1, true)).1 ∧ RdAt F B rb (takeM n (s1.1, true)).2 w2 ∧ Fr (fun k => k = rb) w w2) from ⟨hv, h2, H2.out.2.and f2 (fun _ _ e => e)⟩); clear hv h2 f2)
      | (go_at_call 52; refine (Dk.clone_any _ _ _ H3.out.1 (by have := takeM_le n (s1.1, true); have := HL.out.1; omega)).mono ?_; rintro e w3 ⟨u, rfl, hu, hb⟩))
    go_ret
    exact ⟨u, rfl, hu.mono H3.out.2.2.size, H3.out.2.1.below hb, H3.out.2.2.and (Fr.of_below (S := fun k => k = rb) hb) (fun _ _ e => e)⟩
  · have hz' : ¬ (262144 : Int) < (n : Int) := by omega
    rw [show decide (262144 < n) = false from decide_eq_false hz, orF]
    go_enter Tryz.func97, Tryz.ntmps97
    go_wp2_with (first
      | (go_at_call 95; refine Calls.mono cn ?_; rintro e w1 ⟨rfl, h1, f1⟩; have H2 := (show Hid (RdAt F B rb s1 w1 ∧ Fr (fun k => k = rb) w w1) from ⟨h1, f1⟩); clear h1 f1 cn)
      | (go_at_call 114; refine (take_any H2.out.1 n HL.out.2 (by have := HL.out.1; omega)).mono ?_; rintro e w2 ⟨v, rfl, hv, h2, f2⟩; have H3 := (show Hid (SlM w2 v (takeM n s1).1 ∧ RdAt F B rb (takeM n s1).2 w2 ∧ Fr (fun k => k = rb) w w2) from ⟨hv, h2, H2.out.2.and f2 (fun _ _ e => e)⟩); clear hv h2 f2)
      | (go_at_call 52; refine (Dk.clone_any _ _ _ H3.out.1 (by have := takeM_le n s1; have := HL.out.1; omega)).mono ?_; rintro e w3 ⟨u, rfl, hu, hb⟩))
    go_ret
    exact ⟨u, rfl, hu.mono H3.out.2.2.size, H3.out.2.1.below hb, H3.out.2.2.and (Fr.of_below (S := fun k => k = rb) hb) (fun _ _ e => e)⟩
set_option maxHeartbeats 1000000 in
theorem whole_any (h : RdAt F B rb s w) : Calls Tryz.prog 98 #[.pointer (some ⟨rb, 0, none⟩)] w fun e w' => e = .returned (.bool (wholeM s)) ∧ w' = w := by
  obtain ⟨v, c0, hv⟩ := h.c0
  have c1 := h.c1
  have hlen := SlM.len hv
  obtain ⟨bs, bad⟩ := s
  simp only at c1 hlen hv
  clear hv h
  unfold wholeM
  cases bad with
  | true =>
    go_enter Tryz.func98, Tryz.ntmps98
    go_wp2
    go_ret
    exact ⟨rfl, rfl⟩
  | false =>
    cases bs with
    | nil =>
      go_enter Tryz.func98, Tryz.ntmps98
      go_wp2
      go_ret
      exact ⟨rfl, rfl⟩
    | cons x r =>
      have e : (((x :: r).length : Nat) : Int) = (r.length : Int) + 1 := by simp
      rw [e] at hlen
      have hne : ¬ (r.length : Int) + 1 = 0 := by omega
      go_enter Tryz.func98, Tryz.ntmps98
      go_wp2
      go_ret
      exact ⟨by simp; omega, rfl⟩
end
end Kv
end Go.Proofs.YtcinjdaanhpbjaaGreat

namespace Go.Proofs.YtcinjdaanhpbjaaGreat
open Go.RowKit
namespace Kv
open Bw Rg Dk Rf Wl

/-- So many bytes, if there are as many. -/
def takeQ (n : Nat) (s : RS) : List UInt8 × RS := if s.1.length < n then ([], (s.1, true)) else (s.1.take n, (s.1.drop n, s.2))
theorem takeQ_le (n : Nat) (s : RS) : (takeQ n s).1.length ≤ n ∧ (takeQ n s).1.length ≤ s.1.length ∧ (takeQ n s).2.1.length ≤ s.1.length := by
  unfold takeQ
  split
  · simp
  · simp only [List.length_take, List.length_drop]
    omega
/-- A reader in block rb, that reads bytes of the world B; since B nothing old has turned but F. -/
structure RqAt (F : Nat → Prop) (B : World) (rb : Nat) (s : RS) (w : World) : Prop where
  cells : ∃ v, w.heap[rb]? = some (.cells #[v, .bool s.2] 145 (0, 0)) ∧ SlM B v s.1 ∧ (s.1 ≠ [] → ∀ b, blk v = some b → ¬ F b)
  new : B.heap.size ≤ rb
  fra : Fr F B w
section
variable {F : Nat → Prop} {B w w' : World} {rb : Nat} {s : RS}
theorem RqAt.bel (h : RqAt (fun _ => False) B rb s w) : Below B.heap.size B w := h.fra.below (Nat.le_refl _) (fun _ _ => id)
theorem RqAt.fr {S : Nat → Prop} (h : RqAt F B rb s w) (f : Fr S w w') (hn : ¬ S rb) (hB : ∀ k, k < B.heap.size → S k → F k) : RqAt F B rb s w' := by
  obtain ⟨v, h1, h2⟩ := h.cells
  exact ⟨⟨v, (f.block _ (lt_of_block h1) hn).trans h1, h2⟩, h.new, h.fra.and f hB⟩
theorem RqAt.below (h : RqAt F B rb s w) (f : Below w.heap.size w w') : RqAt F B rb s w' := h.fr (S := fun _ => False) (Fr.of_below f) id (fun _ _ e => e.elim)
theorem RqAt.lt (h : RqAt F B rb s w) : rb < w.heap.size := by
  obtain ⟨v, h1, h2⟩ := h.cells
  exact lt_of_block h1
theorem RqAt.set1 (h : RqAt F B rb s w) (b : Bool) : RqAt F B rb (s.1, b) (w.setCell ⟨rb, 1, none⟩ (.bool b)) := by
  obtain ⟨v, h1, h2⟩ := h.cells
  exact ⟨⟨v, set_heap h1 _, h2⟩, h.new, h.fra.and (setFr w rb 1 (.bool b)) (fun k hk e => by have := h.new; exfalso; omega)⟩
theorem RqAt.set0 (h : RqAt F B rb s w) {v : Value} {bs : List UInt8} (hv : SlM B v bs) (hF : bs ≠ [] → ∀ b, blk v = some b → ¬ F b) : RqAt F B rb (bs, s.2) (w.setCell ⟨rb, 0, none⟩ v) := by
  obtain ⟨u, h1, h2⟩ := h.cells
  exact ⟨⟨v, set_heap h1 _, hv, hF⟩, h.new, h.fra.and (setFr w rb 0 v) (fun k hk e => by have := h.new; exfalso; omega)⟩
theorem RqAt.c1 (h : RqAt F B rb s w) : w.cell? ⟨rb, 1, none⟩ = some (.bool s.2) := by
  obtain ⟨v, h1, h2⟩ := h.cells
  simp [World.cell?, h1]
theorem RqAt.c0 (h : RqAt F B rb s w) : ∃ v, w.cell? ⟨rb, 0, none⟩ = some v ∧ SlM w v s.1 := by
  obtain ⟨v, h1, h2, h3⟩ := h.cells
  exact ⟨v, by simp [World.cell?, h1], SlM.freeN h2 h.fra h3⟩
theorem RqAt.fz (h : RqAt F B rb s w) (i : Nat) : w.frozen? ⟨rb, i, none⟩ = false := by
  obtain ⟨v, h1, h2⟩ := h.cells
  simp [World.frozen?, h1]
/-- What is told lies in no block of F. -/
def NF (F : Nat → Prop) (l : List UInt8) (v : Value) : Prop := l ≠ [] → ∀ b, blk v = some b → ¬ F b
/-- What take hands out. -/
def TqOut (F : Nat → Prop) (B : World) (rb : Nat) (r : List UInt8 × RS) (w : World) (e : Ending) (w' : World) : Prop := ∃ v, e = .returned v ∧ SlM B v r.1 ∧ NF F r.1 v ∧ RqAt F B rb r.2 w' ∧ Fr (fun k => k = rb) w w'
set_option maxHeartbeats 1000000 in
theorem takeq_any (h : RqAt F B rb s w) (n : Nat) (hl : s.1.length ≤ 140737488355328) (hn : n ≤ 9223372036854775807) : Calls Tryz.prog 88 #[.pointer (some ⟨rb, 0, none⟩), .int .i64 (n : Int)] w (TqOut F B rb (takeQ n s) w) := by
  obtain ⟨v, h1, h2, h3⟩ := h.cells
  have HH : Hid (RqAt F B rb s w) := h
  have c0 : w.cell? ⟨rb, 0, none⟩ = some v := by simp [World.cell?, h1]
  have c1 : w.cell? ⟨rb, 1, none⟩ = some (.bool s.2) := by simp [World.cell?, h1]
  have z0 : w.frozen? ⟨rb, 0, none⟩ = false := by simp [World.frozen?, h1]
  have z1 : w.frozen? ⟨rb, 1, none⟩ = false := by simp [World.frozen?, h1]
  have hlen := SlM.len h2
  obtain ⟨bs, bad⟩ := s
  simp only at h2 hl c1 hlen h3
  clear h h1
  have hn0 : ¬ (n : Int) < 0 := by omega
  have hlw : IntKind.i64.wrap (bs.length : Int) = (bs.length : Int) := by rw [IntKind.wrap_i64]; omega
  unfold TqOut takeQ
  by_cases hlt : bs.length < n
  · have hlt' : (bs.length : Int) < (n : Int) := by omega
    rw [if_pos hlt]
    clear h2 h3
    go_enter Tryz.func88, Tryz.ntmps88
    go_wp2
    go_ret
    exact ⟨_, rfl, .inl ⟨rfl, .inl rfl⟩, fun h => absurd rfl h, HH.out.set1 true, setFr _ _ _ _⟩
  · have hlt' : ¬ (bs.length : Int) < (n : Int) := by omega
    rw [if_neg hlt]
    obtain ⟨u, hu, su, bu⟩ := SlM.upto h2 n (by omega) .i64
    obtain ⟨x, hx, sx, bx⟩ := SlM.from h2 n (by omega) .i64
    obtain ⟨xa, xc, hxv⟩ := sx.sl.form
    obtain ⟨xl, hxl⟩ : ∃ xl, (bs.drop n).length = xl := ⟨_, rfl⟩
    rw [hxl] at hxv
    subst hxv
    have hF : ∀ {l : List UInt8} {z : Value}, (l ≠ [] → bs ≠ []) → blk z = blk v → l ≠ [] → ∀ b, blk z = some b → ¬ F b := fun h4 h5 h6 b h7 => h3 (h4 h6) b (by rw [← h5]; exact h7)
    have HU : Hid (SlM B u (bs.take n) ∧ SlM B (.slice xa xl xc) (bs.drop n) ∧ (bs.take n ≠ [] → ∀ b, blk u = some b → ¬ F b) ∧ (bs.drop n ≠ [] → ∀ b, blk (.slice xa xl xc) = some b → ¬ F b)) := ⟨su, sx, hF (fun h e => h (by rw [e]; simp)) bu, hF (fun h e => h (by rw [e]; simp)) bx⟩
    clear h2 su sx hlt hxl h3 hF bu bx
    go_enter Tryz.func88, Tryz.ntmps88
    go_wp2
    go_ret
    have hs := HH.out.set0 HU.out.2.1 HU.out.2.2.2
    exact ⟨_, rfl, HU.out.1, HU.out.2.2.1, hs, setFr _ _ _ _⟩
end
end Kv
end Go.Proofs.YtcinjdaanhpbjaaGreat
