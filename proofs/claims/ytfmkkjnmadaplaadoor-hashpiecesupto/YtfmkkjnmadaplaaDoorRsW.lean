/- What the reference's sum does at words of 64 bits: a contract, by walking its text. -/
import Derived.Test.YtfmkkjnmadaplaaDoorBkW
import Derived.Test.YtfmkkjnmadaplaaDoorHy
namespace Go.Proofs.YtfmkkjnmadaplaaDoor
open Go.RowKit
namespace RW
open Hs Rg Bu Wo

theorem byte_new (w : World) (x : Nat) (t : TypeId) (hx : x < 256) : Bw.SlM (w.alloc (.cells #[.int .u8 (x : Int)] t)) (.slice (some ⟨w.heap.size, 0, none⟩) 1 1) [x.toUInt8] := by
  refine .inr ⟨w.heap.size, 0, 1, rfl, Nat.le_refl 1, by decide, fun j hj => ?_⟩
  obtain rfl : j = 0 := by simpa using hj
  have h : (x.toUInt8).toNat = x := by
    rw [Nat.toUInt8_eq, UInt8.toNat_ofNat']
    omega
  rw [Nat.zero_add]
  refine cell_new w _ t ?_
  show some (Value.int .u8 (x : Int)) = some (Value.int .u8 ((x.toUInt8).toNat : Int))
  rw [h]
theorem zs_stop (L : Nat) : (L + 1 + zs kw L + 2 * 8) % 128 = 0 := by
  show (L + 1 + (2 * 128 - 2 * 8 - 1 - L % 128) % 128 + 2 * 8) % 128 = 0
  omega
theorem zs_go (L z : Nat) (h : z < zs kw L) : (L + 1 + z + 2 * 8) % 128 ≠ 0 := by
  have h2 : zs kw L = (2 * 128 - 2 * 8 - 1 - L % 128) % 128 := rfl
  rw [h2] at h
  omega
theorem zs_lt (L : Nat) : zs kw L < 128 := Nat.mod_lt _ (by decide)
/-- A byte of the length's, as the reference reckons it. -/
theorem len_zero (L : Nat) : L % 32 * 8 % 256 = 8 * L / 2 ^ (8 * 0) % 256 := by
  have : 2 ^ (8 * 0) = 1 := rfl
  rw [this]
  omega
theorem len_low (L i : Nat) (h : 1 ≤ i) : L / 2 ^ (8 * i - 3) % 256 = 8 * L / 2 ^ (8 * i) % 256 := by
  have e : 2 ^ (8 * i) = 8 * 2 ^ (8 * i - 3) := by
    have : 8 * i = (8 * i - 3) + 3 := by omega
    rw [this, Nat.pow_add, Nat.mul_comm]
    simp
  rw [e, Nat.mul_div_mul_left _ _ (by decide)]
theorem len_high (L i : Nat) (h : 9 ≤ i) (hL : L < 2305843009213693952) : 0 = 8 * L / 2 ^ (8 * i) % 256 := by
  have h1 : 2 ^ 72 ≤ 2 ^ (8 * i) := Nat.pow_le_pow_right (by decide) (by omega)
  have h2 : 8 * L < 2 ^ (8 * i) := Nat.lt_of_lt_of_le (by omega) h1
  rw [Nat.div_eq_of_lt h2]

theorem rowb_at {base : Nat} {w : World} {v : Value} {bs : List UInt8} (h : Bw.RowB base w v bs) (h0 : bs ≠ []) : ∃ g cap, v = .slice (some ⟨g, 0, none⟩) bs.length cap ∧ bs.length ≤ cap ∧ cap ≤ 9223372036854775807 ∧ base ≤ g ∧ g < w.heap.size ∧ w.rangeAt g 0 (Lib.byteCells bs) := by
  have hc := h.cell
  rcases h.2 with ⟨rfl, h1⟩ | ⟨g, cap, cur, rfl, hb, hg, hn, hm, _⟩
  · exact absurd (List.eq_nil_of_length_eq_zero h1) h0
  · have hcap : cap ≤ 9223372036854775807 := by unfold maxLen at hm; omega
    rcases hc with ⟨h1, _⟩ | ⟨b, off, c, he, _, h3⟩
    · exact absurd h1 h0
    · cases he
      refine ⟨g, cap, rfl, hn, hcap, hb, lt_of_block hg, fun j v hv => ?_⟩
      have hj : j < bs.length := by
        rcases Nat.lt_or_ge j bs.length with h' | h'
        · exact h'
        · rw [List.getElem?_eq_none (by rw [Lib.byteCells_length]; exact h')] at hv; cases hv
      rw [h3 j hj, ← hv]
      simp [Lib.byteCells, hj]
theorem cell_b {w : World} {g : Nat} {F : List UInt8} (h : w.rangeAt g 0 (Lib.byteCells F)) (j : Nat) (hj : j < F.length) : w.cell? ⟨g, j, none⟩ = some (.int .u8 (F[j].toNat : Int)) := by
  have := h j _ (by simp [Lib.byteCells, hj] : (Lib.byteCells F)[j]? = some (.int .u8 (F[j].toNat : Int)))
  rwa [Nat.zero_add] at this
theorem small_words (F : List UInt8) (k : Nat) : ∀ i, Small 64 (words kw ((F.drop (k * Hs.B kw)).take (Hs.B kw)) i) := by
  intro i x hx
  obtain ⟨j, _, rfl⟩ := List.mem_map.1 hx
  show be _ < _
  have h := be_lt (((((F.drop (k * Hs.B kw)).take (Hs.B kw)).drop (j * kw.sz))).take kw.sz)
  refine Nat.lt_of_lt_of_le h ?_
  have h2 : (((((F.drop (k * Hs.B kw)).take (Hs.B kw)).drop (j * kw.sz))).take kw.sz).length ≤ 8 := by rw [List.length_take]; exact Nat.min_le_left _ _
  exact Nat.le_trans (Nat.pow_le_pow_right (by decide) h2) (by decide)

set_option maxHeartbeats 16000000 in
set_option maxRecDepth 4000 in
theorem rsum_any (B : Kb) (a : Option Addr) (cap : Nat) (bs : List UInt8) (w : World) (hK : KAt w B) (hKl : KLt B w.heap.size) (hm : bs.length ≤ 140737488351232) (hv : Bw.SlM w (.slice a bs.length cap) bs) :
    Calls Tryd.prog 21 #[kv B, .slice a bs.length cap] w fun e w' => ∃ v', e = .returned v' ∧ Bw.RowB w.heap.size w' v' (sum kw bs) ∧ Below w.heap.size w w' := by
  obtain ⟨n, hn⟩ : ∃ n, w.heap.size = n := ⟨_, rfl⟩
  have HNn : Hid (w.heap.size = n) := hn
  rw [hn] at hKl
  obtain ⟨W0, hW0⟩ : ∃ W0, w.alloc (.cells (kvc B).toArray 54) = W0 := ⟨_, rfl⟩
  have hbW : Below n w W0 := by rw [← hW0, ← hn]; exact (Below.refl _ _).alloc (Nat.le_refl _) _
  have hzW : W0.heap.size = n + 1 := by rw [← hW0, size_alloc, hn]
  have hbox : W0.rangeAt n 0 (kvc B) := by rw [← hW0, ← hn]; exact range_new w _ 54
  have hvW : Bw.SlM W0 (.slice a bs.length cap) bs := hv.below hbW (by omega)
  have hrn : Bw.RowB (n + 1) W0 (.slice none 0 0) [] := Bw.RowB.nil _ _
  have HBW : Hid (Below n w W0 ∧ W0.heap.size = n + 1) := ⟨hbW, hzW⟩
  have HBX : Hid (W0.rangeAt n 0 (kvc B)) := hbox
  have HK0 : Hid (KAt W0 B) := hK.below hbW hKl
  have HKl : Hid (KLt B n) := hKl
  have HSum : Hid (sum kw bs = _) := sum_full kw bs (by decide)
  obtain ⟨L, hL⟩ : ∃ L, bs.length = L := ⟨_, rfl⟩
  have HL : Hid (bs.length = L) := hL
  rw [hL] at hm hvW ⊢
  have hb0 := hbox 0 _ rfl
  have hwr : IntKind.u64.wrap (L : Int) = (L : Int) := by rw [IntKind.wrap_u64]; omega
  clear hK hKl hv hL hbW hbox
  unfold kv
  unfold kvc at hW0
  go_enter Tryd.func21, Tryd.ntmps21
  go_wp2_with (first
    | (refine Bw.app_any rfl (.tmp 22) (.tmp 23) rfl (n + 1) _ [] rfl hrn _ bs rfl hvW (by rw [HL.out]; simp only [List.length_nil]; omega) (by omega) ?_; rintro v1 w1 hr1 hb1; have HR1 := (show Hid (Bw.RowB (n + 1) w1 v1 bs) from hr1); have HB1 := (show Hid (Below (n + 1) W0 w1) from hb1); have hs1 := (show n + 1 ≤ w1.heap.size from (by have := hb1.size; omega)); have HN1 := (show Hid (Bw.SlM (w1.alloc (.cells #[.int .u8 128] 5)) (.slice (some ⟨w1.heap.size, 0, none⟩) 1 1) [128]) from byte_new w1 128 5 (by decide)); have HRA := (show Hid (Bw.RowB (n + 1) (w1.alloc (.cells #[.int .u8 128] 5)) v1 bs) from hr1.kept ((Below.refl _ _).alloc (Nat.le_refl _) _)); clear hr1 hb1 hrn hvW hb0)
    | (refine Bw.app_any rfl (.tmp 25) (.tmp 26) rfl (n + 1) _ bs rfl HRA.out _ [128] rfl HN1.out (by rw [HL.out]; simp only [List.length_singleton]; omega) (by rw [size_alloc]; omega) ?_; rintro v2 w2 hr2 hb2; have HR2 := (show Hid (Bw.RowB (n + 1) w2 v2 (bs ++ [128])) from hr2); have HB2 := (show Hid (Below (n + 1) W0 w2) from (HB1.out.alloc hs1 _).trans hb2); have hs2 := (show n + 1 ≤ w2.heap.size from (by have := hb2.size; rw [size_alloc] at this; omega)); clear hr2 hb2 HR1 HB1 HN1 HRA hs1))
  clear hW0 hzW hn
  obtain ⟨Zt, hZt⟩ : ∃ x, L + 1 + zs kw L = x := ⟨_, rfl⟩
  have hzl := zs_lt L
  go_loopw [6] (fun x wr => ∃ z : Nat, z ≤ zs kw L ∧ Hid (Bw.RowB (n + 1) wr x (bs ++ 128 :: List.replicate z 0)) ∧ Hid (Below (n + 1) W0 wr) ∧ n + 1 ≤ wr.heap.size) (fun x _ => match x with | .slice _ k _ => Zt - k | _ => 0)
  case atStart => exact ⟨0, Nat.zero_le _, HR2, HB2, hs2⟩
  case round =>
  clear HR2 HB2 hs2
  obtain ⟨z, hz, HR, HB, hs⟩ := hrel
  obtain ⟨ra, rc, hvf⟩ := HR.out.form
  have hlz : (bs ++ 128 :: List.replicate z 0).length = L + 1 + z := by
    rw [List.length_append, List.length_cons, List.length_replicate, HL.out]
    omega
  rw [hlz] at hvf
  subst hvf
  obtain ⟨Lz, hLz⟩ : ∃ x, L + 1 + z = x := ⟨_, rfl⟩
  have HLz : Hid (L + 1 + z = Lz) := hLz
  rw [hLz] at HR hlz ⊢
  have hq : (Lz : Int) + 16 = ((Lz + 16 : Nat) : Int) := by omega
  obtain ⟨Lq, hLq⟩ : ∃ x, Lz + 16 = x := ⟨_, rfl⟩
  rw [hLq] at hq
  obtain ⟨Lr, hLr⟩ : ∃ x, Lq % 128 = x := ⟨_, rfl⟩
  have hr1 : (Lq : Int) % 128 = (Lr : Int) := by omega
  have hr2 : Int.tmod (Lq : Int) 128 = (Lr : Int) := by rw [Int.tmod_eq_emod_of_nonneg (by omega)]; exact hr1
  have hLqb : Lq ≤ 140737488355328 := by omega
  have HZs : Hid (zs kw L < 128 ∧ L + 1 + zs kw L = Zt) := ⟨hzl, hZt⟩
  by_cases hlt : z < zs kw L
  · have h0 := zs_go L z hlt
    have hne : ((Lr : Int) != 0) = true := by
      have : Lr ≠ 0 := by rw [← hLr, ← hLq, ← hLz]; exact h0
      simp
      omega
    have hne2 : ¬ Lr = 0 := by rw [← hLr, ← hLq, ← hLz]; exact h0
    have hne3 : (Lr == 0) = false := by simp [hne2]
    have hN : Bw.SlM (wr.alloc (.cells #[.int .u8 0] 5)) (.slice (some ⟨wr.heap.size, 0, none⟩) 1 1) [0] := byte_new wr 0 5 (by decide)
    have hRA : Bw.RowB (n + 1) (wr.alloc (.cells #[.int .u8 0] 5)) (.slice ra Lz rc) (bs ++ 128 :: List.replicate z 0) := HR.out.kept ((Below.refl _ _).alloc (Nat.le_refl _) _)
    have hll : (bs ++ 128 :: List.replicate z 0).length ≤ 140737488355000 := by rw [hlz]; omega
    obtain ⟨Pz, hPz⟩ : ∃ x, bs ++ 128 :: List.replicate z 0 = x := ⟨_, rfl⟩
    have HPz : Hid (bs ++ 128 :: List.replicate z 0 = Pz) := hPz
    rw [hPz] at hRA hll
    clear HR hlz hLz hLq hLr h0 hr1 hPz hZt
    go_wp2_with (refine Bw.app_any rfl (.tmp 37) (.tmp 38) rfl (n + 1) _ Pz rfl hRA _ [0] rfl hN (by simp only [List.length_singleton]; omega) (by rw [size_alloc]; omega) ?_; rintro v2 w2 hr2 hb2; have HR2 := (show Hid (Bw.RowB (n + 1) w2 v2 (Pz ++ [0])) from hr2); have HB2 := (show Hid (Below (n + 1) W0 w2) from (HB.out.alloc hs _).trans hb2); have hs2 := (show n + 1 ≤ w2.heap.size from (by have := hb2.size; rw [size_alloc] at this; omega)); obtain ⟨ra2, rc2, hv2f⟩ := hr2.form; have HF2 := (show Hid _ from hv2f); clear hv2f hr2 hb2 hN hRA)
    go_roundw
    case rel =>
      refine ⟨z + 1, hlt, ?_, HB2, hs2⟩
      show Bw.RowB _ _ _ _
      have e : bs ++ 128 :: List.replicate (z + 1) 0 = Pz ++ [0] := by
        rw [← HPz.out, List.replicate_succ', List.append_assoc, List.cons_append]
      rw [e]
      exact HR2.out
    case measure =>
      have e1 : (Pz ++ [0]).length = L + 1 + z + 1 := by
        rw [← HPz.out, List.length_append, List.length_append, List.length_cons, List.length_replicate, HL.out]
        simp only [List.length_singleton]
        omega
      rw [HF2.out, e1, ← HLz.out, ← HZs.out.2]
      simp
      omega
  · have hzz : z = zs kw L := by omega
    have h0 := zs_stop L
    have hne : ((Lr : Int) != 0) = false := by
      have : Lr = 0 := by rw [← hLr, ← hLq, ← hLz, hzz]; exact h0
      simp [this]
    obtain ⟨P, hP⟩ : ∃ x, bs ++ 128 :: List.replicate (zs kw L) 0 = x := ⟨_, rfl⟩
    have HPd : Hid (bs ++ 128 :: List.replicate (zs kw L) 0 = P) := hP
    rw [hzz, hP] at HR
    have HPl : Hid (P.length = Lz ∧ Lz ≤ L + 128 ∧ (Lz + 2 * 8) % 128 = 0) := ⟨by rw [← hP, ← hzz]; exact hlz, by omega, by rw [← hLz, hzz]; exact h0⟩
    have hLzb : Lz ≤ 140737488354000 := by omega
    clear hlz hLz hLq hLr h0 hr1 hzz hlt hP hZt HLz HZs hzl
    go_wp2
    go_loopw [6, 8] (fun x y wr => ∃ k : Nat, y = .int .i64 ((2 * 8 : Int) - 1 - (k : Int)) ∧ k ≤ 2 * 8 ∧ Hid (Bw.RowB (n + 1) wr x (P ++ (beB (2 * 8) (8 * L)).take k)) ∧ Hid (Below (n + 1) W0 wr) ∧ n + 1 ≤ wr.heap.size) (fun _ y _ => match y with | .int _ z => (z + 1).toNat | _ => 0)
    case atStart => exact ⟨0, rfl, by omega, by rw [List.take_zero, List.append_nil]; exact HR, HB, hs⟩
    case round =>
    clear HR HB hs
    obtain ⟨k, rfl, hk, HRk, HBk, hsk⟩ := hrel
    obtain ⟨ra, rc, hvf⟩ := HRk.out.form
    have hlk : (P ++ (beB (2 * 8) (8 * L)).take k).length = Lz + k := by
      rw [List.length_append, List.length_take, beB_len, HPl.out.1]
      omega
    rw [hlk] at hvf
    subst hvf
    obtain ⟨Lk, hLk⟩ : ∃ x, Lz + k = x := ⟨_, rfl⟩
    rw [hLk] at HRk hlk ⊢
    have HLk : Hid ((P ++ (beB (2 * 8) (8 * L)).take k).length = Lk) := hlk
    by_cases hk8 : k < 2 * 8
    · obtain ⟨i, hi⟩ : ∃ i, 2 * 8 - 1 - k = i := ⟨_, rfl⟩
      have hii : (2 * 8 : Int) - 1 - (k : Int) = (i : Int) := by omega
      rw [hii]
      have hi0 : (0 : Int) ≤ (i : Int) := by omega
      have hLkb : Lk ≤ 140737488354500 := by omega
      clear hlk hLk hii
      rcases (show i = 0 ∨ (1 ≤ i ∧ i ≤ 8) ∨ 9 ≤ i by omega) with h0 | ⟨h1, h2⟩ | h9
      · obtain ⟨r, hr⟩ : ∃ r, L % 32 = r := ⟨_, rfl⟩
        have hr1 : (L : Int) % 32 = (r : Int) := by omega
        have hr2 : Int.tmod (L : Int) 32 = (r : Int) := by rw [Int.tmod_eq_emod_of_nonneg (by omega)]; exact hr1
        obtain ⟨c, hcc⟩ : ∃ c, r * 8 = c := ⟨_, rfl⟩
        have hc : c < 256 := by omega
        have hrc : (r : Int) * 8 = (c : Int) := by omega
        have HC : Hid (c.toUInt8 = (8 * L / 2 ^ (8 * i) % 256).toUInt8) := by
          show _ = _
          rw [h0, ← len_zero, hr, hcc, Nat.mod_eq_of_lt hc]
        have hw2 : IntKind.u8.wrap (c : Int) = (c : Int) := by rw [IntKind.wrap_u8]; omega
        have hw1 : IntKind.u64.wrap (c : Int) = (c : Int) := by rw [IntKind.wrap_u64]; omega
        have hb0 : ((i : Int) == 0) = true := by simp [h0]
        clear hr hcc hr1
        have hN : Bw.SlM (wr.alloc (.cells #[.int .u8 (c : Int)] 5)) (.slice (some ⟨wr.heap.size, 0, none⟩) 1 1) [c.toUInt8] := byte_new wr c 5 hc
        have hRA : Bw.RowB (n + 1) (wr.alloc (.cells #[.int .u8 (c : Int)] 5)) (.slice ra Lk rc) (P ++ (beB (2 * 8) (8 * L)).take k) := HRk.out.kept ((Below.refl _ _).alloc (Nat.le_refl _) _)
        have hll : (P ++ (beB (2 * 8) (8 * L)).take k).length ≤ 140737488355000 := by rw [HLk.out]; omega
        go_wp2_with (refine Bw.app_any rfl (.tmp 66) (.tmp 68) rfl (n + 1) _ _ rfl hRA _ [c.toUInt8] rfl hN (by simp only [List.length_singleton]; omega) (by rw [size_alloc]; omega) ?_; rintro v2 w2 hr2 hb2; have HR2 := (show Hid (Bw.RowB (n + 1) w2 v2 _) from hr2); have HB2 := (show Hid (Below (n + 1) W0 w2) from (HBk.out.alloc hsk _).trans hb2); have hs2 := (show n + 1 ≤ w2.heap.size from (by have := hb2.size; rw [size_alloc] at this; omega)); clear hr2 hb2 hN hRA)
        go_roundw
        case rel =>
          refine ⟨k + 1, ?_, by omega, ?_, HB2, hs2⟩
          · exact congrArg (Value.int .i64) (by omega)
          · show Bw.RowB _ _ _ _
            rw [beB_take_succ _ _ k hk8, ← List.append_assoc, show 2 * 8 - 1 - k = i by omega, ← HC.out]
            exact HR2.out
        case measure => first | (simp; done) | (simp; omega)
      · obtain ⟨m8, hm8⟩ : ∃ m, 8 * i = m := ⟨_, rfl⟩
        have e1 : (8 : Int) * (i : Int) = (m8 : Int) := by omega
        obtain ⟨m3, hm3⟩ : ∃ m, m8 - 3 = m := ⟨_, rfl⟩
        have e2 : (m8 : Int) - 3 = (m3 : Int) := by omega
        have e3 : (L : Int) / 2 ^ m3 = ((L / 2 ^ m3 : Nat) : Int) := by simp
        obtain ⟨q, hqq⟩ : ∃ q, L / 2 ^ m3 = q := ⟨_, rfl⟩
        rw [hqq] at e3
        obtain ⟨c, hcc⟩ : ∃ c, q % 256 = c := ⟨_, rfl⟩
        have hc : c < 256 := by omega
        have e4 : IntKind.u8.wrap (q : Int) = (c : Int) := by rw [IntKind.wrap_u8]; omega
        have HC : Hid (c.toUInt8 = (8 * L / 2 ^ (8 * i) % 256).toUInt8) := by
          show _ = _
          rw [← len_low L i h1, hm8, hm3, hqq, hcc]
        have hb0 : ((i : Int) == 0) = false := by simp; omega
        have hb1 : (i : Int) ≤ 8 := by omega
        have hm3l : m3 ≤ 61 := by omega
        clear hm8 hm3 hqq hcc
        have hN : Bw.SlM (wr.alloc (.cells #[.int .u8 (c : Int)] 5)) (.slice (some ⟨wr.heap.size, 0, none⟩) 1 1) [c.toUInt8] := byte_new wr c 5 hc
        have hRA : Bw.RowB (n + 1) (wr.alloc (.cells #[.int .u8 (c : Int)] 5)) (.slice ra Lk rc) (P ++ (beB (2 * 8) (8 * L)).take k) := HRk.out.kept ((Below.refl _ _).alloc (Nat.le_refl _) _)
        have hll : (P ++ (beB (2 * 8) (8 * L)).take k).length ≤ 140737488355000 := by rw [HLk.out]; omega
        go_wp2_with (refine Bw.app_any rfl (.tmp 66) (.tmp 68) rfl (n + 1) _ _ rfl hRA _ [c.toUInt8] rfl hN (by simp only [List.length_singleton]; omega) (by rw [size_alloc]; omega) ?_; rintro v2 w2 hr2 hb2; have HR2 := (show Hid (Bw.RowB (n + 1) w2 v2 _) from hr2); have HB2 := (show Hid (Below (n + 1) W0 w2) from (HBk.out.alloc hsk _).trans hb2); have hs2 := (show n + 1 ≤ w2.heap.size from (by have := hb2.size; rw [size_alloc] at this; omega)); clear hr2 hb2 hN hRA)
        go_roundw
        case rel =>
          refine ⟨k + 1, ?_, by omega, ?_, HB2, hs2⟩
          · exact congrArg (Value.int .i64) (by omega)
          · show Bw.RowB _ _ _ _
            rw [beB_take_succ _ _ k hk8, ← List.append_assoc, show 2 * 8 - 1 - k = i by omega, ← HC.out]
            exact HR2.out
        case measure => first | (simp; done) | (simp; omega)
      · have HC0 : Hid ((0 : Nat).toUInt8 = (8 * L / 2 ^ (8 * i) % 256).toUInt8) := by
          show _ = _
          rw [← len_high L i h9 (by omega)]
        have hb0 : ((i : Int) == 0) = false := by simp; omega
        have hb1 : ¬ (i : Int) ≤ 8 := by omega
        have hN : Bw.SlM (wr.alloc (.cells #[.int .u8 0] 5)) (.slice (some ⟨wr.heap.size, 0, none⟩) 1 1) [(0 : Nat).toUInt8] := byte_new wr 0 5 (by decide)
        have hRA : Bw.RowB (n + 1) (wr.alloc (.cells #[.int .u8 0] 5)) (.slice ra Lk rc) (P ++ (beB (2 * 8) (8 * L)).take k) := HRk.out.kept ((Below.refl _ _).alloc (Nat.le_refl _) _)
        have hll : (P ++ (beB (2 * 8) (8 * L)).take k).length ≤ 140737488355000 := by rw [HLk.out]; omega
        go_wp2_with (refine Bw.app_any rfl (.tmp 66) (.tmp 68) rfl (n + 1) _ _ rfl hRA _ [(0 : Nat).toUInt8] rfl hN (by simp only [List.length_singleton]; omega) (by rw [size_alloc]; omega) ?_; rintro v2 w2 hr2 hb2; have HR2 := (show Hid (Bw.RowB (n + 1) w2 v2 _) from hr2); have HB2 := (show Hid (Below (n + 1) W0 w2) from (HBk.out.alloc hsk _).trans hb2); have hs2 := (show n + 1 ≤ w2.heap.size from (by have := hb2.size; rw [size_alloc] at this; omega)); clear hr2 hb2 hN hRA)
        go_roundw
        case rel =>
          refine ⟨k + 1, ?_, by omega, ?_, HB2, hs2⟩
          · exact congrArg (Value.int .i64) (by omega)
          · show Bw.RowB _ _ _ _
            rw [beB_take_succ _ _ k hk8, ← List.append_assoc, show 2 * 8 - 1 - k = i by omega, ← HC0.out]
            exact HR2.out
        case measure => first | (simp; done) | (simp; omega)
    · have hk9 : k = 2 * 8 := by omega
      have hneg : ¬ (0 : Int) ≤ (2 * 8 : Int) - 1 - (k : Int) := by omega
      have e0 : P ++ (beB (2 * 8) (8 * L)).take k = filled kw bs bs.length := by
        rw [hk9, List.take_of_length_le (by rw [beB_len]; exact Nat.le_refl _), ← HPd.out, HL.out]
        unfold filled
        rw [HL.out]
        rfl
      rw [e0] at HRk hlk
      obtain ⟨F, hF⟩ : ∃ F, filled kw bs bs.length = F := ⟨_, rfl⟩
      rw [hF] at HRk hlk HSum
      obtain ⟨N, hN⟩ : ∃ N, Lk / 128 = N := ⟨_, rfl⟩
      have hNB : N * 128 = Lk := by have := HPl.out.2.2; omega
      have hLkb : Lk ≤ 140737488354500 := by omega
      have hLk0 : 0 < Lk := by omega
      have HFl : Hid (F.length = Lk) := hlk
      obtain ⟨gf, cf, hvf, hcf1, hcf2, hgf1, hgf2, hfr⟩ := rowb_at HRk.out (by intro h; rw [h] at hlk; simp at hlk; omega)
      rw [hlk] at hvf hcf1
      cases hvf
      have HSum2 : Hid (sum kw bs = out kw (blks kw N (first kw) F)) := by
        show _ = _
        rw [HSum.out, hlk, show Hs.B kw = 128 from rfl, hN]
      have hb7 : wr.cell? ⟨n, 7, none⟩ = some (.slice (some ⟨B.bg, 0, none⟩) 8 8) := Below.range HBk.out HBX.out (by omega) 7 _ rfl
      have HKk : Hid (KAt wr B) := HK0.out.below HBk.out (HKl.out.mono (by omega))
      have hbgr := HKk.out.bg
      have hrn : RowU wr.heap.size wr (.slice none 0 0) [] := RowU.nil _ _
      have hfl8 : (first kw).l.length = 8 := rfl
      have HFR : Hid (wr.rangeAt gf 0 (Lib.byteCells F)) := hfr
      have HP2 : Hid (∀ v' w', RowU wr.heap.size w' v' ([] ++ (first kw).l) → wr.grownBy w' none → ∃ gv cv, v' = .slice (some ⟨gv, 0, none⟩) 8 cv ∧ wr.heap.size ≤ gv ∧ gv < w'.heap.size ∧ 8 ≤ cv ∧ cv ≤ 9223372036854775807 ∧ Below wr.heap.size wr w' ∧ w'.rangeAt gv 0 (uc (first kw).l) ∧ w'.there gv 0 8) := fun v' w' h1 h2 => by
        obtain ⟨gv, cv, e1, e2, e3, e4, e5, e6, e7⟩ := h1.at (by simp [H8.l])
        exact ⟨gv, cv, e1, e2, e3, e4, e5, grown_nil h2, e6, e7⟩
      clear HRk hlk hF hN e0 hfr hLk HSum
      go_wp2_with (refine app_at rfl (.tmp 70) (.tmp 72) rfl wr.heap.size _ [] rfl hrn B.bg 0 8 (first kw).l 8 rfl rfl hbgr (by rw [hfl8]; decide) (Nat.le_refl _) ?_; rintro v' w3 hr1 hg1 ho1; obtain ⟨hg, cv, rfl, hgv1, hgv2, hcv1, hcv2, hb1, hv1, ht1⟩ := HP2.out v' w3 hr1 hg1; have HV1 := (show Hid (V8 w3 w3 hg (first kw).l) from ⟨Wrote.of_below (Below.refl _ _) hgv2, hv1, ht1⟩); have HB3 := (show Hid (Below wr.heap.size wr w3) from hb1); clear hr1 hg1 ho1 hv1 ht1 hb1 HP2 hrn hbgr hb7)
      have hz3 := HB3.out.size
      have HF3 : Hid (w3.rangeAt gf 0 (Lib.byteCells F)) := Below.range HB3.out HFR.out hgf2
      have HBx3 : Hid (w3.rangeAt n 0 (kvc B)) := Below.range HB3.out (Below.range HBk.out HBX.out (by omega)) (by omega)
      have HK3 : Hid (KAt w3 B) := HKk.out.below HB3.out (HKl.out.mono (by omega))
      have HBW3 : Hid (Below n w w3) := HBW.out.1.trans ((HBk.out.mono (by omega)).trans (HB3.out.mono (by omega)))
      have hgfg : gf ≠ hg := by omega
      have hngh : n ≠ hg := by omega
      clear HB3 HBk HKk HFR
      rw [hk9] at *
      go_loopw [11] (fun y wr3 => ∃ q : Nat, y = .int .i64 ((q * 128 : Nat) : Int) ∧ q ≤ N ∧ Hid (V8 w3 wr3 hg (blks kw q (first kw) F).l)) (fun y _ => Lk - Bw.numOf y)
      case atStart => exact ⟨0, by simp, Nat.zero_le _, HV1⟩
      case round =>
      clear HV1
      obtain ⟨q, rfl, hq, HV⟩ := hrel
      have hz4 := HV.out.k.size
      obtain ⟨A, hA⟩ : ∃ A, q * 128 = A := ⟨_, rfl⟩
      rw [hA]
      by_cases hqN : q < N
      · have hqB : (q + 1) * 128 ≤ Lk := by rw [← hNB]; exact Nat.mul_le_mul_right _ hqN
        have hAlt : (A : Int) < (Lk : Int) := by rw [Nat.succ_mul, hA] at hqB; omega
        have hAB : A + 128 ≤ Lk := by rw [Nat.succ_mul, hA] at hqB; omega
        obtain ⟨bw, hbw⟩ : ∃ bw, wr.heap.size = bw := ⟨_, rfl⟩
        have HFq : Hid (wr.rangeAt gf 0 (Lib.byteCells F)) := HV.out.k.range HF3.out (by omega) (.inl hgfg)
        have HBq : Hid (wr.rangeAt n 0 (kvc B)) := HV.out.k.range HBx3.out (by omega) (.inl hngh)
        have HKq : Hid (KAt wr B) := HK3.out.below (HV.out.k.below (M := hg) (Nat.le_refl _) (by omega)) (HKl.out.mono (by omega))
        have HBw : Hid (wr.heap.size = bw) := hbw
        obtain ⟨seg, hseg⟩ : ∃ s, (F.drop (q * Hs.B kw)).take (Hs.B kw) = s := ⟨_, rfl⟩
        have HSG : Hid (∀ i, i < 16 → wordAt kw seg i = be ((F.drop (A + i * 8)).take 8)) := fun i hi => by
          rw [← hseg, word_at kw F q i hi, ← hA]
          rfl
        have HSM : Hid (∀ i, Small 64 (words kw seg i)) := by rw [← hseg]; exact small_words F q
        have HBK : Hid (blks kw (q + 1) (first kw) F = blk kw (blks kw q (first kw) F) seg) := by
          show _ = _
          rw [blks_add, ← hseg]
          rfl
        obtain ⟨wq, hwq⟩ : ∃ wq, wr = wq := ⟨_, rfl⟩
        have hbw2 : wq.heap.size = bw := by rw [← hwq]; exact hbw
        rw [hwq] at HV HFq HBq HKq HBw ⊢
        have HZ4 : Hid (w3.heap.size ≤ bw) := by show _ ≤ _; rw [← hbw2, ← hwq]; exact hz4
        have HA : Hid (q * 128 = A) := hA
        clear hseg hqB hA hwq hbw hz4
        go_wp2
        go_loopw [12, 13] (fun x y wr4 => ∃ i : Nat, y = .int .i64 (i : Int) ∧ i ≤ 16 ∧ Hid (RowU bw wr4 x (words kw seg i)) ∧ Hid (Below bw wq wr4) ∧ bw ≤ wr4.heap.size) (fun _ y _ => 16 - Bw.numOf y)
        case atStart => exact ⟨0, rfl, by omega, RowU.nil _ _, Below.refl _ _, by omega⟩
        case round =>
        obtain ⟨i, rfl, hi, HRW, HBI, hsi⟩ := hrel
        by_cases hi16 : i < 16
        · have hi16' : (i : Int) < 16 := by omega
          obtain ⟨si, hsi2⟩ : ∃ x, 8 * i = x := ⟨_, rfl⟩
          have e1 : (8 : Int) * (i : Int) = (si : Int) := by omega
          obtain ⟨A2, hA2⟩ : ∃ x, A + si = x := ⟨_, rfl⟩
          have e2 : (A : Int) + (si : Int) = (A2 : Int) := by omega
          have hA2b : A2 + 8 ≤ Lk := by omega
          have hws := HSG.out i hi16
          have e3 : A + i * 8 = A2 := by omega
          rw [e3] at hws
          obtain ⟨sg, hsg⟩ : ∃ x, (F.drop A2).take 8 = x := ⟨_, rfl⟩
          rw [hsg] at hws
          have hsl : sg.length = 8 := by rw [← hsg, List.length_take, List.length_drop, HFl.out]; omega
          have HSGC : Hid (∀ j, (h : j < sg.length) → wr.cell? ⟨gf, A2 + j, none⟩ = some (.int .u8 (sg[j].toNat : Int))) := fun j hj => by
            have h1 : A2 + j < F.length := by rw [HFl.out]; omega
            have h2 := cell_b (Below.range HBI.out HFq.out (by have := HBw.out; have := HZ4.out; omega)) (A2 + j) h1
            rw [h2]
            simp [← hsg]
          have HWS : Hid (wordAt kw seg i = be sg) := hws
          have HSL : Hid (sg.length = 8) := hsl
          obtain ⟨wi, hwi⟩ : ∃ wi, wr = wi := ⟨_, rfl⟩
          rw [hwi] at HRW HBI hsi HSGC ⊢
          clear hsg hws hsl e3 hsi2 hA2 hwi
          go_wp2
          go_loopw [14, 15] (fun x y wr5 => ∃ j : Nat, x = .int .u64 ((be (sg.take j) : Nat) : Int) ∧ y = .int .i64 (j : Int) ∧ j ≤ 8 ∧ wr5 = wi) (fun _ y _ => 8 - Bw.numOf y)
          case atStart => exact ⟨0, rfl, rfl, by omega, rfl⟩
          case round =>
          obtain ⟨j, rfl, rfl, hj, rfl⟩ := hrel
          by_cases hjs : j < 8
          · have hjs' : (j : Int) < 8 := by omega
            have hjl : j < sg.length := by rw [HSL.out]; exact hjs
            have hst := be_step sg j hjl
            have hbd := be_take_lt sg (j + 1)
            have hpw : 256 ^ (j + 1) ≤ 256 ^ 8 := Nat.pow_le_pow_right (by decide) (by omega)
            have hcl := HSGC.out j hjl
            have hby := sg[j].toNat_lt
            obtain ⟨A3, hA3⟩ : ∃ x, A2 + j = x := ⟨_, rfl⟩
            have e4 : (A2 : Int) + (j : Int) = (A3 : Int) := by omega
            rw [hA3] at hcl
            have hA3b : (A3 : Int) < (Lk : Int) := by omega
            obtain ⟨bj, hbj⟩ : ∃ x, sg[j].toNat = x := ⟨_, rfl⟩
            rw [hbj] at hcl hby hst
            obtain ⟨X, hX⟩ : ∃ x, be (sg.take j) = x := ⟨_, rfl⟩
            obtain ⟨Y, hY⟩ : ∃ x, be (sg.take (j + 1)) = x := ⟨_, rfl⟩
            rw [hX, hY] at hst
            rw [hY] at hbd
            have hYl : Y < 18446744073709551616 := Nat.lt_of_lt_of_le hbd (Nat.le_trans hpw (by decide))
            have w1 : IntKind.u64.wrap (256 * (X : Int)) = ((256 * X : Nat) : Int) := by rw [IntKind.wrap_u64]; omega
            obtain ⟨X2, hX2⟩ : ∃ x, 256 * X = x := ⟨_, rfl⟩
            rw [hX2] at w1 hst
            have w2 : IntKind.u64.wrap ((X2 : Int) + (bj : Int)) = (Y : Int) := by rw [IntKind.wrap_u64]; omega
            have w3' : IntKind.u64.wrap (bj : Int) = (bj : Int) := by rw [IntKind.wrap_u64]; omega
            have HY : Hid (be (sg.take (j + 1)) = Y) := hY
            rw [hX]
            clear hX hY hX2 hst hbd hpw hA3 hbj hYl
            go_wp2
            go_roundw
            case rel => exact ⟨j + 1, by rw [HY.out], by go_num, hjs, by first | trivial | rfl⟩
            case measure => simp [Bw.numOf]; omega
          · have hjs' : ¬ (j : Int) < 8 := by omega
            have hjz : sg.take j = sg := List.take_of_length_le (by rw [HSL.out]; omega)
            rw [hjz]
            obtain ⟨X, hX⟩ : ∃ x, be sg = x := ⟨_, rfl⟩
            have HX : Hid (wordAt kw seg i = X) := HWS.out.trans hX
            rw [hX]
            have hRA : RowU bw (wr.alloc (.cells #[.int .u64 (X : Int)] 47)) _ (words kw seg i) := HRW.out.kept ((Below.refl _ _).alloc (Nat.le_refl _) _)
            have hon := one_new wr X 47
            have hwl : (words kw seg i).length = i := words_len _ _ _
            clear hX hjz HSGC
            go_wp2_with (refine app_at rfl (.tmp 105) (.tmp 107) rfl bw _ (words kw seg i) rfl hRA wr.heap.size 0 1 [X] 1 rfl rfl hon (by rw [hwl]; simp only [List.length_singleton]; omega) (by rw [size_alloc]; omega) ?_; rintro v' w5 hr5 hg5 ho5; have HR5 := (show Hid (RowU bw w5 v' (words kw seg i ++ [X])) from hr5); have HB5 := (show Hid (Below bw wq w5) from (HBI.out.alloc hsi _).trans (RowU.grown hRA hg5 (by rw [size_alloc]; omega))); have hs5 := (show bw ≤ w5.heap.size from (by have := hg5.size; rw [size_alloc] at this; omega)); clear hr5 hg5 ho5 hRA hon)
            go_roundw
            case rel =>
              refine ⟨i + 1, by go_num, hi16, ?_, HB5, hs5⟩
              show RowU _ _ _ _
              rw [words_succ, HX.out]
              exact HR5.out
            case measure => simp [Bw.numOf]; omega
        · have hi16' : ¬ (i : Int) < 16 := by omega
          have hie : i = 16 := by omega
          rw [hie] at HRW
          have hKw : KAt wr B := HKq.out.below HBI.out (HKl.out.mono (by have := HZ4.out; omega))
          have hbxr : wr.rangeAt n 0 (kvc B) := Below.range HBI.out HBq.out (by have := HZ4.out; omega)
          have lH : (blks kw q (first kw) F).lt 64 := blks_lt (K := kw) q (by refine ⟨?_, ?_, ?_, ?_, ?_, ?_, ?_, ?_⟩ <;> decide)
          have hgb : hg < bw := by have := HZ4.out; omega
          have HC : Hid (∀ xv, RowU bw wr xv (words kw seg 16) → Calls Tryd.prog 38 #[kv B, .slice (some ⟨hg, 0, none⟩) 8 cv, xv] wr fun e w' => e = .returned (.tuple #[]) ∧ Wrote bw hg 0 8 wr w' ∧ w'.rangeAt hg 0 (uc (blks kw (q + 1) (first kw) F).l)) := fun xv hx => by
            rw [HBK.out]
            exact block_any B (blks kw q (first kw) F) (words kw seg 16) hg cv bw xv wr lH (words_len _ _ _) (HSM.out 16) hKw (HKl.out.mono (by have := HZ4.out; omega)) hgb hsi ⟨hcv1, hcv2⟩ (Below.range HBI.out HV.out.r hgb) (HN.there_below HBI.out HV.out.t hgb) hx
          have HVN : Hid (∀ w6, Wrote bw hg 0 8 wr w6 → w6.rangeAt hg 0 (uc (blks kw (q + 1) (first kw) F).l) → V8 w3 w6 hg (blks kw (q + 1) (first kw) F).l) := fun w6 h1 h2 =>
            ⟨(HV.out.k.trans (Wrote.of_below (HBI.out.mono HZ4.out) hgv2)).trans (h1.mono HZ4.out (Nat.le_refl _) (Nat.le_refl _)), h2, h1.there 0 8 (HN.there_below HBI.out HV.out.t hgb)⟩
          clear hKw lH
          unfold kv at HC
          go_wp2_with (first
            | (refine wpList_load_mid rfl 54 (.tmp 2) rfl n 0 rfl (kvc B) _ hbxr Tryd.underlying54 rfl info54 ?_; simp only [kvc])
            | (go_at_call 38; refine (HC.out _ HRW.out).mono ?_; rintro e w6 ⟨rfl, hk6, hr6⟩; have HV6 := (show Hid _ from HVN.out w6 hk6 hr6); clear hk6 hr6 HVN HC hbxr))
          go_roundw
          case rel =>
            refine ⟨q + 1, ?_, hqN, HV6⟩
            refine congrArg (Value.int .i64) ?_
            have := HA.out
            rw [Nat.succ_mul]
            omega
          case measure => simp [Bw.numOf]; omega
      · have hqe : q = N := by omega
        have hAL : A = Lk := by rw [← hA, hqe]; exact hNB
        have hAlt : ¬ (A : Int) < (Lk : Int) := by omega
        rw [hqe] at HV
        obtain ⟨HH, hHH⟩ : ∃ x, blks kw N (first kw) F = x := ⟨_, rfl⟩
        have lH : Hid (HH.lt 64) := by show H8.lt _ _; rw [← hHH]; exact blks_lt (K := kw) N (by refine ⟨?_, ?_, ?_, ?_, ?_, ?_, ?_, ?_⟩ <;> decide)
        rw [hHH] at HV HSum2
        have HBN : Hid (Below n w wr) := HBW3.out.trans (HV.out.k.below (by omega) (by omega))
        have HHr : Hid (wr.rangeAt hg 0 (uc HH.l) ∧ hg < wr.heap.size) := ⟨HV.out.r, by omega⟩
        obtain ⟨wN, hwN⟩ : ∃ x, wr = x := ⟨_, rfl⟩
        rw [hwN] at HBN HHr hz4 ⊢
        have hnN : n ≤ wN.heap.size := by have := HNn.out; have := HBN.out.size; omega
        obtain ⟨bo, hbo⟩ : ∃ x, wN.heap.size = x := ⟨_, rfl⟩
        have HBO : Hid (wN.heap.size = bo) := hbo
        clear HV hA hqe hHH hwN hbo
        go_wp2
        go_loopw [16, 17] (fun x y wr6 => ∃ i : Nat, y = .int .i64 (i : Int) ∧ i ≤ 8 ∧ Hid (Bw.RowB bo wr6 x ((HH.l.take i).flatMap (beB 8))) ∧ Hid (Below bo wN wr6) ∧ bo ≤ wr6.heap.size) (fun _ y _ => 8 - Bw.numOf y)
        case atStart => exact ⟨0, rfl, by omega, Bw.RowB.nil _ _, Below.refl _ _, by rw [HBO.out]; exact Nat.le_refl _⟩
        case round =>
        obtain ⟨i, rfl, hi, HRO, HBI, hsi⟩ := hrel
        have hl8 : HH.l.length = 8 := rfl
        by_cases hi8 : i < 8
        · have hi8' : (i : Int) < 8 := by omega
          obtain ⟨X, hX⟩ : ∃ x, HH.l.getD i 0 = x := ⟨_, rfl⟩
          obtain ⟨O, hO⟩ : ∃ x, (HH.l.take i).flatMap (beB 8) = x := ⟨_, rfl⟩
          have HOl : Hid (O.length ≤ 64) := by
            have h1 : ∀ l : List Nat, (l.flatMap (beB 8)).length = l.length * 8 := by
              intro l
              induction l with
              | nil => rfl
              | cons x l ih => rw [List.flatMap_cons, List.length_append, ih, beB_len, List.length_cons]; omega
            show _ ≤ _
            rw [← hO, h1, List.length_take]
            omega
          have HNO : Hid ((HH.l.take (i + 1)).flatMap (beB 8) = O ++ beB 8 X) := by
            show _ = _
            rw [List.take_succ_eq_append_getElem (by rw [hl8]; exact hi8), List.flatMap_append, hO, ← hX, List.getD_eq_getElem?_getD, List.getElem?_eq_getElem (by rw [hl8]; exact hi8)]
            simp
          rw [hO] at HRO
          have hXl : X < 18446744073709551616 := by
            have hsm : Small 64 HH.l := by
              obtain ⟨h1, h2, h3, h4, h5, h6, h7, h8⟩ := lH.out
              intro x hx
              simp only [H8.l, List.mem_cons, List.not_mem_nil, or_false] at hx
              rcases hx with rfl | rfl | rfl | rfl | rfl | rfl | rfl | rfl
              · exact h1
              · exact h2
              · exact h3
              · exact h4
              · exact h5
              · exact h6
              · exact h7
              · exact h8
            rw [← hX]
            exact lt64 (hsm.getD i)
          have HHX : Hid (∀ W, Below bo wN W → W.cell? ⟨hg, i, none⟩ = some (.int .u64 (X : Int))) := fun W hW => by
            have h1 := cell_u (Below.range hW HHr.out.1 (by have := HHr.out.2; have := HBO.out; omega)) i (by rw [hl8]; exact hi8)
            rwa [Nat.zero_add, hX] at h1
          clear hX hO hl8
          go_wp2
          go_loopw [16, 18] (fun x y wr7 => ∃ m : Nat, y = .int .i64 ((8 : Int) - 1 - (m : Int)) ∧ m ≤ 8 ∧ Hid (Bw.RowB bo wr7 x (O ++ (beB 8 X).take m)) ∧ Hid (Below bo wN wr7) ∧ bo ≤ wr7.heap.size) (fun _ y _ => match y with | .int _ z => (z + 1).toNat | _ => 0)
          case atStart => exact ⟨0, rfl, by omega, by rw [List.take_zero, List.append_nil]; exact HRO, HBI, hsi⟩
          case round =>
          clear HRO HBI hsi
          obtain ⟨m, rfl, hm', HRO, HBI, hsi⟩ := hrel
          by_cases hms : m < 8
          · obtain ⟨j, hj⟩ : ∃ j, 8 - 1 - m = j := ⟨_, rfl⟩
            have hji : (8 : Int) - 1 - (m : Int) = (j : Int) := by omega
            rw [hji]
            have hj0 : (0 : Int) ≤ (j : Int) := by omega
            obtain ⟨m8, hm8⟩ : ∃ m, 8 * j = m := ⟨_, rfl⟩
            have e1 : (8 : Int) * (j : Int) = (m8 : Int) := by omega
            have hm8l : m8 ≤ 56 := by omega
            have e3 : (X : Int) / 2 ^ m8 = ((X / 2 ^ m8 : Nat) : Int) := by simp
            obtain ⟨qq, hqq⟩ : ∃ q, X / 2 ^ m8 = q := ⟨_, rfl⟩
            rw [hqq] at e3
            obtain ⟨c, hcc⟩ : ∃ c, qq % 256 = c := ⟨_, rfl⟩
            have hc : c < 256 := by omega
            have e4 : IntKind.u8.wrap (qq : Int) = (c : Int) := by rw [IntKind.wrap_u8]; omega
            have HC : Hid ((beB 8 X).take (m + 1) = (beB 8 X).take m ++ [c.toUInt8]) := by
              show _ = _
              rw [beB_take_succ _ _ m hms, hj, hm8, hqq, hcc]
            have hcl := HHX.out wr HBI.out
            have hol : (O ++ (beB 8 X).take m).length ≤ 100 := by rw [List.length_append, List.length_take, beB_len]; have := HOl.out; omega
            obtain ⟨Om, hOm⟩ : ∃ x, O ++ (beB 8 X).take m = x := ⟨_, rfl⟩
            have HOm : Hid (O ++ (beB 8 X).take m = Om) := hOm
            rw [hOm] at HRO hol
            have hN : Bw.SlM (wr.alloc (.cells #[.int .u8 (c : Int)] 5)) (.slice (some ⟨wr.heap.size, 0, none⟩) 1 1) [c.toUInt8] := byte_new wr c 5 hc
            have hRA : Bw.RowB bo (wr.alloc (.cells #[.int .u8 (c : Int)] 5)) _ Om := HRO.out.kept ((Below.refl _ _).alloc (Nat.le_refl _) _)
            clear hm8 hqq hcc hji hOm
            go_wp2_with (refine Bw.app_any rfl (.tmp 123) (.tmp 132) rfl bo _ Om rfl hRA _ [c.toUInt8] rfl hN (by simp only [List.length_singleton]; omega) (by rw [size_alloc]; omega) ?_; rintro v2 w2 hr2 hb2; have HR2 := (show Hid (Bw.RowB bo w2 v2 (Om ++ [c.toUInt8])) from hr2); have HB2 := (show Hid (Below bo wN w2) from (HBI.out.alloc hsi _).trans hb2); have hs2 := (show bo ≤ w2.heap.size from (by have := hb2.size; rw [size_alloc] at this; omega)); clear hr2 hb2 hN hRA)
            go_roundw
            case rel =>
              refine ⟨m + 1, ?_, hms, ?_, HB2, hs2⟩
              · exact congrArg (Value.int .i64) (by omega)
              · show Bw.RowB _ _ _ _
                rw [HC.out, ← List.append_assoc, HOm.out]
                exact HR2.out
            case measure => first | (simp; done) | (simp; omega)
          · have hmz : m = 8 := by omega
            have hneg : ¬ (0 : Int) ≤ (8 : Int) - 1 - (m : Int) := by omega
            have hfull : (beB 8 X).take m = beB 8 X := List.take_of_length_le (by rw [beB_len]; omega)
            rw [hfull] at HRO
            rw [← HNO.out] at HRO
            clear hfull
            go_wp2
            go_roundw
            case rel => exact ⟨i + 1, by go_num, hi8, HRO, HBI, hsi⟩
            case measure => simp [Bw.numOf]; omega
        · have hi8' : ¬ (i : Int) < 8 := by omega
          have hfull : HH.l.take i = HH.l := List.take_of_length_le (by rw [hl8]; omega)
          rw [hfull] at HRO
          have HEnd : Hid (sum kw bs = HH.l.flatMap (beB 8)) := HSum2.out
          clear hfull hl8
          go_wp2
          go_ret
          refine ⟨_, rfl, ?_, ?_⟩
          · rw [HEnd.out, HNn.out]
            exact HRO.out.mono (by have := HBO.out; omega)
          · rw [HNn.out]
            exact HBN.out.trans (HBI.out.mono (by have := HBO.out; omega))
end RW
end Go.Proofs.YtfmkkjnmadaplaaDoor
