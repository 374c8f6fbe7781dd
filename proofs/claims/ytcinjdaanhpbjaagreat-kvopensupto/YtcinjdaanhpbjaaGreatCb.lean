/- Numbers in four bytes, and frames: plain mathematics, and what appendNumber, numberOf, Frame and the reference's four, number, Frame do, by walking their texts. -/
import Derived.Test.YtcinjdaanhpbjaaGreatCa
import Derived.Test.YtcinjdaanhpbjaaGreatXad
import Derived.Test.YtcinjdaanhpbjaaGreatRgl
namespace Go.Proofs.YtcinjdaanhpbjaaGreat
open Go.RowKit
namespace Wl
open Bw Rg

/-- A number's bytes. -/
def le4 (n : Nat) : List UInt8 := [n.toUInt8, (n / 256).toUInt8, (n / 65536).toUInt8, (n / 16777216).toUInt8]
theorem le4_len (n : Nat) : (le4 n).length = 4 := rfl
/-- A byte of a list, as a number. -/
def by' (bs : List UInt8) (i : Nat) : Nat := (bs.getD i 0).toNat
theorem by_lt (bs : List UInt8) (i : Nat) : by' bs i < 256 := (bs.getD i 0).toNat_lt
theorem by_at {bs : List UInt8} {i : Nat} (h : i < bs.length) : by' bs i = (bs[i]).toNat := by
  unfold by'
  rw [List.getD_eq_getElem?_getD, List.getElem?_eq_getElem h]
  rfl
/-- The number of the first four bytes. -/
def num (bs : List UInt8) : Nat := by' bs 0 + 256 * by' bs 1 + 65536 * by' bs 2 + 16777216 * by' bs 3
theorem num_lt (bs : List UInt8) : num bs < 4294967296 := by
  have h0 := by_lt bs 0
  have h1 := by_lt bs 1
  have h2 := by_lt bs 2
  have h3 := by_lt bs 3
  unfold num
  omega
theorem u8n (k : Nat) : (k.toUInt8).toNat = k % 256 := by
  rw [Nat.toUInt8_eq, UInt8.toNat_ofNat']
theorem num_le4 (n : Nat) (h : n < 4294967296) (xs : List UInt8) : num (le4 n ++ xs) = n := by
  have e0 : by' (le4 n ++ xs) 0 = n % 256 := u8n n
  have e1 : by' (le4 n ++ xs) 1 = n / 256 % 256 := u8n _
  have e2 : by' (le4 n ++ xs) 2 = n / 65536 % 256 := u8n _
  have e3 : by' (le4 n ++ xs) 3 = n / 16777216 % 256 := u8n _
  unfold num
  rw [e0, e1, e2, e3]
  omega
theorem le4_num (bs : List UInt8) (h : 4 ≤ bs.length) : le4 (num bs) = bs.take 4 := by
  match bs, h with
  | a :: b :: c :: d :: r, _ =>
    have ha := a.toNat_lt
    have hb := b.toNat_lt
    have hc := c.toNat_lt
    have hd := d.toNat_lt
    have e : num (a :: b :: c :: d :: r) = a.toNat + 256 * b.toNat + 65536 * c.toNat + 16777216 * d.toNat := rfl
    have q : ∀ (n : Nat) (x : UInt8), n % 256 = x.toNat → n.toUInt8 = x := fun n x hx => UInt8.toNat_inj.1 (by rw [u8n, hx])
    show le4 _ = [a, b, c, d]
    unfold le4
    rw [e, q _ a (by omega), q _ b (by omega), q _ c (by omega), q _ d (by omega)]
/-- A record's frame. -/
def frame (bs : List UInt8) : List UInt8 := le4 bs.length ++ le4 (chk (le4 bs.length ++ bs)) ++ bs
theorem frame_len (bs : List UInt8) : (frame bs).length = 8 + bs.length := by
  simp only [frame, List.length_append, le4_len]

theorem lit4 (w : World) (n : Nat) : SlM (w.alloc (.cells #[.int .u8 ((n.toUInt8).toNat : Int), .int .u8 (((n / 256).toUInt8).toNat : Int), .int .u8 (((n / 65536).toUInt8).toNat : Int), .int .u8 (((n / 16777216).toUInt8).toNat : Int)] 5)) (.slice (some ⟨w.heap.size, 0, none⟩) 4 4) (le4 n) :=
  Dk.lit_slm w (le4 n) (by rw [le4_len]; decide) (by rw [le4_len]; decide)
theorem wrap8 (n : Nat) : IntKind.u8.wrap (n : Int) = ((n.toUInt8).toNat : Int) := by
  rw [u8n, IntKind.wrap_u8]
  omega
theorem lit4_row (w : World) (n : Nat) (base : Nat) (hb : base ≤ w.heap.size) : RowB base (w.alloc (.cells #[.int .u8 ((n.toUInt8).toNat : Int), .int .u8 (((n / 256).toUInt8).toNat : Int), .int .u8 (((n / 65536).toUInt8).toNat : Int), .int .u8 (((n / 16777216).toUInt8).toNat : Int)] 5)) (.slice (some ⟨w.heap.size, 0, none⟩) 4 4) (le4 n) := by
  refine ⟨by rw [Lib.byteCells_length, Nat.mul_one], .inr ⟨w.heap.size, 4, _, rfl, hb, heap_alloc_new _ _, by rw [le4_len]; decide, by decide, rfl, rfl⟩⟩
theorem appNum_any (base : Nat) (v : Value) (xs : List UInt8) (n : Nat) (w : World) (hrow : RowB base w v xs) (hlen : xs.length ≤ 1099511627776) (hbase : base ≤ w.heap.size) :
    Calls Tryz.prog 70 #[v, .int .u32 (n : Int)] w fun e w' => ∃ v', e = .returned v' ∧ RowB base w' v' (xs ++ le4 n) ∧ Below base w w' := by
  have hlit := lit4 w n
  have w0 := wrap8 n
  have w1 : IntKind.u8.wrap ((n : Int) / 256) = _ := wrap8 (n / 256)
  have w2 : IntKind.u8.wrap ((n : Int) / 65536) = _ := wrap8 (n / 65536)
  have w3 : IntKind.u8.wrap ((n : Int) / 16777216) = _ := wrap8 (n / 16777216)
  obtain ⟨x0, h0⟩ : ∃ x, (n.toUInt8).toNat = x := ⟨_, rfl⟩
  obtain ⟨x1, h1⟩ : ∃ x, ((n / 256).toUInt8).toNat = x := ⟨_, rfl⟩
  obtain ⟨x2, h2⟩ : ∃ x, ((n / 65536).toUInt8).toNat = x := ⟨_, rfl⟩
  obtain ⟨x3, h3⟩ : ∃ x, ((n / 16777216).toUInt8).toNat = x := ⟨_, rfl⟩
  rw [h0, h1, h2, h3] at hlit
  rw [h0] at w0
  rw [h1] at w1
  rw [h2] at w2
  rw [h3] at w3
  have HL : Hid (SlM (w.alloc (.cells #[.int .u8 (x0 : Int), .int .u8 (x1 : Int), .int .u8 (x2 : Int), .int .u8 (x3 : Int)] 5)) (.slice (some ⟨w.heap.size, 0, none⟩) 4 4) (le4 n)) := hlit
  have hba : Below w.heap.size w (w.alloc (.cells #[.int .u8 (x0 : Int), .int .u8 (x1 : Int), .int .u8 (x2 : Int), .int .u8 (x3 : Int)] 5)) := (Below.refl _ _).alloc (Nat.le_refl _) _
  have HB : Hid (Below base w (w.alloc (.cells #[.int .u8 (x0 : Int), .int .u8 (x1 : Int), .int .u8 (x2 : Int), .int .u8 (x3 : Int)] 5))) := hba.mono hbase
  have HR : Hid (RowB base (w.alloc (.cells #[.int .u8 (x0 : Int), .int .u8 (x1 : Int), .int .u8 (x2 : Int), .int .u8 (x3 : Int)] 5)) v xs) := hrow.kept hba
  have HS : Hid (base ≤ (w.alloc (.cells #[.int .u8 (x0 : Int), .int .u8 (x1 : Int), .int .u8 (x2 : Int), .int .u8 (x3 : Int)] 5)).heap.size) := by show _ ≤ _; simp; omega
  have HG : Hid (xs.length + (le4 n).length ≤ 140737488355328) := by show _ ≤ _; rw [le4_len]; omega
  clear hlit h0 h1 h2 h3 hba hrow hbase hlen
  go_enter Tryz.func70, Tryz.ntmps70
  go_wp2_with (refine app_any rfl (.tmp 5) (.tmp 17) rfl base v xs rfl HR.out _ (le4 n) rfl HL.out HG.out HS.out ?_; rintro v' w5 hr5 hb5; have HR5 := (show Hid (RowB base w5 v' (xs ++ le4 n)) from hr5); have HB5 := (show Hid (Below base w w5) from HB.out.trans hb5); clear hr5 hb5)
  go_ret
  exact ⟨_, rfl, HR5.out, HB5.out⟩
theorem or_hi (A y i M : Nat) (hM : 2 ^ i = M) (hA : A < M) (hy : M * y < 4294967296) (hM2 : M < 4294967296) : bits .or .u32 (A : Int) ((y : Int) * (M : Int)) = ((A + M * y : Nat) : Int) := by
  have h1 : (y : Int) * (M : Int) = ((M * y : Nat) : Int) := by rw [Int.natCast_mul, Int.mul_comm]
  rw [h1, u32_or_nat _ _ (by omega) hy]
  subst hM
  have := Nat.shiftLeft_add_eq_or_of_lt (i := i) (b := A) hA y
  rw [Nat.shiftLeft_eq, Nat.mul_comm y] at this
  rw [Nat.or_comm, ← this, Nat.add_comm]
set_option maxHeartbeats 1000000 in
theorem numberOf_any (v : Value) (bs : List UInt8) (w : World) (hv : SlM w v bs) (h4 : 4 ≤ bs.length) (hl : bs.length ≤ 140737488355328) :
    Calls Tryz.prog 113 #[v] w fun e w' => e = .returned (.int .u32 (num bs : Int)) ∧ Below w.heap.size w w' := by
  rcases hv.cases with ⟨rfl, _⟩ | ⟨b, off, cap, rfl, hle, hcap, hcell⟩
  · simp at h4
  have hb : b < w.heap.size := cell_lt (hcell 0 (by omega))
  have r0 := hcell 0 (by omega)
  have r1 := hcell 1 (by omega)
  have r2 := hcell 2 (by omega)
  have r3 := hcell 3 (by omega)
  rw [← by_at (bs := bs)] at r0 r1 r2 r3
  have g0 := by_lt bs 0
  have g1 := by_lt bs 1
  have g2 := by_lt bs 2
  have g3 := by_lt bs 3
  unfold num
  obtain ⟨y0, e0⟩ : ∃ y, by' bs 0 = y := ⟨_, rfl⟩
  obtain ⟨y1, e1⟩ : ∃ y, by' bs 1 = y := ⟨_, rfl⟩
  obtain ⟨y2, e2⟩ : ∃ y, by' bs 2 = y := ⟨_, rfl⟩
  obtain ⟨y3, e3⟩ : ∃ y, by' bs 3 = y := ⟨_, rfl⟩
  rw [e0] at r0 g0
  rw [e1] at r1 g1
  rw [e2] at r2 g2
  rw [e3] at r3 g3
  rw [e0, e1, e2, e3]
  rw [Nat.add_zero] at r0
  obtain ⟨n, hn⟩ : ∃ n, bs.length = n := ⟨_, rfl⟩
  rw [hn] at h4 hl hle ⊢
  clear e0 e1 e2 e3 hn hcell hv
  have q0 : ∀ x : Cl w.heap.size w, x.u.cell? ⟨b, off, none⟩ = some (.int .u8 (y0 : Int)) := fun x => x.cell r0 hb
  have q1 : ∀ x : Cl w.heap.size w, x.u.cell? ⟨b, off + 1, none⟩ = some (.int .u8 (y1 : Int)) := fun x => x.cell r1 hb
  have q2 : ∀ x : Cl w.heap.size w, x.u.cell? ⟨b, off + 2, none⟩ = some (.int .u8 (y2 : Int)) := fun x => x.cell r2 hb
  have q3 : ∀ x : Cl w.heap.size w, x.u.cell? ⟨b, off + 3, none⟩ = some (.int .u8 (y3 : Int)) := fun x => x.cell r3 hb
  have hne := Cl.ne w.heap.size w
  clear r0 r1 r2 r3
  have p0 : (0 : Int) < (n : Int) := by omega
  have p1 : (1 : Int) < (n : Int) := by omega
  have p2 : (2 : Int) < (n : Int) := by omega
  have p3 : (3 : Int) < (n : Int) := by omega
  obtain ⟨v1, hv1⟩ : ∃ v, y0 + 256 * y1 = v := ⟨_, rfl⟩
  have f1 : bits .or .u32 (y0 : Int) ((y1 : Int) * 256) = ((y0 + 256 * y1 : Nat) : Int) := or_hi y0 y1 8 256 (by decide) (by omega) (by omega) (by decide)
  rw [hv1] at f1
  obtain ⟨v2, hv2⟩ : ∃ v, v1 + 65536 * y2 = v := ⟨_, rfl⟩
  have f2 : bits .or .u32 (v1 : Int) ((y2 : Int) * 65536) = ((v1 + 65536 * y2 : Nat) : Int) := or_hi v1 y2 16 65536 (by decide) (by omega) (by omega) (by decide)
  rw [hv2] at f2
  obtain ⟨v3, hv3⟩ : ∃ v, v2 + 16777216 * y3 = v := ⟨_, rfl⟩
  have f3 : bits .or .u32 (v2 : Int) ((y3 : Int) * 16777216) = ((v2 + 16777216 * y3 : Nat) : Int) := or_hi v2 y3 24 16777216 (by decide) (by omega) (by omega) (by decide)
  rw [hv3] at f3
  have hval : y0 + 256 * y1 + 65536 * y2 + 16777216 * y3 = v3 := by omega
  rw [hval]
  clear hval hv1 hv2 hv3
  go_enter Tryz.func113, Tryz.ntmps113
  go_wp2
  refine region_cl (N := w.heap.size) (W := w) (by kernel_rfl) (by kernel_rfl) (Below.refl _ _) ?_
  repeat (go_big_quiet_step (fail))
  refine wpQuiet_nil ?_
  rintro _ ⟨x, rfl⟩
  have hx := x.h
  go_wp2
  go_ret
  exact ⟨rfl, hx⟩
set_option maxHeartbeats 1000000 in
/-- The reference's number. -/
theorem number_any (v : Value) (bs : List UInt8) (w : World) (hv : SlM w v bs) (h4 : 4 ≤ bs.length) (hl : bs.length ≤ 140737488355328) :
    Calls Tryz.prog 86 #[v] w fun e w' => e = .returned (.int .i64 (num bs : Int)) ∧ Below w.heap.size w w' := by
  rcases hv.cases with ⟨rfl, _⟩ | ⟨b, off, cap, rfl, hle, hcap, hcell⟩
  · simp at h4
  have hb : b < w.heap.size := cell_lt (hcell 0 (by omega))
  have r0 := hcell 0 (by omega)
  have r1 := hcell 1 (by omega)
  have r2 := hcell 2 (by omega)
  have r3 := hcell 3 (by omega)
  rw [← by_at (bs := bs)] at r0 r1 r2 r3
  have g0 := by_lt bs 0
  have g1 := by_lt bs 1
  have g2 := by_lt bs 2
  have g3 := by_lt bs 3
  unfold num
  obtain ⟨y0, e0⟩ : ∃ y, by' bs 0 = y := ⟨_, rfl⟩
  obtain ⟨y1, e1⟩ : ∃ y, by' bs 1 = y := ⟨_, rfl⟩
  obtain ⟨y2, e2⟩ : ∃ y, by' bs 2 = y := ⟨_, rfl⟩
  obtain ⟨y3, e3⟩ : ∃ y, by' bs 3 = y := ⟨_, rfl⟩
  rw [e0] at r0 g0
  rw [e1] at r1 g1
  rw [e2] at r2 g2
  rw [e3] at r3 g3
  rw [e0, e1, e2, e3]
  rw [Nat.add_zero] at r0
  obtain ⟨n, hn⟩ : ∃ n, bs.length = n := ⟨_, rfl⟩
  rw [hn] at h4 hl hle ⊢
  clear e0 e1 e2 e3 hn hcell hv
  have q0 : ∀ x : Cl w.heap.size w, x.u.cell? ⟨b, off, none⟩ = some (.int .u8 (y0 : Int)) := fun x => x.cell r0 hb
  have q1 : ∀ x : Cl w.heap.size w, x.u.cell? ⟨b, off + 1, none⟩ = some (.int .u8 (y1 : Int)) := fun x => x.cell r1 hb
  have q2 : ∀ x : Cl w.heap.size w, x.u.cell? ⟨b, off + 2, none⟩ = some (.int .u8 (y2 : Int)) := fun x => x.cell r2 hb
  have q3 : ∀ x : Cl w.heap.size w, x.u.cell? ⟨b, off + 3, none⟩ = some (.int .u8 (y3 : Int)) := fun x => x.cell r3 hb
  have hne := Cl.ne w.heap.size w
  clear r0 r1 r2 r3
  have p0 : (0 : Int) < (n : Int) := by omega
  have p1 : (1 : Int) < (n : Int) := by omega
  have p2 : (2 : Int) < (n : Int) := by omega
  have p3 : (3 : Int) < (n : Int) := by omega
  go_enter Tryz.func86, Tryz.ntmps86
  go_wp2
  refine region_cl (N := w.heap.size) (W := w) (by kernel_rfl) (by kernel_rfl) (Below.refl _ _) ?_
  repeat (go_big_quiet_step (fail))
  refine wpQuiet_nil ?_
  rintro _ ⟨x, rfl⟩
  have hx := x.h
  go_wp2
  go_ret
  exact ⟨rfl, hx⟩
/-- The reference's four. -/
theorem four_any (n : Nat) (w : World) (hn : n < 4294967296) : Calls Tryz.prog 49 #[.int .u32 (n : Int)] w fun e w' => ∃ v', e = .returned v' ∧ RowB w.heap.size w' v' (le4 n) ∧ Below w.heap.size w w' := by
  have hrow := lit4_row w n w.heap.size (Nat.le_refl _)
  have m0 : Int.tmod (n : Int) 256 = ((n % 256 : Nat) : Int) := rfl
  have w0 := wrap8 (n % 256)
  rw [show (n % 256).toUInt8 = n.toUInt8 from UInt8.toNat_inj.1 (by rw [u8n, u8n, Nat.mod_mod])] at w0
  have d1 : Int.tdiv (n : Int) 256 = ((n / 256 : Nat) : Int) := rfl
  have m1 : Int.tmod ((n / 256 : Nat) : Int) 256 = ((n / 256 % 256 : Nat) : Int) := rfl
  have w1 := wrap8 (n / 256 % 256)
  rw [show (n / 256 % 256).toUInt8 = (n / 256).toUInt8 from UInt8.toNat_inj.1 (by rw [u8n, u8n, Nat.mod_mod])] at w1
  have d2 : Int.tdiv (n : Int) 65536 = ((n / 65536 : Nat) : Int) := rfl
  have m2 : Int.tmod ((n / 65536 : Nat) : Int) 256 = ((n / 65536 % 256 : Nat) : Int) := rfl
  have w2 := wrap8 (n / 65536 % 256)
  rw [show (n / 65536 % 256).toUInt8 = (n / 65536).toUInt8 from UInt8.toNat_inj.1 (by rw [u8n, u8n, Nat.mod_mod])] at w2
  have d3 : Int.tdiv (n : Int) 16777216 = ((n / 16777216 : Nat) : Int) := rfl
  have w3 := wrap8 (n / 16777216)
  obtain ⟨x0, h0⟩ : ∃ x, (n.toUInt8).toNat = x := ⟨_, rfl⟩
  obtain ⟨x1, h1⟩ : ∃ x, ((n / 256).toUInt8).toNat = x := ⟨_, rfl⟩
  obtain ⟨x2, h2⟩ : ∃ x, ((n / 65536).toUInt8).toNat = x := ⟨_, rfl⟩
  obtain ⟨x3, h3⟩ : ∃ x, ((n / 16777216).toUInt8).toNat = x := ⟨_, rfl⟩
  rw [h0, h1, h2, h3] at hrow
  rw [h0] at w0
  rw [h1] at w1
  rw [h2] at w2
  rw [h3] at w3
  obtain ⟨a0, k0⟩ : ∃ x, n % 256 = x := ⟨_, rfl⟩
  obtain ⟨b1, j1⟩ : ∃ x, n / 256 = x := ⟨_, rfl⟩
  obtain ⟨b2, j2⟩ : ∃ x, n / 65536 = x := ⟨_, rfl⟩
  obtain ⟨b3, j3⟩ : ∃ x, n / 16777216 = x := ⟨_, rfl⟩
  have l1 : b1 < 4294967296 := by omega
  have l2 : b2 < 4294967296 := by omega
  have l3 : b3 < 4294967296 := by omega
  rw [k0] at m0 w0
  rw [j1] at d1 m1 w1
  rw [j2] at d2 m2 w2
  rw [j3] at d3 w3
  obtain ⟨a1, k1⟩ : ∃ x, b1 % 256 = x := ⟨_, rfl⟩
  obtain ⟨a2, k2⟩ : ∃ x, b2 % 256 = x := ⟨_, rfl⟩
  have p0 : a0 < 256 := by omega
  have p1 : a1 < 256 := by omega
  have p2 : a2 < 256 := by omega
  rw [k1] at m1 w1
  rw [k2] at m2 w2
  have HR : Hid (RowB w.heap.size (w.alloc (.cells #[.int .u8 (x0 : Int), .int .u8 (x1 : Int), .int .u8 (x2 : Int), .int .u8 (x3 : Int)] 5)) (.slice (some ⟨w.heap.size, 0, none⟩) 4 4) (le4 n)) := hrow
  clear hrow h0 h1 h2 h3 k0 k1 k2 j1 j2 j3
  go_enter Tryz.func49, Tryz.ntmps49
  go_wp2
  go_ret
  exact ⟨_, rfl, HR.out, (Below.refl _ _).alloc (Nat.le_refl _) _⟩
theorem frame_long (v : Value) (bs : List UInt8) (w : World) (hv : SlM w v bs) (h : 2097152 < bs.length) : Calls Tryz.prog 42 #[v] w fun e w' => e = .returned (.tuple #[.slice none 0 0, Dk.code 2]) ∧ w' = w := by
  obtain ⟨a, c, rfl⟩ := hv.sl.form
  have h' : (2097152 : Int) < (bs.length : Int) := by omega
  clear hv
  go_enter Tryz.func42, Tryz.ntmps42
  go_wp2
  go_ret2
  exact ⟨rfl, rfl⟩
set_option maxHeartbeats 1000000 in
theorem frame_ok (v : Value) (bs : List UInt8) (w : World) (hv : SlM w v bs) (h : bs.length ≤ 2097152) : Calls Tryz.prog 42 #[v] w fun e w' => ∃ v', e = .returned (.tuple #[v', .nilIface]) ∧ RowB w.heap.size w' v' (frame bs) ∧ Below w.heap.size w w' := by
  obtain ⟨a, c, hvf⟩ := hv.sl.form
  have HV : Hid (SlM w v bs) := hv
  clear hv
  have HF : Hid (frame bs = le4 bs.length ++ le4 (chk (le4 bs.length ++ bs)) ++ bs) := rfl
  obtain ⟨n, hn⟩ : ∃ n, bs.length = n := ⟨_, rfl⟩
  rw [hn] at hvf h HF
  have HN : Hid (bs.length = n) := hn
  clear hn
  subst hvf
  have h' : ¬ (2097152 : Int) < (n : Int) := by omega
  have hw : IntKind.u32.wrap (n : Int) = (n : Int) := by rw [IntKind.wrap_u32]; omega
  obtain ⟨m, hm⟩ : ∃ m, 8 + n = m := ⟨_, rfl⟩
  have hadd : IntKind.i64.wrap (8 + (n : Int)) = (m : Int) := by rw [IntKind.wrap_i64]; omega
  obtain ⟨M, hmk, hro⟩ := made w.heap.size w m (by omega) (Nat.le_refl _)
  have hba : Below w.heap.size w (w.alloc (.cells M 5)) := (Below.refl _ _).alloc (Nat.le_refl _) _
  have HRO : Hid (RowB w.heap.size (w.alloc (.cells M 5)) (.slice (some ⟨w.heap.size, 0, none⟩) 0 m) []) := hro
  have HBA : Hid (Below w.heap.size w (w.alloc (.cells M 5))) := hba
  have hcl := chk_lt (le4 n ++ bs)
  obtain ⟨C, hC⟩ : ∃ C, chk (le4 n ++ bs) = C := ⟨_, rfl⟩
  rw [hC] at hcl HF
  have HC : Hid (chk (le4 n ++ bs) = C) := hC
  clear hC hro hba hm
  go_enter Tryz.func42, Tryz.ntmps42
  go_wp2_with first
    | (go_at_call 70; have hq := HRO; clear hq; refine (appNum_any w.heap.size _ [] n _ HRO.out (by simp) HBA.out.size).mono ?_; rintro e w1 ⟨v1, rfl, hr1, hb1⟩; rw [List.nil_append] at hr1; have HR1 := (show Hid (RowB w.heap.size w1 v1 (le4 n)) from hr1); have HB1 := (show Hid (Below w.heap.size w w1) from HBA.out.trans hb1); clear hr1 hb1 HRO HBA hmk)
    | (go_at_call 71; refine (checkOf_any v1 _ (le4 n) bs w1 HR1.out.slm (HV.out.below HB1.out (Nat.le_refl _)) (by rw [le4_len]; decide) (by rw [HN.out]; omega)).mono ?_; rw [HC.out]; rintro e w2 ⟨rfl, rfl⟩; have HD : Hid True := trivial)
    | (go_at_call 70; have hq := HD; clear hq; refine (appNum_any w.heap.size _ (le4 n) C _ HR1.out (by rw [le4_len]; decide) HB1.out.size).mono ?_; rintro e w3 ⟨v3, rfl, hr3, hb3⟩; have HR3 := (show Hid (RowB w.heap.size w3 v3 (le4 n ++ le4 C)) from hr3); have HB3 := (show Hid (Below w.heap.size w w3) from HB1.out.trans hb3); clear hr3 hb3 HD)
    | (have hq := HR3; clear hq; refine app_any rfl (.tmp 23) (.tmp 24) rfl w.heap.size v3 _ rfl HR3.out _ bs rfl (HV.out.below HB3.out (Nat.le_refl _)) (by rw [List.length_append, le4_len, le4_len, HN.out]; omega) HB3.out.size ?_; rintro v4 w4 hr4 hb4; have HR4 := (show Hid (RowB w.heap.size w4 v4 (le4 n ++ le4 C ++ bs)) from hr4); have HB4 := (show Hid (Below w.heap.size w w4) from HB3.out.trans hb4); clear hr4 hb4)
  go_ret2
  exact ⟨_, rfl, HF.out ▸ HR4.out, HB4.out⟩
theorem rframe_long (v : Value) (bs : List UInt8) (w : World) (hv : SlM w v bs) (h : 2097152 < bs.length) : Calls Tryz.prog 17 #[v] w fun e w' => e = .returned (.tuple #[.slice none 0 0, .int .i64 2]) ∧ w' = w := by
  obtain ⟨a, c, rfl⟩ := hv.sl.form
  have h' : (2097152 : Int) < (bs.length : Int) := by omega
  clear hv
  go_enter Tryz.func17, Tryz.ntmps17
  go_wp2
  go_ret2
  exact ⟨rfl, rfl⟩
set_option maxHeartbeats 1000000 in
theorem rframe_ok (v : Value) (bs : List UInt8) (w : World) (hv : SlM w v bs) (h : bs.length ≤ 2097152) : Calls Tryz.prog 17 #[v] w fun e w' => ∃ v', e = .returned (.tuple #[v', .int .i64 0]) ∧ RowB w.heap.size w' v' (frame bs) ∧ Below w.heap.size w w' := by
  obtain ⟨a, c, hvf⟩ := hv.sl.form
  have HV : Hid (SlM w v bs) := hv
  clear hv
  have HF : Hid (frame bs = le4 bs.length ++ le4 (chk (le4 bs.length ++ bs)) ++ bs) := rfl
  obtain ⟨n, hn⟩ : ∃ n, bs.length = n := ⟨_, rfl⟩
  rw [hn] at hvf h HF
  have HN : Hid (bs.length = n) := hn
  clear hn
  subst hvf
  have h' : ¬ (2097152 : Int) < (n : Int) := by omega
  have hw : IntKind.u32.wrap (n : Int) = (n : Int) := by rw [IntKind.wrap_u32]; omega
  have hcl := chk_lt (le4 n ++ bs)
  obtain ⟨C, hC⟩ : ∃ C, chk (le4 n ++ bs) = C := ⟨_, rfl⟩
  rw [hC] at hcl HF
  have HC : Hid (chk (le4 n ++ bs) = C) := hC
  have HA : Hid True := trivial
  clear hC
  go_enter Tryz.func17, Tryz.ntmps17
  go_wp2_with first
    | (go_at_call 49; have hq := HA; clear hq; refine (four_any n _ (by omega)).mono ?_; rintro e w1 ⟨v1, rfl, hr1, hb1⟩; have HS1 := (show Hid (SlM w1 v1 (le4 n)) from hr1.slm); have HB1 := (show Hid (Below w.heap.size w w1) from hb1); have HE1 := (show Hid True from trivial); clear hr1 hb1 HA)
    | (have hq := HE1; clear hq; refine app_any rfl (.tmp 14) (.tmp 15) rfl w1.heap.size (.slice none 0 0) [] rfl (RowB.nil _ _) _ (le4 n) rfl HS1.out (by rw [le4_len]; decide) (Nat.le_refl _) ?_; rintro v2 w2 hr2 hb2; have HR2 := (show Hid (RowB w1.heap.size w2 v2 (le4 n)) from hr2); have HB2 := (show Hid (Below w1.heap.size w1 w2) from hb2); clear hr2 hb2 HE1)
    | (have hq := HR2; clear hq; refine app_any rfl (.tmp 17) (.tmp 18) rfl w1.heap.size v2 (le4 n) rfl HR2.out _ bs rfl (HV.out.below (HB1.out.trans (HB2.out.mono HB1.out.size)) (Nat.le_refl _)) (by rw [le4_len, HN.out]; omega) HB2.out.size ?_; rintro v3 w3 hr3 hb3; have HR3 := (show Hid (RowB w1.heap.size w3 v3 (le4 n ++ bs)) from hr3); have HB3 := (show Hid (Below w1.heap.size w1 w3) from HB2.out.trans hb3); have HE3 := (show Hid True from trivial); clear hr3 hb3 HR2 HB2)
    | (have hq := HE3; clear hq; refine app_any rfl (.tmp 20) (.tmp 21) rfl w3.heap.size (.slice none 0 0) [] rfl (RowB.nil _ _) _ (le4 n) rfl (HS1.out.below HB3.out (Nat.le_refl _)) (by rw [le4_len]; decide) (Nat.le_refl _) ?_; rintro v4 w4 hr4 hb4; have HR4 := (show Hid (RowB w3.heap.size w4 v4 (le4 n)) from hr4); have HR3b := (show Hid (RowB w1.heap.size w4 v3 (le4 n ++ bs)) from HR3.out.kept hb4); have HB4 := (show Hid (Below w3.heap.size w3 w4) from hb4); clear hr4 hb4 HE3 HR3)
    | (go_at_call 50; refine (rcheck_any v3 (le4 n ++ bs) _ HR3b.out.slm (by rw [List.length_append, le4_len, HN.out]; omega)).mono ?_; rw [HC.out]; rintro e w5 ⟨rfl, rfl⟩; have HE5 := (show Hid True from trivial))
    | (go_at_call 49; have hq := HE5; clear hq; refine (four_any C _ hcl).mono ?_; rintro e w6 ⟨v6, rfl, hr6, hb6⟩; have HS6 := (show Hid (SlM w6 v6 (le4 C)) from hr6.slm); have HR6 := (show Hid (RowB w3.heap.size w6 v4 (le4 n)) from HR4.out.kept hb6); have HB6 := (show Hid (Below w3.heap.size w3 w6) from HB4.out.trans (hb6.mono HB4.out.size)); have HE6 := (show Hid True from trivial); clear hr6 hb6 HE5 HR4)
    | (have hq := HE6; clear hq; refine app_any rfl (.tmp 23) (.tmp 26) rfl w3.heap.size v4 (le4 n) rfl HR6.out _ (le4 C) rfl HS6.out (by rw [le4_len, le4_len]; decide) HB6.out.size ?_; rintro v7 w7 hr7 hb7; have HR7 := (show Hid (RowB w3.heap.size w7 v7 (le4 n ++ le4 C)) from hr7); have HB7 := (show Hid (Below w3.heap.size w3 w7) from HB6.out.trans hb7); clear hr7 hb7 HE6)
    | (have hq := HR7; clear hq; refine app_any rfl (.tmp 28) (.tmp 29) rfl w3.heap.size v7 (le4 n ++ le4 C) rfl HR7.out _ bs rfl (HV.out.below (HB1.out.trans ((HB3.out.trans (HB7.out.mono HB3.out.size)).mono HB1.out.size)) (Nat.le_refl _)) (by rw [List.length_append, le4_len, le4_len, HN.out]; omega) HB7.out.size ?_; rintro v8 w8 hr8 hb8; have HR8 := (show Hid (RowB w3.heap.size w8 v8 (le4 n ++ le4 C ++ bs)) from hr8); have HB8 := (show Hid (Below w3.heap.size w3 w8) from HB7.out.trans hb8); clear hr8 hb8 HR7)
  go_ret2
  exact ⟨_, rfl, (HF.out ▸ HR8.out).mono (Nat.le_trans HB1.out.size HB3.out.size), HB1.out.trans ((HB3.out.trans (HB8.out.mono HB3.out.size)).mono HB1.out.size)⟩
end Wl
end Go.Proofs.YtcinjdaanhpbjaaGreat
