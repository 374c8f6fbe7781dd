/- Numbers of four words, and what plus, plusWord and minus do: contracts, by walking their texts. What timesPlus does: a contract, by walking its text. -/
import Derived.Test.YtgdekigdbbldoaaG01
import Derived.WalkKit
import Derived.WalkSpells
import Derived.WalkSmall
import Derived.Laws.ResultCell
import Derived.Deep.MidRow
import Derived.KernelRfl
namespace Go.Proofs.Ytgdekigdbbldoaa
open Go.RowKit
namespace Fd

/-- A number's words. -/
def l0 (n : Nat) : Nat := n % 18446744073709551616
def l1 (n : Nat) : Nat := n / 18446744073709551616 % 18446744073709551616
def l2 (n : Nat) : Nat := n / 340282366920938463463374607431768211456 % 18446744073709551616
def l3 (n : Nat) : Nat := n / 6277101735386680763835789423207666416102355444464034512896 % 18446744073709551616
def nvc (n : Nat) : List Value := [.int .u64 (l0 n : Int), .int .u64 (l1 n : Int), .int .u64 (l2 n : Int), .int .u64 (l3 n : Int)]
def nv (n : Nat) : Value := .agg #[.int .u64 (l0 n : Int), .int .u64 (l1 n : Int), .int .u64 (l2 n : Int), .int .u64 (l3 n : Int)]
/-- What four words make. -/
def mk (a b c d : Nat) : Nat := a + 18446744073709551616 * b + 340282366920938463463374607431768211456 * c + 6277101735386680763835789423207666416102355444464034512896 * d
theorem mk_l (n : Nat) (h : n < 115792089237316195423570985008687907853269984665640564039457584007913129639936) : mk (l0 n) (l1 n) (l2 n) (l3 n) = n := by
  unfold mk l0 l1 l2 l3
  omega
theorem l_mk (a b c d : Nat) (ha : a < 18446744073709551616) (hb : b < 18446744073709551616) (hc : c < 18446744073709551616) (hd : d < 18446744073709551616) : l0 (mk a b c d) = a ∧ l1 (mk a b c d) = b ∧ l2 (mk a b c d) = c ∧ l3 (mk a b c d) = d := by
  unfold mk l0 l1 l2 l3
  omega
theorem nv_mk (a b c d : Nat) (ha : a < 18446744073709551616) (hb : b < 18446744073709551616) (hc : c < 18446744073709551616) (hd : d < 18446744073709551616) : nv (mk a b c d) = .agg #[.int .u64 (a : Int), .int .u64 (b : Int), .int .u64 (c : Int), .int .u64 (d : Int)] := by
  obtain ⟨h1, h2, h3, h4⟩ := l_mk a b c d ha hb hc hd
  unfold nv
  rw [h1, h2, h3, h4]
theorem l_lt (n : Nat) : l0 n < 18446744073709551616 ∧ l1 n < 18446744073709551616 ∧ l2 n < 18446744073709551616 ∧ l3 n < 18446744073709551616 :=
  ⟨Nat.mod_lt _ (by decide), Nat.mod_lt _ (by decide), Nat.mod_lt _ (by decide), Nat.mod_lt _ (by decide)⟩
/-- A sum word by word. -/
theorem plus_words (a0 a1 a2 a3 b0 b1 b2 b3 s0 s1 s2 s3 c0 c1 c2 c3 : Nat) (h0 : s0 = (a0 + b0 + 0) % 18446744073709551616) (k0 : c0 = (a0 + b0 + 0) / 18446744073709551616) (h1 : s1 = (a1 + b1 + c0) % 18446744073709551616) (k1 : c1 = (a1 + b1 + c0) / 18446744073709551616) (h2 : s2 = (a2 + b2 + c1) % 18446744073709551616) (k2 : c2 = (a2 + b2 + c1) / 18446744073709551616) (h3 : s3 = (a3 + b3 + c2) % 18446744073709551616) (k3 : c3 = (a3 + b3 + c2) / 18446744073709551616) :
    mk s0 s1 s2 s3 + 115792089237316195423570985008687907853269984665640564039457584007913129639936 * c3 = mk a0 a1 a2 a3 + mk b0 b1 b2 b3 := by
  unfold mk
  omega
theorem split256 (x s c : Nat) (h : s + 115792089237316195423570985008687907853269984665640564039457584007913129639936 * c = x) (hs : s < 115792089237316195423570985008687907853269984665640564039457584007913129639936) : s = x % 115792089237316195423570985008687907853269984665640564039457584007913129639936 ∧ c = x / 115792089237316195423570985008687907853269984665640564039457584007913129639936 := by
  omega
theorem mk_lt (a b c d : Nat) (ha : a < 18446744073709551616) (hb : b < 18446744073709551616) (hc : c < 18446744073709551616) (hd : d < 18446744073709551616) : mk a b c d < 115792089237316195423570985008687907853269984665640564039457584007913129639936 := by
  unfold mk
  omega
/-- A difference word by word. -/
theorem minus_words (a0 a1 a2 a3 b0 b1 b2 b3 s0 s1 s2 s3 c0 c1 c2 c3 : Nat) (la0 : a0 < 18446744073709551616) (la1 : a1 < 18446744073709551616) (la2 : a2 < 18446744073709551616) (la3 : a3 < 18446744073709551616) (lb0 : b0 < 18446744073709551616) (lb1 : b1 < 18446744073709551616) (lb2 : b2 < 18446744073709551616) (lb3 : b3 < 18446744073709551616) (h0 : s0 = (a0 + 18446744073709551616 - b0 - 0) % 18446744073709551616) (k0 : c0 = if a0 < b0 + 0 then 1 else 0) (h1 : s1 = (a1 + 18446744073709551616 - b1 - c0) % 18446744073709551616) (k1 : c1 = if a1 < b1 + c0 then 1 else 0) (h2 : s2 = (a2 + 18446744073709551616 - b2 - c1) % 18446744073709551616) (k2 : c2 = if a2 < b2 + c1 then 1 else 0) (h3 : s3 = (a3 + 18446744073709551616 - b3 - c2) % 18446744073709551616) (k3 : c3 = if a3 < b3 + c2 then 1 else 0) :
    mk s0 s1 s2 s3 + mk b0 b1 b2 b3 = mk a0 a1 a2 a3 + 115792089237316195423570985008687907853269984665640564039457584007913129639936 * c3 := by
  have q : ∀ a b c s k : Nat, a < 18446744073709551616 → b < 18446744073709551616 → c ≤ 1 → s = (a + 18446744073709551616 - b - c) % 18446744073709551616 → (k = if a < b + c then 1 else 0) → s + b + c = a + 18446744073709551616 * k ∧ k ≤ 1 := by
    intro a b c s k ha hb hc hs hk
    split at hk <;> omega
  obtain ⟨e0, m0⟩ := q a0 b0 0 s0 c0 la0 lb0 (by decide) h0 k0
  obtain ⟨e1, m1⟩ := q a1 b1 c0 s1 c1 la1 lb1 m0 h1 k1
  obtain ⟨e2, m2⟩ := q a2 b2 c1 s2 c2 la2 lb2 m1 h2 k2
  obtain ⟨e3, m3⟩ := q a3 b3 c2 s3 c3 la3 lb3 m2 h3 k3
  clear h0 h1 h2 h3 k0 k1 k2 k3
  unfold mk
  omega
theorem split_minus (a b s c : Nat) (h : s + b = a + 115792089237316195423570985008687907853269984665640564039457584007913129639936 * c) (hs : s < 115792089237316195423570985008687907853269984665640564039457584007913129639936) (ha : a < 115792089237316195423570985008687907853269984665640564039457584007913129639936) (hb : b < 115792089237316195423570985008687907853269984665640564039457584007913129639936) (hc : c ≤ 1) : s = (a + 115792089237316195423570985008687907853269984665640564039457584007913129639936 - b) % 115792089237316195423570985008687907853269984665640564039457584007913129639936 ∧ c = if a < b then 1 else 0 := by
  have : c = 0 ∨ c = 1 := by omega
  rcases this with rfl | rfl
  · refine ⟨by omega, ?_⟩
    rw [if_neg (by omega)]
  · refine ⟨by omega, ?_⟩
    rw [if_pos (by omega)]
theorem res_ct {fn : Func} {tmps : Array Value} {w : World} {p u : Tmp} {ty : TypeId} {b : Addr} {v x : Value} (hf : fn.results = #[.cell p ty, .tmp u]) (hp : tmps.getD p undef = .pointer (some b)) (hl : (loadVar ty b).run Try.prog w = .ok v w) (hu : tmps.getD u undef = x) : (results fn tmps).run Try.prog w = .ok (.tuple #[v, x]) w := by
  have h1 : (asAddr (tmps.getD p undef)).run Try.prog w = .ok b w := by rw [hp]; rfl
  rw [results_cell_tmp hf, h1]
  simp only [Result.andThen_ok, hl, hu]
theorem info4 : (Try.prog.info? 74).map (·.size) = some 4 := by kernel_rfl
/-- A number that was just laid is read. -/
theorem load_new (w : World) (cs : List Value) (h : cs.length = 4) : (loadVar 74 ⟨w.heap.size, 0, none⟩).run Try.prog (w.alloc (.cells cs.toArray 74)) = .ok (.agg cs.toArray) (w.alloc (.cells cs.toArray 74)) :=
  run_loadVar_mid (P := Try.prog) _ w.heap.size 0 74 cs _ (Rg.range_new w cs 74) Try.underlying74 rfl (by rw [h]; exact info4)
theorem load_at {w : World} {n : Nat} (hn : w.heap.size = n) (cs : List Value) (h : cs.length = 4) : (loadVar 74 ⟨n, 0, none⟩).run Try.prog (w.alloc (.cells cs.toArray 74)) = .ok (.agg cs.toArray) (w.alloc (.cells cs.toArray 74)) := by
  subst hn
  exact load_new w cs h

set_option maxHeartbeats 4000000 in
theorem plus_any (a b : Nat) (w : World) (ha : a < 115792089237316195423570985008687907853269984665640564039457584007913129639936) (hb : b < 115792089237316195423570985008687907853269984665640564039457584007913129639936) :
    Calls Try.prog 96 #[nv a, nv b] w fun e w' => e = .returned (.tuple #[nv ((a + b) % 115792089237316195423570985008687907853269984665640564039457584007913129639936), .int .u64 (((a + b) / 115792089237316195423570985008687907853269984665640564039457584007913129639936 : Nat) : Int)]) ∧ Below w.heap.size w w' := by
  have ea := mk_l a ha
  have eb := mk_l b hb
  obtain ⟨la0, la1, la2, la3⟩ := l_lt a
  obtain ⟨lb0, lb1, lb2, lb3⟩ := l_lt b
  unfold nv
  obtain ⟨a0, ha0⟩ : ∃ x, l0 a = x := ⟨_, rfl⟩
  obtain ⟨a1, ha1⟩ : ∃ x, l1 a = x := ⟨_, rfl⟩
  obtain ⟨a2, ha2⟩ : ∃ x, l2 a = x := ⟨_, rfl⟩
  obtain ⟨a3, ha3⟩ : ∃ x, l3 a = x := ⟨_, rfl⟩
  obtain ⟨b0, hb0⟩ : ∃ x, l0 b = x := ⟨_, rfl⟩
  obtain ⟨b1, hb1⟩ : ∃ x, l1 b = x := ⟨_, rfl⟩
  obtain ⟨b2, hb2⟩ : ∃ x, l2 b = x := ⟨_, rfl⟩
  obtain ⟨b3, hb3⟩ : ∃ x, l3 b = x := ⟨_, rfl⟩
  rw [ha0, ha1, ha2, ha3] at ea ⊢
  rw [ha0] at la0
  rw [ha1] at la1
  rw [ha2] at la2
  rw [ha3] at la3
  rw [hb0, hb1, hb2, hb3] at eb ⊢
  rw [hb0] at lb0
  rw [hb1] at lb1
  rw [hb2] at lb2
  rw [hb3] at lb3
  have r0 := add64 a0 b0 0 (by decide)
  obtain ⟨s0, hs0⟩ : ∃ x, (a0 + b0 + 0) % 18446744073709551616 = x := ⟨_, rfl⟩
  obtain ⟨c0, hc0⟩ : ∃ x, (a0 + b0 + 0) / 18446744073709551616 = x := ⟨_, rfl⟩
  rw [hs0, hc0] at r0
  rw [show ((0 : Nat) : Int) = 0 from rfl] at r0
  have r1 := add64 a1 b1 c0 (by omega)
  obtain ⟨s1, hs1⟩ : ∃ x, (a1 + b1 + c0) % 18446744073709551616 = x := ⟨_, rfl⟩
  obtain ⟨c1, hc1⟩ : ∃ x, (a1 + b1 + c0) / 18446744073709551616 = x := ⟨_, rfl⟩
  rw [hs1, hc1] at r1
  have r2 := add64 a2 b2 c1 (by omega)
  obtain ⟨s2, hs2⟩ : ∃ x, (a2 + b2 + c1) % 18446744073709551616 = x := ⟨_, rfl⟩
  obtain ⟨c2, hc2⟩ : ∃ x, (a2 + b2 + c1) / 18446744073709551616 = x := ⟨_, rfl⟩
  rw [hs2, hc2] at r2
  have r3 := add64 a3 b3 c2 (by omega)
  obtain ⟨s3, hs3⟩ : ∃ x, (a3 + b3 + c2) % 18446744073709551616 = x := ⟨_, rfl⟩
  obtain ⟨c3, hc3⟩ : ∃ x, (a3 + b3 + c2) / 18446744073709551616 = x := ⟨_, rfl⟩
  rw [hs3, hc3] at r3
  have hsum := plus_words a0 a1 a2 a3 b0 b1 b2 b3 s0 s1 s2 s3 c0 c1 c2 c3 hs0.symm hc0.symm hs1.symm hc1.symm hs2.symm hc2.symm hs3.symm hc3.symm
  rw [ea, eb] at hsum
  have k0 : s0 < 18446744073709551616 := by omega
  have k1 : s1 < 18446744073709551616 := by omega
  have k2 : s2 < 18446744073709551616 := by omega
  have k3 : s3 < 18446744073709551616 := by omega
  have hsp := split256 (a + b) (mk s0 s1 s2 s3) c3 hsum (mk_lt _ _ _ _ k0 k1 k2 k3)
  have HE1 : nv ((a + b) % 115792089237316195423570985008687907853269984665640564039457584007913129639936) = .agg #[.int .u64 (s0 : Int), .int .u64 (s1 : Int), .int .u64 (s2 : Int), .int .u64 (s3 : Int)] := by
    rw [← hsp.1]
    exact nv_mk s0 s1 s2 s3 k0 k1 k2 k3
  unfold nv at HE1
  rw [HE1, ← hsp.2]
  clear hb0 hb1 hb2 hb3 hb ha0 ha1 ha2 ha3 ea eb ha hs0 hs1 hs2 hs3 hc0 hc1 hc2 hc3 hsum hsp HE1
  go_enter Try.func96, Try.ntmps96
  go_wp2
  exact bodyPost_ret (res_ct Try.results96 rfl (load_at (by simp) [.int .u64 (s0 : Int), .int .u64 (s1 : Int), .int .u64 (s2 : Int), .int .u64 (s3 : Int)] rfl) rfl) rfl ⟨rfl, ((((Below.refl _ _).alloc (by simp; try omega) _).alloc (by simp; try omega) _).alloc (by simp; try omega) _)⟩

set_option maxHeartbeats 4000000 in
theorem plusWord_any (a b0 : Nat) (w : World) (ha : a < 115792089237316195423570985008687907853269984665640564039457584007913129639936) (lb0 : b0 < 18446744073709551616) :
    Calls Try.prog 97 #[nv a, .int .u64 (b0 : Int)] w fun e w' => e = .returned (.tuple #[nv ((a + b0) % 115792089237316195423570985008687907853269984665640564039457584007913129639936), .int .u64 (((a + b0) / 115792089237316195423570985008687907853269984665640564039457584007913129639936 : Nat) : Int)]) ∧ Below w.heap.size w w' := by
  have ea := mk_l a ha
  obtain ⟨la0, la1, la2, la3⟩ := l_lt a
  unfold nv
  obtain ⟨a0, ha0⟩ : ∃ x, l0 a = x := ⟨_, rfl⟩
  obtain ⟨a1, ha1⟩ : ∃ x, l1 a = x := ⟨_, rfl⟩
  obtain ⟨a2, ha2⟩ : ∃ x, l2 a = x := ⟨_, rfl⟩
  obtain ⟨a3, ha3⟩ : ∃ x, l3 a = x := ⟨_, rfl⟩
  rw [ha0, ha1, ha2, ha3] at ea ⊢
  rw [ha0] at la0
  rw [ha1] at la1
  rw [ha2] at la2
  rw [ha3] at la3
  have eb : mk b0 0 0 0 = b0 := by unfold mk; omega
  have r0 := add64 a0 b0 0 (by decide)
  obtain ⟨s0, hs0⟩ : ∃ x, (a0 + b0 + 0) % 18446744073709551616 = x := ⟨_, rfl⟩
  obtain ⟨c0, hc0⟩ : ∃ x, (a0 + b0 + 0) / 18446744073709551616 = x := ⟨_, rfl⟩
  rw [hs0, hc0] at r0
  rw [show ((0 : Nat) : Int) = 0 from rfl] at r0
  have r1 := add64 a1 0 c0 (by omega)
  obtain ⟨s1, hs1⟩ : ∃ x, (a1 + 0 + c0) % 18446744073709551616 = x := ⟨_, rfl⟩
  obtain ⟨c1, hc1⟩ : ∃ x, (a1 + 0 + c0) / 18446744073709551616 = x := ⟨_, rfl⟩
  rw [hs1, hc1] at r1
  rw [show ((0 : Nat) : Int) = 0 from rfl] at r1
  have r2 := add64 a2 0 c1 (by omega)
  obtain ⟨s2, hs2⟩ : ∃ x, (a2 + 0 + c1) % 18446744073709551616 = x := ⟨_, rfl⟩
  obtain ⟨c2, hc2⟩ : ∃ x, (a2 + 0 + c1) / 18446744073709551616 = x := ⟨_, rfl⟩
  rw [hs2, hc2] at r2
  rw [show ((0 : Nat) : Int) = 0 from rfl] at r2
  have r3 := add64 a3 0 c2 (by omega)
  obtain ⟨s3, hs3⟩ : ∃ x, (a3 + 0 + c2) % 18446744073709551616 = x := ⟨_, rfl⟩
  obtain ⟨c3, hc3⟩ : ∃ x, (a3 + 0 + c2) / 18446744073709551616 = x := ⟨_, rfl⟩
  rw [hs3, hc3] at r3
  rw [show ((0 : Nat) : Int) = 0 from rfl] at r3
  have hsum := plus_words a0 a1 a2 a3 b0 0 0 0 s0 s1 s2 s3 c0 c1 c2 c3 hs0.symm hc0.symm hs1.symm hc1.symm hs2.symm hc2.symm hs3.symm hc3.symm
  rw [ea, eb] at hsum
  have k0 : s0 < 18446744073709551616 := by omega
  have k1 : s1 < 18446744073709551616 := by omega
  have k2 : s2 < 18446744073709551616 := by omega
  have k3 : s3 < 18446744073709551616 := by omega
  have hsp := split256 (a + b0) (mk s0 s1 s2 s3) c3 hsum (mk_lt _ _ _ _ k0 k1 k2 k3)
  have HE1 : nv ((a + b0) % 115792089237316195423570985008687907853269984665640564039457584007913129639936) = .agg #[.int .u64 (s0 : Int), .int .u64 (s1 : Int), .int .u64 (s2 : Int), .int .u64 (s3 : Int)] := by
    rw [← hsp.1]
    exact nv_mk s0 s1 s2 s3 k0 k1 k2 k3
  unfold nv at HE1
  rw [HE1, ← hsp.2]
  clear  ha0 ha1 ha2 ha3 ea eb ha hs0 hs1 hs2 hs3 hc0 hc1 hc2 hc3 hsum hsp HE1
  go_enter Try.func97, Try.ntmps97
  go_wp2
  exact bodyPost_ret (res_ct Try.results97 rfl (load_at (by simp) [.int .u64 (s0 : Int), .int .u64 (s1 : Int), .int .u64 (s2 : Int), .int .u64 (s3 : Int)] rfl) rfl) rfl ⟨rfl, (((Below.refl _ _).alloc (by simp; try omega) _).alloc (by simp; try omega) _)⟩

set_option maxHeartbeats 4000000 in
theorem minus_any (a b : Nat) (w : World) (ha : a < 115792089237316195423570985008687907853269984665640564039457584007913129639936) (hb : b < 115792089237316195423570985008687907853269984665640564039457584007913129639936) :
    Calls Try.prog 99 #[nv a, nv b] w fun e w' => e = .returned (.tuple #[nv ((a + 115792089237316195423570985008687907853269984665640564039457584007913129639936 - b) % 115792089237316195423570985008687907853269984665640564039457584007913129639936), .int .u64 ((if a < b then 1 else 0 : Nat) : Int)]) ∧ Below w.heap.size w w' := by
  have ea := mk_l a ha
  have eb := mk_l b hb
  obtain ⟨la0, la1, la2, la3⟩ := l_lt a
  obtain ⟨lb0, lb1, lb2, lb3⟩ := l_lt b
  unfold nv
  obtain ⟨a0, ha0⟩ : ∃ x, l0 a = x := ⟨_, rfl⟩
  obtain ⟨a1, ha1⟩ : ∃ x, l1 a = x := ⟨_, rfl⟩
  obtain ⟨a2, ha2⟩ : ∃ x, l2 a = x := ⟨_, rfl⟩
  obtain ⟨a3, ha3⟩ : ∃ x, l3 a = x := ⟨_, rfl⟩
  obtain ⟨b0, hb0⟩ : ∃ x, l0 b = x := ⟨_, rfl⟩
  obtain ⟨b1, hb1⟩ : ∃ x, l1 b = x := ⟨_, rfl⟩
  obtain ⟨b2, hb2⟩ : ∃ x, l2 b = x := ⟨_, rfl⟩
  obtain ⟨b3, hb3⟩ : ∃ x, l3 b = x := ⟨_, rfl⟩
  rw [ha0, ha1, ha2, ha3] at ea ⊢
  rw [ha0] at la0
  rw [ha1] at la1
  rw [ha2] at la2
  rw [ha3] at la3
  rw [hb0, hb1, hb2, hb3] at eb ⊢
  rw [hb0] at lb0
  rw [hb1] at lb1
  rw [hb2] at lb2
  rw [hb3] at lb3
  have r0 := sub64 a0 b0 0 (by decide)
  obtain ⟨s0, hs0⟩ : ∃ x, (a0 + 18446744073709551616 - b0 - 0) % 18446744073709551616 = x := ⟨_, rfl⟩
  obtain ⟨c0, hc0⟩ : ∃ x, (if a0 < b0 + 0 then 1 else 0) = x := ⟨_, rfl⟩
  rw [hs0, hc0] at r0
  rw [show ((0 : Nat) : Int) = 0 from rfl] at r0
  have kc0 : c0 ≤ 1 := by rw [← hc0]; split <;> omega
  have r1 := sub64 a1 b1 c0 (by omega)
  obtain ⟨s1, hs1⟩ : ∃ x, (a1 + 18446744073709551616 - b1 - c0) % 18446744073709551616 = x := ⟨_, rfl⟩
  obtain ⟨c1, hc1⟩ : ∃ x, (if a1 < b1 + c0 then 1 else 0) = x := ⟨_, rfl⟩
  rw [hs1, hc1] at r1
  have kc1 : c1 ≤ 1 := by rw [← hc1]; split <;> omega
  have r2 := sub64 a2 b2 c1 (by omega)
  obtain ⟨s2, hs2⟩ : ∃ x, (a2 + 18446744073709551616 - b2 - c1) % 18446744073709551616 = x := ⟨_, rfl⟩
  obtain ⟨c2, hc2⟩ : ∃ x, (if a2 < b2 + c1 then 1 else 0) = x := ⟨_, rfl⟩
  rw [hs2, hc2] at r2
  have kc2 : c2 ≤ 1 := by rw [← hc2]; split <;> omega
  have r3 := sub64 a3 b3 c2 (by omega)
  obtain ⟨s3, hs3⟩ : ∃ x, (a3 + 18446744073709551616 - b3 - c2) % 18446744073709551616 = x := ⟨_, rfl⟩
  obtain ⟨c3, hc3⟩ : ∃ x, (if a3 < b3 + c2 then 1 else 0) = x := ⟨_, rfl⟩
  rw [hs3, hc3] at r3
  have kc3 : c3 ≤ 1 := by rw [← hc3]; split <;> omega
  have k0 : s0 < 18446744073709551616 := by omega
  have k1 : s1 < 18446744073709551616 := by omega
  have k2 : s2 < 18446744073709551616 := by omega
  have k3 : s3 < 18446744073709551616 := by omega
  have hsum := minus_words a0 a1 a2 a3 b0 b1 b2 b3 s0 s1 s2 s3 c0 c1 c2 c3 la0 la1 la2 la3 lb0 lb1 lb2 lb3 hs0.symm hc0.symm hs1.symm hc1.symm hs2.symm hc2.symm hs3.symm hc3.symm
  rw [ea, eb] at hsum
  have hsl := mk_lt _ _ _ _ k0 k1 k2 k3
  have hsp := split_minus a b (mk s0 s1 s2 s3) c3 hsum hsl ha hb kc3
  have HE1 : nv ((a + 115792089237316195423570985008687907853269984665640564039457584007913129639936 - b) % 115792089237316195423570985008687907853269984665640564039457584007913129639936) = .agg #[.int .u64 (s0 : Int), .int .u64 (s1 : Int), .int .u64 (s2 : Int), .int .u64 (s3 : Int)] := by
    rw [← hsp.1]
    exact nv_mk s0 s1 s2 s3 k0 k1 k2 k3
  unfold nv at HE1
  rw [HE1, ← hsp.2]
  clear hb0 hb1 hb2 hb3 hb ha0 ha1 ha2 ha3 ea eb ha hs0 hs1 hs2 hs3 hc0 hc1 hc2 hc3 hsum hsp HE1 hsl
  go_enter Try.func99, Try.ntmps99
  go_wp2
  exact bodyPost_ret (res_ct Try.results99 rfl (load_at (by simp) [.int .u64 (s0 : Int), .int .u64 (s1 : Int), .int .u64 (s2 : Int), .int .u64 (s3 : Int)] rfl) rfl) rfl ⟨rfl, (((Below.refl _ _).alloc (by simp; try omega) _).alloc (by simp; try omega) _).alloc (by simp; try omega) _⟩
end Fd
end Go.Proofs.Ytgdekigdbbldoaa

namespace Go.Proofs.Ytgdekigdbbldoaa
open Go.RowKit
namespace Fd

theorem mul_le (x y : Nat) (hx : x < 18446744073709551616) (hy : y < 18446744073709551616) : x * y ≤ 340282366920938463426481119284349108225 := by
  have h := Nat.mul_le_mul (show x ≤ 18446744073709551615 by omega) (show y ≤ 18446744073709551615 by omega)
  exact Nat.le_trans h (by decide)
theorem times_words (p c d lo hi l1 k1 l2 k2 : Nat) (hp : p ≤ 340282366920938463426481119284349108225) (hc : c < 18446744073709551616) (hd : d < 18446744073709551616) (h1 : lo = p % 18446744073709551616) (h2 : hi = p / 18446744073709551616) (h3 : l1 = (lo + c + 0) % 18446744073709551616) (h4 : k1 = (lo + c + 0) / 18446744073709551616) (h5 : l2 = (l1 + d + 0) % 18446744073709551616) (h6 : k2 = (l1 + d + 0) / 18446744073709551616) :
    l2 = (p + c + d) % 18446744073709551616 ∧ hi + k1 + k2 = (p + c + d) / 18446744073709551616 ∧ hi + k1 < 18446744073709551616 ∧ hi + k1 + k2 < 18446744073709551616 := by
  omega
set_option maxHeartbeats 2000000 in
theorem timesPlus_any (x y c d : Nat) (w : World) (hx : x < 18446744073709551616) (hy : y < 18446744073709551616) (hc : c < 18446744073709551616) (hd : d < 18446744073709551616) :
    Calls Try.prog 108 #[.int .u64 (x : Int), .int .u64 (y : Int), .int .u64 (c : Int), .int .u64 (d : Int)] w fun e w' => e = .returned (.tuple #[.int .u64 (((x * y + c + d) % 18446744073709551616 : Nat) : Int), .int .u64 (((x * y + c + d) / 18446744073709551616 : Nat) : Int)]) ∧ w' = w := by
  have cm := mul64 x y hx hy w
  have hp := mul_le x y hx hy
  obtain ⟨p, hpp⟩ : ∃ p, x * y = p := ⟨_, rfl⟩
  rw [hpp] at cm hp ⊢
  obtain ⟨lo, hlo⟩ : ∃ z, p % 18446744073709551616 = z := ⟨_, rfl⟩
  obtain ⟨hi, hhi⟩ : ∃ z, p / 18446744073709551616 = z := ⟨_, rfl⟩
  rw [hlo, hhi] at cm
  have r1 := add64 lo c 0 (by decide)
  obtain ⟨l1, hl1⟩ : ∃ z, (lo + c + 0) % 18446744073709551616 = z := ⟨_, rfl⟩
  obtain ⟨k1, hk1⟩ : ∃ z, (lo + c + 0) / 18446744073709551616 = z := ⟨_, rfl⟩
  rw [hl1, hk1, show ((0 : Nat) : Int) = 0 from rfl] at r1
  have r2 := add64 l1 d 0 (by decide)
  obtain ⟨l2, hl2⟩ : ∃ z, (l1 + d + 0) % 18446744073709551616 = z := ⟨_, rfl⟩
  obtain ⟨k2, hk2⟩ : ∃ z, (l1 + d + 0) / 18446744073709551616 = z := ⟨_, rfl⟩
  rw [hl2, hk2, show ((0 : Nat) : Int) = 0 from rfl] at r2
  obtain ⟨e1, e2, e3, e4⟩ := times_words p c d lo hi l1 k1 l2 k2 hp hc hd hlo.symm hhi.symm hl1.symm hk1.symm hl2.symm hk2.symm
  rw [← e1, ← e2]
  have w1 : IntKind.u64.wrap ((hi : Int) + (k1 : Int)) = ((hi + k1 : Nat) : Int) := by rw [IntKind.wrap_u64]; omega
  obtain ⟨h1, hh1⟩ : ∃ z, hi + k1 = z := ⟨_, rfl⟩
  rw [hh1] at w1 e4 ⊢
  have w2 : IntKind.u64.wrap ((h1 : Int) + (k2 : Int)) = ((h1 + k2 : Nat) : Int) := by rw [IntKind.wrap_u64]; omega
  obtain ⟨h2, hh2⟩ : ∃ z, h1 + k2 = z := ⟨_, rfl⟩
  rw [hh2] at w2 ⊢
  clear e1 e2 e3 e4 hlo hhi hl1 hk1 hl2 hk2 hh1 hh2 hpp hp
  go_enter Try.func108, Try.ntmps108
  go_wp2_with (go_at_call 109; refine cm.mono ?_; rintro e w' ⟨rfl, rfl⟩)
  go_ret2
  exact ⟨rfl, rfl⟩
end Fd
end Go.Proofs.Ytgdekigdbbldoaa
