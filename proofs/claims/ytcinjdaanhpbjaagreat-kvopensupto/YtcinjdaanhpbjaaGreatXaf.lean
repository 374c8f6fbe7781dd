/- What a store's records say, and how bytes are read as one: plain mathematics. Slices by what they hold: lengths, pieces, bytes as a text; a slice of slices. The values stay letters, each operation on them is an equation. -/
import Derived.Test.YtcinjdaanhpbjaaGreatXae
import Derived.Test.YtcinjdaanhpbjaaGreatCb
import Derived.Lib.OthersKept
namespace Go.Proofs.YtcinjdaanhpbjaaGreat
open Go.RowKit
namespace Kv
open Bw Rg Dk Rf Wl

/-- A number in k bytes, the lowest first. -/
def leB : Nat → Nat → List UInt8
  | 0, _ => []
  | k + 1, n => n.toUInt8 :: leB k (n / 256)
/-- The number that bytes say, the lowest first. -/
def leN : List UInt8 → Nat
  | [] => 0
  | b :: r => b.toNat + 256 * leN r
theorem leB_len : ∀ k n, (leB k n).length = k
  | 0, _ => rfl
  | k + 1, n => by simp [leB, leB_len k]
theorem leN_lt : ∀ l : List UInt8, leN l < 256 ^ l.length
  | [] => by simp [leN]
  | b :: r => by
    have h1 := leN_lt r
    have h2 := b.toNat_lt
    simp only [leN, List.length_cons, Nat.pow_succ]
    omega
theorem leN_leB : ∀ k n, leN (leB k n) = n % 256 ^ k
  | 0, n => by simp [leN, leB, Nat.mod_one]
  | k + 1, n => by
    simp only [leB, leN, u8n, leN_leB k]
    rw [Nat.pow_succ, Nat.mul_comm (256 ^ k) 256, Nat.mod_mul]
theorem leB_leN : ∀ l : List UInt8, leB l.length (leN l) = l
  | [] => rfl
  | b :: r => by
    have h2 := b.toNat_lt
    have e1 : (b.toNat + 256 * leN r) / 256 = leN r := by omega
    have e2 : (b.toNat + 256 * leN r).toUInt8 = b := UInt8.toNat_inj.1 (by rw [u8n]; omega)
    simp only [leN, List.length_cons, leB, e1, e2, leB_leN r]

/-- A write: its key, its value, whether it drops. -/
structure Wrt where
  key : ByteArray
  val : List UInt8
  drop : Bool
def keyB (k : ByteArray) : List UInt8 := leB 1 k.size ++ k.data.toList
def valB (v : List UInt8) : List UInt8 := leB 4 v.length ++ v
def wrB (x : Wrt) : List UInt8 := keyB x.key ++ (if x.drop = true then [1] else 0 :: valB x.val)
/-- A batch's record. -/
def recB (n : Nat) (l : List Wrt) : List UInt8 := leB 8 n ++ (leB 2 l.length ++ l.flatMap wrB)
def pairB (x : Fl) : List UInt8 := keyB x.1 ++ valB x.2.1
/-- A snapshot's record. -/
def snapB (c : Nat) (L : List Fl) : List UInt8 := leB 8 c ++ (leB 4 L.length ++ L.flatMap pairB)

/-- A reader: what is left, whether it is bad. -/
abbrev RS := List UInt8 × Bool
def takeM (n : Nat) (s : RS) : List UInt8 × RS := if s.2 = true ∨ s.1.length < n then ([], (s.1, true)) else (s.1.take n, (s.1.drop n, false))
def numM (k : Nat) (s : RS) : Nat × RS := (leN (takeM k s).1, (takeM k s).2)
def orBad (b : Bool) (s : RS) : RS := (s.1, b || s.2)
def keyM (s : RS) : List UInt8 × RS := takeM (numM 1 s).1 (orBad (decide ((numM 1 s).1 = 0)) (numM 1 s).2)
def valM (s : RS) : List UInt8 × RS := takeM (numM 4 s).1 (orBad (decide (262144 < (numM 4 s).1)) (numM 4 s).2)
def baK (l : List UInt8) : ByteArray := ⟨l.toArray⟩
def wrM (s : RS) : Wrt × RS :=
  if (numM 1 (keyM s).2).1 = 0 then (⟨baK (keyM s).1, (valM (numM 1 (keyM s).2).2).1, false⟩, (valM (numM 1 (keyM s).2).2).2)
  else if (numM 1 (keyM s).2).1 = 1 then (⟨baK (keyM s).1, [], true⟩, (numM 1 (keyM s).2).2)
  else (⟨baK (keyM s).1, [], false⟩, orBad true (numM 1 (keyM s).2).2)
def wrsM : Nat → RS → List Wrt × RS
  | 0, s => ([], s)
  | n + 1, s => ((wrM s).1 :: (wrsM n (wrM s).2).1, (wrsM n (wrM s).2).2)
def wholeM (s : RS) : Bool := !s.2 && s.1.isEmpty
/-- What a batch's record says: its number, its writes. -/
def batchM (bs : List UInt8) : Option (Nat × List Wrt) :=
  let a := numM 8 (bs, false)
  let b := numM 2 a.2
  let c := wrsM b.1 b.2
  if b.1 = 0 ∨ 4096 < b.1 then none else if wholeM c.2 = true then some (a.1, c.1) else none
/-- Pairs, each key above the last one. -/
def prsM : Nat → ByteArray → RS → Option (List Fl × RS)
  | 0, _, s => some ([], s)
  | n + 1, last, s =>
    let k := keyM s
    let v := valM k.2
    if v.2.2 = true ∨ lt last (baK k.1) = false then none
    else match prsM n (baK k.1) v.2 with
      | none => none
      | some r => some ((baK k.1, v.1, 0) :: r.1, r.2)
/-- What a snapshot's record says: its number, its pairs. -/
def snapM (bs : List UInt8) : Option (Nat × List Fl) :=
  let a := numM 8 (bs, false)
  let b := numM 4 a.2
  if 4611686018427387904 < a.1 then none else match prsM b.1 ⟨#[]⟩ b.2 with
    | none => none
    | some r => if wholeM r.2 = true then some (a.1, r.1) else none

theorem takeM_len (n : Nat) (s : RS) : (takeM n s).2.1.length ≤ s.1.length := by
  unfold takeM
  split
  · exact Nat.le_refl _
  · simp
theorem takeM_le (n : Nat) (s : RS) : (takeM n s).1.length ≤ n := by
  unfold takeM
  split
  · simp
  · simp; omega
theorem numM_lt (k : Nat) (s : RS) : (numM k s).1 < 256 ^ k := by
  have h1 := leN_lt (takeM k s).1
  have h2 := takeM_le k s
  exact Nat.lt_of_lt_of_le h1 (Nat.pow_le_pow_right (by decide) h2)
theorem take_app (l r : List UInt8) : takeM l.length (l ++ r, false) = (l, (r, false)) := by
  unfold takeM
  rw [if_neg (by simp)]
  simp
theorem num_app (k n : Nat) (r : List UInt8) (h : n < 256 ^ k) : numM k (leB k n ++ r, false) = (n, (r, false)) := by
  have e := take_app (leB k n) r
  rw [leB_len] at e
  unfold numM
  rw [e]
  simp only [leN_leB, Nat.mod_eq_of_lt h]
theorem size_toList (k : ByteArray) : k.data.toList.length = k.size := rfl
theorem baK_toList (k : ByteArray) : baK k.data.toList = k := by
  cases k
  simp [baK]
theorem key_app (k : ByteArray) (r : List UInt8) (h0 : 0 < k.size) (h1 : k.size ≤ 255) : keyM (keyB k ++ r, false) = (k.data.toList, (r, false)) := by
  unfold keyM keyB
  rw [List.append_assoc, num_app 1 k.size (k.data.toList ++ r) (by omega)]
  have e := take_app k.data.toList r
  rw [size_toList] at e
  have e2 : decide (k.size = 0) = false := decide_eq_false (by omega)
  simp only [orBad, e2, Bool.false_or]
  exact e
theorem val_app (v r : List UInt8) (h : v.length ≤ 262144) : valM (valB v ++ r, false) = (v, (r, false)) := by
  unfold valM valB
  rw [List.append_assoc, num_app 4 v.length (v ++ r) (by omega)]
  have e2 : decide (262144 < v.length) = false := decide_eq_false (by omega)
  simp only [orBad, e2, Bool.false_or]
  exact take_app v r
/-- A write as it is read again. -/
def bare (x : Wrt) : Wrt := if x.drop = true then ⟨x.key, [], true⟩ else x
structure WrOk (x : Wrt) : Prop where
  k0 : 0 < x.key.size
  k1 : x.key.size ≤ 255
  v : x.drop = false → x.val.length ≤ 262144
theorem wr_app {x : Wrt} (h : WrOk x) (r : List UInt8) : wrM (wrB x ++ r, false) = (bare x, (r, false)) := by
  unfold wrM wrB bare
  obtain ⟨k, v, dr⟩ := x
  have h0 := h.k0
  have h1 := h.k1
  have h2 := h.v
  simp only at h0 h1 h2
  cases dr with
  | true =>
    simp only [if_true, List.append_assoc]
    rw [key_app k _ h0 h1]
    have e := num_app 1 1 r (by decide)
    have e1 : leB 1 1 ++ r = [1] ++ r := rfl
    rw [e1] at e
    simp only [e, baK_toList]
    simp
  | false =>
    simp only [Bool.false_eq_true, if_false, List.append_assoc]
    rw [key_app k _ h0 h1]
    have e := num_app 1 0 (valB v ++ r) (by decide)
    have e1 : leB 1 0 ++ (valB v ++ r) = 0 :: valB v ++ r := rfl
    rw [e1] at e
    simp only [e, baK_toList, if_true]
    rw [val_app v r (h2 rfl)]
theorem wrs_app : ∀ (l : List Wrt), (∀ x ∈ l, WrOk x) → ∀ r, wrsM l.length (l.flatMap wrB ++ r, false) = (l.map bare, (r, false))
  | [], _, r => rfl
  | x :: l, h, r => by
    have e := wr_app (h x (by simp)) (l.flatMap wrB ++ r)
    have ih := wrs_app l (fun y hy => h y (List.mem_cons_of_mem _ hy)) r
    simp only [List.flatMap_cons, List.append_assoc, List.length_cons, wrsM, List.map_cons]
    rw [e]
    simp only [ih]
theorem batch_rec (n : Nat) (l : List Wrt) (h : ∀ x ∈ l, WrOk x) (h0 : l ≠ []) (h1 : l.length ≤ 4096) (hn : n < 18446744073709551616) : batchM (recB n l) = some (n, l.map bare) := by
  have hl : 0 < l.length := List.length_pos_iff.2 h0
  have e1 := num_app 8 n (leB 2 l.length ++ l.flatMap wrB) (by omega)
  have e2 := num_app 2 l.length (l.flatMap wrB) (by omega)
  have e3 := wrs_app l h []
  rw [List.append_nil] at e3
  unfold batchM recB
  simp only [e1, e2, e3]
  rw [if_neg (by omega)]
  simp [wholeM]
/-- Pairs as a snapshot may hold them. -/
structure PrOk (x : Fl) : Prop where
  k0 : 0 < x.1.size
  k1 : x.1.size ≤ 255
  v : x.2.1.length ≤ 262144
  z : x.2.2 = 0
theorem prs_app : ∀ (L : List Fl) (last : ByteArray), (∀ x ∈ L, PrOk x) → Up L → (∀ x ∈ L, lt last x.1 = true) → ∀ r, prsM L.length last (L.flatMap pairB ++ r, false) = some (L, (r, false))
  | [], _, _, _, _, r => rfl
  | x :: L, last, h, hu, hl, r => by
    obtain ⟨hu1, hu2⟩ := List.pairwise_cons.1 hu
    have hx := h x (by simp)
    have e1 := key_app x.1 (valB x.2.1 ++ (L.flatMap pairB ++ r)) hx.k0 hx.k1
    have e2 := val_app x.2.1 (L.flatMap pairB ++ r) hx.v
    have ih := prs_app L x.1 (fun y hy => h y (List.mem_cons_of_mem _ hy)) hu2 hu1 r
    have e3 := hl x (by simp)
    simp only [List.flatMap_cons, pairB, List.append_assoc, List.length_cons, prsM] at ih ⊢
    simp only [e1, e2, baK_toList, e3]
    rw [if_neg (by simp)]
    rw [ih]
    obtain ⟨a, b, c⟩ := x
    have := hx.z
    simp only at this
    subst this
    rfl
theorem empty_lt {k : ByteArray} (h : 0 < k.size) : lt ⟨#[]⟩ k = true := by
  rw [lt_iff]
  have h1 : 0 < k.data.toList.length := by rw [size_toList]; exact h
  match hk : k.data.toList, h1 with
  | a :: r, _ => exact List.Lex.nil
theorem snap_snap (c : Nat) (L : List Fl) (h : ∀ x ∈ L, PrOk x) (hu : Up L) (hc : c ≤ 4611686018427387904) (hl : L.length < 4294967296) : snapM (snapB c L) = some (c, L) := by
  have e1 := num_app 8 c (leB 4 L.length ++ L.flatMap pairB) (by omega)
  have e2 := num_app 4 L.length (L.flatMap pairB) (by omega)
  have e3 := prs_app L ⟨#[]⟩ h hu (fun x hx => empty_lt (h x hx).k0) []
  rw [List.append_nil] at e3
  unfold snapM snapB
  simp only [e1, e2, e3]
  rw [if_neg (by omega)]
  simp [wholeM]

/-- A key has a value from now on. -/
def setK (k : ByteArray) (v : List UInt8) (L : List Fl) : List Fl := ins (k, v, 0) (rm k L)
def doK (x : Wrt) (L : List Fl) : List Fl := if x.drop = true then rm x.key L else setK x.key x.val L
def doAll (l : List Wrt) (L : List Fl) : List Fl := l.foldl (fun L x => doK x L) L
theorem rm_ne {k : ByteArray} {L : List Fl} : ∀ y ∈ rm k L, y.1 ≠ k := fun y hy => by
  have := (List.mem_filter.1 hy).2
  simpa using this
theorem setK_up {k : ByteArray} {v : List UInt8} {L : List Fl} (h : Up L) : Up (setK k v L) := ins_up (rm_up h) rm_ne
theorem doK_up {x : Wrt} {L : List Fl} (h : Up L) : Up (doK x L) := by
  unfold doK
  split
  · exact rm_up h
  · exact setK_up h
theorem doAll_up : ∀ (l : List Wrt) {L : List Fl}, Up L → Up (doAll l L)
  | [], _, h => h
  | x :: l, _, h => doAll_up l (doK_up (x := x) h)
theorem mem_setK {k : ByteArray} {v : List UInt8} {L : List Fl} {y : Fl} (h : y ∈ setK k v L) : y = (k, v, 0) ∨ y ∈ L := by
  rcases List.mem_cons.1 ((ins_perm _ _).mem_iff.1 h) with h | h
  · exact .inl h
  · exact .inr (List.mem_filter.1 h).1
theorem doK_ok {x : Wrt} (hx : WrOk x) {L : List Fl} (h : ∀ y ∈ L, PrOk y) : ∀ y ∈ doK x L, PrOk y := by
  intro y hy
  unfold doK at hy
  split at hy
  · exact h y (List.mem_filter.1 hy).1
  · rename_i hd
    rcases mem_setK hy with rfl | hy
    · exact ⟨hx.k0, hx.k1, hx.v (by simpa using hd), rfl⟩
    · exact h y hy
theorem doAll_ok : ∀ (l : List Wrt), (∀ x ∈ l, WrOk x) → ∀ {L : List Fl}, (∀ y ∈ L, PrOk y) → ∀ y ∈ doAll l L, PrOk y
  | [], _, _, h => h
  | x :: l, hl, _, h => doAll_ok l (fun y hy => hl y (List.mem_cons_of_mem _ hy)) (doK_ok (hl x (by simp)) h)
theorem doK_bare (x : Wrt) (L : List Fl) : doK (bare x) L = doK x L := by
  unfold bare
  split
  · rename_i h
    simp [doK, h]
  · rfl
theorem doAll_bare : ∀ (l : List Wrt) (L : List Fl), doAll (l.map bare) L = doAll l L
  | [], _ => rfl
  | x :: l, L => by
    show doAll (l.map bare) (doK (bare x) L) = doAll l (doK x L)
    rw [doK_bare, doAll_bare l]
theorem doK_len (x : Wrt) (L : List Fl) : (doK x L).length ≤ L.length + 1 := by
  unfold doK setK
  have h := List.length_filter_le (fun y : Fl => decide (y.1 ≠ x.key)) L
  split
  · unfold rm; omega
  · rw [(ins_perm _ _).length_eq]
    simp only [List.length_cons]
    unfold rm; omega
theorem doAll_len : ∀ (l : List Wrt) (L : List Fl), (doAll l L).length ≤ L.length + l.length
  | [], L => by simp [doAll]
  | x :: l, L => by
    have h1 := doAll_len l (doK x L)
    have h2 := doK_len x L
    have e : doAll (x :: l) L = doAll l (doK x L) := rfl
    rw [e, List.length_cons]
    omega
/-- What is read holds to the bounds. -/
theorem baK_size (l : List UInt8) : (baK l).size = l.length := by simp [baK, ByteArray.size]
end Kv
end Go.Proofs.YtcinjdaanhpbjaaGreat

namespace Go.Proofs.YtcinjdaanhpbjaaGreat
open Go.RowKit
namespace Wl
open Bw Rg

/-- The block in which a slice lies. -/
def blk : Value → Option Nat
  | .slice (some x) _ _ => some x.block
  | _ => none
theorem elem22 : Tryz.prog.elem 43 = 5 := by kernel_rfl
theorem under22 : Tryz.prog.underlying 43 = some (.slice (Tryz.prog.elem 43)) := by kernel_rfl
theorem size5 (w : World) : (sizeOf (Tryz.prog.elem 43)).run Tryz.prog w = .ok 1 w := by kernel_rfl
theorem SlM.len {w : World} {v : Value} {bs : List UInt8} (h : SlM w v bs) (ty : TypeId) (W : World) : (Builtin.len_ #[43] ty #[v]).run Tryz.prog W = .ok (.int .i64 (bs.length : Int)) W := by
  obtain ⟨a, c, rfl⟩ := h.sl.form
  exact run_len_slice (P := Tryz.prog) W 43 ty a bs.length c under22
theorem SlM.cut {w : World} {v : Value} {bs : List UInt8} (h : SlM w v bs) (lo hi : Nat) (h1 : lo ≤ hi) (h2 : hi ≤ bs.length) :
    ∃ a cap, v = .slice a bs.length cap ∧ bs.length ≤ cap ∧ SlM w (sliced a lo hi cap 1) ((bs.take hi).drop lo) ∧ blk (sliced a lo hi cap 1) = blk v := by
  have hlen : ((bs.take hi).drop lo).length = hi - lo := by simp; omega
  rcases h with ⟨rfl, rfl | ⟨x, cap, rfl, hc⟩⟩ | ⟨b, off, cap, rfl, h3, h4, hcell⟩
  · have e1 : hi = 0 := by simpa using h2
    have e2 : lo = 0 := by omega
    subst e1 e2
    exact ⟨none, 0, rfl, by simp, .inl ⟨rfl, .inl rfl⟩, rfl⟩
  · have e1 : hi = 0 := by simpa using h2
    have e2 : lo = 0 := by omega
    subst e1 e2
    refine ⟨some x, cap, rfl, by simp, .inl ⟨rfl, .inr ⟨x, cap, ?_, hc⟩⟩, ?_⟩
    · unfold sliced
      by_cases hz : cap = 0
      · simp [hz]
      · simp [hz, Addr.add]
    · unfold sliced
      by_cases hz : cap = 0
      · simp [hz, blk]
      · simp [hz, blk, Addr.add]
  · refine ⟨some ⟨b, off, none⟩, cap, rfl, h3, ?_, ?_⟩
    · by_cases hz : lo = hi
      · subst hz
        have e : (bs.take lo).drop lo = [] := List.eq_nil_of_length_eq_zero (by rw [hlen]; omega)
        rw [e]
        refine .inl ⟨rfl, .inr ?_⟩
        unfold sliced
        by_cases hc : cap = lo
        · exact ⟨⟨b, off, none⟩, cap - lo, by simp [hc], by omega⟩
        · exact ⟨(⟨b, off, none⟩ : Addr).add (lo * 1), cap - lo, by simp [hc], by omega⟩
      · refine .inr ⟨b, off + lo, cap - lo, ?_, by rw [hlen]; omega, by omega, fun j hj => ?_⟩
        · unfold sliced
          rw [if_neg (by omega), hlen]
          simp [addO]
        · rw [hlen] at hj
          have := hcell (lo + j) (by omega)
          rw [← Nat.add_assoc] at this
          rw [this]
          simp
    · unfold sliced
      by_cases hc : cap = lo
      · simp [hc, blk]
      · simp [hc, blk, addO]
/-- v[lo:] -/
theorem SlM.from {w : World} {v : Value} {bs : List UInt8} (h : SlM w v bs) (lo : Nat) (h1 : lo ≤ bs.length) (k : IntKind) :
    ∃ u, (∀ W, (Instr.slice 43 v (some (.int k (lo : Int))) none none).run Tryz.prog W = .ok u W) ∧ SlM w u (bs.drop lo) ∧ blk u = blk v := by
  obtain ⟨a, cap, rfl, h2, h3, h4⟩ := SlM.cut h lo bs.length h1 (Nat.le_refl _)
  rw [List.take_length] at h3
  refine ⟨_, fun W => ?_, h3, h4⟩
  rw [run_slice_l (P := Tryz.prog) W 43 a bs.length cap under22 k (lo : Int) (by omega) (by omega), size5]
  rfl
/-- v[:hi] -/
theorem SlM.upto {w : World} {v : Value} {bs : List UInt8} (h : SlM w v bs) (hi : Nat) (h1 : hi ≤ bs.length) (k : IntKind) :
    ∃ u, (∀ W, (Instr.slice 43 v none (some (.int k (hi : Int))) none).run Tryz.prog W = .ok u W) ∧ SlM w u (bs.take hi) ∧ blk u = blk v := by
  obtain ⟨a, cap, rfl, h2, h3, h4⟩ := SlM.cut h 0 hi (Nat.zero_le _) h1
  rw [List.drop_zero] at h3
  refine ⟨_, fun W => ?_, h3, h4⟩
  rw [run_slice_h (P := Tryz.prog) W 43 a bs.length cap under22 k (hi : Int) (by omega) (by omega), size5]
  rfl
/-- v[lo:hi] -/
theorem SlM.part {w : World} {v : Value} {bs : List UInt8} (h : SlM w v bs) (lo hi : Nat) (h1 : lo ≤ hi) (h2 : hi ≤ bs.length) (k k' : IntKind) :
    ∃ u, (∀ W, (Instr.slice 43 v (some (.int k (lo : Int))) (some (.int k' (hi : Int))) none).run Tryz.prog W = .ok u W) ∧ SlM w u ((bs.take hi).drop lo) ∧ blk u = blk v := by
  obtain ⟨a, cap, rfl, h3, h4, h5⟩ := SlM.cut h lo hi h1 h2
  refine ⟨_, fun W => ?_, h4, h5⟩
  rw [run_slice_lh (P := Tryz.prog) W 43 a bs.length cap under22 k k' (lo : Int) (hi : Int) (by omega) (by omega) (by omega), size5]
  rfl
theorem SlM.free {S : Nat → Prop} {w w' : World} {v : Value} {bs : List UInt8} (h : SlM w v bs) (f : Fr S w w') (hn : ∀ b, blk v = some b → ¬ S b) : SlM w' v bs :=
  h.fr f (fun x l c e _ => hn x.block (by rw [e]; rfl))
theorem SlM.blk_lt {w : World} {v : Value} {bs : List UInt8} (h : SlM w v bs) (h0 : bs ≠ []) : ∀ b, blk v = some b → b < w.heap.size := by
  intro b hb
  rcases h with ⟨e, _⟩ | ⟨b', off, cap, rfl, h1, h2, hc⟩
  · exact absurd e h0
  · have hp : 0 < bs.length := List.length_pos_iff.2 h0
    have e : b' = b := by simpa [blk] using hb
    subst e
    exact cell_lt (hc 0 hp)
/-- Bytes as a text, in any world in which the slice holds them. -/
theorem SlM.conv {w : World} {v : Value} {bs : List UInt8} (h : SlM w v bs) : (convert 43 9 v).run Tryz.prog w = .ok (.string ⟨bs.toArray⟩) w := conv_sl h
theorem str_eq (xs ys : List UInt8) : ((⟨xs.toArray⟩ : ByteArray).toList == (⟨ys.toArray⟩ : ByteArray).toList) = decide (xs = ys) := by
  rw [Lib.toList_data, Lib.toList_data, Bool.eq_iff_iff]
  simp
/-- A slice of slices of bytes. -/
def SlS (w : World) (v : Value) (LL : List (List UInt8)) : Prop :=
  (LL = [] ∧ ∃ sp sc, v = .slice sp 0 sc) ∨ ∃ b off cap, v = .slice (some ⟨b, off, none⟩) LL.length cap ∧ LL.length ≤ cap ∧ cap ≤ 9223372036854775807 ∧ ∀ i bs, LL[i]? = some bs → ∃ u, w.cell? ⟨b, off + i, none⟩ = some u ∧ SlM w u bs
theorem under34 : Tryz.prog.underlying 107 = some (.slice (Tryz.prog.elem 107)) := by kernel_rfl
theorem SlS.form {w : World} {v : Value} {LL : List (List UInt8)} (h : SlS w v LL) : ∃ a c, v = .slice a LL.length c := by
  rcases h with ⟨rfl, a, c, rfl⟩ | ⟨b, off, cap, rfl, _⟩
  · exact ⟨a, c, rfl⟩
  · exact ⟨_, _, rfl⟩
theorem SlS.len {w : World} {v : Value} {LL : List (List UInt8)} (h : SlS w v LL) (ty : TypeId) (W : World) : (Builtin.len_ #[107] ty #[v]).run Tryz.prog W = .ok (.int .i64 (LL.length : Int)) W := by
  obtain ⟨a, c, rfl⟩ := h.form
  exact run_len_slice (P := Tryz.prog) W 107 ty a LL.length c under34
theorem SlS.below {w w' : World} {v : Value} {LL : List (List UInt8)} (h : SlS w v LL) (hb : Below w.heap.size w w') : SlS w' v LL := by
  rcases h with h | ⟨b, off, cap, rfl, h1, h2, hc⟩
  · exact .inl h
  · refine .inr ⟨b, off, cap, rfl, h1, h2, fun i bs hi => ?_⟩
    obtain ⟨u, hu, hs⟩ := hc i bs hi
    exact ⟨u, (hb.cell (p := ⟨b, off + i, none⟩) (cell_lt hu)).trans hu, hs.below hb (Nat.le_refl _)⟩
/-- Its element i: where it lies, and what it holds. -/
theorem SlS.at {w : World} {v : Value} {LL : List (List UInt8)} (h : SlS w v LL) {i : Nat} {bs : List UInt8} (hi : LL[i]? = some bs) : ∃ b off cap u, v = .slice (some ⟨b, off, none⟩) LL.length cap ∧ w.cell? ⟨b, off + i, none⟩ = some u ∧ SlM w u bs := by
  rcases h with ⟨rfl, _⟩ | ⟨b, off, cap, rfl, h1, h2, hc⟩
  · simp at hi
  · obtain ⟨u, hu, hs⟩ := hc i bs hi
    exact ⟨b, off, cap, u, rfl, hu, hs⟩
end Wl
end Go.Proofs.YtcinjdaanhpbjaaGreat
