/- appendNumber, appendKey, appendValue; Get, Count: by walking their texts. The reference's number, in bytes: by walking its text. Where this program's slices.Sorted, slices.Sort and maps.Keys stand among its functions and types, so that the library's own contracts on them speak of it (printed by the guide's tools lay-shelf and lay-plain). -/
import Derived.Test.YtcinjdaanhpbjaaGreatRx
import Derived.Lib.AppendStr
import Derived.Test.YtcinjdaanhpbjaaGreatXal
import Derived.Shelf.LaysM
import Derived.Shelf.Strconv.Clone
import Derived.Shelf.Sort.Plain
import Derived.Shelf.Strings.Prefix
import Derived.Ground.SlbCloneProg
import Derived.Shelf.Bytes.SlClone
import Derived.Ground.SlgmProg
import Derived.Shelf.SortM.SortNone
import Derived.Shelf.SlIter.Nil
import Derived.Shelf.SortM.Plain
import Derived.Ground.GgzProg
import Derived.Test.YtcinjdaanhpbjaaGreatProg
namespace Go.Proofs.YtcinjdaanhpbjaaGreat
open Go.RowKit
namespace Kv
open Bw Rg Dk Rf Wl

theorem lit1 (w : World) (x : UInt8) : SlM (w.alloc (.cells #[.int .u8 (x.toNat : Int)] 5)) (.slice (some ⟨w.heap.size, 0, none⟩) 1 1) [x] := Dk.lit_slm w [x] (by simp) (by simp)
/-- What lies in other than rows of bytes is as it was. -/
def Boxes (w w' : World) : Prop := ∀ (N : Nat) (cs : Array Value) (ty : TypeId) (n : Nat), w.heap[N]? = some (.cells cs ty (n, 0)) → ty ≠ 5 → w'.heap[N]? = some (.cells cs ty (n, 0))
theorem Boxes.refl (w : World) : Boxes w w := fun _ _ _ _ h _ => h
theorem Boxes.trans {a b c : World} (h : Boxes a b) (k : Boxes b c) : Boxes a c := fun N cs ty n e ht => k N cs ty n (h N cs ty n e ht) ht
theorem Boxes.of_below {w w' : World} (h : Below w.heap.size w w') : Boxes w w' := fun N _cs _ty _n e _ => (h.block N (lt_of_block e)).trans e
theorem Boxes.grown {base : Nat} {w w' : World} {v : Value} {bs : List UInt8} (hr : RowB base w v bs) (hg : w.grownBy w' v.ownBlock) : Boxes w w' := fun N cs ty n e ht => (hg.block N (lt_of_block e) (fun e2 => row_ne e hr ht (by rw [← e2]; simp))).trans e
set_option maxHeartbeats 2000000 in
theorem appNum_any (base : Nat) (v : Value) (bs : List UInt8) (n size : Nat) (w : World) (hv : RowB base w v bs) (hn : n < 18446744073709551616) (hs : size ≤ 8) (hl : bs.length ≤ 1099511627776) (hb : base ≤ w.heap.size) : Calls Tryz.prog 67 #[v, .int .u64 (n : Int), .int .i64 (size : Int)] w fun e w' => ∃ v', e = .returned v' ∧ RowB base w' v' (bs ++ leB size n) ∧ Below base w w' ∧ Boxes w w' := by
  have HV : Hid (RowB base w v bs ∧ bs.length ≤ 1099511627776 ∧ base ≤ w.heap.size) := ⟨hv, hl, hb⟩
  clear hv hl hb
  go_enter Tryz.func67, Tryz.ntmps67
  go_wp2
  go_loopw [0, 1, 8] (fun x y z wr => ∃ (i m : Nat) (pre : List UInt8), y = .int .u64 (m : Int) ∧ z = .int .i64 (i : Int) ∧ i ≤ size ∧ m < 18446744073709551616 ∧ Hid (RowB base wr x pre ∧ Below base w wr ∧ pre ++ leB (size - i) m = bs ++ leB size n ∧ pre.length = bs.length + i ∧ Boxes w wr)) (fun _ _ z _ => size - Dk.numOf z)
  case atStart => exact ⟨0, n, bs, rfl, rfl, Nat.zero_le _, hn, HV.out.1, Below.refl _ _, by simp, rfl, Boxes.refl _⟩
  case round =>
    obtain ⟨i, m, pre, rfl, rfl, hi, hm, HR⟩ := hrel
    by_cases hlt : i < size
    · have hlt' : (i : Int) < (size : Int) := by omega
      have e8 : IntKind.u8.wrap (m : Int) = ((m.toUInt8).toNat : Int) := wrap8 m
      have HS : Hid ((pre ++ [m.toUInt8]) ++ leB (size - (i + 1)) (m / 256) = bs ++ leB size n) := by
        show _ = _
        rw [← HR.out.2.2.1, show size - i = (size - (i + 1)) + 1 by omega]
        simp [leB]
      have hsz : base ≤ wr.heap.size := by have := HR.out.2.1.size; have := HV.out.2.2; omega
      obtain ⟨x8, hx8⟩ : ∃ x, m.toUInt8 = x := ⟨_, rfl⟩
      rw [hx8] at e8 HS
      clear hx8
      go_wp2_with (refine appb_at rfl (.tmp 10) (.tmp 13) rfl base _ pre rfl (HR.out.1.kept (alloc_below _ _)) _ [x8] rfl (lit1 _ x8) (by have := HR.out.2.2.2.1; have := HV.out.2.1; simp; omega) (by simp; omega) ?_; rintro v4 w4 hr4 hg4 -; have hk4 := HR.out.1.kept (alloc_below wr (.cells #[.int .u8 (x8.toNat : Int)] 5)); have H4 := (show Hid (RowB base w4 v4 (pre ++ [x8]) ∧ Below base w w4 ∧ Boxes w w4) from ⟨hr4, (HR.out.2.1.trans ((alloc_below _ _).mono hsz)).trans (RowB.grown hk4 hg4 (by simp; omega)), HR.out.2.2.2.2.trans ((Boxes.of_below (alloc_below _ _)).trans (Boxes.grown hk4 hg4))⟩); clear hr4 hg4 hk4)
      go_roundw
      case rel => exact ⟨i + 1, m / 256, pre ++ [x8], by go_num, by go_num, hlt, by omega, H4.out.1, H4.out.2.1, HS.out, by rw [List.length_append, HR.out.2.2.2.1]; rfl, H4.out.2.2⟩
      case measure => show size - ((i : Int) + 1).toNat < size - (i : Int).toNat; omega
    · have hlt' : ¬ (i : Int) < (size : Int) := by omega
      go_wp2
      go_ret
      have e := HR.out.2.2.1
      rw [show size - i = 0 by omega] at e
      simp only [leB, List.append_nil] at e
      rw [← e]
      exact ⟨_, rfl, HR.out.1, HR.out.2.1, HR.out.2.2.2.2⟩
theorem app_str {w : World} {ops : Array Oper} {rest : List Oper} {o : Oper} {a : Act} {Q : Exit → Act → World → Prop} (hgd : o.guard = none) (s x : Operand) (ho : o.op = .call { callee := .builtin .append, args := #[s, x], argTypes := #[43, 9] }) (base : Nat) (v : Value) (bs : List UInt8) (hs : a.eval s = v) (hrow : RowB base w v bs)
    (S : ByteArray) (hx : a.eval x = .string S) (hlen : bs.length + S.size ≤ 140737488355328) (hbase : base ≤ w.heap.size)
    (h : ∀ v' w', RowB base w' v' (bs ++ S.data.toList) → Below base w w' → Boxes w w' → wpList Tryz.prog ops Q rest (a.put o.dst v') w') : wpList Tryz.prog ops Q (o :: rest) a w := by
  obtain ⟨i0, hi, hz0, hz1, hz2⟩ := info_parts info5
  refine Lib.wpList_append_own_string _ hgd s x 43 9 ho base 5 i0 Tryz.underlying43 Tryz.underlying9 hi hz0 hz1 hz2 v _ _ hs hrow S hx (by unfold maxLen; omega) (by omega) hbase ?_
  intro v1 w1 hown hg _
  exact h v1 w1 (RowB.more hown (Lib.size_eq S) rfl) (RowB.grown hrow hg hbase) (Boxes.grown hrow hg)
set_option maxHeartbeats 1000000 in
theorem appKey_any (base : Nat) (v : Value) (bs : List UInt8) (K : ByteArray) (w : World) (hv : RowB base w v bs) (hK : K.size ≤ 255) (hl : bs.length ≤ 1099511627776) (hb : base ≤ w.heap.size) : Calls Tryz.prog 68 #[v, .string K] w fun e w' => ∃ v', e = .returned v' ∧ RowB base w' v' (bs ++ keyB K) ∧ Below base w w' ∧ Boxes w w' := by
  have ew : IntKind.u64.wrap (K.size : Int) = (K.size : Int) := by rw [IntKind.wrap_u64]; omega
  have cn := appNum_any base v bs K.size 1 w hv (by omega) (by decide) hl hb
  have HB : Hid (bs.length ≤ 1099511627776 ∧ base ≤ w.heap.size ∧ K.size ≤ 255) := ⟨hl, hb, hK⟩
  clear hv hl hb hK
  go_enter Tryz.func68, Tryz.ntmps68
  go_wp2_with (first
    | (go_at_call 67; refine Calls.mono cn ?_; rintro e w1 ⟨v1, rfl, hr1, hb1⟩; have H1 := (show Hid (RowB base w1 v1 (bs ++ leB 1 K.size) ∧ Below base w w1 ∧ Boxes w w1) from ⟨hr1, hb1⟩); clear hr1 hb1 cn)
    | (have hq := H1; clear hq; refine app_str rfl (.tmp 10) (.tmp 11) rfl base _ (bs ++ leB 1 K.size) rfl H1.out.1 K rfl (by have := HB.out; rw [List.length_append, leB_len]; omega) (by have := H1.out.2.1.size; have := HB.out.2.1; omega) ?_; intro v4 w4 hr4 hb4 hx4; have H4 := (show Hid (RowB base w4 v4 (bs ++ leB 1 K.size ++ K.data.toList) ∧ Below base w w4 ∧ Boxes w w4) from ⟨hr4, H1.out.2.1.trans hb4, H1.out.2.2.trans hx4⟩); clear hr4 hb4 hx4))
  go_ret
  have h9 := H4.out.1
  rw [List.append_assoc] at h9
  exact ⟨_, rfl, h9, H4.out.2⟩
set_option maxHeartbeats 1000000 in
theorem appVal_any (base : Nat) (v u : Value) (bs vs : List UInt8) (w : World) (hv : RowB base w v bs) (hu : SlM w u vs) (hap : vs ≠ [] → ∀ b, blk u = some b → b < base) (hvl : vs.length ≤ 1099511627776) (hl : bs.length ≤ 1099511627776) (hb : base ≤ w.heap.size) : Calls Tryz.prog 69 #[v, u] w fun e w' => ∃ v', e = .returned v' ∧ RowB base w' v' (bs ++ (leB 4 vs.length ++ vs)) ∧ Below base w w' ∧ Boxes w w' := by
  have hlen := SlM.len hu
  obtain ⟨n, hn⟩ : ∃ n, vs.length = n := ⟨_, rfl⟩
  have cn := appNum_any base v bs n 4 w hv (by omega) (by decide) hl hb
  have ew : IntKind.u64.wrap (n : Int) = (n : Int) := by rw [IntKind.wrap_u64]; omega
  rw [hn] at hlen ⊢
  have HB : Hid (bs.length ≤ 1099511627776 ∧ base ≤ w.heap.size ∧ n ≤ 1099511627776 ∧ SlM w u vs ∧ (vs ≠ [] → ∀ b, blk u = some b → b < base) ∧ vs.length = n) := ⟨hl, hb, by omega, hu, hap, hn⟩
  clear hv hl hb hu hap hvl hn
  go_enter Tryz.func69, Tryz.ntmps69
  go_wp2_with (first
    | (go_at_call 67; refine Calls.mono cn ?_; rintro e w1 ⟨v1, rfl, hr1, hb1, hx1⟩; have hsu := SlM.freeN HB.out.2.2.2.1 (show Fr (fun b => base ≤ b) w w1 from ⟨hb1.os, hb1.tape, hb1.output, hb1.size, fun k hk hn => hb1.block k (by omega)⟩) (fun hne b hb hc => by have := HB.out.2.2.2.2.1 hne b hb; omega); have H1 := (show Hid (RowB base w1 v1 (bs ++ leB 4 n) ∧ Below base w w1 ∧ SlM w1 u vs ∧ Boxes w w1) from ⟨hr1, hb1, hsu, hx1⟩); clear hr1 hb1 cn hsu hx1)
    | (have hq := H1; clear hq; refine appb_at rfl (.tmp 10) (.tmp 11) rfl base _ (bs ++ leB 4 n) rfl H1.out.1 _ vs rfl H1.out.2.2.1 (by have := HB.out; rw [List.length_append, leB_len]; omega) (by have := H1.out.2.1.size; have := HB.out.2.1; omega) ?_; rintro v4 w4 hr4 hg4 -; have H4 := (show Hid (RowB base w4 v4 (bs ++ leB 4 n ++ vs) ∧ Below base w w4 ∧ Boxes w w4) from ⟨hr4, H1.out.2.1.trans (RowB.grown H1.out.1 hg4 (by have := H1.out.2.1.size; have := HB.out.2.1; omega)), H1.out.2.2.2.trans (Boxes.grown H1.out.1 hg4)⟩); clear hr4 hg4))
  go_ret
  have h9 := H4.out.1
  rw [List.append_assoc] at h9
  exact ⟨_, rfl, h9, H4.out.2⟩
/-- The value of a key: nothing, if it has none. -/
def valO : Option Fl → List UInt8
  | none => []
  | some x => x.2.1
section
variable {w : World} {k : Ks} {L : List Fl}
theorem vs_none (hp : (k.vs.map VR.ab).Perm L) {s : ByteArray} (hf : findA s L = none) : ∀ f ∈ k.vs, f.nm ≠ s := fun f hf' e => find_no hf f.ab (hp.mem_iff.1 (List.mem_map_of_mem hf')) e
theorem vs_some (hp : (k.vs.map VR.ab).Perm L) {s : ByteArray} {x : Fl} (hf : findA s L = some x) : ∃ f ∈ k.vs, f.nm = s ∧ f.ab = x := by
  obtain ⟨h1, h2⟩ := find_some hf
  obtain ⟨f, hf, e⟩ := List.mem_map.1 (hp.mem_iff.2 h1)
  exact ⟨f, hf, by rw [← h2, ← e]; rfl, e⟩
set_option maxHeartbeats 1000000 in
theorem get_any (h : KvAt w k) (hp : (k.vs.map VR.ab).Perm L) (hL : ∀ x ∈ L, x.2.1.length ≤ 140737488355328) (s : ByteArray) (hs : s.size ≤ 9223372036854775807) : Calls Tryz.prog 20 #[.pointer (some ⟨k.sb, 0, none⟩), .string s] w fun e w' => ∃ v, e = .returned (.tuple #[v, .bool (findA s L).isSome]) ∧ RowB w.heap.size w' v (valO (findA s L)) ∧ Below w.heap.size w w' := by
  have c4 := h.c4
  cases hf : findA s L with
  | none =>
    have hm := h.map.miss (vs_none hp hf) hs
    obtain ⟨SB, hSB⟩ : ∃ x, k.sb = x := ⟨_, rfl⟩
    rw [hSB] at c4 ⊢
    have c52 := Dk.clone_any (.slice none 0 0) [] w (.inl ⟨rfl, .inl rfl⟩) (by simp)
    clear hSB h hp hL hf
    go_enter Tryz.func20, Tryz.ntmps20
    go_wp2_with (go_at_call 52; refine Calls.mono c52 ?_; rintro e w1 ⟨v1, rfl, hr1, hb1⟩; have H1 := (show Hid (RowB w.heap.size w1 v1 [] ∧ Below w.heap.size w w1) from ⟨hr1, hb1⟩); clear hr1 hb1 c52)
    go_ret2
    exact ⟨_, rfl, H1.out.1, H1.out.2⟩
  | some x =>
    obtain ⟨f, hf1, hf2, hf3⟩ := vs_some hp hf
    have hm := h.map.hit hf1 (by rw [hf2]; exact hs)
    rw [hf2] at hm
    have hlen : f.bs.length ≤ 140737488355328 := by
      have := hL x (find_some hf).1
      rw [← hf3] at this
      exact this
    have e : x.2.1 = f.bs := by rw [← hf3]; rfl
    have c52 := Dk.clone_any f.v f.bs w (h.vals f hf1).slm hlen
    obtain ⟨SB, hSB⟩ : ∃ x, k.sb = x := ⟨_, rfl⟩
    obtain ⟨V, hV⟩ : ∃ x, f.v = x := ⟨_, rfl⟩
    rw [hV] at hm c52
    rw [hSB] at c4 ⊢
    unfold valO
    simp only
    rw [e]
    clear hSB h hp hL hf hV e hlen
    go_enter Tryz.func20, Tryz.ntmps20
    go_wp2_with (go_at_call 52; refine Calls.mono c52 ?_; rintro e w1 ⟨v1, rfl, hr1, hb1⟩; have H1 := (show Hid (RowB w.heap.size w1 v1 f.bs ∧ Below w.heap.size w w1) from ⟨hr1, hb1⟩); clear hr1 hb1 c52)
    go_ret2
    exact ⟨_, rfl, H1.out.1, H1.out.2⟩
theorem count_any (h : KvAt w k) (hc : k.count < 9223372036854775808) : Calls Tryz.prog 33 #[.pointer (some ⟨k.sb, 0, none⟩)] w fun e w' => e = .returned (.int .i64 (k.count : Int)) ∧ w' = w := by
  have c5 := h.c5
  have ew : IntKind.i64.wrap (k.count : Int) = (k.count : Int) := by rw [IntKind.wrap_i64]; omega
  obtain ⟨SB, hSB⟩ : ∃ x, k.sb = x := ⟨_, rfl⟩
  rw [hSB] at c5 ⊢
  clear hSB h hc
  go_enter Tryz.func33, Tryz.ntmps33
  go_wp2
  go_ret
  exact ⟨rfl, rfl⟩
end
end Kv
end Go.Proofs.YtcinjdaanhpbjaaGreat

namespace Go.Proofs.YtcinjdaanhpbjaaGreat
open Go.RowKit
namespace Kv
open Bw Rg Dk Rf Wl

set_option maxRecDepth 100000 in
set_option maxHeartbeats 2000000 in
theorem numW_any (n size : Nat) (w : World) (hn : n < 9223372036854775808) (hs : size ≤ 8) : Calls Tryz.prog 48 #[.int .i64 (n : Int), .int .i64 (size : Int)] w fun e w' => ∃ v', e = .returned v' ∧ RowB w.heap.size w' v' (leB size n) ∧ Below w.heap.size w w' := by
  go_enter Tryz.func48, Tryz.ntmps48
  go_wp2
  go_loopw [0, 5, 6] (fun y x z wr => ∃ (i m : Nat) (pre : List UInt8), y = .int .i64 (m : Int) ∧ z = .int .i64 (i : Int) ∧ i ≤ size ∧ m < 9223372036854775808 ∧ Hid (RowB w.heap.size wr x pre ∧ Below w.heap.size w wr ∧ pre ++ leB (size - i) m = leB size n ∧ pre.length = i)) (fun _ _ z _ => size - Dk.numOf z)
  case atStart => exact ⟨0, n, [], rfl, rfl, Nat.zero_le _, hn, World.ownsRow_nil _ _ _ _, Below.refl _ _, by simp, rfl⟩
  case round =>
    obtain ⟨i, m, pre, rfl, rfl, hi, hm, HR⟩ := hrel
    by_cases hlt : i < size
    · have hlt' : (i : Int) < (size : Int) := by omega
      have e8 : (m : Int) % 256 = ((m.toUInt8).toNat : Int) := by
        have : (m.toUInt8).toNat = m % 256 := by simp
        omega
      have HS : Hid ((pre ++ [m.toUInt8]) ++ leB (size - (i + 1)) (m / 256) = leB size n) := by
        show _ = _
        rw [← HR.out.2.2.1, show size - i = (size - (i + 1)) + 1 by omega]
        simp [leB]
      have hsz : w.heap.size ≤ wr.heap.size := HR.out.2.1.size
      obtain ⟨x8, hx8⟩ : ∃ x, m.toUInt8 = x := ⟨_, rfl⟩
      rw [hx8] at e8 HS
      clear hx8
      go_wp2_with (refine appb_at rfl (.tmp 12) (.tmp 16) rfl w.heap.size _ pre rfl (HR.out.1.kept (alloc_below _ _)) _ [x8] rfl (lit1 _ x8) (by have := HR.out.2.2.2; simp; omega) (by simp; omega) ?_; rintro v4 w4 hr4 hg4 -; have hk4 := HR.out.1.kept (alloc_below wr (.cells #[.int .u8 (x8.toNat : Int)] 5)); have H4 := (show Hid (RowB w.heap.size w4 v4 (pre ++ [x8]) ∧ Below w.heap.size w w4) from ⟨hr4, (HR.out.2.1.trans ((alloc_below _ _).mono hsz)).trans (RowB.grown hk4 hg4 (by simp; omega))⟩); clear hr4 hg4 hk4)
      go_roundw
      case rel => exact ⟨i + 1, m / 256, pre ++ [x8], by go_num, by go_num, hlt, by omega, H4.out.1, H4.out.2, HS.out, by rw [List.length_append, HR.out.2.2.2]; rfl⟩
      case measure => show size - ((i : Int) + 1).toNat < size - (i : Int).toNat; omega
    · have hlt' : ¬ (i : Int) < (size : Int) := by omega
      go_wp2
      go_ret
      have e := HR.out.2.2.1
      rw [show size - i = 0 by omega] at e
      simp only [leB, List.append_nil] at e
      exact ⟨_, rfl, by rw [← e]; exact HR.out.1, HR.out.2.1⟩
end Kv
end Go.Proofs.YtcinjdaanhpbjaaGreat

namespace Go.Proofs.YtcinjdaanhpbjaaGreat
open Go.Shelf
def keys73_ren : Go.Shelf.Ren := ⟨fun | 7 => 73 | 10 => 93 | n => n, fun | 23 => 78 | 26 => 9 | 3 => 43 | 28 => 129 | 0 => 0 | 27 => 128 | 33 => 117 | 4 => 4 | n => n, fun | n => n⟩
theorem keys73 : Go.Proofs.SlLaysZ.n7 Tryz.prog keys73_ren := {
  mixed := by kernel_rfl
  f7 := ⟨Tryz.f73.name, by decide, Tryz.func73.trans (congrArg some (by kernel_rfl))⟩
  f10 := ⟨Tryz.f93.name, by decide, Tryz.func93.trans (congrArg some (by kernel_rfl))⟩
  t0 := Tryz.underlying0
  a0 := Tryz.isAgg0
  z0 := Tryz.sizeOf0
  v0 := Tryz.zeroValue0
  t4 := Tryz.underlying4
  a4 := Tryz.isAgg4
  z4 := Tryz.sizeOf4
  v4 := Tryz.zeroValue4
  t23 := Tryz.underlying78
  a23 := Tryz.isAgg78
  z23 := Tryz.sizeOf78
  v23 := Tryz.zeroValue78
  t26 := Tryz.underlying9
  a26 := Tryz.isAgg9
  z26 := Tryz.sizeOf9
  v26 := Tryz.zeroValue9
  t27 := Tryz.underlying128
  a27 := Tryz.isAgg128
  z27 := Tryz.sizeOf128
  v27 := Tryz.zeroValue128
  t28 := Tryz.underlying129
  a28 := Tryz.isAgg129
  z28 := Tryz.sizeOf129
  v28 := Tryz.zeroValue129
  t33 := Tryz.underlying117
  a33 := Tryz.isAgg117
  z33 := Tryz.sizeOf117
  v33 := Tryz.zeroValue117 }
def sorted72_ren : Go.Shelf.Ren := ⟨fun | 6 => 72 | 8 => 92 | 9 => 58 | 11 => 112 | 13 => 85 | 12 => 84 | 23 => 110 | 24 => 111 | 14 => 101 | 15 => 102 | 16 => 103 | 17 => 104 | 18 => 105 | 19 => 106 | 20 => 107 | 21 => 108 | 22 => 109 | 25 => 115 | 26 => 116 | 27 => 117 | 28 => 118 | 29 => 119 | 30 => 120 | 31 => 121 | n => n, fun | 26 => 9 | 28 => 129 | 24 => 57 | 0 => 0 | 3 => 3 | 37 => 141 | 48 => 93 | 50 => 76 | 4 => 4 | 40 => 159 | 39 => 158 | 45 => 163 | 5 => 5 | 9 => 9 | 51 => 170 | 55 => 174 | 57 => 176 | 58 => 177 | 33 => 117 | n => n, fun | n => n⟩
theorem sorted72 : Go.Proofs.SlLaysZ.n6 Tryz.prog sorted72_ren := {
  mixed := by kernel_rfl
  f6 := ⟨Tryz.f72.name, by decide, Tryz.func72.trans (congrArg some (by kernel_rfl))⟩
  f8 := ⟨Tryz.f92.name, by decide, Tryz.func92.trans (congrArg some (by kernel_rfl))⟩
  f11 := ⟨Tryz.f112.name, by decide, Tryz.func112.trans (congrArg some (by kernel_rfl))⟩
  t0 := Tryz.underlying0
  a0 := Tryz.isAgg0
  z0 := Tryz.sizeOf0
  v0 := Tryz.zeroValue0
  t24 := Tryz.underlying57
  a24 := Tryz.isAgg57
  z24 := Tryz.sizeOf57
  v24 := Tryz.zeroValue57
  t26 := Tryz.underlying9
  a26 := Tryz.isAgg9
  z26 := Tryz.sizeOf9
  v26 := Tryz.zeroValue9
  t28 := Tryz.underlying129
  a28 := Tryz.isAgg129
  z28 := Tryz.sizeOf129
  v28 := Tryz.zeroValue129
  i26 := by kernel_rfl }
def sort58_ren : Go.Shelf.Ren := ⟨fun | 6 => 58 | 8 => 85 | 9 => 84 | 19 => 110 | 20 => 111 | 21 => 101 | 22 => 102 | 23 => 103 | 24 => 104 | 25 => 105 | 26 => 106 | 27 => 107 | 28 => 108 | 29 => 109 | 36 => 115 | 31 => 116 | 32 => 117 | 37 => 118 | 38 => 119 | 39 => 120 | 41 => 121 | n => n, fun | 27 => 57 | 29 => 9 | 3 => 3 | 32 => 141 | 26 => 57 | 0 => 0 | 44 => 93 | 46 => 76 | 4 => 4 | 36 => 159 | 35 => 158 | 41 => 163 | 5 => 5 | 9 => 9 | 53 => 170 | 57 => 174 | 63 => 176 | 64 => 177 | n => n, fun | n => n⟩
theorem sort58 : Go.Proofs.SlLaysM.n6 Tryz.prog sort58_ren := {
  mixed := by kernel_rfl
  f6 := ⟨Tryz.f58.name, by decide, Tryz.func58.trans (congrArg some (by kernel_rfl))⟩
  f8 := Tryz.func85.trans (congrArg some (by kernel_rfl))
  f9 := ⟨Tryz.f84.name, by decide, Tryz.func84.trans (congrArg some (by kernel_rfl))⟩
  f19 := Tryz.func110.trans (congrArg some (by kernel_rfl))
  f20 := Tryz.func111.trans (congrArg some (by kernel_rfl))
  f21 := ⟨Tryz.f101.name, by decide, Tryz.func101.trans (congrArg some (by kernel_rfl))⟩
  f22 := ⟨Tryz.f102.name, by decide, Tryz.func102.trans (congrArg some (by kernel_rfl))⟩
  f23 := ⟨Tryz.f103.name, by decide, Tryz.func103.trans (congrArg some (by kernel_rfl))⟩
  f24 := ⟨Tryz.f104.name, by decide, Tryz.func104.trans (congrArg some (by kernel_rfl))⟩
  f25 := ⟨Tryz.f105.name, by decide, Tryz.func105.trans (congrArg some (by kernel_rfl))⟩
  f26 := ⟨Tryz.f106.name, by decide, Tryz.func106.trans (congrArg some (by kernel_rfl))⟩
  f27 := ⟨Tryz.f107.name, by decide, Tryz.func107.trans (congrArg some (by kernel_rfl))⟩
  f28 := ⟨Tryz.f108.name, by decide, Tryz.func108.trans (congrArg some (by kernel_rfl))⟩
  f29 := ⟨Tryz.f109.name, by decide, Tryz.func109.trans (congrArg some (by kernel_rfl))⟩
  f31 := Tryz.func116.trans (congrArg some (by kernel_rfl))
  f32 := Tryz.func117.trans (congrArg some (by kernel_rfl))
  f36 := ⟨Tryz.f115.name, by decide, Tryz.func115.trans (congrArg some (by kernel_rfl))⟩
  f37 := ⟨Tryz.f118.name, by decide, Tryz.func118.trans (congrArg some (by kernel_rfl))⟩
  f38 := ⟨Tryz.f119.name, by decide, Tryz.func119.trans (congrArg some (by kernel_rfl))⟩
  f39 := ⟨Tryz.f120.name, by decide, Tryz.func120.trans (congrArg some (by kernel_rfl))⟩
  f41 := ⟨Tryz.f121.name, by decide, Tryz.func121.trans (congrArg some (by kernel_rfl))⟩
  t0 := Tryz.underlying0
  a0 := Tryz.isAgg0
  z0 := Tryz.sizeOf0
  v0 := Tryz.zeroValue0
  t3 := Tryz.underlying3
  a3 := Tryz.isAgg3
  z3 := Tryz.sizeOf3
  v3 := Tryz.zeroValue3
  t4 := Tryz.underlying4
  a4 := Tryz.isAgg4
  z4 := Tryz.sizeOf4
  v4 := Tryz.zeroValue4
  t5 := Tryz.underlying5
  a5 := Tryz.isAgg5
  z5 := Tryz.sizeOf5
  v5 := Tryz.zeroValue5
  t9 := Tryz.underlying9
  a9 := Tryz.isAgg9
  z9 := Tryz.sizeOf9
  v9 := Tryz.zeroValue9
  t26 := Tryz.underlying57
  a26 := Tryz.isAgg57
  z26 := Tryz.sizeOf57
  v26 := Tryz.zeroValue57
  t27 := Tryz.underlying57
  a27 := Tryz.isAgg57
  z27 := Tryz.sizeOf57
  v27 := Tryz.zeroValue57
  t29 := Tryz.underlying9
  a29 := Tryz.isAgg9
  z29 := Tryz.sizeOf9
  v29 := Tryz.zeroValue9
  t32 := Tryz.underlying141
  a32 := Tryz.isAgg141
  z32 := Tryz.sizeOf141
  v32 := Tryz.zeroValue141
  t35 := Tryz.underlying158
  a35 := Tryz.isAgg158
  z35 := Tryz.sizeOf158
  v35 := Tryz.zeroValue158
  t36 := Tryz.underlying159
  a36 := Tryz.isAgg159
  z36 := Tryz.sizeOf159
  v36 := Tryz.zeroValue159
  t41 := Tryz.underlying163
  a41 := Tryz.isAgg163
  z41 := Tryz.sizeOf163
  v41 := Tryz.zeroValue163
  t44 := Tryz.underlying93
  a44 := Tryz.isAgg93
  z44 := Tryz.sizeOf93
  v44 := Tryz.zeroValue93
  t46 := Tryz.underlying76
  a46 := Tryz.isAgg76
  z46 := Tryz.sizeOf76
  v46 := Tryz.zeroValue76
  t53 := Tryz.underlying170
  a53 := Tryz.isAgg170
  z53 := Tryz.sizeOf170
  v53 := Tryz.zeroValue170
  t57 := Tryz.underlying174
  a57 := Tryz.isAgg174
  z57 := Tryz.sizeOf174
  v57 := Tryz.zeroValue174
  t63 := Tryz.underlying176
  a63 := Tryz.isAgg176
  z63 := Tryz.sizeOf176
  v63 := Tryz.zeroValue176
  t64 := Tryz.underlying177
  a64 := Tryz.isAgg177
  z64 := Tryz.sizeOf177
  v64 := Tryz.zeroValue177 }
open Go.RowKit Go.Maps Go.Sort Go.Lib
theorem sorts72 (m : Nat) : AnyZ.SortsIn Tryz.prog sorted72_ren Fence.wide m :=
  ⟨fun blk off cap ss W hH hblk hsz => callsIn_wide.2 (AnyM.slices_Sort_string sort58 blk off cap ss W hH hblk hsz),
   fun p cap W => callsIn_wide.2 (AnyM.slices_Sort_string_none sort58 p cap W)⟩

theorem maps_Keys_73 (mb : Option Nat) (W : World) : CallsIn Fence.wide 5 Tryz.prog 73 #[.map mb] W fun e w' => e = .returned (.func (.func 93) #[] #[.pointer (some ⟨W.heap.size, 0, none⟩)]) ∧ w' = W.alloc (.cells #[.map mb] 78) :=
  AnyZ.keys_in keys73 Fence.wide 5 trivial rfl mb W

set_option maxHeartbeats 1000000 in
theorem slices_Sorted_keys_72_73 {H : Type} (b nn : Nat) (D0 : DataW H) (R : Value → Option (DataW H × List MemPlace)) (w : World) (hown : w.ownsMap Tryz.prog 9 R b nn D0) (hmax : Maps.size D0 ≤ maxLen) (hbytes : Maps.size D0 * 16 ≤ 140737488355328) :
    CallsIn Fence.wide 5 Tryz.prog 72 #[.func (.func 93) #[] #[.pointer (some ⟨w.heap.size, 0, none⟩)]] (w.alloc (.cells #[.map (some b)] 78)) fun e w' => ∃ (v : Value) (ss : List (List UInt8)), e = .returned v ∧ ss.Perm (strKeys D0) ∧
      w'.ownsRow (w.alloc (.cells #[.map (some b)] 78)).heap.size 9 1 v ss.length ((ss.mergeSort (fun x y => decide (x ≤ y))).map encStr) ∧ (v = .slice none 0 0 ↔ ss = []) ∧ Below (w.alloc (.cells #[.map (some b)] 78)).heap.size (w.alloc (.cells #[.map (some b)] 78)) w' := by
  have hbl := hown.lt
  have hseq : SeqGives Fence.wide 2 Tryz.prog 93 #[.pointer (some ⟨w.heap.size, 0, none⟩)] encStr (fun ss => ss.Perm (strKeys D0)) (Maps.size D0) (w.alloc (.cells #[.map (some b)] 78)) :=
    AnyZ.keys_gives (ρ := keys73_ren) { keys73 with } Fence.wide _ trivial rfl (by omega) w.heap.size b nn D0 _ (by simp) (by simp) (by
      obtain ⟨es, clock, hb, Ft, hs, hD⟩ := hown
      exact ⟨es, clock, (Below.heap_alloc _ _ b hbl).trans hb, Ft, hs, hD⟩)
  exact AnyZ.sorted_in sorted72 Fence.wide 5 trivial trivial trivial trivial rfl (by omega) (sorts72 _) (enters_of Tryz.func58 (by kernel_rfl) rfl) 93 #[.pointer (some ⟨w.heap.size, 0, none⟩)] trivial (enters_of Tryz.func93 (by kernel_rfl) rfl) _ _ hmax hbytes _ hseq

theorem slices_Sort_string (blk off cap : Nat) (ss : List (List UInt8)) (w : World) (hH : Holds encStr w blk off ss.toArray) (hblk : blk < w.heap.size) (hsz : ss.length < 4611686018427387904) :
    Calls Tryz.prog 58 #[.slice (some ⟨blk, off, none⟩) ss.length cap] w fun e w' =>
      e = .returned (.tuple #[]) ∧ ∃ n os, w' = grow (putRow encStr (Sort.ahead w n) blk off (ss.mergeSort fun x y => decide (x ≤ y)).toArray) os := AnyM.slices_Sort_string sort58 blk off cap ss w hH hblk hsz
theorem slices_Sort_string_none (p : Option Addr) (cap : Nat) (w : World) :
    Calls Tryz.prog 58 #[.slice p 0 cap] w fun e w' => e = .returned (.tuple #[]) ∧ w' = w := AnyM.slices_Sort_string_none sort58 p cap w
end Go.Proofs.YtcinjdaanhpbjaaGreat
