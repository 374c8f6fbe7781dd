/- coveylaw00.Code at the errors that a disk answers. coveylaw00.Code at the further errors that a store answers. KvOpens: by walking its text. -/
import Derived.Test.YtcinjdaanhpbjaaGreatXaj
import Derived.Test.YtcinjdaanhpbjaaGreatXad
import Derived.Test.YtcinjdaanhpbjaaGreatXax
namespace Go.Proofs.YtcinjdaanhpbjaaGreat
open Go.RowKit
namespace Rf
open Bw Rg Dk

/-- Errors' numbers that a disk answers. -/
def Cd (n : Int) : Prop := n = 0 ∨ n = 1 ∨ n = 9 ∨ n = 11 ∨ n = 12
theorem code_0 (w : World) : Calls Tryz.prog 13 #[.nilIface] w fun e w' => e = .returned (.int .i64 0) ∧ w' = w := by
  go_enter Tryz.func13, Tryz.ntmps13
  go_wp2
  go_ret
  exact ⟨rfl, rfl⟩
theorem code_1 (w : World) : Calls Tryz.prog 13 #[.iface 48 (.int .i64 1)] w fun e w' => e = .returned (.int .i64 1) ∧ w' = w := by
  have n1 : ∀ W : World, (binOp .eql 38 (.iface 48 (.int .i64 1)) (.iface 48 (.int .i64 1))).run Tryz.prog W = .ok (.bool true) W := fun W => bin_err 1 1 W
  go_enter Tryz.func13, Tryz.ntmps13
  go_wp2
  go_ret
  exact ⟨rfl, rfl⟩
theorem code_9 (w : World) : Calls Tryz.prog 13 #[.iface 48 (.int .i64 9)] w fun e w' => e = .returned (.int .i64 9) ∧ w' = w := by
  have n1 : ∀ W : World, (binOp .eql 38 (.iface 48 (.int .i64 9)) (.iface 48 (.int .i64 1))).run Tryz.prog W = .ok (.bool false) W := fun W => bin_err 9 1 W
  have n2 : ∀ W : World, (binOp .eql 38 (.iface 48 (.int .i64 9)) (.iface 48 (.int .i64 2))).run Tryz.prog W = .ok (.bool false) W := fun W => bin_err 9 2 W
  have n3 : ∀ W : World, (binOp .eql 38 (.iface 48 (.int .i64 9)) (.iface 48 (.int .i64 3))).run Tryz.prog W = .ok (.bool false) W := fun W => bin_err 9 3 W
  have n4 : ∀ W : World, (binOp .eql 38 (.iface 48 (.int .i64 9)) (.iface 48 (.int .i64 4))).run Tryz.prog W = .ok (.bool false) W := fun W => bin_err 9 4 W
  have n5 : ∀ W : World, (binOp .eql 38 (.iface 48 (.int .i64 9)) (.iface 48 (.int .i64 5))).run Tryz.prog W = .ok (.bool false) W := fun W => bin_err 9 5 W
  have n6 : ∀ W : World, (binOp .eql 38 (.iface 48 (.int .i64 9)) (.iface 48 (.int .i64 6))).run Tryz.prog W = .ok (.bool false) W := fun W => bin_err 9 6 W
  have n7 : ∀ W : World, (binOp .eql 38 (.iface 48 (.int .i64 9)) (.iface 48 (.int .i64 7))).run Tryz.prog W = .ok (.bool false) W := fun W => bin_err 9 7 W
  have n8 : ∀ W : World, (binOp .eql 38 (.iface 48 (.int .i64 9)) (.iface 48 (.int .i64 8))).run Tryz.prog W = .ok (.bool false) W := fun W => bin_err 9 8 W
  have n9 : ∀ W : World, (binOp .eql 38 (.iface 48 (.int .i64 9)) (.iface 48 (.int .i64 9))).run Tryz.prog W = .ok (.bool true) W := fun W => bin_err 9 9 W
  go_enter Tryz.func13, Tryz.ntmps13
  go_wp2
  go_ret
  exact ⟨rfl, rfl⟩
theorem code_11 (w : World) : Calls Tryz.prog 13 #[.iface 48 (.int .i64 11)] w fun e w' => e = .returned (.int .i64 11) ∧ w' = w := by
  have n1 : ∀ W : World, (binOp .eql 38 (.iface 48 (.int .i64 11)) (.iface 48 (.int .i64 1))).run Tryz.prog W = .ok (.bool false) W := fun W => bin_err 11 1 W
  have n2 : ∀ W : World, (binOp .eql 38 (.iface 48 (.int .i64 11)) (.iface 48 (.int .i64 2))).run Tryz.prog W = .ok (.bool false) W := fun W => bin_err 11 2 W
  have n3 : ∀ W : World, (binOp .eql 38 (.iface 48 (.int .i64 11)) (.iface 48 (.int .i64 3))).run Tryz.prog W = .ok (.bool false) W := fun W => bin_err 11 3 W
  have n4 : ∀ W : World, (binOp .eql 38 (.iface 48 (.int .i64 11)) (.iface 48 (.int .i64 4))).run Tryz.prog W = .ok (.bool false) W := fun W => bin_err 11 4 W
  have n5 : ∀ W : World, (binOp .eql 38 (.iface 48 (.int .i64 11)) (.iface 48 (.int .i64 5))).run Tryz.prog W = .ok (.bool false) W := fun W => bin_err 11 5 W
  have n6 : ∀ W : World, (binOp .eql 38 (.iface 48 (.int .i64 11)) (.iface 48 (.int .i64 6))).run Tryz.prog W = .ok (.bool false) W := fun W => bin_err 11 6 W
  have n7 : ∀ W : World, (binOp .eql 38 (.iface 48 (.int .i64 11)) (.iface 48 (.int .i64 7))).run Tryz.prog W = .ok (.bool false) W := fun W => bin_err 11 7 W
  have n8 : ∀ W : World, (binOp .eql 38 (.iface 48 (.int .i64 11)) (.iface 48 (.int .i64 8))).run Tryz.prog W = .ok (.bool false) W := fun W => bin_err 11 8 W
  have n9 : ∀ W : World, (binOp .eql 38 (.iface 48 (.int .i64 11)) (.iface 48 (.int .i64 9))).run Tryz.prog W = .ok (.bool false) W := fun W => bin_err 11 9 W
  have n10 : ∀ W : World, (binOp .eql 38 (.iface 48 (.int .i64 11)) (.iface 48 (.int .i64 10))).run Tryz.prog W = .ok (.bool false) W := fun W => bin_err 11 10 W
  have n11 : ∀ W : World, (binOp .eql 38 (.iface 48 (.int .i64 11)) (.iface 48 (.int .i64 11))).run Tryz.prog W = .ok (.bool true) W := fun W => bin_err 11 11 W
  go_enter Tryz.func13, Tryz.ntmps13
  go_wp2
  go_ret
  exact ⟨rfl, rfl⟩
theorem code_12 (w : World) : Calls Tryz.prog 13 #[.iface 48 (.int .i64 12)] w fun e w' => e = .returned (.int .i64 12) ∧ w' = w := by
  have n1 : ∀ W : World, (binOp .eql 38 (.iface 48 (.int .i64 12)) (.iface 48 (.int .i64 1))).run Tryz.prog W = .ok (.bool false) W := fun W => bin_err 12 1 W
  have n2 : ∀ W : World, (binOp .eql 38 (.iface 48 (.int .i64 12)) (.iface 48 (.int .i64 2))).run Tryz.prog W = .ok (.bool false) W := fun W => bin_err 12 2 W
  have n3 : ∀ W : World, (binOp .eql 38 (.iface 48 (.int .i64 12)) (.iface 48 (.int .i64 3))).run Tryz.prog W = .ok (.bool false) W := fun W => bin_err 12 3 W
  have n4 : ∀ W : World, (binOp .eql 38 (.iface 48 (.int .i64 12)) (.iface 48 (.int .i64 4))).run Tryz.prog W = .ok (.bool false) W := fun W => bin_err 12 4 W
  have n5 : ∀ W : World, (binOp .eql 38 (.iface 48 (.int .i64 12)) (.iface 48 (.int .i64 5))).run Tryz.prog W = .ok (.bool false) W := fun W => bin_err 12 5 W
  have n6 : ∀ W : World, (binOp .eql 38 (.iface 48 (.int .i64 12)) (.iface 48 (.int .i64 6))).run Tryz.prog W = .ok (.bool false) W := fun W => bin_err 12 6 W
  have n7 : ∀ W : World, (binOp .eql 38 (.iface 48 (.int .i64 12)) (.iface 48 (.int .i64 7))).run Tryz.prog W = .ok (.bool false) W := fun W => bin_err 12 7 W
  have n8 : ∀ W : World, (binOp .eql 38 (.iface 48 (.int .i64 12)) (.iface 48 (.int .i64 8))).run Tryz.prog W = .ok (.bool false) W := fun W => bin_err 12 8 W
  have n9 : ∀ W : World, (binOp .eql 38 (.iface 48 (.int .i64 12)) (.iface 48 (.int .i64 9))).run Tryz.prog W = .ok (.bool false) W := fun W => bin_err 12 9 W
  have n10 : ∀ W : World, (binOp .eql 38 (.iface 48 (.int .i64 12)) (.iface 48 (.int .i64 10))).run Tryz.prog W = .ok (.bool false) W := fun W => bin_err 12 10 W
  have n11 : ∀ W : World, (binOp .eql 38 (.iface 48 (.int .i64 12)) (.iface 48 (.int .i64 11))).run Tryz.prog W = .ok (.bool false) W := fun W => bin_err 12 11 W
  have n12 : ∀ W : World, (binOp .eql 38 (.iface 48 (.int .i64 12)) (.iface 48 (.int .i64 12))).run Tryz.prog W = .ok (.bool true) W := fun W => bin_err 12 12 W
  go_enter Tryz.func13, Tryz.ntmps13
  go_wp2
  go_ret
  exact ⟨rfl, rfl⟩
theorem code_any {n : Int} (h : Cd n) (w : World) : Calls Tryz.prog 13 #[codeV n] w fun e w' => e = .returned (.int .i64 n) ∧ w' = w := by
  rcases h with rfl | rfl | rfl | rfl | rfl
  · exact code_0 w
  · exact code_1 w
  · exact code_9 w
  · exact code_11 w
  · exact code_12 w
end Rf
end Go.Proofs.YtcinjdaanhpbjaaGreat

namespace Go.Proofs.YtcinjdaanhpbjaaGreat
open Go.RowKit
namespace Kv
open Bw Rg Dk Rf

/-- Errors' numbers that a store answers. -/
def Ck (n : Int) : Prop := n = 0 ∨ n = 1 ∨ n = 2 ∨ n = 9 ∨ n = 11 ∨ n = 12 ∨ n = 13
theorem code_2 (w : World) : Calls Tryz.prog 13 #[.iface 48 (.int .i64 2)] w fun e w' => e = .returned (.int .i64 2) ∧ w' = w := by
  have n1 : ∀ W : World, (binOp .eql 38 (.iface 48 (.int .i64 2)) (.iface 48 (.int .i64 1))).run Tryz.prog W = .ok (.bool false) W := fun W => bin_err 2 1 W
  have n2 : ∀ W : World, (binOp .eql 38 (.iface 48 (.int .i64 2)) (.iface 48 (.int .i64 2))).run Tryz.prog W = .ok (.bool true) W := fun W => bin_err 2 2 W
  go_enter Tryz.func13, Tryz.ntmps13
  go_wp2
  go_ret
  exact ⟨rfl, rfl⟩
theorem code_13 (w : World) : Calls Tryz.prog 13 #[.iface 48 (.int .i64 13)] w fun e w' => e = .returned (.int .i64 13) ∧ w' = w := by
  have n1 : ∀ W : World, (binOp .eql 38 (.iface 48 (.int .i64 13)) (.iface 48 (.int .i64 1))).run Tryz.prog W = .ok (.bool false) W := fun W => bin_err 13 1 W
  have n2 : ∀ W : World, (binOp .eql 38 (.iface 48 (.int .i64 13)) (.iface 48 (.int .i64 2))).run Tryz.prog W = .ok (.bool false) W := fun W => bin_err 13 2 W
  have n3 : ∀ W : World, (binOp .eql 38 (.iface 48 (.int .i64 13)) (.iface 48 (.int .i64 3))).run Tryz.prog W = .ok (.bool false) W := fun W => bin_err 13 3 W
  have n4 : ∀ W : World, (binOp .eql 38 (.iface 48 (.int .i64 13)) (.iface 48 (.int .i64 4))).run Tryz.prog W = .ok (.bool false) W := fun W => bin_err 13 4 W
  have n5 : ∀ W : World, (binOp .eql 38 (.iface 48 (.int .i64 13)) (.iface 48 (.int .i64 5))).run Tryz.prog W = .ok (.bool false) W := fun W => bin_err 13 5 W
  have n6 : ∀ W : World, (binOp .eql 38 (.iface 48 (.int .i64 13)) (.iface 48 (.int .i64 6))).run Tryz.prog W = .ok (.bool false) W := fun W => bin_err 13 6 W
  have n7 : ∀ W : World, (binOp .eql 38 (.iface 48 (.int .i64 13)) (.iface 48 (.int .i64 7))).run Tryz.prog W = .ok (.bool false) W := fun W => bin_err 13 7 W
  have n8 : ∀ W : World, (binOp .eql 38 (.iface 48 (.int .i64 13)) (.iface 48 (.int .i64 8))).run Tryz.prog W = .ok (.bool false) W := fun W => bin_err 13 8 W
  have n9 : ∀ W : World, (binOp .eql 38 (.iface 48 (.int .i64 13)) (.iface 48 (.int .i64 9))).run Tryz.prog W = .ok (.bool false) W := fun W => bin_err 13 9 W
  have n10 : ∀ W : World, (binOp .eql 38 (.iface 48 (.int .i64 13)) (.iface 48 (.int .i64 10))).run Tryz.prog W = .ok (.bool false) W := fun W => bin_err 13 10 W
  have n11 : ∀ W : World, (binOp .eql 38 (.iface 48 (.int .i64 13)) (.iface 48 (.int .i64 11))).run Tryz.prog W = .ok (.bool false) W := fun W => bin_err 13 11 W
  have n12 : ∀ W : World, (binOp .eql 38 (.iface 48 (.int .i64 13)) (.iface 48 (.int .i64 12))).run Tryz.prog W = .ok (.bool false) W := fun W => bin_err 13 12 W
  have n13 : ∀ W : World, (binOp .eql 38 (.iface 48 (.int .i64 13)) (.iface 48 (.int .i64 13))).run Tryz.prog W = .ok (.bool true) W := fun W => bin_err 13 13 W
  go_enter Tryz.func13, Tryz.ntmps13
  go_wp2
  go_ret
  exact ⟨rfl, rfl⟩
theorem codek_any {n : Int} (h : Ck n) (w : World) : Calls Tryz.prog 13 #[codeV n] w fun e w' => e = .returned (.int .i64 n) ∧ w' = w := by
  rcases h with rfl | rfl | rfl | rfl | rfl | rfl | rfl
  · exact code_0 w
  · exact code_1 w
  · exact code_2 w
  · exact code_9 w
  · exact code_11 w
  · exact code_12 w
  · exact code_13 w
end Kv
end Go.Proofs.YtcinjdaanhpbjaaGreat

namespace Go.Proofs.YtcinjdaanhpbjaaGreat
open Go.RowKit
namespace Kv
open Bw Rg Dk Rf Wl

/-- A disk that a call has made, in memory. -/
structure OA (w : World) (D : Nat) (a : Ab) (wx : World) (d : Ds) : Prop where
  dp : DP wx d a
  db : d.db = D
  bel : Below w.heap.size w wx
  foot : ∀ b ∈ d.foot, w.heap.size ≤ b
section
variable {w wx w' : World} {D : Nat} {a : Ab} {d : Ds}
theorem OA.below (h : OA w D a wx d) (f : Below wx.heap.size wx w') : OA w D a w' d := ⟨h.dp.below f, h.db, h.bel.trans (f.mono h.bel.size), h.foot⟩
theorem OA.ds {d' : Ds} {a' : Ab} (h : OA w D a wx d) (hd : DS wx d d' a' w') : OA w D a' w' d' :=
  ⟨hd.dp, hd.db.trans h.db, h.bel.trans (hd.fr.below h.bel.size (fun k hk e => by have := h.foot k e; omega)), fun b hb => by
    rcases hd.grew b hb with h1 | h1
    · exact h.foot b h1
    · exact Nat.le_trans h.bel.size h1⟩
theorem OA.append (h : OA w D a wx d) (hg : Rf.Good a) (s : ByteArray) (b : Value) (ns : List UInt8) (hs : s.size ≤ 140737488355328) (hb : SlM wx b ns) (hap : ∀ x l c, b = .slice (some x) l c → 0 < l → x.block ∉ d.foot) (hbig : usedA a.L + ns.length ≤ 140737488355328) : Calls Tryz.prog 27 #[.pointer (some ⟨D, 0, none⟩), .string s, b] wx fun e w' => e = .returned (codeV (appendM a s ns).1) ∧ ∃ d', OA w D (appendM a s ns).2 w' d' := by
  have c := dappend h.dp hg s b ns hs hb hap hbig
  rw [h.db] at c
  refine c.mono ?_
  rintro e w' ⟨d', h1, rfl, h2, h3, h4⟩
  exact ⟨rfl, d', h.ds ⟨h1, h2, h3, h4⟩⟩
/-- What was handed in lies in none of the disk's blocks. -/
theorem OA.arg {v : Value} {bs : List UInt8} (h : OA w D a wx d) (hv : SlM w v bs) : SlM wx v bs ∧ ∀ x l c, v = .slice (some x) l c → 0 < l → x.block ∉ d.foot := by
  refine ⟨hv.below h.bel (Nat.le_refl _), fun x l c e hl hc => ?_⟩
  have hne : bs ≠ [] := fun e0 => by
    rcases hv with ⟨-, e1 | ⟨x', cap, e1, -⟩⟩ | ⟨b, off, cap, e1, -⟩
    · rw [e] at e1
      cases e1
    · rw [e] at e1
      injection e1 with _ e1 _
      omega
    · rw [e, e0] at e1
      injection e1 with _ e1 _
      simp at e1
      omega
  have h1 := SlM.blk_lt hv hne x.block (by rw [e]; rfl)
  have h2 := h.foot _ hc
  omega
end
theorem lit3 (w : World) : SlM (w.alloc (.cells #[.int .u8 1, .int .u8 2, .int .u8 3] 5)) (.slice (some ⟨w.heap.size, 0, none⟩) 3 3) [1, 2, 3] := by
  have hg := heap_alloc_new w (.cells #[.int .u8 1, .int .u8 2, .int .u8 3] 5)
  refine .inr ⟨w.heap.size, 0, 3, rfl, by decide, by decide, fun j hj => ?_⟩
  match j, hj with
  | 0, _ => exact heap_cell hg
  | 1, _ => exact heap_cell hg
  | 2, _ => exact heap_cell hg
/-- What Open answers here. -/
theorem OA.open {w wx : World} {D : Nat} {a : Ab} {d : Ds} {n : Nat} (h : OA w D a wx d) (hs : SetA a n) (hn : n ≤ 549755813888) (hl : ((fileB slog a.L).getD []).length ≤ 1099511627776) : Calls Tryz.prog 19 #[.pointer (some ⟨D, 0, none⟩)] wx fun e w' => (filesQ a = none → e = .returned (.tuple #[.pointer none, code 13]) ∧ Below w.heap.size w w') ∧ ∀ c L, filesQ a = some (c, L) → ∃ k d' lb, e = .returned (.tuple #[.pointer (some ⟨k.sb, 0, none⟩), .nilIface]) ∧ StAt w' k d' (opnK a).2.1 (opnK a).2.2 ∧ k.lp = some lb ∧ (∀ b, KD k d' b → w.heap.size ≤ b) ∧ OA w D (opnK a).2.2 w' d' := by
  have hu := hs.used
  have ck := kopen_any h.dp hs.good (by omega)
  rw [h.db] at ck
  obtain ⟨f1, f2⟩ := opnK_files hs.free (by omega) hl
  refine ck.mono ?_
  rintro e w' ⟨d', hd, hr⟩
  have ho := h.ds hd
  refine ⟨fun h0 => ?_, fun c L h0 => ?_⟩
  · have h1 := f1 h0
    rcases hr with ⟨-, rfl⟩ | ⟨hz, -⟩
    · rw [h1]
      exact ⟨rfl, ho.bel⟩
    · rw [h1] at hz
      cases hz
  · have h1 := (f2 c L h0).1
    rcases hr with ⟨hz, -⟩ | ⟨-, k', lb, rfl, hst, hlp, hfo⟩
    · exact absurd h1 hz
    · refine ⟨k', d', lb, rfl, hst, hlp, fun b hb => ?_, ho⟩
      rcases hb with hb | hb
      · exact Nat.le_trans h.bel.size (hfo b hb)
      · exact ho.foot b hb
set_option maxRecDepth 100000 in
set_option maxHeartbeats 8000000 in
theorem opens_law (w : World) (v v2 : Value) (snap log : List UInt8) (has : Bool) (hv : SlM w v snap) (hv2 : SlM w v2 log) (hl : snap.length ≤ 1048576) (hl2 : log.length ≤ 1048576) : Calls Tryz.prog 4 #[v, .bool has, v2] w fun e w' => e = .returned (.bool true) ∧ Below w.heap.size w w' := by
  obtain ⟨va, vc, hvf⟩ := hv.sl.form
  obtain ⟨za, zc, hzf⟩ := hv2.sl.form
  obtain ⟨m, hm⟩ : ∃ m, snap.length = m := ⟨_, rfl⟩
  obtain ⟨m2, hm2⟩ : ∃ m, log.length = m := ⟨_, rfl⟩
  rw [hm] at hvf
  rw [hm2] at hzf
  subst hvf hzf
  have HA : Hid (SlM w (.slice va m vc) snap ∧ SlM w (.slice za m2 zc) log ∧ snap.length ≤ 1048576 ∧ log.length ≤ 1048576) := ⟨hv, hv2, hl, hl2⟩
  clear hv hv2 hl hl2 hm hm2
  go_enter Tryz.func4, Tryz.ntmps4
  go_upto_if 32 with (first
    | (go_at_call 7; refine (up_any _).mono ?_; rintro e w1 ⟨rfl, hb1⟩; have H1 := (show Hid (Below w.heap.size w w1) from hb1); clear hb1)
    | (go_at_call 26; refine (new_ok 1099511627776 _ (by decide)).mono ?_; rintro e w2 ⟨rfl, hd2, hb2⟩; have H2 := (show Hid (OA w (Dk.fresh w1 1099511627776).db ua0 w2 (Dk.fresh w1 1099511627776)) from ⟨fresh_dp hd2, rfl, H1.out.trans (hb2.mono H1.out.size), fun b hb => Nat.le_trans H1.out.size (fresh_foot b hb)⟩); clear hd2 hb2 H1))
  obtain ⟨D, hD⟩ : ∃ D, w1.heap.size + 1 = D := ⟨_, rfl⟩
  have hd0 : (Dk.fresh w1 1099511627776).db = D := hD
  rw [hd0] at H2
  rw [hD]
  clear hD hd0
  go_cut [] (fun wx => ∃ d, Hid (OA w D (sA1 snap has) wx d))
  case first =>
    cases has with
    | false =>
      go_wp2
      go_meet
      case rel => exact ⟨_, H2.out⟩
    | true =>
      have c27 := H2.out.append ug0 ssnap (.slice va m vc) snap (by decide) (H2.out.arg HA.out.1).1 (H2.out.arg HA.out.1).2 (by have := HA.out.2.2.1; have e : usedA ua0.L = 0 := rfl; omega)
      go_wp2_with (go_at_call 27; refine Calls.mono c27 ?_; rintro e w3 ⟨rfl, d3, h3⟩; have H3 := (show Hid (OA w D (sA1 snap true) w3 d3) from h3); clear h3 c27)
      go_meet
      case rel => exact ⟨_, H3.out⟩
  case rest =>
    obtain ⟨d3, H3⟩ := hcut
    obtain ⟨w3, hw3⟩ : ∃ z, z = wc := ⟨_, rfl⟩
    subst hw3
    clear H2
    obtain ⟨s1, s1l, -, -⟩ := sA1_set (snap := snap) has HA.out.2.2.1
    obtain ⟨s2, s3, hfq, hlg⟩ := sA3_set (snap := snap) (log := log) has HA.out.2.2.1 HA.out.2.2.2
    have HS : Hid (SetA (sA1 snap has) 1048576 ∧ SetA (sA2 snap has log) 2097152 ∧ SetA (sA3 snap has log) 2097155 ∧ filesQ (sA3 snap has log) = opnQ snap has log ∧ fileB slog (sA3 snap has log).L = some log) := ⟨s1, s2, s3, hfq, hlg⟩
    clear s1 s1l s2 s3 hfq hlg
    go_upto_region 9 with (first
      | (go_at_call 27; refine (H3.out.append HS.out.1.good slog (.slice za m2 zc) log (by decide) (H3.out.arg HA.out.2.1).1 (H3.out.arg HA.out.2.1).2 (by have := HA.out.2.2.2; have := HS.out.1.used; omega)).mono ?_; rintro e w4 ⟨rfl, d4, h4⟩; have H4 := (show Hid (OA w D (sA2 snap has log) w4 d4) from h4); clear h4 H3)
      | (go_at_call 27; have hb4 := alloc_below w4 (.cells #[.int .u8 1, .int .u8 2, .int .u8 3] 5); have hq := H4.out.below hb4; refine (hq.append HS.out.2.1.good snew (.slice (some ⟨w4.heap.size, 0, none⟩) 3 3) [1, 2, 3] (by decide) (lit3 w4) (fun x l c e _ hc => by injection e with e _ _; injection e with e; have h9 := H4.out.dp.at'.lt _ hc; rw [← e] at h9; exact absurd h9 (Nat.lt_irrefl _)) (by have := HS.out.2.1.used; simp; omega)).mono ?_; clear hq hb4; rintro e w5 ⟨rfl, d5, h5⟩; have H5 := (show Hid (OA w D (sA3 snap has log) w5 d5) from h5); clear h5 H4))
    have c19 := H5.out.open HS.out.2.2.1 (by decide) (by rw [HS.out.2.2.2.2]; simp only [Option.getD_some]; have := HA.out.2.2.2; omega)
    have c25 := fun W (hb : Below w.heap.size w W) => ropen_any W (.slice va m vc) (.slice za m2 zc) snap log has (HA.out.1.below hb (Nat.le_refl _)) (HA.out.2.1.below hb (Nat.le_refl _)) (by have := HA.out.2.2.1; omega) (by have := HA.out.2.2.2; omega)
    rw [HS.out.2.2.2.1] at c19
    cases hq : opnQ snap has log with
    | none =>
      rw [hq] at c19 c25
      have c13 := fun W => codek_any (n := 13) (by unfold Ck; simp) W
      simp only [codeV_ne (show (13 : Int) ≠ 0 by decide)] at c13
      clear HS HA H5 hq
      go_wp2_with (first
        | (go_at_call 19; refine Calls.mono c19 ?_; rintro e w6 ⟨h6, -⟩; obtain ⟨rfl, hb6⟩ := h6 rfl; have H6 := (show Hid (Below w.heap.size w w6) from hb6); clear h6 hb6 c19)
        | (go_at_call 25; refine (c25 w6 H6.out).mono ?_; rintro e w7 ⟨hb7, rfl⟩; have H7 := (show Hid (Below w.heap.size w w7) from H6.out.trans (hb7.mono H6.out.size)); clear hb7 c25)
        | (go_at_call 13; refine (c13 _).mono ?_; rintro e w8 ⟨rfl, rfl⟩))
      go_ret
      exact ⟨rfl, H7.out⟩
    | some p =>
      obtain ⟨n, L⟩ := p
      rw [hq] at c19 c25
      obtain ⟨-, f2, f3, f4, f5, f6, f7⟩ := (opnK_files HS.out.2.2.1.free (by have := HS.out.2.2.1.used; omega) (by rw [HS.out.2.2.2.2]; simp only [Option.getD_some]; have := HA.out.2.2.2; omega)).2 n L (HS.out.2.2.2.1.trans hq)
      obtain ⟨b1, b2⟩ := opnQ_b hq (by have := HA.out.2.2.2; omega)
      have hg4 := opnK_good HS.out.2.2.1.good
      obtain ⟨a4, ha4⟩ : ∃ x, (opnK (sA3 snap has log)).2.2 = x := ⟨_, rfl⟩
      obtain ⟨m4, hm4⟩ : ∃ x, (opnK (sA3 snap has log)).2.1 = x := ⟨_, rfl⟩
      rw [ha4] at hg4 f4 f5
      rw [hm4] at f3 f2
      rw [ha4, hm4] at c19
      have hrd : readM a4 snew = ([], 9) := by
        unfold readM
        rw [if_neg (by rw [f5.on]; simp), file_none.1 f4]
      have n9 : ∀ W : World, (binOp .eql 38 (.iface 48 (.int .i64 9)) (.iface 48 (.int .i64 9))).run Tryz.prog W = .ok (.bool true) W := fun W => bin_teql 9 W
      have HF : Hid (m4.L = L ∧ m4.n = n ∧ readM a4 snew = ([], 9) ∧ Rf.Good a4 ∧ Up L ∧ n ≤ 4611686018427387904 + 1099511627776 ∧ (∀ x ∈ L, PrB x) ∧ L.length ≤ 549755813888) := ⟨f2, f3, hrd, hg4, f6, f7, b1, b2⟩
      clear HS HA H5 hq f2 f3 f4 f5 f6 f7 b1 b2 ha4 hm4 hg4 hrd
      go_wp2_with (first
        | (go_at_call 19; refine Calls.mono c19 ?_; rintro e w6 ⟨-, h6⟩; obtain ⟨k6, d6, lb6, rfl, hs6, hl6, hk6, ho6⟩ := h6 n L rfl; have H6 := (show Hid (StAt w6 k6 d6 m4 a4 ∧ OA w D a4 w6 d6) from ⟨hs6, ho6⟩); clear h6 hs6 hl6 hk6 ho6 c19)
        | (go_at_call 25; refine (c25 w6 H6.out.2.bel).mono ?_; rintro e w7 ⟨hb7, M, hM, rfl, hr7⟩; have H7 := (show Hid (StAt w7 k6 d6 m4 a4 ∧ OA w D a4 w7 d6 ∧ RsAt No w7 M L (n : Int)) from ⟨H6.out.1.below hb7, H6.out.2.below hb7, hr7⟩); clear hb7 hM hr7 c25 H6)
        | (go_at_call 18; have c18 := dread H7.out.2.1.dp HF.out.2.2.2.1 snew (by decide); rw [HF.out.2.2.1, H7.out.2.1.db, codeV_ne (show (9 : Int) ≠ 0 by decide)] at c18; refine Calls.mono c18 ?_; rintro e w8 ⟨v8, rfl, -, hb8⟩; have H8 := (show Hid (StAt w8 k6 d6 m4 a4 ∧ OA w D a4 w8 d6 ∧ RsAt No w8 M L (n : Int)) from ⟨H7.out.1.below hb8, H7.out.2.1.below hb8, H7.out.2.2.below hb8⟩); clear hb8 H7 c18)
        | (go_at_call 24; have c24 := stands_any (n := (n : Int)) H8.out.1.kv H8.out.1.vs (by rw [HF.out.1]; exact HF.out.2.2.2.2.1) (by rw [HF.out.1]; have := HF.out.2.2.2.2.2.2.2; omega) (by rw [H8.out.1.n, HF.out.2.1]; have := HF.out.2.2.2.2.2.1; omega) H8.out.2.2 (by have := HF.out.2.2.2.2.2.2.2; omega) (by rw [HF.out.1]; exact fun x hx => (HF.out.2.2.2.2.2.2.1 x hx).2) (fun x hx => by have := (HF.out.2.2.2.2.2.2.1 x hx).1; omega); rw [show stB m4.L k6.count L (n : Int) = true from decide_eq_true ⟨by rw [HF.out.1], by rw [H8.out.1.n, HF.out.2.1]⟩] at c24; refine Calls.mono c24 ?_; rintro e w9 ⟨rfl, hb9⟩; have H9 := (show Hid (Below w.heap.size w w9) from H8.out.2.1.bel.trans (hb9.mono H8.out.2.1.bel.size)); clear hb9 c24))
      go_ret
      exact ⟨rfl, H9.out⟩
end Kv
end Go.Proofs.YtcinjdaanhpbjaaGreat
