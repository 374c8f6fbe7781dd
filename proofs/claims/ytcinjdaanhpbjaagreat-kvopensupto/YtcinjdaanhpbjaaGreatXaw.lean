/- fresh and up: the examples: by walking their texts; what the model says of them by kernel reckoning. The calls of up, one by one. up: its calls as lemmas, and the examples by walking its text. up: the examples, by walking its text. -/
import Derived.Test.YtcinjdaanhpbjaaGreatSh
namespace Go.Proofs.YtcinjdaanhpbjaaGreat
open Go.RowKit
namespace Kv
open Bw Rg Dk Rf Wl

def ua0 : Ab := ⟨1099511627776, true, -1, 0, []⟩
def um0 : KM := ⟨[], 0, 0, false⟩
def kA : ByteArray := ⟨#[97]⟩
def kB : ByteArray := ⟨#[98]⟩
def kC : ByteArray := ⟨#[99]⟩
def ul1 : List Wrt := [⟨kA, [1], false⟩, ⟨kB, [2], false⟩]
def ul2 : List Wrt := [⟨kA, [], true⟩, ⟨kC, [3], false⟩]
def ur1 : Int × KM × Ab := appK um0 ua0 ul1
def ur2 : Int × KM × Ab := appK ur1.2.1 ur1.2.2 ul2
def ur3 : Int × KM × Ab := cmpK ur2.2.1 ur2.2.2
def ur4 : Int × KM × Ab := opnK ur3.2.2
theorem op0 : opnK ua0 = (0, um0, ua0) := rfl
theorem u_all : ur1.1 = 0 ∧ ur2.1 = 0 ∧ ur3.1 = 0 ∧ ur4.1 = 0 ∧ ur4.2.1.n = 2 ∧ ur4.2.1.L = [(kB, [2], 0), (kC, [3], 0)] := by decide +kernel
instance (L : List Fl) : Decidable (Up L) := inferInstanceAs (Decidable (L.Pairwise fun x y => lt x.1 y.1 = true))
theorem good_of_dec {a : Ab} (h1 : decide ((usedA a.L : Int) ≤ a.room ∧ a.room ≤ 9223372036854775807 ∧ -1 ≤ a.bud ∧ a.bud ≤ 9223372036854775807 ∧ a.L.length < 9223372036854775807 ∧ usedA a.L ≤ 140737488355328) = true) (h2 : decide (a.L.length ≤ 1099511627775 ∧ Up a.L ∧ ∀ x ∈ a.L, x.2.2 ≤ x.2.1.length) = true) : Rf.Good a := by
  obtain ⟨g1, g2, g3⟩ := of_decide_eq_true h2
  exact ⟨Dk.ok a h1, g1, g2, g3⟩
theorem ug0 : Rf.Good ua0 := good_of_dec (by decide +kernel) (by decide +kernel)
theorem ug1 : Rf.Good ur1.2.2 := good_of_dec (by decide +kernel) (by decide +kernel)
theorem ug2 : Rf.Good ur2.2.2 := good_of_dec (by decide +kernel) (by decide +kernel)
theorem ug3 : Rf.Good ur3.2.2 := good_of_dec (by decide +kernel) (by decide +kernel)
theorem ub1 : ur1.2.1.n = 1 ∧ ur1.2.1.size ≤ 1000 ∧ ur1.2.1.L.length ≤ 10 ∧ usedA ur1.2.2.L ≤ 1000 ∧ ur1.2.2.L.length ≤ 10 := by decide +kernel
theorem ub2 : ur2.2.1.n = 2 ∧ ur2.2.1.L.length ≤ 10 ∧ usedA ur2.2.2.L ≤ 1000 ∧ ur2.2.2.L.length ≤ 10 ∧ Up ur2.2.1.L ∧ (snapB ur2.2.1.n ur2.2.1.L).length ≤ 1000 := by decide +kernel
theorem ub3 : usedA ur3.2.2.L ≤ 1000 := by decide +kernel
/-- Writes that are written out. -/
theorem lit_ws1 {S : Nat → Prop} (w : World) (hS : ∀ b, w.heap.size ≤ b → ¬ S b) : WsIs S (((w.alloc (.cells #[.int .u8 1] 5)).alloc (.cells #[.int .u8 2] 5)).alloc (.cells #[.string ⟨#[97]⟩, .slice (some ⟨w.heap.size, 0, none⟩) 1 1, .bool false, .string ⟨#[98]⟩, .slice (some ⟨w.heap.size + 1, 0, none⟩) 1 1, .bool false] 45)) (.slice (some ⟨w.heap.size + 1 + 1, 0, none⟩) 2 2) ul1 := by
  have e1 : (w.alloc (.cells #[.int .u8 1] 5)).heap.size = w.heap.size + 1 := by simp
  have e2 : ((w.alloc (.cells #[.int .u8 1] 5)).alloc (.cells #[.int .u8 2] 5)).heap.size = w.heap.size + 1 + 1 := by simp
  have hg := heap_alloc_new ((w.alloc (.cells #[.int .u8 1] 5)).alloc (.cells #[.int .u8 2] 5)) (.cells #[.string ⟨#[97]⟩, .slice (some ⟨w.heap.size, 0, none⟩) 1 1, .bool false, .string ⟨#[98]⟩, .slice (some ⟨w.heap.size + 1, 0, none⟩) 1 1, .bool false] 45)
  rw [e2] at hg
  have s1 : SlM (w.alloc (.cells #[.int .u8 1] 5)) (.slice (some ⟨w.heap.size, 0, none⟩) 1 1) [1] := lit1 w 1
  have s2 : SlM ((w.alloc (.cells #[.int .u8 1] 5)).alloc (.cells #[.int .u8 2] 5)) (.slice (some ⟨w.heap.size + 1, 0, none⟩) 1 1) [2] := by
    have := lit1 (w.alloc (.cells #[.int .u8 1] 5)) 2
    rw [e1] at this
    exact this
  have s1' := (s1.below (alloc_below _ (.cells #[.int .u8 2] 5)) (Nat.le_refl _)).below (alloc_below _ (.cells #[.string ⟨#[97]⟩, .slice (some ⟨w.heap.size, 0, none⟩) 1 1, .bool false, .string ⟨#[98]⟩, .slice (some ⟨w.heap.size + 1, 0, none⟩) 1 1, .bool false] 45)) (Nat.le_refl _)
  have s2' := s2.below (alloc_below _ (.cells #[.string ⟨#[97]⟩, .slice (some ⟨w.heap.size, 0, none⟩) 1 1, .bool false, .string ⟨#[98]⟩, .slice (some ⟨w.heap.size + 1, 0, none⟩) 1 1, .bool false] 45)) (Nat.le_refl _)
  refine .inr ⟨w.heap.size + 1 + 1, 0, 2, rfl, by decide, hS _ (by omega), fun i x hx => ?_⟩
  match i, hx with
  | 0, hx =>
    obtain rfl := (Option.some.inj hx).symm
    exact ⟨_, heap_cell hg, heap_cell hg, heap_cell hg, s1', fun _ c hc => hS c (by have : w.heap.size = c := (by simpa [blk] using hc); omega)⟩
  | 1, hx =>
    obtain rfl := (Option.some.inj hx).symm
    exact ⟨_, heap_cell hg, heap_cell hg, heap_cell hg, s2', fun _ c hc => hS c (by have : w.heap.size + 1 = c := (by simpa [blk] using hc); omega)⟩
  | n + 2, hx => simp [ul1] at hx
theorem lit_ws2 {S : Nat → Prop} (w : World) (hS : ∀ b, w.heap.size ≤ b → ¬ S b) : WsIs S ((w.alloc (.cells #[.int .u8 3] 5)).alloc (.cells #[.string ⟨#[97]⟩, .slice none 0 0, .bool true, .string ⟨#[99]⟩, .slice (some ⟨w.heap.size, 0, none⟩) 1 1, .bool false] 45)) (.slice (some ⟨w.heap.size + 1, 0, none⟩) 2 2) ul2 := by
  have e1 : (w.alloc (.cells #[.int .u8 3] 5)).heap.size = w.heap.size + 1 := by simp
  have hg := heap_alloc_new (w.alloc (.cells #[.int .u8 3] 5)) (.cells #[.string ⟨#[97]⟩, .slice none 0 0, .bool true, .string ⟨#[99]⟩, .slice (some ⟨w.heap.size, 0, none⟩) 1 1, .bool false] 45)
  rw [e1] at hg
  have s1 : SlM (w.alloc (.cells #[.int .u8 3] 5)) (.slice (some ⟨w.heap.size, 0, none⟩) 1 1) [3] := lit1 w 3
  have s1' := s1.below (alloc_below _ (.cells #[.string ⟨#[97]⟩, .slice none 0 0, .bool true, .string ⟨#[99]⟩, .slice (some ⟨w.heap.size, 0, none⟩) 1 1, .bool false] 45)) (Nat.le_refl _)
  refine .inr ⟨w.heap.size + 1, 0, 2, rfl, by decide, hS _ (by omega), fun i x hx => ?_⟩
  match i, hx with
  | 0, hx =>
    obtain rfl := (Option.some.inj hx).symm
    exact ⟨_, heap_cell hg, heap_cell hg, heap_cell hg, .inl ⟨rfl, .inl rfl⟩, fun hne => absurd rfl hne⟩
  | 1, hx =>
    obtain rfl := (Option.some.inj hx).symm
    exact ⟨_, heap_cell hg, heap_cell hg, heap_cell hg, s1', fun _ c hc => hS c (by have : w.heap.size = c := (by simpa [blk] using hc); omega)⟩
  | n + 2, hx => simp [ul2] at hx
/-- What fresh answers. -/
def FrOut (w : World) (e : Ending) (w' : World) : Prop := ∃ k d lb, e = .returned (.tuple #[.pointer (some ⟨d.db, 0, none⟩), .pointer (some ⟨k.sb, 0, none⟩)]) ∧ StAt w' k d um0 ua0 ∧ k.lp = some lb ∧ Below w.heap.size w w' ∧ ∀ b, KD k d b → w.heap.size ≤ b
theorem fresh_dp {w w' : World} {n : Int} (h : DiskAt w' (Dk.fresh w n)) : DP w' (Dk.fresh w n) ⟨n, true, -1, 0, []⟩ := ⟨h, rfl, rfl, rfl, rfl, List.Perm.refl _⟩
theorem fresh_foot {w : World} {n : Int} : ∀ b ∈ (Dk.fresh w n).foot, w.heap.size ≤ b := fun b hb => by
  simp [Dk.fresh, Ds.foot] at hb
  omega
set_option maxHeartbeats 2000000 in
theorem fresh_any (w : World) : Calls Tryz.prog 8 #[] w (FrOut w) := by
  go_enter Tryz.func8, Tryz.ntmps8
  go_wp2_with (first
    | (go_at_call 26; refine (new_ok 1099511627776 w (by decide)).mono ?_; rintro e w1 ⟨rfl, hd, hb⟩; have H1 := (show Hid (DP w1 (Dk.fresh w 1099511627776) ua0 ∧ Below w.heap.size w w1) from ⟨fresh_dp hd, hb⟩); clear hd hb)
    | (go_at_call 19; have ck := kopen_any H1.out.1 ug0 (by decide); rw [op0] at ck; refine Calls.mono ck ?_; rintro e w2 ⟨d2, hds, ⟨hz, -⟩ | ⟨-, k2, lb, rfl, hst, hlp, hfo⟩⟩; exact absurd rfl hz; have hdb := hds.db; have H2 := (show Hid (StAt w2 k2 d2 um0 ua0 ∧ k2.lp = some lb ∧ Below w.heap.size w w2 ∧ (∀ b, KD k2 d2 b → w.heap.size ≤ b) ∧ d2.db = w.heap.size + 1) from ⟨hst, hlp, H1.out.2.trans (hds.fr.below H1.out.2.size (fun b hb hc => by have := fresh_foot b hc; omega)), fun b hb => hb.elim (fun e => Nat.le_trans H1.out.2.size (hfo b e)) (fun e => (hds.grew b e).elim (fun e => fresh_foot b e) (fun e => Nat.le_trans H1.out.2.size e)), hdb⟩); clear ck hds hst hlp hfo hdb))
  go_ret2
  refine ⟨k2, d2, lb, by rw [H2.out.2.2.2.2]; rfl, H2.out.1, H2.out.2.1, H2.out.2.2.1, H2.out.2.2.2.1⟩
end Kv
end Go.Proofs.YtcinjdaanhpbjaaGreat

namespace Go.Proofs.YtcinjdaanhpbjaaGreat
open Go.RowKit
namespace Kv
open Bw Rg Dk Rf Wl

theorem StAt.far {w : World} {k : Ks} {d : Ds} {m : KM} {a : Ab} (h : StAt w k d m a) : ∀ b, w.heap.size ≤ b → ¬ KD k d b := fun b hb hc => by
  rcases hc with hc | hc
  · have := h.kv.lt b hc
    omega
  · have := h.disk.at'.lt b hc
    omega
def upW1 (w1 : World) : World := (((w1.alloc (.cells #[.int .u8 1] 5)).alloc (.cells #[.int .u8 2] 5)).alloc (.cells #[.string ⟨#[97]⟩, .slice (some ⟨w1.heap.size, 0, none⟩) 1 1, .bool false, .string ⟨#[98]⟩, .slice (some ⟨w1.heap.size + 1, 0, none⟩) 1 1, .bool false] 45))
def upW2 (w2 : World) : World := ((w2.alloc (.cells #[.int .u8 3] 5)).alloc (.cells #[.string ⟨#[97]⟩, .slice none 0 0, .bool true, .string ⟨#[99]⟩, .slice (some ⟨w2.heap.size, 0, none⟩) 1 1, .bool false] 45))
theorem upW1_below (w1 : World) : Below w1.heap.size w1 (upW1 w1) := by
  unfold upW1
  exact ((alloc_below w1 _).trans ((alloc_below _ _).mono (by simp))).trans ((alloc_below _ _).mono (by simp; omega))
theorem upW2_below (w2 : World) : Below w2.heap.size w2 (upW2 w2) := by
  unfold upW2
  exact (alloc_below w2 _).trans ((alloc_below _ _).mono (by simp))
theorem ul1_ok : ∀ x ∈ ul1, x.key.size ≤ 140737488355328 ∧ x.val.length ≤ 140737488355328 := by
  intro x hx
  simp only [ul1, List.mem_cons, List.not_mem_nil, or_false] at hx
  rcases hx with rfl | rfl <;> exact ⟨by decide +kernel, by decide +kernel⟩
theorem ul2_ok : ∀ x ∈ ul2, x.key.size ≤ 140737488355328 ∧ x.val.length ≤ 140737488355328 := by
  intro x hx
  simp only [ul2, List.mem_cons, List.not_mem_nil, or_false] at hx
  rcases hx with rfl | rfl <;> exact ⟨by decide +kernel, by decide +kernel⟩
section
variable {w1 : World} {k1 : Ks} {d1 : Ds} {m1 : KM} {a1 : Ab} {lb : Nat}
theorem up_1 (h : StAt w1 k1 d1 m1 a1) (hlp : k1.lp = some lb) (hg : Rf.Good a1) (hn : m1.n ≤ 4611686018427387904) (hsz : m1.size ≤ 4611686018427387904) (hL : m1.L.length ≤ 2305843009213693952) (hu : usedA a1.L ≤ 70368744177664) (hf : a1.L.length ≤ 1099511627773) : Calls Tryz.prog 11 #[.pointer (some ⟨k1.sb, 0, none⟩), .slice (some ⟨w1.heap.size + 1 + 1, 0, none⟩) 2 2] (upW1 w1) (SOut (upW1 w1) k1 d1 (appK m1 a1 ul1)) :=
  apply_any (lb := lb) _ ul1 (h.below (upW1_below w1)) hlp hg (lit_ws1 w1 (S := KD k1 d1) h.far) ul1_ok (by decide +kernel) hn hsz hL hu hf
theorem up_2 (h : StAt w1 k1 d1 m1 a1) (hlp : k1.lp = some lb) (hg : Rf.Good a1) (hn : m1.n ≤ 4611686018427387904) (hsz : m1.size ≤ 4611686018427387904) (hL : m1.L.length ≤ 2305843009213693952) (hu : usedA a1.L ≤ 70368744177664) (hf : a1.L.length ≤ 1099511627773) : Calls Tryz.prog 11 #[.pointer (some ⟨k1.sb, 0, none⟩), .slice (some ⟨w1.heap.size + 1, 0, none⟩) 2 2] (upW2 w1) (SOut (upW2 w1) k1 d1 (appK m1 a1 ul2)) :=
  apply_any (lb := lb) _ ul2 (h.below (upW2_below w1)) hlp hg (lit_ws2 w1 (S := KD k1 d1) h.far) ul2_ok (by decide +kernel) hn hsz hL hu hf
end
end Kv
end Go.Proofs.YtcinjdaanhpbjaaGreat

namespace Go.Proofs.YtcinjdaanhpbjaaGreat
open Go.RowKit
namespace Kv
open Bw Rg Dk Rf Wl

structure UpF (m1 : KM) (a1 : Ab) (m2 : KM) (a2 : Ab) (m3 : KM) (a3 : Ab) (m4 : KM) (a4 : Ab) : Prop where
  r1 : appK um0 ua0 ul1 = (0, m1, a1)
  r2 : appK m1 a1 ul2 = (0, m2, a2)
  r3 : cmpK m2 a2 = (0, m3, a3)
  r4 : opnK a3 = (0, m4, a4)
  g1 : Rf.Good a1
  g2 : Rf.Good a2
  g3 : Rf.Good a3
  n4 : m4.n = 2
  l4 : m4.L = [(kB, [2], 0), (kC, [3], 0)]
  b1 : m1.n ≤ 4611686018427387904
  b2 : m1.size ≤ 4611686018427387904
  b3 : m1.L.length ≤ 2305843009213693952
  b4 : usedA a1.L ≤ 70368744177664
  b5 : a1.L.length ≤ 1099511627773
  c1 : Up m2.L
  c2 : m2.L.length < 4294967296
  c3 : m2.n < 18446744073709551616
  c4 : (snapB m2.n m2.L).length ≤ 549755813888
  c5 : usedA a2.L ≤ 70368744177664
  c6 : a2.L.length ≤ 1099511627770
  d1 : usedA a3.L ≤ 1099511627776
theorem u_ex : ∃ m1 a1 m2 a2 m3 a3 m4 a4, UpF m1 a1 m2 a2 m3 a3 m4 a4 := by
  obtain ⟨h1, h2, h3, h4, h5, h6⟩ := u_all
  obtain ⟨b1, b2, b3, b4, b5⟩ := ub1
  obtain ⟨c1, c2, c3, c4, c5, c6⟩ := ub2
  have d1 := ub3
  exact ⟨ur1.2.1, ur1.2.2, ur2.2.1, ur2.2.2, ur3.2.1, ur3.2.2, ur4.2.1, ur4.2.2, Prod.ext h1 rfl, Prod.ext h2 rfl, Prod.ext h3 rfl, Prod.ext h4 rfl, ug1, ug2, ug3, h5, h6, by omega, by omega, by omega, by omega, by omega, c5, by omega, by omega, by omega, by omega, by omega, by omega⟩
/-- What stands between two calls of up. -/
structure UpS (w w' : World) (k : Ks) (d : Ds) (m : KM) (a : Ab) (lb sb db : Nat) : Prop where
  st : StAt w' k d m a
  lp : k.lp = some lb
  bl : Below w.heap.size w w'
  gr : ∀ b, KD k d b → w.heap.size ≤ b
  sb : k.sb = sb
  db : d.db = db
section
variable {w w1 w' : World} {k : Ks} {d : Ds} {m1 m2 m3 m4 : KM} {a1 a2 a3 a4 : Ab} {lb sb db : Nat}
theorem UpS.sout {m m' : KM} {a a' : Ab} {w2 : World} {e : Ending} (H : UpS w w1 k d m a lb sb db) (hb : Below w1.heap.size w1 w2) (h : SOut w2 k d (0, m', a') e w') : e = .returned .nilIface ∧ ∃ k' d', UpS w w' k' d' m' a' lb sb db := by
  obtain ⟨k', d', he, h2, hlp⟩ := h
  rw [codeV_zero] at he
  have hs := Nat.le_trans H.bl.size hb.size
  exact ⟨he, k', d', h2.st, hlp.trans H.lp, (H.bl.trans (hb.mono H.bl.size)).trans (h2.fr.below hs (fun b hb' hc => by have := H.gr b hc; omega)), fun b hb' => (h2.grew b hb').elim (H.gr b) (fun e => Nat.le_trans hs e), h2.sb.trans H.sb, h2.db.trans H.db⟩
theorem upl_8 (w : World) : Calls Tryz.prog 8 #[] w fun e w' => ∃ lb sb db k d, e = .returned (.tuple #[.pointer (some ⟨db, 0, none⟩), .pointer (some ⟨sb, 0, none⟩)]) ∧ UpS w w' k d um0 ua0 lb sb db := by
  refine (fresh_any w).mono ?_
  rintro e w1 ⟨k, d, lb, rfl, hst, hlp, hb, hf⟩
  exact ⟨lb, k.sb, d.db, k, d, rfl, hst, hlp, hb, hf, rfl, rfl⟩
theorem upl_1 (F : UpF m1 a1 m2 a2 m3 a3 m4 a4) (H : UpS w w1 k d um0 ua0 lb sb db) : Calls Tryz.prog 11 #[.pointer (some ⟨sb, 0, none⟩), .slice (some ⟨w1.heap.size + 1 + 1, 0, none⟩) 2 2] (upW1 w1) fun e w' => e = .returned .nilIface ∧ ∃ k' d', UpS w w' k' d' m1 a1 lb sb db := by
  have c := up_1 H.st H.lp ug0 (Nat.zero_le _) (Nat.zero_le _) (Nat.zero_le _) (by decide +kernel) (Nat.zero_le _)
  rw [F.r1, H.sb] at c
  exact Calls.mono c fun e w' h => H.sout (upW1_below w1) h
theorem upl_2 (F : UpF m1 a1 m2 a2 m3 a3 m4 a4) (H : UpS w w1 k d m1 a1 lb sb db) : Calls Tryz.prog 11 #[.pointer (some ⟨sb, 0, none⟩), .slice (some ⟨w1.heap.size + 1, 0, none⟩) 2 2] (upW2 w1) fun e w' => e = .returned .nilIface ∧ ∃ k' d', UpS w w' k' d' m2 a2 lb sb db := by
  have c := up_2 H.st H.lp F.g1 F.b1 F.b2 F.b3 F.b4 F.b5
  rw [F.r2, H.sb] at c
  exact Calls.mono c fun e w' h => H.sout (upW2_below w1) h
theorem upl_3 (F : UpF m1 a1 m2 a2 m3 a3 m4 a4) (H : UpS w w1 k d m2 a2 lb sb db) : Calls Tryz.prog 15 #[.pointer (some ⟨sb, 0, none⟩)] w1 fun e w' => e = .returned .nilIface ∧ ∃ k' d', UpS w w' k' d' m3 a3 lb sb db := by
  have c := compact_any H.st H.lp F.g2 F.c1 F.c2 F.c3 F.c4 F.c5 F.c6
  rw [F.r3, H.sb] at c
  exact Calls.mono c fun e w' h => H.sout (Below.refl _ _) h
/-- After the second opening. -/
def UpT (w w' : World) (k : Ks) (d : Ds) (m : KM) (a : Ab) (sb : Nat) : Prop := StAt w' k d m a ∧ Below w.heap.size w w' ∧ k.sb = sb
theorem upl_4 (F : UpF m1 a1 m2 a2 m3 a3 m4 a4) (H : UpS w w1 k d m3 a3 lb sb db) : Calls Tryz.prog 19 #[.pointer (some ⟨db, 0, none⟩)] w1 fun e w' => ∃ sb', e = .returned (.tuple #[.pointer (some ⟨sb', 0, none⟩), .nilIface]) ∧ ∃ k' d', UpT w w' k' d' m4 a4 sb' := by
  have c := kopen_any H.st.disk F.g3 F.d1
  rw [F.r4, H.db] at c
  refine Calls.mono c ?_
  rintro e w' ⟨d', hds, ⟨hz, -⟩ | ⟨-, k', lb', rfl, hst, -, hfo⟩⟩
  · exact absurd rfl hz
  · exact ⟨_, rfl, k', d', hst, H.bl.trans (hds.fr.below H.bl.size (fun b hb hc => by have := H.gr b (.inr hc); omega)), rfl⟩
theorem upl_5 (F : UpF m1 a1 m2 a2 m3 a3 m4 a4) (H : UpT w w1 k d m4 a4 sb) : Calls Tryz.prog 22 #[.pointer (some ⟨sb, 0, none⟩), .string ⟨#[]⟩] w1 fun e w' => ∃ g c cur, e = .returned (.slice (some ⟨g, 0, none⟩) 2 c) ∧ UpT w w' k d m4 a4 sb ∧ 2 ≤ c ∧ w'.heap[g]? = some (.cells cur 9 (0, 0)) ∧ cur[0]? = some (.string ⟨#[98]⟩) ∧ cur[1]? = some (.string ⟨#[99]⟩) := by
  obtain ⟨hst, hb, hsb⟩ := H
  have c := keys_any w1 k m4.L ⟨#[]⟩ hst.kv hst.vs (by rw [F.l4]; exact of_decide_eq_true (by decide +kernel)) (by rw [F.l4]; decide +kernel)
  have hm : keysM ⟨#[]⟩ m4.L = [[98], [99]] := by rw [F.l4]; decide +kernel
  rw [hm, hsb] at c
  refine Calls.mono c ?_
  rintro e w' ⟨v, rfl, hr, hb'⟩
  obtain ⟨g, c', cur, hv, hg, hn, hc, hcell⟩ := row_cells hr (by decide)
  exact ⟨g, c', cur, by rw [hv]; rfl, ⟨hst.below hb', hb.trans (hb'.mono hb.size), hsb⟩, hn, hg, hcell 0 (by decide), hcell 1 (by decide)⟩
theorem upl_6 (F : UpF m1 a1 m2 a2 m3 a3 m4 a4) {g : Nat} {cur : Array Value} (H : UpT w w1 k d m4 a4 sb) (hg : w1.heap[g]? = some (.cells cur 9 (0, 0))) (h0 : cur[0]? = some (.string ⟨#[98]⟩)) (h1 : cur[1]? = some (.string ⟨#[99]⟩)) : Calls Tryz.prog 20 #[.pointer (some ⟨sb, 0, none⟩), .string ⟨#[99]⟩] w1 fun e w' => ∃ v, e = .returned (.tuple #[v, .bool true]) ∧ UpT w w' k d m4 a4 sb ∧ (convert 43 9 v).run Tryz.prog w' = .ok (.string ⟨#[3]⟩) w' ∧ w'.cell? ⟨g, 0, none⟩ = some (.string ⟨#[98]⟩) ∧ w'.cell? ⟨g, 1, none⟩ = some (.string ⟨#[99]⟩) := by
  obtain ⟨hst, hb, hsb⟩ := H
  have c := get_any (s := kC) hst.kv hst.vs (by rw [F.l4]; decide +kernel) (by decide +kernel)
  have hf : findA kC m4.L = some (kC, [3], 0) := by rw [F.l4]; decide +kernel
  rw [hf, hsb] at c
  refine Calls.mono c ?_
  rintro e w' ⟨v, rfl, hr, hb'⟩
  have hcv := SlM.conv (RowB.slm hr)
  have hg' := (hb'.block _ (lt_of_block hg)).trans hg
  exact ⟨v, rfl, ⟨hst.below hb', hb.trans (hb'.mono hb.size), hsb⟩, hcv, (heap_cell hg').trans h0, (heap_cell hg').trans h1⟩
theorem upl_7 (F : UpF m1 a1 m2 a2 m3 a3 m4 a4) (H : UpT w w1 k d m4 a4 sb) : Calls Tryz.prog 33 #[.pointer (some ⟨sb, 0, none⟩)] w1 fun e w' => e = .returned (.int .i64 2) ∧ w' = w1 := by
  obtain ⟨hst, hb, hsb⟩ := H
  have hc := hst.n.trans F.n4
  have c := count_any hst.kv (by rw [hc]; decide)
  rw [hc, hsb] at c
  exact c
end
end Kv
end Go.Proofs.YtcinjdaanhpbjaaGreat

namespace Go.Proofs.YtcinjdaanhpbjaaGreat
open Go.RowKit
namespace Kv
open Bw Rg Dk Rf Wl

set_option maxHeartbeats 8000000 in
set_option maxRecDepth 100000 in
theorem up_any (w : World) : Calls Tryz.prog 7 #[] w fun e w' => e = .returned (.bool true) ∧ Below w.heap.size w w' := by
  obtain ⟨m1, a1, m2, a2, m3, a3, m4, a4, F⟩ := u_ex
  go_enter Tryz.func7, Tryz.ntmps7
  go_wp2_with (first
    | (go_at_call 8; refine (upl_8 w).mono ?_; rintro e w1 ⟨lb, sb, db, k1, d1, rfl, H1⟩)
    | (go_at_call 11; have c := upl_1 F H1; refine Calls.mono c ?_; clear c; rintro e w2 ⟨rfl, k2, d2, H2⟩; clear H1)
    | (go_at_call 11; have c := upl_2 F H2; refine Calls.mono c ?_; clear c; rintro e w3 ⟨rfl, k3, d3, H3⟩; clear H2)
    | (go_at_call 15; refine Calls.mono (upl_3 F H3) ?_; rintro e w4 ⟨rfl, k4, d4, H4⟩; clear H3)
    | (go_at_call 19; refine Calls.mono (upl_4 F H4) ?_; rintro e w5 ⟨sb5, rfl, k5, d5, H5⟩; clear H4)
    | (go_at_call 22; refine Calls.mono (upl_5 F H5) ?_; rintro e w6 ⟨g6, c6, cur6, rfl, H6, hc6, hg6, hx0, hx1⟩; clear H5)
    | (go_at_call 20; refine Calls.mono (upl_6 F H6 hg6 hx0 hx1) ?_; rintro e w7 ⟨v7, rfl, H7, hcv, q0, q1⟩; clear H6 hg6 hx0 hx1)
    | (go_at_call 33; refine Calls.mono (upl_7 F H7) ?_; rintro e w8 ⟨rfl, hw8⟩; obtain rfl := hw8.symm; clear hw8))
  go_ret
  exact ⟨rfl, H7.2.1⟩
end Kv
end Go.Proofs.YtcinjdaanhpbjaaGreat
