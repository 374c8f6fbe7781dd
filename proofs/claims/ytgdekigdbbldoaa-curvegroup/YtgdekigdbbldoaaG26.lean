/- The constants of curve: contracts, by walking their texts. Points and fractions: how they are built, boxed and read. -/
import Derived.Test.YtgdekigdbbldoaaG25
import Derived.Great.BuildSlice
namespace Go.Proofs.Ytgdekigdbbldoaa
open Go.RowKit
namespace Fd
open Rg

def cone : Nat := 1
theorem built_cone (a : Act) : Try.prog.built 22 (Array.map (fun ((i, x) : Nat × Operand) => (i, a.eval x)) #[(0, .const (.int .u8 1))]).toList = some (bvc cone).toArray := by kernel_rfl
set_option maxHeartbeats 400000 in
set_option maxRecDepth 4000 in
theorem cone_any (w : World) : Calls Try.prog 75 #[] w fun e w' => e = .returned (bv cone) ∧ Below w.heap.size w w' := by
  have LR : Hid (L32 (bvc cone)) := l32 cone
  have HBL : Hid (∀ a : Act, Try.prog.built 22 (Array.map (fun ((i, x) : Nat × Operand) => (i, a.eval x)) #[(0, .const (.int .u8 1))]).toList = some (bvc cone).toArray) := built_cone
  have hz := zero22
  have HBN : Hid (∀ (W : World) (R : List Value), R.length = 32 → Bo ((W.alloc (.cells z22 22)).setCells W.heap.size 0 R) W.heap.size R ∧ Below W.heap.size W ((W.alloc (.cells z22 22)).setCells W.heap.size 0 R)) := box_new
  have HLT : Hid (∀ (R : List Value), L32 R → ∀ W : World, (W.alloc (.cells z22 22)).there W.heap.size 0 R.toArray.size) := fun R h => h.t
  obtain ⟨Z, hZ⟩ : ∃ Z, z22 = Z := ⟨_, rfl⟩
  rw [hZ] at hz HBN HLT
  clear hZ
  unfold bv
  obtain ⟨R, hR⟩ : ∃ X, bvc cone = X := ⟨_, rfl⟩
  rw [hR] at LR HBL ⊢
  clear hR
  have HB_0 := (show Hid (Below w.heap.size w w) from Below.refl _ _)
  have TK_0 := (show Hid True from trivial)
  go_enter Try.func75, Try.ntmps75
  go_wp2_with (first
    | (refine wpList_buildTo rfl 22 _ rfl (some 1) rfl R.toArray (HBL.out _) ?_)
    | (have hq := TK_0; refine wpList_store_mid rfl 22 (.tmp 0) (.tmp 1) rfl w.heap.size 0 R.toArray rfl rfl (HLT.out R LR.out w) LR.out.j LR.out.o ?_; simp only; have hbx := HBN.out w R LR.out.l; obtain ⟨w1, hw1⟩ : ∃ v, (w.alloc (.cells Z 22)).setCells w.heap.size 0 R = v := ⟨_, rfl⟩; rw [hw1] at hbx ⊢; clear hw1; have hb := hbx.2; replace hbx := hbx.1; obtain ⟨bO, hbO⟩ : ∃ b, w.heap.size = b := ⟨_, rfl⟩; rw [hbO] at hbx ⊢; clear hbO; have HB_1 := (show Hid (Below w.heap.size w w1) from HB_0.out.trans (hb.mono HB_0.out.size)); have O_1 := (show Hid (Bo w1 bO R) from hbx); have TK_1 := (show Hid True from trivial); clear hq TK_0 hb HB_0  hbx))
  exact bodyPost_ret (results_cell Try.results75 rfl (run_loadVar_mid (P := Try.prog) _ bO 0 22 R _ O_1.out.1 Try.underlying22 rfl LR.out.i)) rfl ⟨rfl, HB_1.out⟩

def factor : Nat := 37095705934669439343138083508754565189542113879843219016388785533085940283555
theorem built_factor (a : Act) : Try.prog.built 22 (Array.map (fun ((i, x) : Nat × Operand) => (i, a.eval x)) #[(0, .const (.int .u8 163)), (1, .const (.int .u8 120)), (2, .const (.int .u8 89)), (3, .const (.int .u8 19)), (4, .const (.int .u8 202)), (5, .const (.int .u8 77)), (6, .const (.int .u8 235)), (7, .const (.int .u8 117)), (8, .const (.int .u8 171)), (9, .const (.int .u8 216)), (10, .const (.int .u8 65)), (11, .const (.int .u8 65)), (12, .const (.int .u8 77)), (13, .const (.int .u8 10)), (14, .const (.int .u8 112)), (15, .const (.int .u8 0)), (16, .const (.int .u8 152)), (17, .const (.int .u8 232)), (18, .const (.int .u8 121)), (19, .const (.int .u8 119)), (20, .const (.int .u8 121)), (21, .const (.int .u8 64)), (22, .const (.int .u8 199)), (23, .const (.int .u8 140)), (24, .const (.int .u8 115)), (25, .const (.int .u8 254)), (26, .const (.int .u8 111)), (27, .const (.int .u8 43)), (28, .const (.int .u8 238)), (29, .const (.int .u8 108)), (30, .const (.int .u8 3)), (31, .const (.int .u8 82))]).toList = some (bvc factor).toArray := by kernel_rfl
set_option maxHeartbeats 400000 in
set_option maxRecDepth 4000 in
theorem factor_any (w : World) : Calls Try.prog 76 #[] w fun e w' => e = .returned (bv factor) ∧ Below w.heap.size w w' := by
  have LR : Hid (L32 (bvc factor)) := l32 factor
  have HBL : Hid (∀ a : Act, Try.prog.built 22 (Array.map (fun ((i, x) : Nat × Operand) => (i, a.eval x)) #[(0, .const (.int .u8 163)), (1, .const (.int .u8 120)), (2, .const (.int .u8 89)), (3, .const (.int .u8 19)), (4, .const (.int .u8 202)), (5, .const (.int .u8 77)), (6, .const (.int .u8 235)), (7, .const (.int .u8 117)), (8, .const (.int .u8 171)), (9, .const (.int .u8 216)), (10, .const (.int .u8 65)), (11, .const (.int .u8 65)), (12, .const (.int .u8 77)), (13, .const (.int .u8 10)), (14, .const (.int .u8 112)), (15, .const (.int .u8 0)), (16, .const (.int .u8 152)), (17, .const (.int .u8 232)), (18, .const (.int .u8 121)), (19, .const (.int .u8 119)), (20, .const (.int .u8 121)), (21, .const (.int .u8 64)), (22, .const (.int .u8 199)), (23, .const (.int .u8 140)), (24, .const (.int .u8 115)), (25, .const (.int .u8 254)), (26, .const (.int .u8 111)), (27, .const (.int .u8 43)), (28, .const (.int .u8 238)), (29, .const (.int .u8 108)), (30, .const (.int .u8 3)), (31, .const (.int .u8 82))]).toList = some (bvc factor).toArray) := built_factor
  have hz := zero22
  have HBN : Hid (∀ (W : World) (R : List Value), R.length = 32 → Bo ((W.alloc (.cells z22 22)).setCells W.heap.size 0 R) W.heap.size R ∧ Below W.heap.size W ((W.alloc (.cells z22 22)).setCells W.heap.size 0 R)) := box_new
  have HLT : Hid (∀ (R : List Value), L32 R → ∀ W : World, (W.alloc (.cells z22 22)).there W.heap.size 0 R.toArray.size) := fun R h => h.t
  obtain ⟨Z, hZ⟩ : ∃ Z, z22 = Z := ⟨_, rfl⟩
  rw [hZ] at hz HBN HLT
  clear hZ
  unfold bv
  obtain ⟨R, hR⟩ : ∃ X, bvc factor = X := ⟨_, rfl⟩
  rw [hR] at LR HBL ⊢
  clear hR
  have HB_0 := (show Hid (Below w.heap.size w w) from Below.refl _ _)
  have TK_0 := (show Hid True from trivial)
  go_enter Try.func76, Try.ntmps76
  go_wp2_with (first
    | (refine wpList_buildTo rfl 22 _ rfl (some 1) rfl R.toArray (HBL.out _) ?_)
    | (have hq := TK_0; refine wpList_store_mid rfl 22 (.tmp 0) (.tmp 1) rfl w.heap.size 0 R.toArray rfl rfl (HLT.out R LR.out w) LR.out.j LR.out.o ?_; simp only; have hbx := HBN.out w R LR.out.l; obtain ⟨w1, hw1⟩ : ∃ v, (w.alloc (.cells Z 22)).setCells w.heap.size 0 R = v := ⟨_, rfl⟩; rw [hw1] at hbx ⊢; clear hw1; have hb := hbx.2; replace hbx := hbx.1; obtain ⟨bO, hbO⟩ : ∃ b, w.heap.size = b := ⟨_, rfl⟩; rw [hbO] at hbx ⊢; clear hbO; have HB_1 := (show Hid (Below w.heap.size w w1) from HB_0.out.trans (hb.mono HB_0.out.size)); have O_1 := (show Hid (Bo w1 bO R) from hbx); have TK_1 := (show Hid True from trivial); clear hq TK_0 hb HB_0  hbx))
  exact bodyPost_ret (results_cell Try.results76 rfl (run_loadVar_mid (P := Try.prog) _ bO 0 22 R _ O_1.out.1 Try.underlying22 rfl LR.out.i)) rfl ⟨rfl, HB_1.out⟩

end Fd
end Go.Proofs.Ytgdekigdbbldoaa

namespace Go.Proofs.Ytgdekigdbbldoaa
open Go.RowKit
namespace Fd
open Rg

theorem fold_put (off : Nat) : ∀ (X : List Value) (k : Nat) (pre mid post : List Value), mid.length = X.length → pre.length = off + k →
    (X.zipIdx k).foldl (fun (cs : Array Value) ((c, j) : Value × Nat) => cs.setIfInBounds (off + j) c) (pre ++ (mid ++ post)).toArray = (pre ++ (X ++ post)).toArray
  | [], k, pre, mid, post, hm, hp => by
    have : mid = [] := List.length_eq_zero_iff.1 hm
    subst this
    rfl
  | x :: X, k, pre, [], post, hm, hp => by simp at hm
  | x :: X, k, pre, m :: mid, post, hm, hp => by
    have e : (pre ++ (m :: mid ++ post)).toArray.setIfInBounds (off + k) x = ((pre ++ [x]) ++ (mid ++ post)).toArray := by
      rw [List.setIfInBounds_toArray, ← hp, List.set_append_right _ _ (Nat.le_refl _), Nat.sub_self]
      simp
    have h := fold_put off X (k + 1) (pre ++ [x]) mid post (by simpa using hm) (by simp; omega)
    simp only [List.zipIdx_cons, List.foldl_cons]
    rw [e, h]
    simp
/-- One part of a value is laid. -/
theorem fill_put (place : Nat → Option (Nat × Nat)) (i : Nat) (pre mid post X : List Value) (rest : List (Nat × Value)) (hm : mid.length = X.length) (hp : place i = some (pre.length, X.length)) :
    Instr.fill place (pre ++ (mid ++ post)).toArray ((i, .agg X.toArray) :: rest) = Instr.fill place (pre ++ (X ++ post)).toArray rest := by
  rw [Instr.fill, hp]
  have hc : (Value.agg X.toArray).cells = X.toArray := rfl
  simp only [hc]
  rw [if_neg (by simp [hm])]
  have h := fold_put pre.length X 0 pre mid post hm rfl
  rw [← Array.foldl_toList, Array.toList_zipIdx]
  rw [show (Array.toList X.toArray) = X from rfl, h]
theorem built_of {t : TypeId} {z : Value} {fields : Array Field} {places : List (Nat × Nat)} (hi : (Try.prog.info? t).map (·.zero) = some (some z)) (hu : Try.prog.underlying t = some (.struct fields))
    (hp : fields.toList.mapM (fun f => (Try.prog.info? f.type).map fun i => (f.offset, i.size)) = some places) (parts : List (Nat × Value)) : Try.prog.built t parts = Instr.fill (places.toArray[·]?) z.cells parts := by
  unfold Program.built
  cases hq : Try.prog.info? t with
  | none => rw [hq] at hi; cases hi
  | some it =>
    have hz : it.zero = some z := by simpa [hq] using hi
    simp only [hu, hz, hp]
def zl (n : Nat) : List Value := List.replicate n (.int .u8 0)
theorem zl_add (m n : Nat) : zl m ++ zl n = zl (m + n) := List.replicate_append_replicate ..
theorem zero43_info : (Try.prog.info? 43).map (·.zero) = some (some (.agg (zl 64).toArray)) := by kernel_rfl
theorem zero84_info : (Try.prog.info? 84).map (·.zero) = some (some (.agg (zl 96).toArray)) := by kernel_rfl
theorem built43 (parts : List (Nat × Value)) : Try.prog.built 43 parts = Instr.fill ([(0, 32), (32, 32)].toArray[·]?) (zl 64).toArray parts := by
  have h := Try.underlying43
  refine built_of zero43_info h (by kernel_rfl) parts
theorem built84 (parts : List (Nat × Value)) : Try.prog.built 84 parts = Instr.fill ([(0, 64), (64, 32)].toArray[·]?) (zl 96).toArray parts := by
  have h := Try.underlying84
  refine built_of zero84_info h (by kernel_rfl) parts
theorem build_point (X Y : List Value) (hX : X.length = 32) (hY : Y.length = 32) : Try.prog.built 43 [(0, .agg X.toArray), (1, .agg Y.toArray)] = some (X ++ Y).toArray := by
  have e : zl 64 = [] ++ (zl 32 ++ zl 32) := by rw [zl_add]; rfl
  rw [built43, e, fill_put _ 0 [] (zl 32) (zl 32) X _ (by rw [hX]; rfl) (by rw [hX]; rfl)]
  have e2 : [] ++ (X ++ zl 32) = X ++ (zl 32 ++ []) := by simp
  rw [e2, fill_put _ 1 X (zl 32) [] Y _ (by rw [hY]; rfl) (by rw [hX, hY]; rfl)]
  simp [Instr.fill]
theorem build_pointY (Y : List Value) (hY : Y.length = 32) : Try.prog.built 43 [(1, .agg Y.toArray)] = some (zl 32 ++ Y).toArray := by
  have e : zl 64 = zl 32 ++ (zl 32 ++ []) := by rw [List.append_nil, zl_add]
  rw [built43, e, fill_put _ 1 (zl 32) (zl 32) [] Y _ (by rw [hY]; rfl) (by rw [hY]; rfl)]
  simp [Instr.fill]
theorem build_frac (X U : List Value) (hX : X.length = 64) (hU : U.length = 32) : Try.prog.built 84 [(0, .agg X.toArray), (1, .agg U.toArray)] = some (X ++ U).toArray := by
  have e : zl 96 = [] ++ (zl 64 ++ zl 32) := by rw [zl_add]; rfl
  rw [built84, e, fill_put _ 0 [] (zl 64) (zl 32) X _ (by rw [hX]; rfl) (by rw [hX]; rfl)]
  have e2 : [] ++ (X ++ zl 32) = X ++ (zl 32 ++ []) := by simp
  rw [e2, fill_put _ 1 X (zl 32) [] U _ (by rw [hU]; rfl) (by rw [hX, hU]; rfl)]
  simp [Instr.fill]
end Fd
end Go.Proofs.Ytgdekigdbbldoaa
