/- CurveGroup: the law. -/
import Derived.Test.YtgdekigdbbldoaaG42
import Derived.Test.YtgdekigdbbldoaaG43
import Derived.Test.YtgdekigdbbldoaaG44
import Derived.Test.YtgdekigdbbldoaaG46
namespace Go.Proofs.Ytgdekigdbbldoaa
open Go.RowKit
namespace Fd
open Rg Cv Bx Fk

theorem some_any (k : Nat) (w : World) : Calls Try.prog 33 #[bv k] w fun e w' => e = .returned (.tuple #[pv (someP k).x.val (someP k).y.val, .bool true]) ∧ Below w.heap.size w w' :=
  if h : by_ k 0 % 3 = 0 then some_third k w h else some_plain k w h
/-- Add at points of the curve. -/
theorem add_pts {P Q : Pt} (hP : P.on) (hQ : Q.on) (W : World) : Calls Try.prog 35 #[pv P.x.val P.y.val, pv Q.x.val Q.y.val] W fun e w' => e = .returned (.tuple #[pv (add P Q).x.val (add P Q).y.val, .nilIface]) ∧ Below W.heap.size W w' := by
  have h := add_pt P.x.val P.y.val Q.x.val Q.y.val W (big _) (big _) (big _) (big _) (pt_C hP) (pt_C hQ)
  rw [tf_of, tf_of, tf_of, tf_of] at h
  exact h
/-- Times at the base point. -/
theorem times_B (e : Nat) (he : e < 115792089237316195423570985008687907853269984665640564039457584007913129639936) (W : World) : Calls Try.prog 41 #[bv e, pv baseX baseY] W fun e' w' => e' = .returned (.tuple #[pv (mulP B e).x.val (mulP B e).y.val, .nilIface]) ∧ Below W.heap.size W w' := by
  have h := times_pt e baseX baseY W bx_lt by_lt' base_on
  have e2 : ptm e ⟨tf baseX, tf baseY⟩ 256 = mulP B e := ptm_is B_on e (Nat.lt_of_lt_of_le he (by decide))
  rw [e2] at h
  exact h
/-- CurveGroup answers true. -/
theorem curveGroup_law (i j k : Nat) (li : i < 115792089237316195423570985008687907853269984665640564039457584007913129639936) (lj : j < 115792089237316195423570985008687907853269984665640564039457584007913129639936) (_lk : k < 115792089237316195423570985008687907853269984665640564039457584007913129639936) (w : World) :
    Calls Try.prog 12 #[bv i, bv j, bv k] w fun e w' => e = .returned (.bool true) ∧ Below w.heap.size w w' := by
  have HP := someP_on i
  have HQ := someP_on j
  have HR := someP_on k
  have vx := (someP i).x.isLt
  have vy := (someP i).y.isLt
  have le : encp (someP i).x.val (someP i).y.val < 115792089237316195423570985008687907853269984665640564039457584007913129639936 := by have h1 := redp_255 (someP i).y.val; have h2 := Nat.mod_lt (redp (someP i).x.val) (show 0 < 2 by decide); unfold encp; omega
  have ls : (i * 1 + j) % ell < 115792089237316195423570985008687907853269984665640564039457584007913129639936 := Nat.lt_trans (Nat.mod_lt _ (by decide)) ell_lt
  have eO : mulP B ell = O := B_order
  have eT : mulP B ((i * 1 + j) % ell) = add (mulP B i) (mulP B j) := by rw [Nat.mul_one]; exact B_sum i j
  have ez : zl 32 = bvc 0 := by rfl
  have cT := times_B _ ls
  rw [eT] at cT
  have cZ := times_B ell ell_lt
  rw [eO] at cZ
  have cB := add_pts HQ HP
  rw [add_comm'] at cB
  have cX := add_pts HP (add_on HQ HR)
  rw [← add_assoc' HP HQ HR] at cX
  exact group_walk (bvc i) (bvc j) (bvc k) (bvc (encp (someP i).x.val (someP i).y.val)) (bvc ((i * 1 + j) % ell)) (bvc 1) (bvc ell)
    _ _ _ _ _ _ (bvc baseX ++ bvc baseY) _ _ _ (bvc 0 ++ bvc 1) (some_any i) (some_any j) (some_any k)
    (add_pts HP HQ) cB (add_pts (add_on HP HQ) HR) (add_pts HQ HR) cX (add_pts (mulP_on B_on i) (mulP_on B_on j))
    (fun W => encode_ok _ _ W (big _) (big _) (pt_C HP)) (fun W => dec_enc _ _ W vx vy (pt_C HP)) (fun W => small7_any 1 W (by decide)) (fun W => mulAdd_any i 1 j W li (by decide) lj) base_any
    cT (times_B i li) (times_B j lj) cZ
    (eq43_same _ _ (big _) (big _)) (eq43_same _ _ (big _) (big _)) (eq43_same _ _ (big _) (big _)) (eq43_same _ _ (big _) (big _)) (eq43_same 0 1 (by decide) (by decide)) (eq22_same' _ le)
    (by have h := build_pointY (bvc 1) (bvc_len 1); rw [ez] at h; exact h) (fun W u h => Dt.bytes_num h)
    (l32 _) (l32 _) (l32 _) (l32 _) (l32 _) (l32 _) (l32 _) (l64 _ _) (l64 _ _) (l64 _ _) (l64 _ _) (l64 _ _) (l64 _ _) (l64 _ _) (l64 _ _) (l64 _ _) (l64 _ _) (l64 _ _) w
end Fd
end Go.Proofs.Ytgdekigdbbldoaa
