/- How an argument of 32 bytes is opened; what each row of layer 6 wants. -/
import Derived.Test.YtgdekigdbbldoaaRows
import Derived.Test.YtgdekigdbbldoaaFn
import Derived.Test.YtgdekigdbbldoaaDl
import Derived.ProofKit
import Derived.OpenShut
import Derived.LaidLaws
import Derived.LaidHandle
import Derived.Stop.Joined
import Derived.Deep.DeepHandedRow
import Derived.WideKeyArr2
namespace Go.Proofs.Ytgdekigdbbldoaa
open Go.ChangeShapes Go.WideShapes Go.ChangeAt Go.RowKit Go.WideMaps
namespace Wit

theorem own : ownKnob Try.prog.godebug = none := by kernel_rfl
theorem laidOut : laidOutB Try.prog = true := by kernel_rfl
theorem arr22 : ArrKey Try.prog 22 5 32 := ⟨Try.underlying22, by kernel_rfl, by kernel_rfl, by kernel_rfl⟩
theorem byte_of {z : Int} (h : (Lit.int .u8 z).wf = true) : 0 ≤ z ∧ z < 256 := by
  have h1 : IntKind.u8.min ≤ z ∧ z ≤ IntKind.u8.max := by simpa [Lit.wf] using h
  have e1 : IntKind.u8.min = 0 := by decide
  have e2 : IntKind.u8.max = 255 := by decide
  omega
theorem ofB_lt : ∀ (L : List Nat), (∀ b ∈ L, b < 256) → Dt.ofB L < 256 ^ L.length
  | [], _ => by simp [Dt.ofB]
  | d :: L, h => by
    have h1 := ofB_lt L (fun b hb => h b (by simp [hb]))
    have h2 := h d (by simp)
    show d + 256 * Dt.ofB L < 256 ^ (L.length + 1)
    rw [Nat.pow_succ]
    omega
theorem by_ofB : ∀ (L : List Nat), (∀ b ∈ L, b < 256) → ∀ j, Fd.by_ (Dt.ofB L) j = L.getD j 0
  | [], _, j => by simp [Dt.ofB, Fd.by_]
  | d :: L, h, j => by
    have h2 := h d (by simp)
    have ih := by_ofB L (fun b hb => h b (by simp [hb]))
    cases j with
    | zero =>
      show (d + 256 * Dt.ofB L) / 2 ^ 0 % 256 = d
      rw [Nat.pow_zero, Nat.div_one]
      omega
    | succ j =>
      rw [List.getD_cons_succ, ← ih j]
      show (d + 256 * Dt.ofB L) / 2 ^ (8 * (j + 1)) % 256 = Dt.ofB L / 2 ^ (8 * j) % 256
      rw [show 8 * (j + 1) = 8 + 8 * j by omega, Nat.pow_add, ← Nat.div_div_eq_div_mul]
      congr 2
      show (d + 256 * Dt.ofB L) / 256 = Dt.ofB L
      omega
section
variable {H : Type} {enc : TypeId × Value → H} {W : World}
theorem cells_of : ∀ (is : List Nat) (xs : List Value) (m : Nat) (ys : List (DataW H × List MemPlace)), is.mapM (fun i => DataW.trod enc Try.prog W 0 (fun _ => true) true m 5 ((xs.drop (i * 1)).take 1)) = some ys → ∃ zs : List Nat, zs.length = is.length ∧ (∀ b ∈ zs, b < 256) ∧ ∀ (k i : Nat), is[k]? = some i → xs[i]? = some (Value.int .u8 ((zs.getD k 0 : Nat) : Int))
  | [], _, _, _, _ => ⟨[], rfl, by simp, by simp⟩
  | i :: is, xs, m, ys, h => by
    rw [List.mapM_cons] at h
    simp only [bind, Option.bind_eq_some_iff, pure, Option.some.injEq] at h
    obtain ⟨y, hy, ys', hys, rfl⟩ := h
    obtain ⟨zs, h1, h2, h3⟩ := cells_of is xs m ys' hys
    obtain ⟨a, ea, _, wa⟩ := DataW.trod_int Try.underlying5 hy
    have hb := byte_of wa
    have hx : xs[i]? = some (.int .u8 a) := by
      rw [Nat.mul_one] at ea
      have := congrArg (fun l => l[0]?) ea
      simpa [List.getElem?_take, List.getElem?_drop] using this
    refine ⟨a.toNat :: zs, by simp [h1], fun b hb' => ?_, fun k j hk => ?_⟩
    · rcases List.mem_cons.1 hb' with e | e
      · omega
      · exact h2 b e
    · cases k with
      | zero =>
        simp only [List.getElem?_cons_zero, Option.some.injEq] at hk
        subst hk
        rw [hx]
        simp
        omega
      | succ k =>
        simp only [List.getElem?_cons_succ] at hk
        rw [h3 k j hk, List.getD_cons_succ]
set_option maxRecDepth 100000 in
/-- What is read as 32 bytes is the bytes of a number. -/
theorem open22 {r : Reach} {b0 : Nat} {v : Value} {d : DataW H} {ps : List MemPlace} (hval : Value.okWide Try.prog W r b0 22 v) (hd : DataW.Trod enc Try.prog W 0 (fun _ => true) true 22 v d ps) :
    ∃ a, a < 115792089237316195423570985008687907853269984665640564039457584007913129639936 ∧ v = Fd.bv a := by
  obtain ⟨xs, rfl, hn⟩ := okWide_arr arr22 hval
  obtain ⟨fuel, hf⟩ := hd
  cases fuel with
  | zero => simp [DataW.trod] at hf
  | succ m =>
    rw [DataW.trod_step] at hf
    unfold DataW.trodStep at hf
    simp only [Try.underlying22, Value.cells] at hf
    rw [if_pos (by rw [arr22.size]; simpa using hn)] at hf
    simp only [Option.map_eq_some_iff] at hf
    obtain ⟨ys, hy, _⟩ := hf
    rw [arr22.one] at hy
    obtain ⟨zs, h1, h2, h3⟩ := cells_of _ xs.toList m ys hy
    rw [List.length_range] at h1
    have hlt := ofB_lt zs h2
    rw [h1, Dt.b256, ← Dt.two256] at hlt
    refine ⟨Dt.ofB zs, hlt, ?_⟩
    unfold Fd.bv
    congr 1
    refine Array.toList_inj.1 (List.ext_getElem? fun j => ?_)
    rcases Nat.lt_or_ge j 32 with hj | hj
    · rw [h3 j j (by rw [List.getElem?_range hj])]
      have := Fd.bvc_at (Dt.ofB zs) j hj
      rw [by_ofB zs h2 j] at this
      exact this.symm
    · rw [List.getElem?_eq_none (by simpa [hn] using hj), List.getElem?_eq_none (by rw [Fd.bvc_len]; exact hj)]
end
end Wit
end Go.Proofs.Ytgdekigdbbldoaa
