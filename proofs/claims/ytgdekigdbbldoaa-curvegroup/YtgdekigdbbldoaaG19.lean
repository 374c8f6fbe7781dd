/- How an argument of 32 bytes is opened; what each row of layer 6 wants. A region whose front only reads but for variables that are made (allocs that no other operation of the front looks at), in whatever order; its tail waits for all ahead. -/
import Derived.Test.YtgdekigdbbldoaaRows
import Derived.Test.YtgdekigdbbldoaaG10
import Derived.Test.YtgdekigdbbldoaaG18
import Derived.ProofKit
import Derived.OpenShut
import Derived.LaidLaws
import Derived.LaidHandle
import Derived.Stop.Joined
import Derived.Deep.DeepHandedRow
import Derived.WideKeyArr2
import Derived.Test.YtgdekigdbbldoaaG04
namespace Go.Proofs.Ytgdekigdbbldoaa
open Go.ChangeShapes Go.WideShapes Go.ChangeAt Go.RowKit Go.WideMaps
namespace Wit

theorem own : ownKnob Try.prog.godebug = none := by kernel_rfl
theorem laidOut : laidOutB Try.prog = true := by kernel_rfl
theorem arr22 : ArrKey Try.prog 22 5 32 := ⟨Try.underlying22, by kernel_rfl, by kernel_rfl, by kernel_rfl⟩
theorem byte_of {z : Int} (h : (Lit.int .u8 z).wf = true) : 0 ≤ z ∧ z < 256 := by
  have h1 : IntKind.u8.min ≤ z ∧ z ≤ IntKind.u8.max := by simpa [Lit.wf] using h
  have e1 : IntKind.u8.min = 0 := by decide
  have e2 : IntKind.u8.max = 255 := by decide
  omega
theorem ofB_lt : ∀ (L : List Nat), (∀ b ∈ L, b < 256) → Dt.ofB L < 256 ^ L.length
  | [], _ => by simp [Dt.ofB]
  | d :: L, h => by
    have h1 := ofB_lt L (fun b hb => h b (by simp [hb]))
    have h2 := h d (by simp)
    show d + 256 * Dt.ofB L < 256 ^ (L.length + 1)
    rw [Nat.pow_succ]
    omega
theorem by_ofB : ∀ (L : List Nat), (∀ b ∈ L, b < 256) → ∀ j, Fd.by_ (Dt.ofB L) j = L.getD j 0
  | [], _, j => by simp [Dt.ofB, Fd.by_]
  | d :: L, h, j => by
    have h2 := h d (by simp)
    have ih := by_ofB L (fun b hb => h b (by simp [hb]))
    cases j with
    | zero =>
      show (d + 256 * Dt.ofB L) / 2 ^ 0 % 256 = d
      rw [Nat.pow_zero, Nat.div_one]
      omega
    | succ j =>
      rw [List.getD_cons_succ, ← ih j]
      show (d + 256 * Dt.ofB L) / 2 ^ (8 * (j + 1)) % 256 = Dt.ofB L / 2 ^ (8 * j) % 256
      rw [show 8 * (j + 1) = 8 + 8 * j by omega, Nat.pow_add, ← Nat.div_div_eq_div_mul]
      congr 2
      show (d + 256 * Dt.ofB L) / 256 = Dt.ofB L
      omega
section
variable {H : Type} {enc : TypeId × Value → H} {W : World}
theorem cells_of : ∀ (is : List Nat) (xs : List Value) (m : Nat) (ys : List (DataW H × List MemPlace)), is.mapM (fun i => DataW.trod enc Try.prog W 0 (fun _ => true) true m 5 ((xs.drop (i * 1)).take 1)) = some ys → ∃ zs : List Nat, zs.length = is.length ∧ (∀ b ∈ zs, b < 256) ∧ ∀ (k i : Nat), is[k]? = some i → xs[i]? = some (Value.int .u8 ((zs.getD k 0 : Nat) : Int))
  | [], _, _, _, _ => ⟨[], rfl, by simp, by simp⟩
  | i :: is, xs, m, ys, h => by
    rw [List.mapM_cons] at h
    simp only [bind, Option.bind_eq_some_iff, pure, Option.some.injEq] at h
    obtain ⟨y, hy, ys', hys, rfl⟩ := h
    obtain ⟨zs, h1, h2, h3⟩ := cells_of is xs m ys' hys
    obtain ⟨a, ea, _, wa⟩ := DataW.trod_int Try.underlying5 hy
    have hb := byte_of wa
    have hx : xs[i]? = some (.int .u8 a) := by
      rw [Nat.mul_one] at ea
      have := congrArg (fun l => l[0]?) ea
      simpa [List.getElem?_take, List.getElem?_drop] using this
    refine ⟨a.toNat :: zs, by simp [h1], fun b hb' => ?_, fun k j hk => ?_⟩
    · rcases List.mem_cons.1 hb' with e | e
      · omega
      · exact h2 b e
    · cases k with
      | zero =>
        simp only [List.getElem?_cons_zero, Option.some.injEq] at hk
        subst hk
        rw [hx]
        simp
        omega
      | succ k =>
        simp only [List.getElem?_cons_succ] at hk
        rw [h3 k j hk, List.getD_cons_succ]
set_option maxRecDepth 100000 in
/-- What is read as 32 bytes is the bytes of a number. -/
theorem open22 {r : Reach} {b0 : Nat} {v : Value} {d : DataW H} {ps : List MemPlace} (hval : Value.okWide Try.prog W r b0 22 v) (hd : DataW.Trod enc Try.prog W 0 (fun _ => true) true 22 v d ps) :
    ∃ a, a < 115792089237316195423570985008687907853269984665640564039457584007913129639936 ∧ v = Fd.bv a := by
  obtain ⟨xs, rfl, hn⟩ := okWide_arr arr22 hval
  obtain ⟨fuel, hf⟩ := hd
  cases fuel with
  | zero => simp [DataW.trod] at hf
  | succ m =>
    rw [DataW.trod_step] at hf
    unfold DataW.trodStep at hf
    simp only [Try.underlying22, Value.cells] at hf
    rw [if_pos (by rw [arr22.size]; simpa using hn)] at hf
    simp only [Option.map_eq_some_iff] at hf
    obtain ⟨ys, hy, _⟩ := hf
    rw [arr22.one] at hy
    obtain ⟨zs, h1, h2, h3⟩ := cells_of _ xs.toList m ys hy
    rw [List.length_range] at h1
    have hlt := ofB_lt zs h2
    rw [h1, Dt.b256, ← Dt.two256] at hlt
    refine ⟨Dt.ofB zs, hlt, ?_⟩
    unfold Fd.bv
    congr 1
    refine Array.toList_inj.1 (List.ext_getElem? fun j => ?_)
    rcases Nat.lt_or_ge j 32 with hj | hj
    · rw [h3 j j (by rw [List.getElem?_range hj])]
      have := Fd.bvc_at (Dt.ofB zs) j hj
      rw [by_ofB zs h2 j] at this
      exact this.symm
    · rw [List.getElem?_eq_none (by simpa [hn] using hj), List.getElem?_eq_none (by rw [Fd.bvc_len]; exact hj)]
end
end Wit
end Go.Proofs.Ytgdekigdbbldoaa

namespace Go.Proofs.Ytgdekigdbbldoaa
open Go.RowKit
namespace Rg

def isAl (ty : TypeId) (o : Oper) : Bool := match o.op with | .alloc u => u == ty | _ => false
/-- An alloc's place, where nothing is done. -/
def hush (ty : TypeId) (o : Oper) : Oper := if isAl ty o then { o with op := .move (.const undef), dst := none } else o
theorem hush_after (ty : TypeId) (o : Oper) : (hush ty o).after = o.after := by unfold hush; split <;> rfl
theorem hush_guard (ty : TypeId) (o : Oper) : (hush ty o).guard = o.guard := by unfold hush; split <;> rfl
theorem ready_hush (ty : TypeId) (l : List Oper) (ll : Array Bool) : Region.ready .any (l.map (hush ty)).toArray ll = Region.ready .any l.toArray ll := by
  unfold Region.ready
  simp only [List.size_toArray, List.length_map, List.getElem?_toArray, List.getElem?_map, Option.map_map]
  congr 1
  funext i
  congr 2
  cases l[i]? <;> simp [hush_after]
/-- No guard in the front; what is made has a slot of its own, which is none of the others' and which no other looks at. -/
def floatB (ty : TypeId) (al : List Tmp) (l : List Oper) : Bool :=
  l.all fun o => o.guard.isNone && (if isAl ty o then (match o.dst with | some d => al.contains d | none => false) else (match o.dst with | some d => !al.contains d | none => true) && (o.looksAt l.toArray).all (fun s => !al.contains s)) && (match o.op with | .select .. => false | _ => true)
/-- Two operations of the front never write one slot, and every slot of 'al' is written. -/
def slotsB (al : List Tmp) (l : List Oper) : Bool :=
  ((List.range l.length).all fun i => (List.range l.length).all fun j => i == j || ((l[i]?).bind (·.dst)) == none || ((l[i]?).bind (·.dst)) != ((l[j]?).bind (·.dst))) && al.all fun d => l.any fun o => o.dst == some d

/-- The ghost's frame and the real one. -/
structure Rf (D : List Tmp) (f : Tmp → Nat) (a ar : Act) : Prop where
  d : ar.defers = a.defers
  s : ar.tmps.size = a.tmps.size
  t : ∀ i, i < a.tmps.size → ar.tmps[i]? = if i ∈ D then some (.pointer (some ⟨f i, 0, none⟩)) else a.tmps[i]?
theorem Rf.out {D : List Tmp} {f : Tmp → Nat} {a ar : Act} (h : Rf D f a ar) {i : Nat} (hi : i ∉ D) : ar.tmps[i]? = a.tmps[i]? := by
  rcases Nat.lt_or_ge i a.tmps.size with h' | h'
  · rw [h.t i h', if_neg hi]
  · rw [Array.getElem?_eq_none h', Array.getElem?_eq_none (by rw [h.s]; exact h')]
theorem Rf.eval {D : List Tmp} {f : Tmp → Nat} {a ar : Act} (h : Rf D f a ar) {x : Operand} (hx : ∀ s, x = .tmp s → s ∉ D) : ar.eval x = a.eval x := by
  cases x with
  | tmp s => simp only [Act.eval]; rw [Array.getD_eq_getD_getElem?, Array.getD_eq_getD_getElem?, h.out (hx s rfl)]
  | _ => rfl
theorem Rf.put {D : List Tmp} {f : Tmp → Nat} {a ar : Act} (h : Rf D f a ar) {dst : Option Tmp} (hd : ∀ d, dst = some d → d ∉ D) (v : Value) : Rf D f (a.put dst v) (ar.put dst v) := by
  cases dst with
  | none => exact h
  | some d =>
    refine ⟨h.d, by simp [Act.put, h.s], fun i hi => ?_⟩
    have hi' : i < a.tmps.size := by simpa [Act.put] using hi
    simp only [Act.put, Array.getElem?_setIfInBounds, h.s]
    by_cases hdi : d = i
    · subst hdi
      rw [if_pos rfl, if_pos rfl, if_neg (hd d rfl)]
    · rw [if_neg hdi, if_neg hdi, h.t i hi']
theorem Rf.make {D : List Tmp} {f : Tmp → Nat} {a ar : Act} (h : Rf D f a ar) (d : Tmp) (b : Nat) (_hd : d ∉ D) : Rf (d :: D) (fun s => if s = d then b else f s) a (ar.put (some d) (.pointer (some ⟨b, 0, none⟩))) := by
  refine ⟨h.d, by simp [Act.put, h.s], fun i hi => ?_⟩
  simp only [Act.put, Array.getElem?_setIfInBounds, h.s, List.mem_cons]
  by_cases hdi : d = i
  · subst hdi
    simp [hi]
  · have : ¬ i = d := fun e => hdi e.symm
    rw [if_neg hdi, h.t i hi]
    simp [this]
def putsT (A : Act) (al : List Tmp) (f : Tmp → Nat) : Act := al.foldl (fun a d => a.put (some d) (.pointer (some ⟨f d, 0, none⟩))) A
theorem puts_rf (f : Tmp → Nat) : ∀ (al D : List Tmp) (A ar : Act), Rf D f A ar → ∃ D', Rf D' f A (putsT ar al f) ∧ ∀ i, i ∈ D' ↔ i ∈ D ∨ i ∈ al
  | [], D, A, ar, h => ⟨D, h, fun i => by simp⟩
  | d :: al, D, A, ar, h => by
    have h2 : Rf (d :: D) f A (ar.put (some d) (.pointer (some ⟨f d, 0, none⟩))) := by
      refine ⟨h.d, by simp [Act.put, h.s], fun i hi => ?_⟩
      simp only [Act.put, Array.getElem?_setIfInBounds, h.s, List.mem_cons]
      by_cases hdi : d = i
      · subst hdi
        simp [hi]
      · have : ¬ i = d := fun e => hdi e.symm
        rw [if_neg hdi, h.t i hi]
        simp [this]
    obtain ⟨D', h3, h4⟩ := puts_rf f al (d :: D) A _ h2
    exact ⟨D', h3, fun i => by rw [h4]; simp [or_assoc, or_comm, or_left_comm]⟩
theorem Rf.uniq {D D' : List Tmp} {f : Tmp → Nat} {a x y : Act} (hx : Rf D f a x) (hy : Rf D' f a y) (hD : ∀ i, i ∈ D ↔ i ∈ D') : x = y := by
  have e1 : x.tmps = y.tmps := by
    apply Array.ext_getElem?
    intro i
    rcases Nat.lt_or_ge i a.tmps.size with h' | h'
    · rw [hx.t i h', hy.t i h']
      by_cases h : i ∈ D
      · rw [if_pos h, if_pos ((hD i).1 h)]
      · rw [if_neg h, if_neg (fun h2 => h ((hD i).2 h2))]
    · rw [Array.getElem?_eq_none (by rw [hx.s]; exact h'), Array.getElem?_eq_none (by rw [hy.s]; exact h')]
  have e2 : x.defers = y.defers := hx.d.trans hy.d.symm
  cases x; cases y; simp_all
end Rg
end Go.Proofs.Ytgdekigdbbldoaa
