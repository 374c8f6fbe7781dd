/- What errors.As, errors.Is and coveylaw00.Is answer at a fault of the numbers 3 and 7: contracts, by walking their text; ahead of them, closed facts on what reflectlite answers at this program's types. -/
import Derived.Test.YtngfoghnopnbmaaGreatDoorSu
import Derived.LaidEql
import Derived.Stop.Asserts
import Derived.RowKitTokens
namespace Go.Proofs.YtngfoghnopnbmaaGreatDoor
open Go.RowKit Go.Extern.Stop Go.Stop Go.Extern
namespace AsW

/-! Closed facts on the model's entries for internal/reflectlite at this program's types: 105 the pointer to a fault, 117 the pointer to that, 31 error, 163 reflectlite's rtype. -/
theorem valueOf55 (t : Addr) (w : World) : (ReflectliteValue.unpack (.iface 117 (.pointer (some t)))).run Tryz.prog w
    = .ok (.agg #[.pointer (some ⟨7, 117, none⟩), .pointer (some ⟨w.heap.size, 0, none⟩), .int .u64 150]) (w.alloc (.cells #[.pointer (some t)] 117)) := by kernel_rfl
theorem type55 (a : Addr) (w : World) : (ReflectliteValue.methodAny (ReflectliteValue.valueError "reflectlite.Value.Type" 0) (fun t _ _ _ => ReflectliteType.toType t) #[.agg #[.pointer (some ⟨7, 117, none⟩), .pointer (some a), .int .u64 150]]).run Tryz.prog w
    = .ok (.iface 163 (.agg #[.pointer (some ⟨7, 117, none⟩)])) w := by kernel_rfl
theorem methodKind (h : Value) (w : World) : (Go.method 337 163 (.agg #[h]) "Kind").run Tryz.prog w = .ok (190, h) w := by kernel_rfl
theorem kind55 (w : World) : ((ReflectliteType.abiMethod fun t => (fun a : Nat => Value.int IntKind.u8 (a : Int)) <$> Rtype.kind t) #[.pointer (some ⟨7, 117, none⟩)]).run Tryz.prog w = .ok (.int .u8 22) w := by kernel_rfl
theorem kind53 (w : World) : ((ReflectliteType.abiMethod fun t => (fun a : Nat => Value.int IntKind.u8 (a : Int)) <$> Rtype.kind t) #[.pointer (some ⟨7, 105, none⟩)]).run Tryz.prog w = .ok (.int .u8 22) w := by kernel_rfl
theorem rlm (z : Sem Value) (f : TypeId → Addr → Nat → Nat → Sem Value) (v : Value) :
    ReflectliteValue.method z f #[v] = (do match ← ReflectliteValue.parts v with | none => z | some (t, a, fl) => f t a fl (fl % 32)) := rfl
theorem parts55 (a : Addr) (w : World) : (ReflectliteValue.parts (.agg #[.pointer (some ⟨7, 117, none⟩), .pointer (some a), .int .u64 150])).run Tryz.prog w = .ok (some (117, a, 150)) w := by kernel_rfl
theorem isNil55 (a p : Addr) (W : World) (ha : W.cell? a = some (.pointer (some p))) :
    (ReflectliteValue.method (ReflectliteValue.valueError "reflectlite.Value.IsNil" 0) ReflectliteValue.isNil #[.agg #[.pointer (some ⟨7, 117, none⟩), .pointer (some a), .int .u64 150]]).run Tryz.prog W = .ok (.bool false) W := by
  rw [rlm]
  simp only [Sem.run_bind, parts55, Result.andThen]
  simp [ReflectliteValue.isNil, loadVar, isAgg, underlying, Tryz.underlying117, ha, Result.andThen]
theorem methodElem (h : Value) (w : World) : (Go.method 337 163 (.agg #[h]) "Elem").run Tryz.prog w = .ok (202, .agg #[h]) w := by kernel_rfl
theorem methodImplements (h : Value) (w : World) : (Go.method 337 163 (.agg #[h]) "Implements").run Tryz.prog w = .ok (203, .agg #[h]) w := by kernel_rfl
theorem methodAssignableTo (h : Value) (w : World) : (Go.method 337 163 (.agg #[h]) "AssignableTo").run Tryz.prog w = .ok (200, .agg #[h]) w := by kernel_rfl
theorem methodComparable (h : Value) (w : World) : (Go.method 337 163 (.agg #[h]) "Comparable").run Tryz.prog w = .ok (201, .agg #[h]) w := by kernel_rfl
theorem elem55 (w : World) : (ReflectliteType.method ReflectliteType.elem #[.agg #[.pointer (some ⟨7, 117, none⟩)]]).run Tryz.prog w = .ok (.iface 163 (.agg #[.pointer (some ⟨7, 105, none⟩)])) w := by kernel_rfl
theorem implements53 (w : World) : (ReflectliteType.relation "Implements" ReflectliteType.implements_ #[.agg #[.pointer (some ⟨7, 105, none⟩)], .iface 163 (.agg #[.pointer (some ⟨7, 31, none⟩)])]).run Tryz.prog w = .ok (.bool true) w := by kernel_rfl
theorem typeOf53 (v : Value) (w : World) : (ReflectliteType.typeOf #[.iface 105 v]).run Tryz.prog w = .ok (.iface 163 (.agg #[.pointer (some ⟨7, 105, none⟩)])) w := by kernel_rfl
theorem typeOf32 (v : Value) (w : World) : (ReflectliteType.typeOf #[.iface 34 v]).run Tryz.prog w = .ok (.iface 163 (.agg #[.pointer (some ⟨7, 34, none⟩)])) w := by kernel_rfl
theorem assignable53 (w : World) : (ReflectliteType.relation "AssignableTo" ReflectliteType.assignableTo #[.agg #[.pointer (some ⟨7, 105, none⟩)], .iface 163 (.agg #[.pointer (some ⟨7, 105, none⟩)])]).run Tryz.prog w = .ok (.bool true) w := by kernel_rfl
theorem valueOf53 (e : Addr) (w : World) : (ReflectliteValue.unpack (.iface 105 (.pointer (some e)))).run Tryz.prog w
    = .ok (.agg #[.pointer (some ⟨7, 105, none⟩), .pointer (some ⟨w.heap.size, 0, none⟩), .int .u64 150]) (w.alloc (.cells #[.pointer (some e)] 105)) := by kernel_rfl
theorem elemOf55 (w : World) : (Rtype.elem? 117).run Tryz.prog w = .ok (some 105) w := by kernel_rfl
theorem mk53 (p : Addr) (w : World) : (ReflectliteValue.mk 105 p ReflectliteValue.flagAddr).run Tryz.prog w = .ok (.agg #[.pointer (some ⟨7, 105, none⟩), .pointer (some p), .int .u64 406]) w := by kernel_rfl
theorem elemV55 (a p : Addr) (W : World) (ha : W.cell? a = some (.pointer (some p))) :
    (ReflectliteValue.method (ReflectliteValue.valueError "reflectlite.Value.Elem" 0) ReflectliteValue.elem #[.agg #[.pointer (some ⟨7, 117, none⟩), .pointer (some a), .int .u64 150]]).run Tryz.prog W
      = .ok (.agg #[.pointer (some ⟨7, 105, none⟩), .pointer (some p), .int .u64 406]) W := by
  rw [rlm]
  simp only [Sem.run_bind, parts55, Result.andThen]
  simp [ReflectliteValue.elem, loadVar, isAgg, underlying, Tryz.underlying117, ha, Result.andThen, elemOf55, mk53]
theorem parts53a (a : Addr) (w : World) : (ReflectliteValue.parts (.agg #[.pointer (some ⟨7, 105, none⟩), .pointer (some a), .int .u64 406])).run Tryz.prog w = .ok (some (105, a, 406)) w := by kernel_rfl
theorem parts53 (a : Addr) (w : World) : (ReflectliteValue.parts (.agg #[.pointer (some ⟨7, 105, none⟩), .pointer (some a), .int .u64 150])).run Tryz.prog w = .ok (some (105, a, 150)) w := by kernel_rfl
theorem direct53 (w : World) : (Rtype.directlyAssignable 105 105).run Tryz.prog w = .ok true w := by kernel_rfl
theorem eqPC (a : Addr) (w : World) : (binOp .eql 31 (.iface 105 (.pointer (some a))) (.iface 34 (.int .i64 3))).run Tryz.prog w = .ok (.bool false) w := by kernel_rfl
theorem eqPC7 (a : Addr) (w : World) : (binOp .eql 31 (.iface 105 (.pointer (some a))) (.iface 34 (.int .i64 7))).run Tryz.prog w = .ok (.bool false) w := by kernel_rfl
theorem eq33 (w : World) : (binOp .eql 31 (.iface 34 (.int .i64 3)) (.iface 34 (.int .i64 3))).run Tryz.prog w = .ok (.bool true) w := by kernel_rfl
theorem eq77 (w : World) : (binOp .eql 31 (.iface 34 (.int .i64 7)) (.iface 34 (.int .i64 7))).run Tryz.prog w = .ok (.bool true) w := by kernel_rfl
theorem noIs53 (v : Value) (xT : TypeId) (w : World) : (Instr.typeAssert (.iface 105 v) xT 174 true).run Tryz.prog w = .ok (.tuple #[.nilIface, .bool false]) w :=
  run_typeAssert_lacksB Tryz.underlying174 (by kernel_rfl) (by kernel_rfl) v xT w
theorem unwrap53 (v : Value) (xT : TypeId) (w : World) : (Instr.typeAssert (.iface 105 v) xT 170 true).run Tryz.prog w = .ok (.tuple #[.iface 105 v, .bool true]) w :=
  run_typeAssert_hasB Tryz.underlying170 (by kernel_rfl) v xT w
theorem methodUnwrap (v : Value) (w : World) : (Go.method 337 105 v "Unwrap").run Tryz.prog w = .ok (195, v) w := by kernel_rfl
end AsW
end Go.Proofs.YtngfoghnopnbmaaGreatDoor

namespace Go.Proofs.YtngfoghnopnbmaaGreatDoor
open Go.RowKit Go.Extern.Stop Go.Stop Go.Extern
namespace AsW
theorem lit1 (v x : Value) (h1 : (#[v, x] : Array Value).size = 2) (h2 : 1 < 2) : (#[v, x] : Array Value).getLit 1 h1 h2 = x := rfl
theorem set53 (ta b e : Addr) (old : Value) (W : World) (hb : W.cell? b = some (.pointer (some e))) (ht : W.cell? ta = some old) (hf : W.frozen? ta = false) :
    (ReflectliteValue.set #[.agg #[.pointer (some ⟨7, 105, none⟩), .pointer (some ta), .int .u64 406], .agg #[.pointer (some ⟨7, 105, none⟩), .pointer (some b), .int .u64 150]]).run Tryz.prog W
      = .ok (.tuple #[]) (W.setCell ta (.pointer (some e))) := by
  show Sem.run Tryz.prog (ReflectliteValue.parts (.agg #[.pointer (some ⟨7, 105, none⟩), .pointer (some ta), .int .u64 406]) >>= _) W = _
  simp only [Sem.run_bind, parts53a, Result.andThen, lit1]
  simp only [parts53]
  simp [ReflectliteValue.flagAddr, loadVar, isAgg, underlying, Tryz.underlying105, hb, Result.andThen, direct53, storeVar, Value.cells, storeCells, Addr.add]
  rw [run_store Tryz.prog W ta _ _ (by rfl)]
  simp [ht, hf]

set_option maxHeartbeats 4000000 in
set_option maxRecDepth 100000 in
theorem as_hit (e t : Addr) (old : Value) (w : World) (hg : w.cell? ⟨0, 0, none⟩ = some (.iface 163 (.agg #[.pointer (some ⟨7, 31, none⟩)]))) (ht0 : w.cell? t = some old) (hf0 : w.frozen? t = false) :
    Calls Tryz.prog 66 #[.iface 105 (.pointer (some e)), .iface 117 (.pointer (some t))] w fun ev w' => ev = .returned (.bool true) ∧ w' = ((((w.alloc (.cells #[.pointer (some t)] 117)).alloc (.cells #[.pointer (some ⟨7, 117, none⟩), .pointer (some ⟨w.heap.size, 0, none⟩), .int .u64 150] 139)).alloc (.cells #[.pointer (some ⟨7, 117, none⟩), .pointer (some ⟨w.heap.size, 0, none⟩), .int .u64 150] 139)).alloc (.cells #[.pointer (some e)] 105)).setCell t (.pointer (some e)) := by
  have h6 := @run_callFunc_extern Tryz.prog 112 _ (fun args => ReflectliteValue.unpack (args.getD 0 (.tuple #[]))) Tryz.func112 (by kernel_rfl) (by kernel_rfl) (by kernel_rfl) (by kernel_rfl)
  have h7 := @run_callFunc_extern Tryz.prog 113 _ (ReflectliteValue.methodAny (ReflectliteValue.valueError "reflectlite.Value.Type" 0) (fun t _ _ _ => ReflectliteType.toType t)) Tryz.func113 (by kernel_rfl) (by kernel_rfl) (by kernel_rfl) (by kernel_rfl)
  have h8 := @run_callFunc_extern Tryz.prog 114 _ (ReflectliteValue.method (ReflectliteValue.valueError "reflectlite.Value.IsNil" 0) ReflectliteValue.isNil) Tryz.func114 (by kernel_rfl) (by kernel_rfl) (by kernel_rfl) (by kernel_rfl)
  have h27 := @run_callFunc_extern Tryz.prog 190 _ (ReflectliteType.abiMethod fun t => do pure (.int .u8 (← Rtype.kind t))) Tryz.func190 (by kernel_rfl) (by kernel_rfl) (by kernel_rfl) (by kernel_rfl)
  have h37 := @run_callFunc_extern Tryz.prog 202 _ (ReflectliteType.method ReflectliteType.elem) Tryz.func202 (by kernel_rfl) (by kernel_rfl) (by kernel_rfl) (by kernel_rfl)
  have h38 := @run_callFunc_extern Tryz.prog 203 _ (ReflectliteType.relation "Implements" ReflectliteType.implements_) Tryz.func203 (by kernel_rfl) (by kernel_rfl) (by kernel_rfl) (by kernel_rfl)
  have h10 := @run_callFunc_extern Tryz.prog 116 _ ReflectliteType.typeOf Tryz.func116 (by kernel_rfl) (by kernel_rfl) (by kernel_rfl) (by kernel_rfl)
  have h35 := @run_callFunc_extern Tryz.prog 200 _ (ReflectliteType.relation "AssignableTo" ReflectliteType.assignableTo) Tryz.func200 (by kernel_rfl) (by kernel_rfl) (by kernel_rfl) (by kernel_rfl)
  have h11 := @run_callFunc_extern Tryz.prog 139 _ (ReflectliteValue.method (ReflectliteValue.valueError "reflectlite.Value.Elem" 0) ReflectliteValue.elem) Tryz.func139 (by kernel_rfl) (by kernel_rfl) (by kernel_rfl) (by kernel_rfl)
  have h12 := @run_callFunc_extern Tryz.prog 140 _ ReflectliteValue.set Tryz.func140 (by kernel_rfl) (by kernel_rfl) (by kernel_rfl) (by kernel_rfl)
  have tO := typeOf53
  have mA := methodAssignableTo
  have a25 := assignable53
  have v25 := valueOf53
  have f6 := valueOf55
  have f7 := type55
  have mK := methodKind
  have mE := methodElem
  have mI := methodImplements
  have k27 := kind55
  have k25 := kind53
  have e27 := elem55
  have i25 := implements53
  have n8 := isNil55 ⟨w.heap.size, 0, none⟩ t ((w.alloc (.cells #[.pointer (some t)] 117)).alloc (.cells #[.pointer (some ⟨7, 117, none⟩), .pointer (some ⟨w.heap.size, 0, none⟩), .int .u64 150] 139)) (by simp)
  have hlt : 0 < w.heap.size := by
    rcases Nat.eq_zero_or_pos w.heap.size with h0 | h
    · simp [World.cell?, h0] at hg
    · exact h
  have hg2 : ((w.alloc (.cells #[.pointer (some t)] 117)).alloc (.cells #[.pointer (some ⟨7, 117, none⟩), .pointer (some ⟨w.heap.size, 0, none⟩), .int .u64 150] 139)).cell? ⟨0, 0, none⟩ = some (.iface 163 (.agg #[.pointer (some ⟨7, 31, none⟩)])) := by
    rw [World.cell?_alloc_lt _ _ ⟨0, 0, none⟩ (by simp), World.cell?_alloc_lt _ _ ⟨0, 0, none⟩ hlt]; exact hg
  have htl : t.block < w.heap.size := by
    rcases Nat.lt_or_ge t.block w.heap.size with h | h
    · exact h
    · simp [World.cell?, Array.getElem?_eq_none h] at ht0
  have el := elemV55 ⟨w.heap.size, 0, none⟩ t (((w.alloc (.cells #[.pointer (some t)] 117)).alloc (.cells #[.pointer (some ⟨7, 117, none⟩), .pointer (some ⟨w.heap.size, 0, none⟩), .int .u64 150] 139)).alloc (.cells #[.pointer (some ⟨7, 117, none⟩), .pointer (some ⟨w.heap.size, 0, none⟩), .int .u64 150] 139)) (by rw [World.cell?_alloc_lt _ _ ⟨w.heap.size, 0, none⟩ (by simp; omega)]; simp)
  have st := set53 t ⟨w.heap.size + 1 + 1 + 1, 0, none⟩ e old ((((w.alloc (.cells #[.pointer (some t)] 117)).alloc (.cells #[.pointer (some ⟨7, 117, none⟩), .pointer (some ⟨w.heap.size, 0, none⟩), .int .u64 150] 139)).alloc (.cells #[.pointer (some ⟨7, 117, none⟩), .pointer (some ⟨w.heap.size, 0, none⟩), .int .u64 150] 139)).alloc (.cells #[.pointer (some e)] 105))
    (by rw [World.cell?_alloc_at _ _ _ _ (by simp)]; rfl)
    (by rw [World.cell?_alloc_lt _ _ t (by simp; omega), World.cell?_alloc_lt _ _ t (by simp; omega), World.cell?_alloc_lt _ _ t (by simp; omega), World.cell?_alloc_lt _ _ t htl]; exact ht0)
    (by rw [World.frozen?_alloc_old _ _ t (by simp; omega), World.frozen?_alloc_old _ _ t (by simp; omega), World.frozen?_alloc_old _ _ t (by simp; omega), World.frozen?_alloc_old _ _ t (Nat.ne_of_lt htl)]; exact hf0)
  go_enter Tryz.func66, Tryz.ntmps66
  go_wp2
  refine wp_loop_rounds 1 ?_
  rw [rounds_succ]
  go_wp2
  go_ret
  exact ⟨rfl, rfl⟩
end AsW
end Go.Proofs.YtngfoghnopnbmaaGreatDoor

namespace Go.Proofs.YtngfoghnopnbmaaGreatDoor
open Go.RowKit Go.Extern.Stop Go.Stop Go.Extern
namespace AsW
theorem comp32 (w : World) : (callFunc 201 #[.agg #[.pointer (some ⟨7, 34, none⟩)]]).run Tryz.prog w = .ok (.value (.bool true)) w := by kernel_rfl
theorem tOf32 (v : Value) (w : World) : (callFunc 116 #[.iface 34 v]).run Tryz.prog w = .ok (.value (.iface 163 (.agg #[.pointer (some ⟨7, 34, none⟩)]))) w := by kernel_rfl
theorem fault_cells3 {w : World} {b : Nat} {n : Int} (h : w.heap[b]? = some (.cells #[.int .i64 n, .iface 34 (.int .i64 3)] 107 (0, 0))) :
    w.cell? ⟨b, 0, none⟩ = some (.int .i64 n) ∧ w.cell? ⟨b, 1, none⟩ = some (.iface 34 (.int .i64 3)) ∧ b < w.heap.size := by
  refine ⟨?_, ?_, lt_of_block h⟩ <;> simp [World.cell?, h]

set_option maxHeartbeats 4000000 in
set_option maxRecDepth 100000 in
theorem is_hit3 (b : Nat) (n : Int) (w : World) (hf : w.heap[b]? = some (.cells #[.int .i64 n, .iface 34 (.int .i64 3)] 107 (0, 0))) :
    Calls Tryz.prog 67 #[.iface 105 (.pointer (some ⟨b, 0, none⟩)), .iface 34 (.int .i64 3)] w fun ev w' => ev = .returned (.bool true) ∧ w' = w := by
  obtain ⟨hc0, hc1, hlt⟩ := fault_cells3 hf
  have mC := methodComparable
  have c32 := comp32
  have t32 := tOf32
  have h1 := eqPC
  have h2 := noIs53
  have h3 := unwrap53
  have h4 := methodUnwrap
  have h77 := eq33
  clear hf
  go_enter Tryz.func67, Tryz.ntmps67
  go_wp2
  refine wp_loop_rounds 2 ?_
  rw [rounds_succ]
  go_wp2
  rw [rounds_succ]
  go_wp2
  go_ret
  exact ⟨rfl, rfl⟩
theorem fault_cells7 {w : World} {b : Nat} {n : Int} (h : w.heap[b]? = some (.cells #[.int .i64 n, .iface 34 (.int .i64 7)] 107 (0, 0))) :
    w.cell? ⟨b, 0, none⟩ = some (.int .i64 n) ∧ w.cell? ⟨b, 1, none⟩ = some (.iface 34 (.int .i64 7)) ∧ b < w.heap.size := by
  refine ⟨?_, ?_, lt_of_block h⟩ <;> simp [World.cell?, h]

set_option maxHeartbeats 4000000 in
set_option maxRecDepth 100000 in
theorem is_hit7 (b : Nat) (n : Int) (w : World) (hf : w.heap[b]? = some (.cells #[.int .i64 n, .iface 34 (.int .i64 7)] 107 (0, 0))) :
    Calls Tryz.prog 67 #[.iface 105 (.pointer (some ⟨b, 0, none⟩)), .iface 34 (.int .i64 7)] w fun ev w' => ev = .returned (.bool true) ∧ w' = w := by
  obtain ⟨hc0, hc1, hlt⟩ := fault_cells7 hf
  have mC := methodComparable
  have c32 := comp32
  have t32 := tOf32
  have h1 := eqPC7
  have h2 := noIs53
  have h3 := unwrap53
  have h4 := methodUnwrap
  have h77 := eq77
  clear hf
  go_enter Tryz.func67, Tryz.ntmps67
  go_wp2
  refine wp_loop_rounds 2 ?_
  rw [rounds_succ]
  go_wp2
  rw [rounds_succ]
  go_wp2
  go_ret
  exact ⟨rfl, rfl⟩
theorem comp53 : (Tryz.prog.info? 105).map (·.comparable) = some true := by kernel_rfl
theorem some58 : (Tryz.prog.info? 107).map (fun _ => ()) = some () := by kernel_rfl
theorem neqSame (a : Addr) (w : World) : (binOp .neq 31 (.iface 105 (.pointer (some a))) (.iface 105 (.pointer (some a)))).run Tryz.prog w = .ok (.bool false) w := by
  obtain ⟨i, hi, hc⟩ := Option.map_eq_some_iff.1 comp53
  obtain ⟨j, hj, _⟩ := Option.map_eq_some_iff.1 some58
  simp only [binOp]
  simp [Op.equal, Op.maxDepth, run_equalIn_iface_ptr_same w 9998 a Tryz.underlying31 Tryz.underlying105 hi hc hj]

theorem as_below (e : Addr) (B : Nat) (w : World) (hB : w.heap.size = B + 1) (hg : w.cell? ⟨0, 0, none⟩ = some (.iface 163 (.agg #[.pointer (some ⟨7, 31, none⟩)]))) (old : Value) (ht0 : w.cell? ⟨B, 0, none⟩ = some old) (hf0 : w.frozen? ⟨B, 0, none⟩ = false) :
    Calls Tryz.prog 66 #[.iface 105 (.pointer (some e)), .iface 117 (.pointer (some ⟨B, 0, none⟩))] w fun ev w' => ev = .returned (.bool true) ∧ w'.cell? ⟨B, 0, none⟩ = some (.pointer (some e)) ∧ Below B w w' := by
  refine (as_hit e ⟨B, 0, none⟩ old w hg ht0 hf0).mono ?_
  rintro ev w' ⟨rfl, rfl⟩
  have hlt : B < w.heap.size := by omega
  refine ⟨rfl, ?_, ?_⟩
  · refine World.cell?_setCell_same _ _ _ (u := old) ?_
    rw [World.cell?_alloc_lt _ _ _ (by simp; omega), World.cell?_alloc_lt _ _ _ (by simp; omega), World.cell?_alloc_lt _ _ _ (by simp; omega), World.cell?_alloc_lt _ _ _ hlt]
    exact ht0
  · exact (((((Below.refl B w).alloc (by omega) _).alloc (by simp; omega) _).alloc (by simp; omega) _).alloc (by simp; omega) _).setCell (Nat.le_refl _) _

set_option maxHeartbeats 4000000 in
set_option maxRecDepth 100000 in
theorem Is_any3 (b : Nat) (n : Int) (w : World) (hf : w.heap[b]? = some (.cells #[.int .i64 n, .iface 34 (.int .i64 3)] 107 (0, 0))) (hg : w.cell? ⟨0, 0, none⟩ = some (.iface 163 (.agg #[.pointer (some ⟨7, 31, none⟩)]))) :
    Calls Tryz.prog 35 #[.iface 105 (.pointer (some ⟨b, 0, none⟩)), .int .i64 n, .int .i64 3] w fun ev w' => ev = .returned (.bool true) ∧ Below w.heap.size w w' := by
  obtain ⟨hc0, hc1, hlt⟩ := fault_cells3 hf
  have hlt0 : 0 < w.heap.size := by omega
  have hN := neqSame
  have h77 := eq33
  have hg1 : (w.alloc (.cells #[.pointer none] 105)).cell? ⟨0, 0, none⟩ = some (.iface 163 (.agg #[.pointer (some ⟨7, 31, none⟩)])) := by
    rw [World.cell?_alloc_lt _ _ ⟨0, 0, none⟩ hlt0]; exact hg
  have cA := as_below ⟨b, 0, none⟩ w.heap.size (w.alloc (.cells #[.pointer none] 105)) (by simp) hg1 (.pointer none) (by simp) (by simp)
  have hb0 : Below w.heap.size w (w.alloc (.cells #[.pointer none] 105)) := (Below.refl _ _).alloc (Nat.le_refl _) _
  go_enter Tryz.func35, Tryz.ntmps35
  go_wp2_with (first
    | (go_at_call 66; refine cA.mono ?_; rintro e w1 ⟨rfl, hcell, hb1⟩; have hf1 := ((hb1.block b hlt).trans (hb0.block b hlt)).trans hf; have hq0 := (fault_cells3 hf1).1; have hq1 := (fault_cells3 hf1).2.1)
    | (go_at_call 67; refine (is_hit3 b n _ hf1).mono ?_; rintro e w2 ⟨rfl, rfl⟩))
  go_ret
  exact ⟨rfl, hb0.trans hb1⟩
set_option maxHeartbeats 4000000 in
set_option maxRecDepth 100000 in
theorem Is_any7 (b : Nat) (n : Int) (w : World) (hf : w.heap[b]? = some (.cells #[.int .i64 n, .iface 34 (.int .i64 7)] 107 (0, 0))) (hg : w.cell? ⟨0, 0, none⟩ = some (.iface 163 (.agg #[.pointer (some ⟨7, 31, none⟩)]))) :
    Calls Tryz.prog 35 #[.iface 105 (.pointer (some ⟨b, 0, none⟩)), .int .i64 n, .int .i64 7] w fun ev w' => ev = .returned (.bool true) ∧ Below w.heap.size w w' := by
  obtain ⟨hc0, hc1, hlt⟩ := fault_cells7 hf
  have hlt0 : 0 < w.heap.size := by omega
  have hN := neqSame
  have h77 := eq77
  have hg1 : (w.alloc (.cells #[.pointer none] 105)).cell? ⟨0, 0, none⟩ = some (.iface 163 (.agg #[.pointer (some ⟨7, 31, none⟩)])) := by
    rw [World.cell?_alloc_lt _ _ ⟨0, 0, none⟩ hlt0]; exact hg
  have cA := as_below ⟨b, 0, none⟩ w.heap.size (w.alloc (.cells #[.pointer none] 105)) (by simp) hg1 (.pointer none) (by simp) (by simp)
  have hb0 : Below w.heap.size w (w.alloc (.cells #[.pointer none] 105)) := (Below.refl _ _).alloc (Nat.le_refl _) _
  go_enter Tryz.func35, Tryz.ntmps35
  go_wp2_with (first
    | (go_at_call 66; refine cA.mono ?_; rintro e w1 ⟨rfl, hcell, hb1⟩; have hf1 := ((hb1.block b hlt).trans (hb0.block b hlt)).trans hf; have hq0 := (fault_cells7 hf1).1; have hq1 := (fault_cells7 hf1).2.1)
    | (go_at_call 67; refine (is_hit7 b n _ hf1).mono ?_; rintro e w2 ⟨rfl, rfl⟩))
  go_ret
  exact ⟨rfl, hb0.trans hb1⟩
end AsW
end Go.Proofs.YtngfoghnopnbmaaGreatDoor
