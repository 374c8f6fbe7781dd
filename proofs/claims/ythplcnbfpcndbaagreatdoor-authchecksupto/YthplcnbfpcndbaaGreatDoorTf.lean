/- Is a field's name no user's? ContainsFunc of fields. The seven names that stand alone, as the variable covey/auth.singles holds them. -/
import Derived.Test.YthplcnbfpcndbaaGreatDoorBa
namespace Go.Proofs.YthplcnbfpcndbaaGreatDoor
open Go.RowKit Go.Shelf

set_option maxRecDepth 100000 in
set_option maxHeartbeats 4000000 in
theorem noUser_any (nm : ByteArray) (E : Array Value) (w : World) (_h7 : E.size = 7) (h0 : E[0]? = some (.string nm)) (hs : nm.size ≤ 1048576) :
    Calls Tryz.prog 99 #[.agg E] w fun r w' => r = .returned (.bool (!isU nm)) ∧ Below w.heap.size w w' := by
  have hc0 := Ctx.start w
  have ku : ∀ W, Calls Tryz.prog 31 #[.string nm] W fun r w' => r = .returned (.bool (isU nm)) ∧ Below W.heap.size W w' := fun W => user_any nm W (by omega)
  generalize isU nm = u at *
  go_enter Tryz.func99, Tryz.ntmps99
  go_wp2_with (first
    | (refine v_box rfl 49 (.tmp 0) rfl E rfl hc0 ?_; intro w1 N1 hc1 _; have c0 := hc1.cell 0 rfl 0 h0; clear hc0)
    | (go_at_call 31; refine (ku _).mono ?_; rintro r wc ⟨rfl, hbc⟩; replace hc1 := hc1.call hbc))
  go_ret
  exact ⟨rfl, hc1.bel⟩
/-- A field's name with its cells. -/
abbrev FE : Type := { x : ByteArray × Array Value // x.2.size = 7 ∧ x.2[0]? = some (.string x.1) ∧ x.1.size ≤ 1048576 }
instance : Inhabited FE := ⟨⟨(⟨#[]⟩, zF), rfl, rfl, by decide⟩⟩
theorem flds_list {B : World} {a : Option Addr} : ∀ {f : List (ByteArray × GV)} {j : Nat}, LaidF B a j f → ∃ zs : List FE, zs.map (fun z => z.1.1) = f.map (·.1) ∧ ∀ i (h : i < zs.length), ∃ b off, a = some ⟨b, off, none⟩ ∧ B.rangeAt b (off + (j + i) * 7) zs[i].1.2.toList
  | [], j, _ => ⟨[], rfl, fun i h => by simp at h⟩
  | (nm, x) :: f, j, h => by
    unfold LaidF at h
    obtain ⟨hp, hf⟩ := h
    unfold LaidP at hp
    obtain ⟨b, off, E, ha, h7, -, hr, h0, hs, -⟩ := hp
    obtain ⟨zs, h1, h2⟩ := flds_list hf
    refine ⟨⟨(nm, E), h7, h0, hs⟩ :: zs, by simp [h1], fun i hi => ?_⟩
    cases i with
    | zero => exact ⟨b, off, ha, hr⟩
    | succ i =>
      obtain ⟨b', off', g1, g2⟩ := h2 i (by simpa using hi)
      refine ⟨b', off', g1, ?_⟩
      rw [show j + (i + 1) = j + 1 + i by omega]
      exact g2
theorem enter80 : ∀ (args : Array Value) (w : World), Sem.run Tryz.prog (callFunc 99 args) w = .ok (.enter 99 args) w := enters_of Tryz.func99 (by kernel_rfl) rfl
theorem indexF_nil (a : Option Addr) (c g : Nat) (lb : Array Value) (w : World) : Calls Tryz.prog 107 #[.slice a 0 c, .func (.func g) #[] lb] w fun r w' => r = .returned (.int .i64 (-1)) ∧ w' = w := by
  go_enter Tryz.func107, Tryz.ntmps107
  go_wp2
  go_loopg [5, 8] 0 (fun _ _ s8 wr => s8 = .int .i64 0 ∧ wr = w)
  case atStart => exact ⟨rfl, rfl⟩
  case round =>
    obtain ⟨rfl, rfl⟩ := hrel
    go_wp2
    go_ret
    exact ⟨rfl, rfl⟩
/-- slices.ContainsFunc of an object's fields: is a name no user's? -/
theorem noUsers_any (f : List (ByteArray × GV)) (a : Option Addr) (c : Nat) (B w : World) (hB : Below B.heap.size B w) (hl : f.length ≤ 1048576) (hf : LaidF B a 0 f) :
    Calls Tryz.prog 98 #[.slice a f.length c, .func (.func 99) #[] #[]] w fun r w' => r = .returned (.bool (f.any (fun x => !isU x.1))) ∧ Below w.heap.size w w' := by
  obtain ⟨zs, h1, h2⟩ := flds_list hf
  have hzl : zs.length = f.length := by
    have := congrArg List.length h1
    simpa using this
  have hany : f.any (fun x => !isU x.1) = zs.any (fun z => !isU z.1.1) := by
    have e1 : f.any (fun x => !isU x.1) = (f.map (·.1)).any (fun n => !isU n) := by rw [List.any_map]; rfl
    have e2 : zs.any (fun z => !isU z.1.1) = (zs.map (fun z => z.1.1)).any (fun n => !isU n) := by rw [List.any_map]; rfl
    rw [e1, e2, h1]
  rw [hany]
  cases hz : zs with
  | nil =>
    subst hz
    have hz0 : f.length = 0 := hzl.symm
    rw [hz0]
    have h := fun W => indexF_nil a c 99 #[] W
    clear hf h2
    go_enter Tryz.func98, Tryz.ntmps98
    go_wp2_with (go_at_call 107; refine (h _).mono ?_; rintro r w1 ⟨rfl, rfl⟩)
    go_ret
    exact ⟨rfl, Below.refl _ _⟩
  | cons z r =>
    rw [← hz]
    have h0 : 0 < zs.length := by rw [hz]; simp
    obtain ⟨b, off, rfl, hr0⟩ := h2 0 h0
    have hb : b < B.heap.size := block_lt hr0 (by rw [Array.length_toList, zs[0].2.1]; omega)
    have h := AnyQ.slices_ContainsFunc cfF 7 (fun w => Tryz.isAgg49 w) (fun w => Tryz.sizeOf49 w) (fun z : FE => z.1.2.toList) (fun z => by rw [Array.length_toList, z.2.1]) (fun z => !isU z.1.1) 99 #[] enter80 b off f.length c zs w
      (fun W x hW => by
        have := noUser_any x.1.1 x.1.2 W x.2.1 x.2.2.1 x.2.2.2
        rw [Array.toArray_toList]
        exact this.mono fun _ _ ⟨h, hb⟩ => ⟨h, hW.trans (hb.mono hW.size)⟩) (by omega) (by omega) (Nat.lt_of_lt_of_le hb hB.size) (fun j hj i v hv => by
        obtain ⟨b', off', e, hr⟩ := h2 j hj
        cases e
        have := hr i v (by simpa [getElem!_pos zs j hj] using hv)
        rw [Nat.zero_add] at this
        rw [hB.cell (p := ⟨b, _, none⟩) hb]
        exact this)
    change Calls Tryz.prog 98 _ _ _ at h
    rw [List.take_of_length_le (by omega)] at h
    exact h
end Go.Proofs.YthplcnbfpcndbaaGreatDoor

namespace Go.Proofs.YthplcnbfpcndbaaGreatDoor
open Go.RowKit
/-- The seven names as the variable covey/auth.singles holds them. -/
abbrev sevC : Array Value := #[.string sBan, .string sKick, .string sRedact, .string sInvite, .string sUD, .string sED, .string sSD]
def Sing (w : World) : Prop := w.rangeAt 0 0 sevC.toList ∧ 0 < w.heap.size
theorem Sing.below {w w' : World} (hb : Below w.heap.size w w') (h : Sing w) : Sing w' := ⟨range_below hb h.1, Nat.lt_of_lt_of_le h.2 hb.size⟩
theorem n99 : (Tryz.prog.info? 109).map (·.size) = some sevC.toList.length := by
  show _ = some 7
  kernel_rfl
theorem idx99 (i : Nat) (h : i < 7) : ∃ nm, seven[i]? = some nm ∧ ∀ w : World, (Instr.index 109 (.agg sevC) (.int .i64 (i : Int))).run Tryz.prog w = .ok (.string nm) w := by
  have e9 := Tryz.underlying109
  rcases i with _ | _ | _ | _ | _ | _ | _ | i
  all_goals first | exact ⟨_, rfl, fun w => by kernel_rfl⟩ | omega
end Go.Proofs.YthplcnbfpcndbaaGreatDoor
