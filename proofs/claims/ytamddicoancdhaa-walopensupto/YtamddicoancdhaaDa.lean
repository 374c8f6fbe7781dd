/- What the disk's small functions do: contracts, by walking their text. -/
import Derived.Test.YtamddicoancdhaaDk
import Derived.Test.YtamddicoancdhaaLay
namespace Go.Proofs.Ytamddicoancdhaa
open Go.RowKit
namespace Dk
open Bw

/-- An error by its number. -/
abbrev code (n : Int) : Value := .iface 47 (.int .i64 n)
/-- bytes.Clone. -/
theorem clone_any (u : Value) (bs : List UInt8) (w : World) (hu : SlM w u bs) (hlen : bs.length ≤ 140737488355328) :
    Calls Try.prog 32 #[u] w fun e w' => ∃ v', e = .returned v' ∧ RowB w.heap.size w' v' bs ∧ Below w.heap.size w w' := by
  have go : ∀ (a : Addr) (c : Nat), (∀ j (h : j < bs.length), w.cell? (a.add j) = some (.int .u8 (bs[j].toNat : Int))) → Calls Try.prog 32 #[.slice (some a) bs.length c] w fun e w' => ∃ v', e = .returned v' ∧ RowB w.heap.size w' v' bs ∧ Below w.heap.size w w' := by
    intro a c hc
    refine (bytes_Clone_at a bs.length c (bs.map fun b => (b.toNat : Int)) w (by simp) hlen (fun j hj => ?_)).mono ?_
    · rw [hc j hj]
      simp [hj]
    · rintro e w' ⟨v', rfl, hr, _, hb⟩
      refine ⟨v', rfl, ?_, hb⟩
      have e : (bs.map fun b => (b.toNat : Int)).map (Value.int .u8) = Lib.byteCells bs := by simp [Lib.byteCells]
      rw [e] at hr
      exact hr
  rcases hu with ⟨rfl, rfl | ⟨x, cap, rfl, _⟩⟩ | ⟨b, off, cap, rfl, h1, h2, hc⟩
  · refine (bytes_Clone_nil 0 0 w).mono ?_
    rintro e w' ⟨rfl, rfl⟩
    exact ⟨_, rfl, RowB.nil _ _, Below.refl _ _⟩
  · exact go x cap (fun j hj => by simp at hj)
  · exact go ⟨b, off, none⟩ cap (fun j hj => by rw [addO]; exact hc j hj)
/-- strings.Clone. -/
theorem sclone_any (s : ByteArray) (w : World) (hs : s.size ≤ 281474976710656) : Calls Try.prog 36 #[.string s] w fun e w' => e = .returned (.string s) ∧ Below w.heap.size w w' := by
  go_enter Try.func36, Try.ntmps36
  go_wp2_with (go_at_call 46; refine (stringslite_Clone s _ hs).mono ?_; rintro e w1 ⟨rfl, hb⟩)
  go_ret
  exact ⟨rfl, hb⟩

theorem new_neg (n : Int) (w : World) (h : n < 0) : Calls Try.prog 17 #[.int .i64 n] w fun e w' => e = .returned (.tuple #[.pointer none, code 1]) ∧ w' = w := by
  go_enter Try.func17, Try.ntmps17
  go_wp2
  go_ret2
  exact ⟨rfl, rfl⟩
/-- A new disk. -/
def fresh (w : World) (room : Int) : Ds := ⟨w.heap.size + 1, w.heap.size, room, true, -1, 0, []⟩
theorem map_new (w : World) : MapAt (w.alloc (.map #[] 0)) w.heap.size [] :=
  ⟨.map [], World.ownsMap_made _ _ _ _, rfl, fun _ => rfl, fun f hf => by simp at hf⟩
theorem new_ok (n : Int) (w : World) (h : 0 ≤ n) : Calls Try.prog 17 #[.int .i64 n] w fun e w' => e = .returned (.tuple #[.pointer (some ⟨w.heap.size + 1, 0, none⟩), .nilIface]) ∧ DiskAt w' (fresh w n) ∧ Below w.heap.size w w' := by
  have hn : ¬ n < 0 := by omega
  have hmm := @run_makeMap Try.prog
  go_enter Try.func17, Try.ntmps17
  go_wp2
  go_ret2
  refine ⟨rfl, ⟨?_, ?_, fun f hf => by simp [fresh] at hf, by simp [fresh, Ds.foot], by simp [fresh], fun f hf => by simp [fresh] at hf⟩, ?_⟩
  · have := heap_alloc_new (w.alloc (.map #[] 0)) (.cells #[.int .i64 n, .map (some w.heap.size), .bool true, .int .i64 (-1), .int .i64 0] 66)
    simpa [fresh] using this
  · exact (map_new w).kept (heap_alloc_old (w.alloc (.map #[] 0)) _ (by simp))
  · exact ((Below.refl _ _).alloc (Nat.le_refl _) _).alloc (by simp) _
theorem cut_neg (w : World) (d : Ds) (n : Int) (hn : n < 0) : Calls Try.prog 24 #[.pointer (some ⟨d.db, 0, none⟩), .int .i64 n] w fun e w' => e = .returned (code 1) ∧ w' = w := by
  go_enter Try.func24, Try.ntmps24
  go_wp2
  go_ret
  exact ⟨rfl, rfl⟩
theorem DiskAt.set2 {w : World} {d : Ds} (h : DiskAt w d) (b : Bool) : DiskAt (w.setCell ⟨d.db, 2, none⟩ (.bool b)) { d with on := b } := by
  refine h.own ?_ (Fr.setCell _ _ _ rfl)
  simp [World.setCell, Array.getElem?_modify, h.cells]
theorem DiskAt.set3 {w : World} {d : Ds} (h : DiskAt w d) (n : Int) : DiskAt (w.setCell ⟨d.db, 3, none⟩ (.int .i64 n)) { d with bud := n } := by
  refine h.own ?_ (Fr.setCell _ _ _ rfl)
  simp [World.setCell, Array.getElem?_modify, h.cells]
theorem DiskAt.set4 {w : World} {d : Ds} (h : DiskAt w d) (n : Int) : DiskAt (w.setCell ⟨d.db, 4, none⟩ (.int .i64 n)) { d with st := n } := by
  refine h.own ?_ (Fr.setCell _ _ _ rfl)
  simp [World.setCell, Array.getElem?_modify, h.cells]
/-- What a disk's call may turn: the disk's blocks. -/
abbrev Of (d : Ds) : Nat → Prop := fun k => k ∈ d.foot
theorem of_db (d : Ds) : Of d d.db := by simp [Of, Ds.foot]
theorem cut_ok (w : World) (d : Ds) (n : Int) (h : DiskAt w d) (hn : 0 ≤ n) : Calls Try.prog 24 #[.pointer (some ⟨d.db, 0, none⟩), .int .i64 n] w fun e w' => e = .returned .nilIface ∧ DiskAt w' { d with bud := if d.on then n else d.bud } ∧ Fr (Of d) w w' := by
  have hn' : ¬ n < 0 := by omega
  have c2 := h.c2
  have c3 := h.c3
  have z3 := h.fz 3
  by_cases ho : d.on = true
  · rw [ho] at c2 ⊢
    go_enter Try.func24, Try.ntmps24
    go_wp2
    go_ret
    refine ⟨rfl, ?_, Fr.setCell _ _ _ (of_db d)⟩
    have := h.set3 n
    rw [ho] at this
    exact this
  · have ho' : d.on = false := by simpa using ho
    rw [ho'] at c2 ⊢
    go_enter Try.func24, Try.ntmps24
    go_wp2
    go_ret
    refine ⟨rfl, ?_, Fr.refl _ _⟩
    rw [← ho']
    exact h
/-- A step at a budget of 0. -/
theorem step_cut (w : World) (d : Ds) (h : DiskAt w d) (hb : d.bud = 0) : Calls Try.prog 39 #[.pointer (some ⟨d.db, 0, none⟩)] w fun e w' => e = .returned (code 11) ∧ DiskAt w' { d with on := false } ∧ Fr (fun k => k = d.db) w w' := by
  have c2 := h.c2
  have c3 := h.c3
  have z2 := h.fz 2
  rw [hb] at c3
  go_enter Try.func39, Try.ntmps39
  go_wp2
  go_ret
  exact ⟨rfl, h.set2 false, Fr.setCell _ _ _ rfl⟩
/-- What a step leaves of a budget. -/
def less (b : Int) : Int := if b = -1 then -1 else b - 1
theorem step_done (w : World) (d : Ds) (h : DiskAt w d) (hb : d.bud ≠ 0) (hl : -1 ≤ d.bud) (hu : d.bud ≤ 9223372036854775807) : Calls Try.prog 39 #[.pointer (some ⟨d.db, 0, none⟩)] w fun e w' => e = .returned .nilIface ∧ DiskAt w' { d with bud := less d.bud, st := wrap64 (d.st + 1) } ∧ Fr (fun k => k = d.db) w w' := by
  have c3 := h.c3
  have z3 := h.fz 3
  have c4 := h.c4
  have z4 := h.fz 4
  have hb0 : (d.bud == 0) = false := by simpa using hb
  by_cases h1 : d.bud = -1
  · have h2 : less d.bud = d.bud := by unfold less; rw [if_pos h1, h1]
    have hb1 : (d.bud != -1) = false := by simp [h1]
    rw [h2]
    go_enter Try.func39, Try.ntmps39
    go_wp2
    go_ret
    exact ⟨rfl, h.set4 _, Fr.setCell _ _ _ rfl⟩
  · have h2 : less d.bud = d.bud - 1 := by unfold less; rw [if_neg h1]
    have hb1 : (d.bud != -1) = true := by simpa using h1
    rw [h2]
    go_enter Try.func39, Try.ntmps39
    go_wp2
    go_ret
    exact ⟨rfl, (h.set3 _).set4 _, (Fr.setCell (S := fun k => k = d.db) _ _ _ rfl).and (Fr.setCell (S := fun k => k = d.db) _ _ _ rfl) (fun _ _ h => h)⟩
end Dk
end Go.Proofs.Ytamddicoancdhaa
