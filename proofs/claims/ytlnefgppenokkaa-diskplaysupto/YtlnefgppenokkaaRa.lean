/- The reference's disk in memory, and what its step, find, Used, Cut, Read and Named do: contracts, by walking their text. -/
import Derived.Test.YtlnefgppenokkaaDi
namespace Go.Proofs.Ytlnefgppenokkaa
open Go.RowKit
namespace Rf
open Bw Rg Dk

/-- A file of the reference: its name, its slice, its bytes, how many of them are synced. -/
structure RF where
  nm : ByteArray
  v : Value
  bs : List UInt8
  sy : Nat
def RF.cells (f : RF) : List Value := [.string f.nm, f.v, .int .i64 (f.sy : Int)]
def RF.ab (f : RF) : Fl := (f.nm, f.bs, f.sy)
/-- The reference's disk: where it lies, and what it holds. -/
structure Rs where
  rb : Nat
  lv : Value
  room : Int
  off : Bool
  has : Bool
  bud : Int
  st : Int
  fs : List RF
structure RefAt (w : World) (r : Rs) : Prop where
  cells : w.heap[r.rb]? = some (.cells #[.int .i64 r.room, r.lv, .bool r.off, .bool r.has, .int .i64 r.bud, .int .i64 r.st] 33 (0, 0))
  row : w.ownsRow 0 74 3 r.lv r.fs.length (r.fs.flatMap RF.cells)
  files : ∀ f ∈ r.fs, RowB 0 w f.v f.bs ∧ f.sy ≤ f.bs.length ∧ f.v.oneCell' = true
/-- Its blocks. -/
def Rs.foot (r : Rs) : List Nat := r.rb :: (r.lv.ownBlock.toList ++ r.fs.flatMap fun f => f.v.ownBlock.toList)
/-- Those that it writes. -/
abbrev Own (r : Rs) : Nat → Prop := fun k => k = r.rb ∨ r.lv.ownBlock = some k
theorem mem_foot {r : Rs} {k : Nat} : k ∈ r.foot ↔ k = r.rb ∨ r.lv.ownBlock = some k ∨ ∃ f ∈ r.fs, f.v.ownBlock = some k := by
  simp [Rs.foot, List.mem_flatMap]
section
variable {w w' : World} {r : Rs}
theorem row_lt {w : World} {base : Nat} {e : TypeId} {size : Nat} {v : Value} {n : Nat} {xs : List Value} (h : w.ownsRow base e size v n xs) : ∀ k, v.ownBlock = some k → k < w.heap.size ∧ ∃ cur, w.heap[k]? = some (.cells cur e (0, 0)) := by
  intro k hk
  rcases h.2 with ⟨rfl, _⟩ | ⟨b, cap, cur, rfl, _, hg, _⟩
  · cases hk
  · have e : b = k := by simpa [Value.ownBlock] using hk
    subst e
    exact ⟨lt_of_block hg, cur, hg⟩
theorem row_other {w w' : World} {base : Nat} {e : TypeId} {size : Nat} {v : Value} {n : Nat} {xs : List Value} (h : w.ownsRow base e size v n xs) (hk : ∀ k, v.ownBlock = some k → w'.heap[k]? = w.heap[k]?) : w'.ownsRow base e size v n xs := by
  obtain ⟨h1, h2⟩ := h
  refine ⟨h1, ?_⟩
  rcases h2 with h2 | ⟨g, cap, cur, rfl, hg, c, d⟩
  · exact .inl h2
  · exact .inr ⟨g, cap, cur, rfl, hg, (hk g rfl).trans c, d⟩
theorem RefAt.lt (h : RefAt w r) : ∀ k ∈ r.foot, k < w.heap.size := by
  intro k hk
  rcases mem_foot.1 hk with rfl | hk | ⟨f, hf, hk⟩
  · exact lt_of_block h.cells
  · exact (row_lt h.row k hk).1
  · exact (h.files f hf).1.gt k hk
theorem RefAt.kept (h : RefAt w r) (hk : ∀ k ∈ r.foot, w'.heap[k]? = w.heap[k]?) : RefAt w' r :=
  ⟨(hk _ (mem_foot.2 (.inl rfl))).trans h.cells, row_other h.row (fun k e => hk k (mem_foot.2 (.inr (.inl e)))), fun f hf => ⟨(h.files f hf).1.other (fun k e => hk k (mem_foot.2 (.inr (.inr ⟨f, hf, e⟩)))), (h.files f hf).2⟩⟩
theorem RefAt.fr {S : Nat → Prop} (h : RefAt w r) (f : Fr S w w') (hn : ∀ k ∈ r.foot, ¬ S k) : RefAt w' r := h.kept (fun k hk => f.block k (h.lt k hk) (hn k hk))
theorem RefAt.below (h : RefAt w r) (f : Below w.heap.size w w') : RefAt w' r := h.kept (fun k hk => f.block k (h.lt k hk))
/-- The kinds of its blocks are unlike. -/
theorem RefAt.rb_row (h : RefAt w r) : r.lv.ownBlock ≠ some r.rb := fun e => by
  obtain ⟨_, cur, hc⟩ := row_lt h.row _ e
  rw [h.cells] at hc
  simp at hc
theorem RefAt.rb_bytes (h : RefAt w r) {f : RF} (hf : f ∈ r.fs) : f.v.ownBlock ≠ some r.rb := fun e => by
  obtain ⟨_, cur, hc⟩ := row_lt (h.files f hf).1 _ e
  rw [h.cells] at hc
  simp at hc
theorem RefAt.row_bytes (h : RefAt w r) {f : RF} (hf : f ∈ r.fs) {k : Nat} (hk : r.lv.ownBlock = some k) : f.v.ownBlock ≠ some k := fun e => by
  obtain ⟨_, cur, hc⟩ := row_lt (h.files f hf).1 _ e
  obtain ⟨_, cur', hc'⟩ := row_lt h.row _ hk
  rw [hc] at hc'
  simp at hc'
theorem RefAt.c0 (h : RefAt w r) : w.cell? ⟨r.rb, 0, none⟩ = some (.int .i64 r.room) := by simp [World.cell?, h.cells]
theorem RefAt.c1 (h : RefAt w r) : w.cell? ⟨r.rb, 1, none⟩ = some r.lv := by simp [World.cell?, h.cells]
theorem RefAt.c2 (h : RefAt w r) : w.cell? ⟨r.rb, 2, none⟩ = some (.bool r.off) := by simp [World.cell?, h.cells]
theorem RefAt.c3 (h : RefAt w r) : w.cell? ⟨r.rb, 3, none⟩ = some (.bool r.has) := by simp [World.cell?, h.cells]
theorem RefAt.c4 (h : RefAt w r) : w.cell? ⟨r.rb, 4, none⟩ = some (.int .i64 r.bud) := by simp [World.cell?, h.cells]
theorem RefAt.c5 (h : RefAt w r) : w.cell? ⟨r.rb, 5, none⟩ = some (.int .i64 r.st) := by simp [World.cell?, h.cells]
theorem RefAt.fz (h : RefAt w r) (i : Nat) : w.frozen? ⟨r.rb, i, none⟩ = false := by simp [World.frozen?, h.cells]
/-- The list's slice. -/
theorem RefAt.form (h : RefAt w r) : ∃ a c, r.lv = .slice a r.fs.length c ∧ r.fs.length ≤ c ∧ c ≤ 9223372036854775807 := by
  rcases h.row.2 with ⟨e, h0⟩ | ⟨g, cap, cur, e, _, _, hn, hm, _⟩
  · exact ⟨none, 0, by rw [e, h0], by omega, by omega⟩
  · exact ⟨_, cap, e, hn, by unfold maxLen at hm; omega⟩
/-- A file's cells. -/
theorem RefAt.file (h : RefAt w r) (i : Nat) (hi : i < r.fs.length) : ∃ g c, r.lv = .slice (some ⟨g, 0, none⟩) r.fs.length c ∧ g < w.heap.size ∧ w.cell? ⟨g, i * 3, none⟩ = some (.string (r.fs[i]).nm) ∧ w.cell? ⟨g, i * 3 + 1, none⟩ = some (r.fs[i]).v ∧ w.cell? ⟨g, i * 3 + 2, none⟩ = some (.int .i64 ((r.fs[i]).sy : Int)) ∧ ∀ j, w.frozen? ⟨g, j, none⟩ = false := by
  rcases h.row.2 with ⟨_, h0⟩ | ⟨g, cap, cur, e, _, hg, hn, _, hz, ht⟩
  · omega
  · have key : ∀ (fs : List RF) (i k : Nat) (hi : i < fs.length) (_hk : k < 3), (fs.flatMap RF.cells)[i * 3 + k]? = (fs[i]).cells[k]? := by
      intro fs
      induction fs with
      | nil => intro i k hi; simp at hi
      | cons f fs ih =>
        intro i k hi hk
        rw [List.flatMap_cons]
        cases i with
        | zero =>
          rw [List.getElem?_append_left (by simp [RF.cells]; omega)]
          simp
        | succ i =>
          rw [List.getElem?_append_right (by simp [RF.cells]; omega)]
          have e2 : (i + 1) * 3 + k - f.cells.length = i * 3 + k := by simp [RF.cells]; omega
          rw [e2, ih i k (by simpa using hi) hk]
          simp
    have at' : ∀ k, k < 3 → w.cell? ⟨g, i * 3 + k, none⟩ = (r.fs[i]).cells[k]? := fun k hk => by
      have e1 := key r.fs i k hi hk
      rw [← ht, List.getElem?_take_of_lt (by omega)] at e1
      simp only [World.cell?, hg]
      simpa using e1
    refine ⟨g, cap, e, lt_of_block hg, ?_, ?_, ?_, fun j => by simp [World.frozen?, hg]⟩
    · have := at' 0 (by decide)
      rw [Nat.add_zero] at this
      rw [this]
      rfl
    · rw [at' 1 (by decide)]
      rfl
    · rw [at' 2 (by decide)]
      rfl
/-- The disk's own block turns, and nothing else. -/
theorem RefAt.own {off has : Bool} {bud st : Int} (h : RefAt w r) (hb : w'.heap[r.rb]? = some (.cells #[.int .i64 r.room, r.lv, .bool off, .bool has, .int .i64 bud, .int .i64 st] 33 (0, 0))) (f : Fr (fun k => k = r.rb) w w') : RefAt w' { r with off := off, has := has, bud := bud, st := st } :=
  ⟨hb, row_other h.row (fun k e => f.block k (row_lt h.row k e).1 (fun e2 => h.rb_row (e2 ▸ e))), fun g hg => ⟨(h.files g hg).1.other (fun k e => f.block k ((h.files g hg).1.gt k e) (fun e2 => h.rb_bytes hg (e2 ▸ e))), (h.files g hg).2⟩⟩
theorem RefAt.set2 (h : RefAt w r) (b : Bool) : RefAt (w.setCell ⟨r.rb, 2, none⟩ (.bool b)) { r with off := b } := by
  refine h.own ?_ (Fr.setCell _ _ _ rfl)
  simp [World.setCell, Array.getElem?_modify, h.cells]
theorem RefAt.set3 (h : RefAt w r) (b : Bool) : RefAt (w.setCell ⟨r.rb, 3, none⟩ (.bool b)) { r with has := b } := by
  refine h.own ?_ (Fr.setCell _ _ _ rfl)
  simp [World.setCell, Array.getElem?_modify, h.cells]
theorem RefAt.set4 (h : RefAt w r) (n : Int) : RefAt (w.setCell ⟨r.rb, 4, none⟩ (.int .i64 n)) { r with bud := n } := by
  refine h.own ?_ (Fr.setCell _ _ _ rfl)
  simp [World.setCell, Array.getElem?_modify, h.cells]
theorem RefAt.set5 (h : RefAt w r) (n : Int) : RefAt (w.setCell ⟨r.rb, 5, none⟩ (.int .i64 n)) { r with st := n } := by
  refine h.own ?_ (Fr.setCell _ _ _ rfl)
  simp [World.setCell, Array.getElem?_modify, h.cells]
end
theorem rcut_neg (w : World) (r : Rs) (n : Int) (hn : n < 0) : Calls Try.prog 33 #[.pointer (some ⟨r.rb, 0, none⟩), .int .i64 n] w fun e w' => e = .returned (.int .i64 1) ∧ w' = w := by
  go_enter Try.func33, Try.ntmps33
  go_wp2
  go_ret
  exact ⟨rfl, rfl⟩
theorem rcut_ok (w : World) (r : Rs) (n : Int) (h : RefAt w r) (hn : 0 ≤ n) : Calls Try.prog 33 #[.pointer (some ⟨r.rb, 0, none⟩), .int .i64 n] w fun e w' => e = .returned (.int .i64 0) ∧ RefAt w' (if r.off then r else { r with has := true, bud := n }) ∧ Fr (Own r) w w' := by
  have hn' : ¬ n < 0 := by omega
  have c2 := h.c2
  have c3 := h.c3
  have c4 := h.c4
  have z3 := h.fz 3
  have z4 := h.fz 4
  by_cases ho : r.off = true
  · rw [ho] at c2
    rw [if_pos ho]
    go_enter Try.func33, Try.ntmps33
    go_wp2
    go_ret
    exact ⟨rfl, h, Fr.refl _ _⟩
  · have ho' : r.off = false := by simpa using ho
    rw [ho'] at c2
    rw [if_neg ho]
    go_enter Try.func33, Try.ntmps33
    go_wp2
    go_ret
    have h4 := (h.set3 true).set4 n
    simp only [ho'] at h4
    exact ⟨rfl, h4, (Fr.setCell (S := Own r) _ _ _ (.inl rfl)).and (Fr.setCell (S := Own r) _ _ _ (.inl rfl)) (fun _ _ e => e)⟩
theorem rstep_cut (w : World) (r : Rs) (h : RefAt w r) (hh : r.has = true) (hb : r.bud = 0) : Calls Try.prog 44 #[.pointer (some ⟨r.rb, 0, none⟩)] w fun e w' => e = .returned (.bool false) ∧ RefAt w' { r with off := true } ∧ Fr (fun k => k = r.rb) w w' := by
  have c2 := h.c2
  have c3 := h.c3
  have c4 := h.c4
  have z2 := h.fz 2
  rw [hh] at c3
  rw [hb] at c4
  go_enter Try.func44, Try.ntmps44
  go_wp2
  go_ret
  exact ⟨rfl, h.set2 true, Fr.setCell _ _ _ rfl⟩
theorem rstep_free (w : World) (r : Rs) (h : RefAt w r) (hh : r.has = false) : Calls Try.prog 44 #[.pointer (some ⟨r.rb, 0, none⟩)] w fun e w' => e = .returned (.bool true) ∧ RefAt w' { r with st := wrap64 (r.st + 1) } ∧ Fr (fun k => k = r.rb) w w' := by
  have c3 := h.c3
  have c5 := h.c5
  have z5 := h.fz 5
  rw [hh] at c3
  go_enter Try.func44, Try.ntmps44
  go_wp2
  go_ret
  exact ⟨rfl, h.set5 _, Fr.setCell _ _ _ rfl⟩
theorem rstep_done (w : World) (r : Rs) (h : RefAt w r) (hh : r.has = true) (hb : 0 < r.bud) (hu : r.bud ≤ 9223372036854775807) : Calls Try.prog 44 #[.pointer (some ⟨r.rb, 0, none⟩)] w fun e w' => e = .returned (.bool true) ∧ RefAt w' { r with bud := r.bud - 1, st := wrap64 (r.st + 1) } ∧ Fr (fun k => k = r.rb) w w' := by
  have c3 := h.c3
  have c4 := h.c4
  have c5 := h.c5
  have z4 := h.fz 4
  have z5 := h.fz 5
  rw [hh] at c3
  have hb0 : (r.bud == 0) = false := by simp; omega
  go_enter Try.func44, Try.ntmps44
  go_wp2
  go_ret
  exact ⟨rfl, (h.set4 _).set5 _, (Fr.setCell (S := fun k => k = r.rb) _ _ _ rfl).and (Fr.setCell (S := fun k => k = r.rb) _ _ _ rfl) (fun _ _ h => h)⟩
end Rf
end Go.Proofs.Ytlnefgppenokkaa
