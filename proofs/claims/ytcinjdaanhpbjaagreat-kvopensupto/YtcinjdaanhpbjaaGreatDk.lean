/- A disk in memory: its block, its map of names, its files, each with a row of bytes of its own; what a look-up, a store and a removal in the map do. -/
import Derived.Test.YtcinjdaanhpbjaaGreatWr
import Derived.Maps.RangeWalk
namespace Go.Proofs.YtcinjdaanhpbjaaGreat
open Go.RowKit
namespace Dk
open Bw

/-- How an element of the map reads: a pointer to a whole block. -/
def ptrElem : Value → Option (DataW Unit × List MemPlace)
  | .pointer (some a) => if a.off = 0 ∧ a.spot = none then some (.lit (.int .i64 (a.block : Int)), []) else none
  | .pointer none => some (.nil, [])
  | _ => none
def ptrV (c : Option Nat) : Value := .pointer (c.map fun b => ⟨b, 0, none⟩)
theorem ptrElem_mk (b : Nat) : ptrElem (.pointer (some ⟨b, 0, none⟩)) = some (.lit (.int .i64 (b : Int)), []) := rfl
theorem ptrElem_inv {v : Value} {y : DataW Unit × List MemPlace} (h : ptrElem v = some y) : ∃ c, v = ptrV c := by
  unfold ptrElem at h
  split at h
  · rename_i a
    split at h
    · rename_i hc
      obtain ⟨b, o, s⟩ := a
      obtain ⟨rfl, rfl⟩ := hc
      exact ⟨some b, rfl⟩
    · cases h
  · exact ⟨none, rfl⟩
  · cases h
theorem ptrElem_at {v : Value} {b : Nat} {ps : List MemPlace} (h : ptrElem v = some (.lit (.int .i64 (b : Int)), ps)) : v = .pointer (some ⟨b, 0, none⟩) := by
  obtain ⟨c, rfl⟩ := ptrElem_inv h
  cases c with
  | none =>
    have h2 : (some ((.nil : DataW Unit), ([] : List MemPlace))) = some (.lit (.int .i64 (b : Int)), ps) := h
    simp at h2
  | some x =>
    have h2 : (some ((.lit (.int .i64 (x : Int)) : DataW Unit), ([] : List MemPlace))) = some (.lit (.int .i64 (b : Int)), ps) := h
    simp at h2
    obtain ⟨h3, _⟩ := h2
    have h4 : x = b := by exact_mod_cast h3
    rw [h4]
    rfl
theorem ptrElem_nil {v : Value} {ps : List MemPlace} (h : ptrElem v = some (.nil, ps)) : v = .pointer none := by
  obtain ⟨c, rfl⟩ := ptrElem_inv h
  cases c with
  | none => rfl
  | some x =>
    have h2 : (some ((.lit (.int .i64 (x : Int)) : DataW Unit), ([] : List MemPlace))) = some (.nil, ps) := h
    simp at h2

/-- A file: its name, its block, its slice, its bytes, how many of them are synced. -/
structure FR where
  nm : ByteArray
  fb : Nat
  v : Value
  bs : List UInt8
  sy : Nat
/-- A file's blocks. -/
def FR.bl (f : FR) : List Nat := f.fb :: f.v.ownBlock.toList
structure FileAt (w : World) (f : FR) : Prop where
  cells : w.heap[f.fb]? = some (.cells #[f.v, .int .i64 (f.sy : Int)] 100 (0, 0))
  row : RowB 0 w f.v f.bs
  sync : f.sy ≤ f.bs.length
def key (s : ByteArray) : Lit := .string s.data.toList
theorem key_is (s : ByteArray) : WideAt.IsKeyLit (key s) := trivial
theorem key_inj {a b : ByteArray} (h : key a = key b) : a = b := by
  have h1 : a.data.toList = b.data.toList := by simpa [key] using h
  exact ByteArray.ext (Array.toList_inj.1 h1)
/-- A map of names to blocks of files. -/
def MapAt (w : World) (mb : Nat) (fs : List FR) : Prop :=
  ∃ D : DataW Unit, w.ownsMap Tryz.prog 9 ptrElem mb fs.length D ∧ Maps.size D = fs.length ∧ (∀ s : ByteArray, Maps.has D (key s) = fs.any fun f => decide (f.nm = s)) ∧ ∀ f ∈ fs, ∀ z, D.atKey (key f.nm) z = .lit (.int .i64 (f.fb : Int))
/-- A disk: where it lies, and what it holds. -/
structure Ds where
  db : Nat
  mb : Nat
  room : Int
  on : Bool
  bud : Int
  st : Int
  fs : List FR
def Ds.foot (d : Ds) : List Nat := d.db :: d.mb :: d.fs.flatMap FR.bl
def used (fs : List FR) : Nat := (fs.map fun f => f.bs.length).sum
structure DiskAt (w : World) (d : Ds) : Prop where
  cells : w.heap[d.db]? = some (.cells #[.int .i64 d.room, .map (some d.mb), .bool d.on, .int .i64 d.bud, .int .i64 d.st] 116 (0, 0))
  map : MapAt w d.mb d.fs
  files : ∀ f ∈ d.fs, FileAt w f
  apart : d.foot.Nodup
  names : (d.fs.map FR.nm).Nodup
  short : ∀ f ∈ d.fs, f.nm.size ≤ 32

theorem law9 : Maps.Keyed Tryz.prog 9 := Maps.string_keyed Tryz.underlying9
theorem keyOf_mk {s : ByteArray} (h : s.size ≤ 9223372036854775807) : keyOf Tryz.prog 9 (.string s) = some (key s) := WideMaps.keyOf_string_mk Tryz.underlying9 (by unfold maxLen; omega)
theorem zero53 (w : World) : (zeroValue 95).run Tryz.prog w = .ok (.pointer none) w := by kernel_rfl

section
variable {w w' : World} {mb : Nat} {fs : List FR}
theorem MapAt.lt (h : MapAt w mb fs) : mb < w.heap.size := by
  obtain ⟨D, h1, _⟩ := h
  exact h1.lt
theorem MapAt.kept (h : MapAt w mb fs) (hk : w'.heap[mb]? = w.heap[mb]?) : MapAt w' mb fs := by
  obtain ⟨D, ⟨es, clock, h1, h2⟩, h3⟩ := h
  exact ⟨D, ⟨es, clock, hk.trans h1, h2⟩, h3⟩
theorem MapAt.hit (h : MapAt w mb fs) {f : FR} (hf : f ∈ fs) (hs : f.nm.size ≤ 9223372036854775807) :
    (Instr.lookup 114 (.map (some mb)) (.string f.nm) true).run Tryz.prog w = .ok (.tuple #[.pointer (some ⟨f.fb, 0, none⟩), .bool true]) w := by
  obtain ⟨D, h1, _, h2, h3⟩ := h
  obtain ⟨v, ps, hr, hv⟩ := h1.look_ok law9 Tryz.underlying114 (zero53 w) (zd := .nil) (zp := []) rfl (keyOf_mk hs)
  rw [h3 f hf] at hv
  rw [ptrElem_at hv, h2 f.nm, List.any_eq_true.2 ⟨f, hf, by simp⟩] at hr
  exact hr
theorem MapAt.miss (h : MapAt w mb fs) {s : ByteArray} (hn : ∀ f ∈ fs, f.nm ≠ s) (hs : s.size ≤ 9223372036854775807) :
    (Instr.lookup 114 (.map (some mb)) (.string s) true).run Tryz.prog w = .ok (.tuple #[.pointer none, .bool false]) w := by
  obtain ⟨D, h1, _, h2, h3⟩ := h
  obtain ⟨v, ps, hr, hv⟩ := h1.look_ok law9 Tryz.underlying114 (zero53 w) (zd := .nil) (zp := []) rfl (keyOf_mk hs)
  have hno : Maps.has D (key s) = false := by
    rw [h2 s, List.any_eq_false]
    intro f hf
    simpa using hn f hf
  rw [Maps.atKey_of_not_has hno] at hv
  rw [ptrElem_nil hv, hno] at hr
  exact hr
theorem exact_size {D : DataW Unit} {n : Nat} (h : w.ownsMap Tryz.prog 9 ptrElem mb n D) : w.ownsMap Tryz.prog 9 ptrElem mb (Maps.size D) D := by
  obtain ⟨es, clock, h1, h2, h3, rfl⟩ := h
  exact ⟨es, clock, h1, h2, by simp [Maps.size, length_sorted], rfl⟩
/-- The files but that of a name. -/
def but (s : ByteArray) (fs : List FR) : List FR := fs.filter fun f => decide (f.nm ≠ s)
theorem but_len (s : ByteArray) : ∀ fs : List FR, (fs.map FR.nm).Nodup → (but s fs).length + (if fs.any (fun f => decide (f.nm = s)) then 1 else 0) = fs.length
  | [], _ => rfl
  | f :: fs, h => by
    rw [List.map_cons, List.nodup_cons] at h
    have ih := but_len s fs h.2
    by_cases hf : f.nm = s
    · have hno : fs.any (fun f => decide (f.nm = s)) = false := by
        rw [List.any_eq_false]
        intro g hg
        simp only [decide_eq_true_eq]
        rintro e
        exact h.1 (by rw [hf, ← e]; exact List.mem_map_of_mem hg)
      rw [hno] at ih
      simp only [but, List.filter_cons, hf, ne_eq, not_true, decide_false, List.any_cons, decide_true, Bool.true_or, if_true, List.length_cons, Bool.false_eq_true, if_false] at ih ⊢
      omega
    · simp only [but, List.filter_cons, ne_eq, hf, not_false_iff, decide_true, if_true, List.any_cons, decide_false, Bool.false_or, List.length_cons] at ih ⊢
      omega
theorem mem_but {s : ByteArray} {f : FR} : f ∈ but s fs ↔ f ∈ fs ∧ f.nm ≠ s := by
  unfold but
  rw [List.mem_filter]
  simp
theorem any_but (s t : ByteArray) : (but s fs).any (fun f => decide (f.nm = t)) = (decide (t ≠ s) && fs.any fun f => decide (f.nm = t)) := by
  rw [Bool.eq_iff_iff]
  simp only [List.any_eq_true, Bool.and_eq_true, decide_eq_true_eq, mem_but]
  constructor
  · rintro ⟨f, ⟨h1, h2⟩, rfl⟩
    exact ⟨h2, f, h1, rfl⟩
  · rintro ⟨h1, f, h2, rfl⟩
    exact ⟨f, ⟨h2, h1⟩, rfl⟩
/-- delete(m, s). -/
theorem MapAt.drop (h : MapAt w mb fs) (hnd : (fs.map FR.nm).Nodup) {s : ByteArray} (hs : s.size ≤ 9223372036854775807) (ty : TypeId) :
    ∃ w', (Builtin.delete_ #[114, 9] ty #[.map (some mb), .string s]).run Tryz.prog w = .ok (.tuple #[]) w' ∧ MapAt w' mb (but s fs) ∧ w.grownBy w' (some mb) := by
  obtain ⟨D, h1, h0, h2, h3⟩ := h
  obtain ⟨w', hr, ho, ht⟩ := h1.drop law9 Tryz.underlying114 (keyOf_mk hs) ty
  have hsz := Maps.size_del (k := key s) (h1.tidy law9)
  have hbl := but_len s fs hnd
  rw [h2 s, h0] at hsz
  have e : Maps.size (D.del (key s)) = (but s fs).length := by omega
  refine ⟨w', hr, ⟨D.del (key s), e ▸ exact_size ho, e, fun t => ?_, fun f hf z => ?_⟩, ht.grown⟩
  · rw [any_but]
    by_cases ht' : t = s
    · subst ht'
      rw [Maps.has_del_same]
      simp
    · rw [Maps.has_del_other (fun e => ht' (key_inj e)), h2 t]
      simp [ht']
  · obtain ⟨hf1, hf2⟩ := mem_but.1 hf
    rw [Maps.atKey_del_other (fun e => hf2 (key_inj e)), h3 f hf1]
/-- m[f.nm] = f. -/
theorem MapAt.store (h : MapAt w mb fs) (hnd : (fs.map FR.nm).Nodup) (hlen : fs.length < 9223372036854775807) (f : FR) (hs : f.nm.size ≤ 9223372036854775807) :
    ∃ w', (Instr.mapUpdate 114 (.map (some mb)) (.string f.nm) (.pointer (some ⟨f.fb, 0, none⟩))).run Tryz.prog w = .ok () w' ∧ MapAt w' mb (but f.nm fs ++ [f]) ∧ w.grownBy w' (some mb) := by
  obtain ⟨D, h1, h0, h2, h3⟩ := h
  obtain ⟨w', hr, ho, ht⟩ := h1.store law9 Tryz.underlying114 (by unfold maxLen; omega) (keyOf_mk hs) (ptrElem_mk f.fb)
  have hsz := Maps.size_put (k := key f.nm) (h1.tidy law9) (.lit (.int .i64 (f.fb : Int)))
  have hbl := but_len f.nm fs hnd
  rw [h2 f.nm, h0] at hsz
  have e : Maps.size (D.put (key f.nm) (.lit (.int .i64 (f.fb : Int)))) = (but f.nm fs ++ [f]).length := by
    rw [hsz, List.length_append, List.length_singleton]
    split <;> rename_i hc <;> simp [hc] at hbl <;> omega
  refine ⟨w', hr, ⟨_, e ▸ exact_size ho, e, fun t => ?_, fun g hg z => ?_⟩, ht.grown⟩
  · rw [List.any_append, any_but]
    by_cases ht' : t = f.nm
    · subst ht'
      rw [Maps.has_put_same h1.isMap (key_is _)]
      simp
    · rw [Maps.has_put_other (fun e => ht' (key_inj e)), h2 t]
      simp [ht', Ne.symm ht']
  · rcases List.mem_append.1 hg with hg | hg
    · obtain ⟨hf1, hf2⟩ := mem_but.1 hg
      rw [Maps.atKey_put_other (fun e => hf2 (key_inj e)), h3 g hf1]
    · obtain rfl := List.mem_singleton.1 hg
      rw [Maps.atKey_put_same h1.isMap (key_is _)]
theorem but_none {s : ByteArray} (h : ∀ f ∈ fs, f.nm ≠ s) : but s fs = fs := by
  unfold but
  rw [List.filter_eq_self]
  intro f hf
  simpa using h f hf
end

/-! A disk is kept while other blocks turn. -/
section
variable {w w' : World} {d : Ds}
theorem FileAt.kept {f : FR} (h : FileAt w f) (hk : ∀ k ∈ f.bl, w'.heap[k]? = w.heap[k]?) : FileAt w' f :=
  ⟨(hk _ (by simp [FR.bl])).trans h.cells, h.row.other (fun k e => hk k (by simp [FR.bl, e])), h.sync⟩
theorem FileAt.lt {f : FR} (h : FileAt w f) : ∀ k ∈ f.bl, k < w.heap.size := by
  intro k hk
  simp only [FR.bl, List.mem_cons, Option.mem_toList] at hk
  rcases hk with rfl | hk
  · exact lt_of_block h.cells
  · exact h.row.gt k hk
theorem mem_foot {k : Nat} : k ∈ d.foot ↔ k = d.db ∨ k = d.mb ∨ ∃ f ∈ d.fs, k ∈ f.bl := by
  simp [Ds.foot, List.mem_flatMap]
theorem DiskAt.lt (h : DiskAt w d) : ∀ k ∈ d.foot, k < w.heap.size := by
  intro k hk
  rcases mem_foot.1 hk with rfl | rfl | ⟨f, hf, hk⟩
  · exact lt_of_block h.cells
  · exact h.map.lt
  · exact (h.files f hf).lt k hk
theorem DiskAt.kept (h : DiskAt w d) (hk : ∀ k ∈ d.foot, w'.heap[k]? = w.heap[k]?) : DiskAt w' d :=
  ⟨(hk _ (mem_foot.2 (.inl rfl))).trans h.cells, h.map.kept (hk _ (mem_foot.2 (.inr (.inl rfl)))), fun f hf => (h.files f hf).kept (fun k e => hk k (mem_foot.2 (.inr (.inr ⟨f, hf, e⟩)))), h.apart, h.names, h.short⟩
theorem DiskAt.fr {S : Nat → Prop} (h : DiskAt w d) (f : Fr S w w') (hn : ∀ k ∈ d.foot, ¬ S k) : DiskAt w' d := h.kept (fun k hk => f.block k (h.lt k hk) (hn k hk))
theorem DiskAt.below (h : DiskAt w d) (f : Below w.heap.size w w') : DiskAt w' d := h.kept (fun k hk => f.block k (h.lt k hk))
theorem DiskAt.c0 (h : DiskAt w d) : w.cell? ⟨d.db, 0, none⟩ = some (.int .i64 d.room) := by simp [World.cell?, h.cells]
theorem DiskAt.c1 (h : DiskAt w d) : w.cell? ⟨d.db, 1, none⟩ = some (.map (some d.mb)) := by simp [World.cell?, h.cells]
theorem DiskAt.c2 (h : DiskAt w d) : w.cell? ⟨d.db, 2, none⟩ = some (.bool d.on) := by simp [World.cell?, h.cells]
theorem DiskAt.c3 (h : DiskAt w d) : w.cell? ⟨d.db, 3, none⟩ = some (.int .i64 d.bud) := by simp [World.cell?, h.cells]
theorem DiskAt.c4 (h : DiskAt w d) : w.cell? ⟨d.db, 4, none⟩ = some (.int .i64 d.st) := by simp [World.cell?, h.cells]
theorem DiskAt.fz (h : DiskAt w d) (i : Nat) : w.frozen? ⟨d.db, i, none⟩ = false := by simp [World.frozen?, h.cells]
theorem FileAt.c0 {f : FR} (h : FileAt w f) : w.cell? ⟨f.fb, 0, none⟩ = some f.v := by simp [World.cell?, h.cells]
theorem FileAt.c1 {f : FR} (h : FileAt w f) : w.cell? ⟨f.fb, 1, none⟩ = some (.int .i64 (f.sy : Int)) := by simp [World.cell?, h.cells]
theorem FileAt.fz {f : FR} (h : FileAt w f) (i : Nat) : w.frozen? ⟨f.fb, i, none⟩ = false := by simp [World.frozen?, h.cells]
/-- The disk's own block turns, and nothing else. -/
theorem DiskAt.own {on : Bool} {bud st : Int} (h : DiskAt w d) (hb : w'.heap[d.db]? = some (.cells #[.int .i64 d.room, .map (some d.mb), .bool on, .int .i64 bud, .int .i64 st] 116 (0, 0))) (f : Fr (fun k => k = d.db) w w') : DiskAt w' { d with on := on, bud := bud, st := st } := by
  have hap := h.apart
  unfold Ds.foot at hap
  rw [List.nodup_cons] at hap
  have key : ∀ k ∈ d.mb :: d.fs.flatMap FR.bl, w'.heap[k]? = w.heap[k]? := fun k hk => f.block k (h.lt k (List.mem_cons_of_mem _ hk)) (fun e => hap.1 (e ▸ hk))
  exact ⟨hb, h.map.kept (key _ (by simp)), fun g hg => (h.files g hg).kept (fun k hk => key k (List.mem_cons_of_mem _ (List.mem_flatMap.2 ⟨g, hg, hk⟩))), h.apart, h.names, h.short⟩
end
end Dk
end Go.Proofs.YtcinjdaanhpbjaaGreat
