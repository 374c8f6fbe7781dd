/- A store in memory: its block, its log, its map of values; beside the disk it stands on. -/
import Derived.Test.YtcinjdaanhpbjaaGreatXai
import Derived.Test.YtcinjdaanhpbjaaGreatLg
namespace Go.Proofs.YtcinjdaanhpbjaaGreat
open Go.RowKit
namespace Kv
open Bw Rg Dk Rf Wl

def slog : ByteArray := ⟨#[108, 111, 103]⟩
def ssnap : ByteArray := ⟨#[115, 110, 97, 112]⟩
def snew : ByteArray := ⟨#[115, 110, 97, 112, 46, 110, 101, 119]⟩
theorem nm_log : isNm slog = true := by decide +kernel
theorem nm_snap : isNm ssnap = true := by decide +kernel
theorem nm_new : isNm snew = true := by decide +kernel
/-- A store: its block, its map's, its log's, its disk's; its numbers, its values. -/
structure Ks where
  sb : Nat
  mb : Nat
  lp : Option Nat
  db : Nat
  size : Nat
  torn : Bool
  vs : List VR
  count : Nat
def Ks.foot (k : Ks) : List Nat := k.sb :: k.mb :: (k.lp.toList ++ k.vs.flatMap VR.bl)
def Ks.cells (k : Ks) : Array Value := #[.pointer (some ⟨k.db, 0, none⟩), ptrV k.lp, .int .i64 (k.size : Int), .bool k.torn, .map (some k.mb), .int .u64 (k.count : Int)]
structure KvAt (w : World) (k : Ks) : Prop where
  cells : w.heap[k.sb]? = some (.cells k.cells 80 (0, 0))
  log : ∀ lb, k.lp = some lb → LogAt w lb k.db slog
  map : MapV w k.mb k.vs
  vals : ∀ x ∈ k.vs, RowB 0 w x.v x.bs
  apart : (k.lp.toList ++ k.vs.flatMap VR.bl).Nodup
  names : (k.vs.map VR.nm).Nodup
  short : ∀ x ∈ k.vs, x.nm.size ≤ 255
section
variable {w w' : World} {k : Ks}
theorem mem_kfoot {b : Nat} : b ∈ k.foot ↔ b = k.sb ∨ b = k.mb ∨ k.lp = some b ∨ ∃ x ∈ k.vs, b ∈ x.bl := by
  simp [Ks.foot, List.mem_flatMap]
theorem KvAt.lt (h : KvAt w k) : ∀ b ∈ k.foot, b < w.heap.size := by
  intro b hb
  rcases mem_kfoot.1 hb with rfl | rfl | hl | ⟨x, hx, hb⟩
  · exact lt_of_block h.cells
  · exact h.map.lt
  · exact (h.log b hl).lt
  · exact (h.vals x hx).gt b (by simpa [VR.bl] using hb)
theorem KvAt.kept (h : KvAt w k) (hk : ∀ b ∈ k.foot, w'.heap[b]? = w.heap[b]?) : KvAt w' k :=
  ⟨(hk _ (mem_kfoot.2 (.inl rfl))).trans h.cells, fun lb e => (hk _ (mem_kfoot.2 (.inr (.inr (.inl e))))).trans (h.log lb e), h.map.kept (hk _ (mem_kfoot.2 (.inr (.inl rfl)))), fun x hx => (h.vals x hx).other (fun b e => hk b (mem_kfoot.2 (.inr (.inr (.inr ⟨x, hx, by simp [VR.bl, e]⟩))))), h.apart, h.names, h.short⟩
theorem KvAt.fr {S : Nat → Prop} (h : KvAt w k) (f : Fr S w w') (hn : ∀ b ∈ k.foot, ¬ S b) : KvAt w' k := h.kept (fun b hb => f.block b (h.lt b hb) (hn b hb))
theorem KvAt.below (h : KvAt w k) (f : Below w.heap.size w w') : KvAt w' k := h.kept (fun b hb => f.block b (h.lt b hb))
theorem KvAt.at (h : KvAt w k) (i : Nat) : w.cell? ⟨k.sb, i, none⟩ = k.cells[i]? := by simp [World.cell?, h.cells]
theorem KvAt.c0 (h : KvAt w k) : w.cell? ⟨k.sb, 0, none⟩ = some (.pointer (some ⟨k.db, 0, none⟩)) := h.at 0
theorem KvAt.c1 (h : KvAt w k) : w.cell? ⟨k.sb, 1, none⟩ = some (ptrV k.lp) := h.at 1
theorem KvAt.c2 (h : KvAt w k) : w.cell? ⟨k.sb, 2, none⟩ = some (.int .i64 (k.size : Int)) := h.at 2
theorem KvAt.c3 (h : KvAt w k) : w.cell? ⟨k.sb, 3, none⟩ = some (.bool k.torn) := h.at 3
theorem KvAt.c4 (h : KvAt w k) : w.cell? ⟨k.sb, 4, none⟩ = some (.map (some k.mb)) := h.at 4
theorem KvAt.c5 (h : KvAt w k) : w.cell? ⟨k.sb, 5, none⟩ = some (.int .u64 (k.count : Int)) := h.at 5
theorem KvAt.fz (h : KvAt w k) (i : Nat) : w.frozen? ⟨k.sb, i, none⟩ = false := by simp [World.frozen?, h.cells]
/-- The store's block is none of the others: what lies there differs. -/
theorem row_ne {b n : Nat} {t : TypeId} {cs : Array Value} {v : Value} {bs : List UInt8} {base : Nat} (h : w.heap[b]? = some (.cells cs t (n, 0))) (hr : RowB base w v bs) (ht : t ≠ 5) : b ∉ v.ownBlock.toList := by
  intro hb
  rcases hr.2 with ⟨rfl, _⟩ | ⟨g, cap, cur, rfl, _, hg, _⟩
  · simp [Value.ownBlock] at hb
  · have e : b = g := by simpa [Value.ownBlock] using hb
    subst e
    rw [h] at hg
    injection hg with hg
    injection hg with _ hg _
    exact ht hg
theorem KvAt.ne_sb (h : KvAt w k) : k.sb ≠ k.mb ∧ k.lp ≠ some k.sb ∧ ∀ x ∈ k.vs, k.sb ∉ x.bl := by
  refine ⟨fun e => ?_, fun e => ?_, fun x hx => row_ne h.cells (h.vals x hx) (by decide)⟩
  · obtain ⟨D, ⟨es, clock, h1, _⟩, _⟩ := h.map
    rw [← e, h.cells] at h1
    cases h1
  · have h1 := h.log _ e
    unfold LogAt at h1
    rw [h.cells] at h1
    injection h1 with h1
    injection h1 with _ h1 _
    exact absurd h1 (by decide)
theorem KvAt.ne_mb (h : KvAt w k) : k.lp ≠ some k.mb ∧ ∀ x ∈ k.vs, k.mb ∉ x.bl := by
  obtain ⟨D, ⟨es, clock, h1, _⟩, _⟩ := h.map
  refine ⟨fun e => ?_, fun x hx hb => ?_⟩
  · have h2 := h.log _ e
    unfold LogAt at h2
    rw [h1] at h2
    cases h2
  · rcases (h.vals x hx).2 with ⟨e, _⟩ | ⟨g, cap, cur, e, _, hg, _⟩
    · simp [VR.bl, e, Value.ownBlock] at hb
    · have e2 : k.mb = g := by simpa [VR.bl, e, Value.ownBlock] using hb
      subst e2
      rw [h1] at hg
      cases hg
/-- The store's own block turns, and nothing else. -/
theorem KvAt.own {lp : Option Nat} {size : Nat} {torn : Bool} {count : Nat} (h : KvAt w k) (hb : w'.heap[k.sb]? = some (.cells (Ks.cells { k with lp := lp, size := size, torn := torn, count := count }) 80 (0, 0))) (hl : ∀ lb, lp = some lb → LogAt w' lb k.db slog) (hap : (lp.toList ++ k.vs.flatMap VR.bl).Nodup) (f : Fr (fun b => b = k.sb) w w') : KvAt w' { k with lp := lp, size := size, torn := torn, count := count } := by
  obtain ⟨n1, n2, n3⟩ := h.ne_sb
  exact ⟨hb, hl, h.map.kept (f.block _ h.map.lt (fun e => n1 e.symm)), fun x hx => (h.vals x hx).other (fun b e => f.block b ((h.vals x hx).gt b e) (fun e2 => n3 x hx (by rw [← e2]; simp [VR.bl, e]))), hap, h.names, h.short⟩
theorem set_heap {cs : Array Value} {t : TypeId} {b i : Nat} (h : w.heap[b]? = some (.cells cs t (0, 0))) (v : Value) : (w.setCell ⟨b, i, none⟩ v).heap[b]? = some (.cells (cs.setIfInBounds i v) t (0, 0)) := by
  simp [World.setCell, Array.getElem?_modify, h]
theorem setFr (w : World) (b i : Nat) (v : Value) : Fr (fun x => x = b) w (w.setCell ⟨b, i, none⟩ v) := Fr.setCell w ⟨b, i, none⟩ v rfl
theorem KvAt.loglt (h : KvAt w k) (f : Fr (fun b => b = k.sb) w w') : ∀ lb, k.lp = some lb → LogAt w' lb k.db slog := fun lb e => (h.log lb e).fr f (fun e2 => h.ne_sb.2.1 (by rw [e, e2]))
theorem KvAt.set2 (h : KvAt w k) (n : Nat) : KvAt (w.setCell ⟨k.sb, 2, none⟩ (.int .i64 (n : Int))) { k with size := n } :=
  h.own (lp := k.lp) (size := n) (torn := k.torn) (count := k.count) (set_heap h.cells _) (h.loglt (setFr _ _ _ _)) h.apart (setFr _ _ _ _)
theorem KvAt.set3 (h : KvAt w k) (b : Bool) : KvAt (w.setCell ⟨k.sb, 3, none⟩ (.bool b)) { k with torn := b } :=
  h.own (lp := k.lp) (size := k.size) (torn := b) (count := k.count) (set_heap h.cells _) (h.loglt (setFr _ _ _ _)) h.apart (setFr _ _ _ _)
theorem KvAt.set5 (h : KvAt w k) (n : Nat) : KvAt (w.setCell ⟨k.sb, 5, none⟩ (.int .u64 (n : Int))) { k with count := n } :=
  h.own (lp := k.lp) (size := k.size) (torn := k.torn) (count := n) (set_heap h.cells _) (h.loglt (setFr _ _ _ _)) h.apart (setFr _ _ _ _)
theorem KvAt.set1 (h : KvAt w k) {lb : Nat} (hl : LogAt w lb k.db slog) (hn : lb ∉ k.foot) : KvAt (w.setCell ⟨k.sb, 1, none⟩ (.pointer (some ⟨lb, 0, none⟩))) { k with lp := some lb } := by
  have h1 : lb ≠ k.sb := fun e => hn (mem_kfoot.2 (.inl e))
  refine h.own (lp := some lb) (size := k.size) (torn := k.torn) (count := k.count) (set_heap h.cells _) (fun x e => ?_) ?_ (setFr _ _ _ _)
  · obtain rfl := Option.some.inj e
    exact hl.fr (setFr _ _ _ _) h1
  · have h2 := h.apart
    rw [List.nodup_append] at h2
    show (lb :: ([] ++ k.vs.flatMap VR.bl)).Nodup
    rw [List.nil_append, List.nodup_cons]
    refine ⟨fun hc => hn ?_, h2.2.1⟩
    obtain ⟨x, hx, hb⟩ := List.mem_flatMap.1 hc
    exact mem_kfoot.2 (.inr (.inr (.inr ⟨x, hx, hb⟩)))
theorem butV_sub (s : ByteArray) (vs : List VR) : ((butV s vs).flatMap VR.bl).Sublist (vs.flatMap VR.bl) := by
  unfold butV
  induction vs with
  | nil => exact List.Sublist.refl _
  | cons x vs ih =>
    rw [List.filter_cons]
    split
    · rw [List.flatMap_cons, List.flatMap_cons]
      exact (List.Sublist.refl _).append ih
    · rw [List.flatMap_cons]
      exact ih.trans (List.sublist_append_right _ _)
/-- A key is away. -/
theorem KvAt.del (h : KvAt w k) {s : ByteArray} (hm : MapV w' k.mb (butV s k.vs)) (g : w.grownBy w' (some k.mb)) : KvAt w' { k with vs := butV s k.vs } := by
  obtain ⟨n1, n2, n3⟩ := h.ne_sb
  obtain ⟨m1, m2⟩ := h.ne_mb
  have f : Fr (fun b => b = k.mb) w w' := Fr.grown g (fun b e _ => (Option.some.inj e).symm)
  have hsub := butV_sub s k.vs
  exact ⟨(f.block _ (lt_of_block h.cells) n1).trans h.cells, fun lb e => (h.log lb e).fr f (fun e2 => m1 (by rw [e, e2])), hm, fun x hx => by
      have hx' := (mem_butV.1 hx).1
      exact (h.vals x hx').other (fun b e => f.block b ((h.vals x hx').gt b e) (fun e2 => m2 x hx' (by rw [← e2]; simp [VR.bl, e]))), h.apart.sublist ((List.Sublist.refl _).append hsub), h.names.sublist (List.filter_sublist.map _), fun x hx => h.short x (mem_butV.1 hx).1⟩
/-- A key has a value that lies in a row of its own. -/
theorem KvAt.put (h : KvAt w k) {x : VR} (hm : MapV w' k.mb (butV x.nm k.vs ++ [x])) (g : w.grownBy w' (some k.mb)) (hr : RowB 0 w x.v x.bs) (hn : ∀ b ∈ x.bl, b ∉ k.foot) (hs : x.nm.size ≤ 255) : KvAt w' { k with vs := butV x.nm k.vs ++ [x] } := by
  obtain ⟨n1, n2, n3⟩ := h.ne_sb
  obtain ⟨m1, m2⟩ := h.ne_mb
  have f : Fr (fun b => b = k.mb) w w' := Fr.grown g (fun b e _ => (Option.some.inj e).symm)
  have hsub := butV_sub x.nm k.vs
  have hxl : x.bl.Nodup := by
    unfold VR.bl
    cases x.v.ownBlock <;> simp
  refine ⟨(f.block _ (lt_of_block h.cells) n1).trans h.cells, fun lb e => (h.log lb e).fr f (fun e2 => m1 (by rw [e, e2])), hm, fun y hy => ?_, ?_, ?_, fun y hy => ?_⟩
  · rcases List.mem_append.1 hy with hy | hy
    · have hy' := (mem_butV.1 hy).1
      exact (h.vals y hy').other (fun b e => f.block b ((h.vals y hy').gt b e) (fun e2 => m2 y hy' (by rw [← e2]; simp [VR.bl, e])))
    · obtain rfl := List.mem_singleton.1 hy
      exact hr.other (fun b e => f.block b (hr.gt b e) (fun e2 => hn b (by simp [VR.bl, e]) (mem_kfoot.2 (.inr (.inl e2)))))
  · have h1 := h.apart.sublist ((List.Sublist.refl k.lp.toList).append hsub)
    show (k.lp.toList ++ (butV x.nm k.vs ++ [x]).flatMap VR.bl).Nodup
    rw [List.flatMap_append, ← List.append_assoc, List.nodup_append]
    refine ⟨h1, by simpa using hxl, fun a ha b hb e => ?_⟩
    have hb' : b ∈ x.bl := by simpa using hb
    subst e
    refine hn a hb' ?_
    rcases List.mem_append.1 ha with ha | ha
    · exact mem_kfoot.2 (.inr (.inr (.inl (by simpa using ha))))
    · obtain ⟨y, hy, hb⟩ := List.mem_flatMap.1 (hsub.subset ha)
      exact mem_kfoot.2 (.inr (.inr (.inr ⟨y, hy, hb⟩)))
  · rw [List.map_append, List.nodup_append]
    refine ⟨h.names.sublist (List.filter_sublist.map _), by simp, fun a ha b hb e => ?_⟩
    obtain ⟨y, hy, rfl⟩ := List.mem_map.1 ha
    have : b = x.nm := by simpa using hb
    exact (mem_butV.1 hy).2 (e.trans this)
  · rcases List.mem_append.1 hy with hy | hy
    · exact h.short y (mem_butV.1 hy).1
    · obtain rfl := List.mem_singleton.1 hy
      exact hs
end
/-- What a store keeps: its pairs, how many batches were done, how long its log is, whether a cut may have left more. -/
structure KM where
  L : List Fl
  n : Nat
  size : Nat
  torn : Bool
/-- A store and its disk, that hold what m and a say. -/
structure StAt (w : World) (k : Ks) (d : Ds) (m : KM) (a : Ab) : Prop where
  disk : DP w d a
  kv : KvAt w k
  db : k.db = d.db
  apart : ∀ b ∈ k.foot, b ∉ d.foot
  vs : (k.vs.map VR.ab).Perm m.L
  n : k.count = m.n
  size : k.size = m.size
  torn : k.torn = m.torn
/-- The blocks of a store and of its disk. -/
def KD (k : Ks) (d : Ds) (b : Nat) : Prop := b ∈ k.foot ∨ b ∈ d.foot
/-- What a call leaves of both. -/
structure SEnd (w : World) (k : Ks) (d : Ds) (k' : Ks) (d' : Ds) (m : KM) (a : Ab) (w' : World) : Prop where
  sb : k'.sb = k.sb
  db : d'.db = d.db
  st : StAt w' k' d' m a
  fr : Fr (KD k d) w w'
  gk : ∀ b ∈ k'.foot, b ∈ k.foot ∨ w.heap.size ≤ b
  gd : ∀ b ∈ d'.foot, b ∈ d.foot ∨ w.heap.size ≤ b
section
variable {w w' w'' : World} {k k' : Ks} {d d' : Ds} {m : KM} {a : Ab}
theorem StAt.below (h : StAt w k d m a) (hb : Below w.heap.size w w') : StAt w' k d m a := ⟨h.disk.below hb, h.kv.below hb, h.db, h.apart, h.vs, h.n, h.size, h.torn⟩
theorem SEnd.grew (h : SEnd w k d k' d' m a w') : ∀ b, KD k' d' b → KD k d b ∨ w.heap.size ≤ b := fun b hb => by
  rcases hb with hb | hb
  · exact (h.gk b hb).imp .inl id
  · exact (h.gd b hb).imp .inr id
theorem SEnd.refl (h : StAt w k d m a) : SEnd w k d k d m a w := ⟨rfl, rfl, h, Fr.refl _ _, fun _ h => .inl h, fun _ h => .inl h⟩
theorem SEnd.below (h : SEnd w k d k' d' m a w') (hb : Below w'.heap.size w' w'') : SEnd w k d k' d' m a w'' :=
  ⟨h.sb, h.db, h.st.below hb, h.fr.and (Fr.of_below (S := KD k d) hb) (fun _ _ e => e), h.gk, h.gd⟩
theorem SEnd.trans {k2 : Ks} {d2 : Ds} {m2 : KM} {a2 : Ab} (h : SEnd w k d k' d' m a w') (h2 : SEnd w' k' d' k2 d2 m2 a2 w'') : SEnd w k d k2 d2 m2 a2 w'' := by
  refine ⟨h2.sb.trans h.sb, h2.db.trans h.db, h2.st, ⟨h2.fr.os.trans h.fr.os, h2.fr.tape.trans h.fr.tape, h2.fr.output.trans h.fr.output, Nat.le_trans h.fr.size h2.fr.size, fun b hb hn => ?_⟩, fun b hb => ?_, fun b hb => ?_⟩
  · refine (h2.fr.block b (Nat.lt_of_lt_of_le hb h.fr.size) (fun hc => ?_)).trans (h.fr.block b hb hn)
    rcases h.grew b hc with h1 | h1
    · exact hn h1
    · omega
  · rcases h2.gk b hb with h1 | h1
    · exact h.gk b h1
    · exact .inr (Nat.le_trans h.fr.size h1)
  · rcases h2.gd b hb with h1 | h1
    · exact h.gd b h1
    · exact .inr (Nat.le_trans h.fr.size h1)
/-- A call of the disk. -/
theorem SEnd.disk (h : SEnd w k d k' d' m a w') {d2 : Ds} {a2 : Ab} (hdb : d2.db = d'.db) (hp : DP w'' d2 a2) (f : Fr (Of d') w' w'') (g : Grew d' d2 w') : SEnd w k d k' d2 m a2 w'' := by
  refine h.trans ⟨rfl, hdb, ⟨hp, h.st.kv.fr f (fun b hb => h.st.apart b hb), h.st.db.trans hdb.symm, fun b hb hc => ?_, h.st.vs, h.st.n, h.st.size, h.st.torn⟩, f.mono (fun b _ e => .inr e), fun b hb => .inl hb, g⟩
  rcases g b hc with h1 | h1
  · exact h.st.apart b hb h1
  · have := h.st.kv.lt b hb
    omega
/-- A turn of the store. -/
theorem SEnd.store (h : SEnd w k d k' d' m a w') {k2 : Ks} {m2 : KM} (hsb : k2.sb = k'.sb) (hkdb : k2.db = k'.db) (hk : KvAt w'' k2) (f : Fr (fun b => b ∈ k'.foot) w' w'') (g : ∀ b ∈ k2.foot, b ∈ k'.foot ∨ (w'.heap.size ≤ b)) (hv : (k2.vs.map VR.ab).Perm m2.L) (hn : k2.count = m2.n) (hz : k2.size = m2.size) (ht : k2.torn = m2.torn) : SEnd w k d k2 d' m2 a w'' := by
  have hlt := h.st.disk.at'.lt
  refine h.trans ⟨hsb, rfl, ⟨h.st.disk.fr f (fun b hb hc => h.st.apart b hc hb), hk, hkdb.trans h.st.db, fun b hb hc => ?_, hv, hn, hz, ht⟩, f.mono (fun b _ e => .inl e), g, fun b hb => .inl hb⟩
  rcases g b hb with h1 | h1
  · exact h.st.apart b h1 hc
  · have := hlt b hc
    omega
end
end Kv
end Go.Proofs.YtcinjdaanhpbjaaGreat
