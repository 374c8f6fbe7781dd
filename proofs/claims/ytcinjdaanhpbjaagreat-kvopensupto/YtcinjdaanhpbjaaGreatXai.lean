/- A store's map: from keys to slices that the store owns; what a look-up, a store and a removal in it do, and a step of a range over it. The disk's calls, told by the model. -/
import Derived.Test.YtcinjdaanhpbjaaGreatXaf
import Derived.Test.YtcinjdaanhpbjaaGreatXah
import Derived.Test.YtcinjdaanhpbjaaGreatXaa
import Derived.Test.YtcinjdaanhpbjaaGreatXae
namespace Go.Proofs.YtcinjdaanhpbjaaGreat
open Go.RowKit
namespace Kv
open Bw Rg Dk Rf Wl

def slV : Option (Nat × Nat × Nat) → Value
  | none => .slice none 0 0
  | some (b, l, c) => .slice (some ⟨b, 0, none⟩) l c
def slD : Option (Nat × Nat × Nat) → DataW Unit
  | none => .nil
  | some (b, l, c) => .agg [.lit (.int .i64 (b : Int)), .lit (.int .i64 (l : Int)), .lit (.int .i64 (c : Int))]
/-- How an element of the map reads: a slice of a whole block. -/
def slElem : Value → Option (DataW Unit × List MemPlace)
  | .slice (some a) l c => if a.off = 0 ∧ a.spot = none then some (slD (some (a.block, l, c)), []) else none
  | .slice none l c => if l = 0 ∧ c = 0 then some (.nil, []) else none
  | _ => none
theorem slElem_mk (c : Option (Nat × Nat × Nat)) : slElem (slV c) = some (slD c, []) := by
  cases c <;> rfl
theorem slElem_inv {v : Value} {y : DataW Unit × List MemPlace} (h : slElem v = some y) : ∃ c, v = slV c := by
  unfold slElem at h
  split at h
  · rename_i a l c
    split at h
    · rename_i hc
      obtain ⟨b, o, s⟩ := a
      obtain ⟨rfl, rfl⟩ := hc
      exact ⟨some (b, l, c), rfl⟩
    · cases h
  · split at h
    · rename_i hc
      obtain ⟨rfl, rfl⟩ := hc
      exact ⟨none, rfl⟩
    · cases h
  · cases h
theorem slD_inj {c d : Option (Nat × Nat × Nat)} (h : slD c = slD d) : c = d := by
  rcases c with _ | ⟨a, b, c⟩ <;> rcases d with _ | ⟨x, y, z⟩
  · rfl
  · cases h
  · cases h
  · simp only [slD, DataW.agg.injEq, List.cons.injEq, DataW.lit.injEq, Lit.int.injEq, true_and, and_true] at h
    obtain ⟨h1, h2, h3⟩ := h
    have e1 : a = x := by exact_mod_cast h1
    have e2 : b = y := by exact_mod_cast h2
    have e3 : c = z := by exact_mod_cast h3
    rw [e1, e2, e3]
theorem slElem_at {v : Value} {c : Option (Nat × Nat × Nat)} {ps : List MemPlace} (h : slElem v = some (slD c, ps)) : v = slV c := by
  obtain ⟨d, rfl⟩ := slElem_inv h
  rw [slElem_mk] at h
  have h1 : slD d = slD c := congrArg Prod.fst (Option.some.inj h)
  rw [slD_inj h1]
theorem RowB.slv {base : Nat} {w : World} {v : Value} {bs : List UInt8} (h : RowB base w v bs) : ∃ c, v = slV c := by
  rcases h.2 with ⟨rfl, h0⟩ | ⟨g, cap, cur, rfl, _⟩
  · exact ⟨none, rfl⟩
  · exact ⟨some (g, bs.length, cap), rfl⟩
/-- A value: its key, its slice, its bytes. -/
structure VR where
  nm : ByteArray
  c : Option (Nat × Nat × Nat)
  bs : List UInt8
def VR.v (x : VR) : Value := slV x.c
def VR.bl (x : VR) : List Nat := x.v.ownBlock.toList
def VR.ab (x : VR) : Fl := (x.nm, x.bs, 0)
/-- A map of keys to slices. -/
def MapV (w : World) (mb : Nat) (vs : List VR) : Prop :=
  ∃ D : DataW Unit, w.ownsMap Tryz.prog 9 slElem mb vs.length D ∧ Maps.size D = vs.length ∧ (∀ s : ByteArray, Maps.has D (key s) = vs.any fun f => decide (f.nm = s)) ∧ ∀ f ∈ vs, ∀ z, D.atKey (key f.nm) z = slD f.c
theorem zeroBT (w : World) : (zeroValue 43).run Tryz.prog w = .ok (.slice none 0 0) w := by kernel_rfl

section
variable {w w' : World} {mb : Nat} {fs : List VR}
theorem MapV.lt (h : MapV w mb fs) : mb < w.heap.size := by
  obtain ⟨D, h1, _⟩ := h
  exact h1.lt
theorem MapV.kept (h : MapV w mb fs) (hk : w'.heap[mb]? = w.heap[mb]?) : MapV w' mb fs := by
  obtain ⟨D, ⟨es, clock, h1, h2⟩, h3⟩ := h
  exact ⟨D, ⟨es, clock, hk.trans h1, h2⟩, h3⟩
theorem MapV.made (w : World) : MapV (w.alloc (.map #[] 0)) w.heap.size [] :=
  ⟨.map [], World.ownsMap_made _ _ _ _, rfl, fun s => rfl, fun f hf => by cases hf⟩
theorem MapV.len (h : MapV w mb fs) (ty : TypeId) : (Builtin.len_ #[78] ty #[.map (some mb)]).run Tryz.prog w = .ok (.int .i64 (fs.length : Int)) w := by
  obtain ⟨D, h1, h0, _⟩ := h
  rw [h1.len Tryz.underlying78 ty, h0]
theorem MapV.hit (h : MapV w mb fs) {f : VR} (hf : f ∈ fs) (hs : f.nm.size ≤ 9223372036854775807) :
    (Instr.lookup 78 (.map (some mb)) (.string f.nm) true).run Tryz.prog w = .ok (.tuple #[f.v, .bool true]) w := by
  obtain ⟨D, h1, _, h2, h3⟩ := h
  obtain ⟨v, ps, hr, hv⟩ := h1.look_ok law9 Tryz.underlying78 (zeroBT w) (zd := .nil) (zp := []) rfl (keyOf_mk hs)
  rw [h3 f hf] at hv
  rw [slElem_at hv, h2 f.nm, List.any_eq_true.2 ⟨f, hf, by simp⟩] at hr
  exact hr
theorem MapV.get (h : MapV w mb fs) {f : VR} (hf : f ∈ fs) (hs : f.nm.size ≤ 9223372036854775807) :
    (Instr.lookup 78 (.map (some mb)) (.string f.nm) false).run Tryz.prog w = .ok f.v w := by
  obtain ⟨D, h1, _, h2, h3⟩ := h
  obtain ⟨v, ps, hr, hv⟩ := h1.lookup law9 Tryz.underlying78 (zeroBT w) (zd := .nil) (zp := []) rfl (keyOf_mk hs)
  rw [h3 f hf] at hv
  rw [slElem_at hv] at hr
  exact hr
theorem MapV.miss (h : MapV w mb fs) {s : ByteArray} (hn : ∀ f ∈ fs, f.nm ≠ s) (hs : s.size ≤ 9223372036854775807) :
    (Instr.lookup 78 (.map (some mb)) (.string s) true).run Tryz.prog w = .ok (.tuple #[.slice none 0 0, .bool false]) w := by
  obtain ⟨D, h1, _, h2, h3⟩ := h
  obtain ⟨v, ps, hr, hv⟩ := h1.look_ok law9 Tryz.underlying78 (zeroBT w) (zd := .nil) (zp := []) rfl (keyOf_mk hs)
  have hno : Maps.has D (key s) = false := by
    rw [h2 s, List.any_eq_false]
    intro f hf
    simpa using hn f hf
  rw [Maps.atKey_of_not_has hno] at hv
  rw [slElem_at (c := none) hv, hno] at hr
  exact hr
theorem exactV {D : DataW Unit} {n : Nat} (h : w.ownsMap Tryz.prog 9 slElem mb n D) : w.ownsMap Tryz.prog 9 slElem mb (Maps.size D) D := by
  obtain ⟨es, clock, h1, h2, h3, rfl⟩ := h
  exact ⟨es, clock, h1, h2, by simp [Maps.size, length_sorted], rfl⟩
/-- The values but that of a key. -/
def butV (s : ByteArray) (fs : List VR) : List VR := fs.filter fun f => decide (f.nm ≠ s)
theorem butV_len (s : ByteArray) : ∀ fs : List VR, (fs.map VR.nm).Nodup → (butV s fs).length + (if fs.any (fun f => decide (f.nm = s)) then 1 else 0) = fs.length
  | [], _ => rfl
  | f :: fs, h => by
    rw [List.map_cons, List.nodup_cons] at h
    have ih := butV_len s fs h.2
    by_cases hf : f.nm = s
    · have hno : fs.any (fun f => decide (f.nm = s)) = false := by
        rw [List.any_eq_false]
        intro g hg
        simp only [decide_eq_true_eq]
        rintro e
        exact h.1 (by rw [hf, ← e]; exact List.mem_map_of_mem hg)
      rw [hno] at ih
      simp only [butV, List.filter_cons, hf, ne_eq, not_true, decide_false, List.any_cons, decide_true, Bool.true_or, if_true, List.length_cons, Bool.false_eq_true, if_false] at ih ⊢
      omega
    · simp only [butV, List.filter_cons, ne_eq, hf, not_false_iff, decide_true, if_true, List.any_cons, decide_false, Bool.false_or, List.length_cons] at ih ⊢
      omega
theorem mem_butV {s : ByteArray} {f : VR} : f ∈ butV s fs ↔ f ∈ fs ∧ f.nm ≠ s := by
  unfold butV
  rw [List.mem_filter]
  simp
theorem any_butV (s t : ByteArray) : (butV s fs).any (fun f => decide (f.nm = t)) = (decide (t ≠ s) && fs.any fun f => decide (f.nm = t)) := by
  rw [Bool.eq_iff_iff]
  simp only [List.any_eq_true, Bool.and_eq_true, decide_eq_true_eq, mem_butV]
  constructor
  · rintro ⟨f, ⟨h1, h2⟩, rfl⟩
    exact ⟨h2, f, h1, rfl⟩
  · rintro ⟨h1, f, h2, rfl⟩
    exact ⟨f, ⟨h2, h1⟩, rfl⟩
theorem butV_ab (s : ByteArray) : ∀ fs : List VR, (butV s fs).map VR.ab = rm s (fs.map VR.ab)
  | [] => rfl
  | f :: fs => by
    have ih := butV_ab s fs
    unfold butV rm at ih ⊢
    by_cases h : f.nm = s
    · simp only [List.filter_cons, List.map_cons, VR.ab, h, ne_eq, not_true, decide_false, Bool.false_eq_true, if_false]
      exact ih
    · simp only [List.filter_cons, List.map_cons, VR.ab, h, ne_eq, not_false_iff, decide_true, if_true]
      rw [ih]
/-- delete(m, s). -/
theorem MapV.drop (h : MapV w mb fs) (hnd : (fs.map VR.nm).Nodup) {s : ByteArray} (hs : s.size ≤ 9223372036854775807) (ty : TypeId) :
    ∃ w', (Builtin.delete_ #[78, 9] ty #[.map (some mb), .string s]).run Tryz.prog w = .ok (.tuple #[]) w' ∧ MapV w' mb (butV s fs) ∧ w.grownBy w' (some mb) := by
  obtain ⟨D, h1, h0, h2, h3⟩ := h
  obtain ⟨w', hr, ho, ht⟩ := h1.drop law9 Tryz.underlying78 (keyOf_mk hs) ty
  have hsz := Maps.size_del (k := key s) (h1.tidy law9)
  have hbl := butV_len s fs hnd
  rw [h2 s, h0] at hsz
  have e : Maps.size (D.del (key s)) = (butV s fs).length := by omega
  refine ⟨w', hr, ⟨D.del (key s), e ▸ exactV ho, e, fun t => ?_, fun f hf z => ?_⟩, ht.grown⟩
  · rw [any_butV]
    by_cases ht' : t = s
    · subst ht'
      rw [Maps.has_del_same]
      simp
    · rw [Maps.has_del_other (fun e => ht' (key_inj e)), h2 t]
      simp [ht']
  · obtain ⟨hf1, hf2⟩ := mem_butV.1 hf
    rw [Maps.atKey_del_other (fun e => hf2 (key_inj e)), h3 f hf1]
/-- m[f.nm] = f. -/
theorem MapV.store (h : MapV w mb fs) (hnd : (fs.map VR.nm).Nodup) (hlen : fs.length < 9223372036854775807) (f : VR) (hs : f.nm.size ≤ 9223372036854775807) :
    ∃ w', (Instr.mapUpdate 78 (.map (some mb)) (.string f.nm) f.v).run Tryz.prog w = .ok () w' ∧ MapV w' mb (butV f.nm fs ++ [f]) ∧ w.grownBy w' (some mb) := by
  obtain ⟨D, h1, h0, h2, h3⟩ := h
  obtain ⟨w', hr, ho, ht⟩ := h1.store law9 Tryz.underlying78 (by unfold maxLen; omega) (keyOf_mk hs) (slElem_mk f.c)
  have hsz := Maps.size_put (k := key f.nm) (h1.tidy law9) (slD f.c)
  have hbl := butV_len f.nm fs hnd
  rw [h2 f.nm, h0] at hsz
  have e : Maps.size (D.put (key f.nm) (slD f.c)) = (butV f.nm fs ++ [f]).length := by
    rw [hsz, List.length_append, List.length_singleton]
    split <;> rename_i hc <;> simp [hc] at hbl <;> omega
  refine ⟨w', hr, ⟨_, e ▸ exactV ho, e, fun t => ?_, fun g hg z => ?_⟩, ht.grown⟩
  · rw [List.any_append, any_butV]
    by_cases ht' : t = f.nm
    · subst ht'
      rw [Maps.has_put_same h1.isMap (key_is _)]
      simp
    · rw [Maps.has_put_other (fun e => ht' (key_inj e)), h2 t]
      simp [ht', Ne.symm ht']
  · rcases List.mem_append.1 hg with hg | hg
    · obtain ⟨hf1, hf2⟩ := mem_butV.1 hg
      rw [Maps.atKey_put_other (fun e => hf2 (key_inj e)), h3 g hf1]
    · obtain rfl := List.mem_singleton.1 hg
      rw [Maps.atKey_put_same h1.isMap (key_is _)]
end
/-- A step of a range over a store's map: nothing is left, or one of the values comes. -/
theorem next_val {w : World} {ops : Array Oper} {rest : List Oper} {o : Oper} {a : Act} {Q : Exit → Act → World → Prop} (hg : o.guard = none) (it : Operand) (hop : o.op = Op.next it false) (mb r n : Nat) (fs : List VR) (D : DataW Unit) (left : Lit → Bool) (cnt : Nat)
    (hit : a.eval it = .pointer (some ⟨r, 0, none⟩)) (h : w.ranges Tryz.prog 9 slElem mb r n D left cnt) (hin : ∀ kl, left kl = true → Maps.has D kl = true) (hhas : ∀ s : ByteArray, Maps.has D (key s) = fs.any fun f => decide (f.nm = s)) (hat : ∀ f ∈ fs, ∀ z, D.atKey (key f.nm) z = slD f.c)
    (hDone : cnt = 0 → (∀ kl, left kl = false) → wpList Tryz.prog ops Q rest (a.put o.dst (.tuple #[.bool false])) w)
    (hMore : ∀ (f : VR) (w' : World) (cnt' : Nat), f ∈ fs → left (key f.nm) = true → w'.ranges Tryz.prog 9 slElem mb r n D (fun z => left z && !z.sameKey (key f.nm)) cnt' → cnt' < cnt → w.grownBy w' (some r) → w'.heap.size = w.heap.size →
      (Instr.entry (.pointer (some ⟨r, 0, none⟩))).run Tryz.prog w' = .ok (.tuple #[.string f.nm, f.v]) w' → wpList Tryz.prog ops Q rest (a.put o.dst (.tuple #[.bool true, .string f.nm, f.v])) w') :
    wpList Tryz.prog ops Q (o :: rest) a w := by
  refine wpList_next_ranges w hg it hop 9 law9 slElem Value.string slV (fun k kl hk => ?_) (fun v y hv => slElem_inv hv) mb r n D left cnt hit h hDone ?_
  · obtain ⟨s, rfl, _⟩ := WideMaps.string_of_keyOf Tryz.underlying9 hk
    exact ⟨s, rfl⟩
  · intro s c kl y w' cnt' hk hl hv hy hr hc hg' hs' hen
    obtain ⟨s', es, ek, _⟩ := WideMaps.string_of_keyOf Tryz.underlying9 hk
    cases es
    have ek' : kl = key s := ek
    subst ek'
    have hh := hin _ hl
    rw [hhas s, List.any_eq_true] at hh
    obtain ⟨f, hf, hfs⟩ := hh
    have hfs' : f.nm = s := by simpa using hfs
    subst hfs'
    have h3 := hat f hf .nil
    rw [hy .nil] at h3
    have h4 : slElem (slV c) = some (slD f.c, y.2) := by rw [hv, ← h3]
    have h5 := slElem_at h4
    rw [h5] at hen ⊢
    exact hMore f w' cnt' hf hl hr hc hg' hs' hen
end Kv
end Go.Proofs.YtcinjdaanhpbjaaGreat

namespace Go.Proofs.YtcinjdaanhpbjaaGreat
open Go.RowKit
namespace Rf
open Bw Rg Dk

/-- The disk d holds what a says. -/
structure DP (w : World) (d : Ds) (a : Ab) : Prop where
  at' : DiskAt w d
  room : d.room = a.room
  on : d.on = a.on
  bud : d.bud = a.bud
  st : d.st = a.st
  fs : (d.fs.map FR.ab).Perm a.L
/-- What a call of the disk ends in. -/
def DOut (w : World) (d : Ds) (res : Int × Ab) (e : Ending) (w' : World) : Prop := ∃ d', d'.db = d.db ∧ e = .returned (codeV res.1) ∧ DP w' d' res.2 ∧ Fr (Of d) w w' ∧ Grew d d' w
section
variable {w w' : World} {d : Ds} {a : Ab}
theorem DP.used (h : DP w d a) : Dk.used d.fs = usedA a.L := by rw [← used_ab, usedA_perm h.fs]
theorem DP.len (h : DP w d a) : d.fs.length = a.L.length := by rw [← h.fs.length_eq, List.length_map]
theorem DP.below (h : DP w d a) (hb : Below w.heap.size w w') : DP w' d a := ⟨h.at'.below hb, h.room, h.on, h.bud, h.st, h.fs⟩
theorem DP.fr {S : Nat → Prop} (h : DP w d a) (f : Fr S w w') (hn : ∀ k ∈ d.foot, ¬ S k) : DP w' d a := ⟨h.at'.kept (fun k hk => f.block k (h.at'.lt k hk) (hn k hk)), h.room, h.on, h.bud, h.st, h.fs⟩
theorem DP.none (h : DP w d a) {s : ByteArray} (hf : findA s a.L = .none) : ∀ f ∈ d.fs, f.nm ≠ s := fun f hf' e => find_no hf f.ab (h.fs.mem_iff.1 (List.mem_map_of_mem hf')) e
theorem DP.some (h : DP w d a) {s : ByteArray} {x : Fl} (hf : findA s a.L = .some x) : ∃ l1 f l2, d.fs = l1 ++ f :: l2 ∧ f.nm = s ∧ f.ab = x := by
  obtain ⟨h1, h2⟩ := find_some hf
  obtain ⟨f, hf, e⟩ := List.mem_map.1 (h.fs.mem_iff.2 h1)
  obtain ⟨l1, l2, e2⟩ := List.append_of_mem hf
  exact ⟨l1, f, l2, e2, by rw [← h2, ← e]; rfl, e⟩
theorem DOut.same (h : DP w d a) (n : Int) : DOut w d (n, a) (.returned (codeV n)) w := ⟨d, rfl, rfl, h, Fr.refl _ _, Grew.refl _ _⟩
theorem at_disk (h : DP w d a) (hg : Good a) (s : ByteArray) (pre : Fl → Bool) (g : Fl → List Fl → List Fl) (fn : Nat) (args : Array Value)
    (hoff : d.on = false → Calls Tryz.prog fn args w fun e w' => e = .returned (code 11) ∧ w' = w)
    (hnone : d.on = true → (∀ f ∈ d.fs, f.nm ≠ s) → Calls Tryz.prog fn args w fun e w' => e = .returned (code 9) ∧ w' = w)
    (hpre : d.on = true → ∀ f ∈ d.fs, f.nm = s → pre f.ab = true → Calls Tryz.prog fn args w fun e w' => e = .returned (code 1) ∧ w' = w)
    (hcut : d.on = true → ∀ f ∈ d.fs, f.nm = s → pre f.ab = false → d.bud = 0 → Calls Tryz.prog fn args w fun e w' => e = .returned (code 11) ∧ DiskAt w' { d with on := false } ∧ Fr (Of d) w w')
    (hdone : d.on = true → ∀ l1 f l2, d.fs = l1 ++ f :: l2 → f.nm = s → pre f.ab = false → d.bud ≠ 0 → -1 ≤ d.bud → d.bud ≤ 9223372036854775807 → Calls Tryz.prog fn args w fun e w' => ∃ fs', e = .returned .nilIface ∧ DiskAt w' { d with bud := less d.bud, st := wrap64 (d.st + 1), fs := fs' } ∧ (fs'.map FR.ab).Perm (g f.ab (d.fs.map FR.ab)) ∧ Fr (Of d) w w' ∧ Grew d { d with bud := less d.bud, st := wrap64 (d.st + 1), fs := fs' } w)
    (hgp : ∀ x L L', L.Perm L' → (g x L).Perm (g x L')) :
    Calls Tryz.prog fn args w (DOut w d (atM a s pre g)) := by
  by_cases ho : a.on = true
  · have hd := h.on.trans ho
    cases hf : findA s a.L with
    | none =>
      have e : atM a s pre g = (9, a) := by simp [atM, ho, hf]
      rw [e]
      refine (hnone hd (h.none hf)).mono ?_
      rintro e w' ⟨rfl, rfl⟩
      exact DOut.same h 9
    | some x =>
      obtain ⟨l1, f, l2, e1, e2, e3⟩ := h.some hf
      have hm : f ∈ d.fs := by rw [e1]; simp
      by_cases hp : pre x = true
      · have e : atM a s pre g = (1, a) := by simp [atM, ho, hf, hp]
        rw [e]
        refine (hpre hd f hm e2 (e3 ▸ hp)).mono ?_
        rintro e w' ⟨rfl, rfl⟩
        exact DOut.same h 1
      · have hp' : pre f.ab = false := by rw [e3]; simpa using hp
        by_cases hb : a.bud = 0
        · have e : atM a s pre g = (11, { a with on := false }) := by simp [atM, ho, hf, hp, hb]
          rw [e]
          refine (hcut hd f hm e2 hp' (h.bud.trans hb)).mono ?_
          rintro e w' ⟨rfl, h1, h2⟩
          exact ⟨{ d with on := false }, rfl, rfl, ⟨h1, h.room, rfl, h.bud, h.st, h.fs⟩, h2, fun k hk => .inl hk⟩
        · have e : atM a s pre g = (0, { a with bud := less a.bud, st := wrap64 (a.st + 1), L := g x a.L }) := by simp [atM, ho, hf, hp, hb]
          rw [e]
          refine (hdone hd l1 f l2 e1 e2 hp' (h.bud ▸ hb) (h.bud ▸ hg.ok.lo) (h.bud ▸ hg.ok.hi)).mono ?_
          rintro e w' ⟨fs', rfl, h1, h2, h3, h4⟩
          exact ⟨{ d with bud := less d.bud, st := wrap64 (d.st + 1), fs := fs' }, rfl, rfl, ⟨h1, h.room, h.on, by show less d.bud = _; rw [h.bud], by show wrap64 (d.st + 1) = _; rw [h.st], by rw [← e3]; exact h2.trans (hgp _ _ _ h.fs)⟩, h3, h4⟩
  · have ho' : a.on = false := by simpa using ho
    have e : atM a s pre g = (11, a) := by simp [atM, ho']
    rw [e]
    refine (hoff (h.on.trans ho')).mono ?_
    rintro e w' ⟨rfl, rfl⟩
    exact DOut.same h 11
theorem ab_nodup {fs : List FR} (h : (fs.map FR.nm).Nodup) : ((fs.map FR.ab).map Prod.fst).Nodup := by
  rw [List.map_map]
  exact h
theorem ab_upd {l1 l2 : List FR} {f f' : FR} {s : ByteArray} {g : Fl → Fl} (h : ((l1 ++ f :: l2).map FR.nm).Nodup) (hs : f.nm = s) (hf : f'.ab = g f.ab) : (l1 ++ f' :: l2).map FR.ab = upd s g ((l1 ++ f :: l2).map FR.ab) := by
  have h1 := ab_nodup h
  rw [List.map_append, List.map_cons] at h1
  rw [List.map_append, List.map_cons, List.map_append, List.map_cons, ← hs, show f.nm = f.ab.1 from rfl, upd_mid h1, hf]
theorem ab_but {fs : List FR} {s : ByteArray} : (but s fs).map FR.ab = rm s (fs.map FR.ab) := by
  unfold but rm
  rw [List.filter_map]
  rfl
theorem len_of {l1 l2 : List FR} {f : FR} (h : DP w d a) (hg : Good a) (e : d.fs = l1 ++ f :: l2) : f.bs.length ≤ 140737488355328 := by
  have h1 := hg.ok.big
  have h2 := len_used (f := f) (fs := d.fs) (by rw [e]; simp)
  have h3 := h.used
  omega
theorem dsync (h : DP w d a) (hg : Good a) (s : ByteArray) (hs : s.size ≤ 140737488355328) : Calls Tryz.prog 45 #[.pointer (some ⟨d.db, 0, none⟩), .string s] w (DOut w d (syncM a s)) := by
  refine at_disk h hg s _ _ 45 _ (sync_off w d s h.at') (fun ho hn => sync_none w d s h.at' ho hn hs) (fun _ _ _ _ hp => by cases hp) (fun ho f hf e _ hb => ?_) (fun ho l1 f l2 e1 e2 _ hb hl hu => ?_) (fun x L L' hp => upd_perm hp)
  · rw [← e]
    exact sync_cut w d f h.at' ho hf hb
  · have hnd := h.at'.names
    rw [e1] at hnd
    have e3 := ab_upd (f' := f.synced) (g := fun x => (x.1, x.2.1, x.2.1.length)) hnd e2 rfl
    rw [← e1] at e3
    rw [← e2]
    refine (sync_done w d l1 l2 f h.at' ho e1 hb hl hu).mono ?_
    rintro e w' ⟨rfl, h1, h2⟩
    refine ⟨_, rfl, h1, by rw [e3, e2], h2, fun k hk => ?_⟩
    rcases foot_swap (d := d) (f := f) (f' := f.synced) (n := w.heap.size) rfl (fun k hk => .inl hk) k hk with h8 | h8
    · have ed : ({ d with fs := l1 ++ f :: l2 } : Ds) = d := by rw [← e1]
      rw [ed] at h8
      exact .inl h8
    · exact .inr h8
theorem dtrunc (h : DP w d a) (hg : Good a) (s : ByteArray) (n : Int) (hs : s.size ≤ 140737488355328) : Calls Tryz.prog 66 #[.pointer (some ⟨d.db, 0, none⟩), .string s, .int .i64 n] w (DOut w d (truncM a s n)) := by
  refine at_disk h hg s _ _ 66 _ (trunc_off w d s n h.at') (fun ho hn => trunc_none w d s n h.at' ho hn hs) (fun ho f hf e hp => ?_) (fun ho f hf e hp hb => ?_) (fun ho l1 f l2 e1 e2 hp hb hl hu => ?_) (fun x L L' hp => upd_perm hp)
  · rw [← e]
    exact trunc_bad w d f n h.at' ho hf (by have := of_decide_eq_true hp; exact this)
  · have hp2 : ¬ (n < 0 ∨ (f.bs.length : Int) < n) := of_decide_eq_false hp
    obtain ⟨m, rfl⟩ : ∃ m : Nat, n = (m : Int) := ⟨n.toNat, by omega⟩
    rw [← e]
    exact trunc_cut w d f m h.at' ho hf (by omega) hb
  · have hp2 : ¬ (n < 0 ∨ (f.bs.length : Int) < n) := of_decide_eq_false hp
    obtain ⟨m, rfl⟩ : ∃ m : Nat, n = (m : Int) := ⟨n.toNat, by omega⟩
    have hnd := h.at'.names
    rw [e1] at hnd
    have e3 := fun v' => ab_upd (f' := f.cut v' m) (g := fun x => (x.1, x.2.1.take (m : Int).toNat, (m : Int).toNat)) hnd e2 rfl
    rw [← e1] at e3
    rw [← e2]
    refine (trunc_done w d l1 l2 f m h.at' ho e1 (by omega) (len_of h hg e1) hb hl hu).mono ?_
    rintro e w' ⟨v', rfl, h1, h2, h3⟩
    exact ⟨_, rfl, h1, by rw [e3, e2], h2, h3⟩
theorem dremove (h : DP w d a) (hg : Good a) (s : ByteArray) (hs : s.size ≤ 140737488355328) : Calls Tryz.prog 74 #[.pointer (some ⟨d.db, 0, none⟩), .string s] w (DOut w d (removeM a s)) := by
  refine at_disk h hg s _ _ 74 _ (remove_off w d s h.at') (fun ho hn => remove_none w d s h.at' ho hn hs) (fun _ _ _ _ hp => by cases hp) (fun ho f hf e _ hb => ?_) (fun ho l1 f l2 e1 e2 _ hb hl hu => ?_) (fun x L L' hp => rm_perm hp)
  · rw [← e]
    exact remove_cut w d f h.at' ho hf hb
  · rw [← e2]
    refine (remove_done w d f h.at' ho (by rw [e1]; simp) hb hl hu).mono ?_
    rintro e w' ⟨rfl, h1, h2⟩
    exact ⟨_, rfl, h1, by rw [ab_but, e2], h2, grew_sub rfl rfl List.filter_sublist⟩
theorem drename (h : DP w d a) (hg : Good a) (s t : ByteArray) (hs : s.size ≤ 140737488355328) (ht : t.size ≤ 140737488355328) : Calls Tryz.prog 46 #[.pointer (some ⟨d.db, 0, none⟩), .string s, .string t] w (DOut w d (renameM a s t)) := by
  by_cases hn : isNm t = true
  · have e : renameM a s t = atM a s (fun _ => false) (fun x L => ins (t, x.2.1, x.2.2) (rm t (rm s L))) := by simp [renameM, hn]
    rw [e]
    refine at_disk h hg s _ _ 46 _ (rename_off w d s t h.at' hn) (fun ho hno => rename_none w d s t h.at' hn ho hno hs) (fun _ _ _ _ hp => by cases hp) (fun ho f hf e _ hb => ?_) (fun ho l1 f l2 e1 e2 _ hb hl hu => ?_) (fun x L L' hp => ((ins_perm _ _).trans ((rm_perm (rm_perm hp)).cons _)).trans (ins_perm _ _).symm)
    · rw [← e]
      exact rename_cut w d f t h.at' hn ho hf hb
    · have hm : f ∈ d.fs := by rw [e1]; simp
      rw [← e2]
      refine (rename_done w d f t h.at' hn ho hm (by rw [h.len]; exact hg.ok.many) hb hl hu).mono ?_
      rintro e w' ⟨rfl, h1, h2⟩
      refine ⟨_, rfl, h1, ?_, h2, fun k hk => ?_⟩
      · unfold moved
        rw [List.map_append, ab_but, ab_but, e2]
        exact List.perm_append_comm.trans (ins_perm _ _).symm
      · rcases Dk.mem_foot.1 hk with e | e | ⟨x, hx, hk⟩
        · exact .inl (Dk.mem_foot.2 (.inl e))
        · exact .inl (Dk.mem_foot.2 (.inr (.inl e)))
        · rcases List.mem_append.1 hx with hx | hx
          · exact .inl (Dk.mem_foot.2 (.inr (.inr ⟨x, (List.mem_filter.1 (List.mem_filter.1 hx).1).1, hk⟩)))
          · rw [List.mem_singleton] at hx
            rw [hx] at hk
            exact .inl (Dk.mem_foot.2 (.inr (.inr ⟨f, hm, hk⟩)))
  · have hn' : isNm t = false := by simpa using hn
    have e : renameM a s t = (1, a) := by simp [renameM, hn']
    rw [e]
    refine (rename_bad w d s t ht hn').mono ?_
    rintro e w' ⟨rfl, rfl⟩
    exact DOut.same h 1
theorem dcut (h : DP w d a) (n : Int) : Calls Tryz.prog 29 #[.pointer (some ⟨d.db, 0, none⟩), .int .i64 n] w (DOut w d (cutM a n)) := by
  by_cases hn : n < 0
  · have e : cutM a n = (1, a) := by simp [cutM, hn]
    rw [e]
    refine (cut_neg w d n hn).mono ?_
    rintro e w' ⟨rfl, rfl⟩
    exact DOut.same h 1
  · have e : cutM a n = (0, { a with bud := if a.on then n else a.bud }) := by simp [cutM, hn]
    rw [e]
    refine (cut_ok w d n h.at' (by omega)).mono ?_
    rintro e w' ⟨rfl, h1, h2⟩
    exact ⟨{ d with bud := if d.on then n else d.bud }, rfl, rfl, ⟨h1, h.room, h.on, by show (if d.on = true then n else d.bud) = _; rw [h.on, h.bud], h.st, h.fs⟩, h2, fun k hk => .inl hk⟩
end
end Rf
end Go.Proofs.YtcinjdaanhpbjaaGreat
