/- What slices.SortFunc does with an object's fields: they are in the order of their names then. slices.SortFunc at a row of one's own that holds an object's fields, or none. What canon.oneForm does at an object whose names are sound, and none there twice. What canon.Norm answers at every value. -/
import Derived.Test.YtiakidomcjpdhaaGreatDoorGOf
import Derived.Test.YtiakidomcjpdhaaGreatDoorGSl
namespace Go.Proofs.YtiakidomcjpdhaaGreatDoor
open Go.RowKit
namespace Dc
open Go.Sort Go.Lib EncW

/-- A field, with the cells that it lies in. -/
structure FdC where
  nm : ByteArray
  gv : GV
  k : Int
  b : Bool
  n : Int
  t : ByteArray
  a1 : Option Addr
  l1 : Nat
  c1 : Nat
  a2 : Option Addr
  l2 : Nat
  c2 : Nat
def FdC.cells (p : FdC) : List Value := [.string p.nm, .int .i64 p.k, .bool p.b, .int .i64 p.n, .string p.t, .slice p.a1 p.l1 p.c1, .slice p.a2 p.l2 p.c2]
def FdC.fd (p : FdC) : ByteArray × GV := (p.nm, p.gv)
theorem laidF_open {w : World} {ok : Nat → Prop} : ∀ {F : List (ByteArray × GV)} {zs : List Value}, LaidF w ok F zs → ∃ D : List FdC, D.map FdC.fd = F ∧ D.flatMap FdC.cells = zs ∧ ∀ p ∈ D, LaidP w ok p.fd p.cells
  | [], zs, h => by
    unfold LaidF at h
    exact ⟨[], rfl, h.symm, fun p hp => by cases hp⟩
  | (nm, x) :: F, zs, h => by
    unfold LaidF at h
    obtain ⟨a, r, rfl, h1, h2⟩ := h
    obtain ⟨D, rfl, rfl, h3⟩ := laidF_open h2
    have h1' := h1
    unfold LaidP at h1
    obtain ⟨a, rfl, h4⟩ := h1
    cases hx : x with
    | mk k b n t l f =>
    rw [hx] at h4
    obtain ⟨p1, q1, p2, q2, _, _, rfl, -⟩ := h4.form
    refine ⟨⟨nm, x, k, b, n, t, p1, l.length, q1, p2, f.length, q2⟩ :: D, by rw [← hx]; rfl, rfl, ?_⟩
    intro p hp
    rcases List.mem_cons.1 hp with rfl | hp
    · exact h1'
    · exact h3 p hp
theorem laidF_shut {w : World} {ok : Nat → Prop} : ∀ D : List FdC, (∀ p ∈ D, LaidP w ok p.fd p.cells) → LaidF w ok (D.map FdC.fd) (D.flatMap FdC.cells)
  | [], _ => by
    show LaidF w ok [] []
    unfold LaidF
    rfl
  | p :: D, h => by
    show LaidF w ok (p.fd :: D.map FdC.fd) (p.cells ++ D.flatMap FdC.cells)
    unfold LaidF
    exact ⟨_, _, rfl, h p (List.mem_cons_self ..), laidF_shut D (fun q hq => h q (List.mem_cons_of_mem _ hq))⟩
theorem flat_get {α : Type} [Inhabited α] (enc : α → List Value) (k : Nat) (k0 : 0 < k) (hk : ∀ x, (enc x).length = k) : ∀ (L : List α) (t : Nat), t < L.length * k → (L.flatMap enc)[t]? = some ((enc L.toArray[t / k]!)[t % k]!)
  | [], t, h => by simp at h
  | x :: L, t, h => by
    rw [List.flatMap_cons]
    by_cases ht : t < k
    · rw [List.getElem?_append_left (by rw [hk]; exact ht), Nat.div_eq_of_lt ht, Nat.mod_eq_of_lt ht]
      have : t < (enc x).length := by rw [hk]; exact ht
      simp [List.getElem?_eq_getElem this, getElem!_pos (enc x) t this]
    · have ht' : k ≤ t := by omega
      rw [List.getElem?_append_right (by rw [hk]; exact ht'), hk]
      have hl : t - k < L.length * k := by
        rw [List.length_cons, Nat.add_mul] at h
        omega
      rw [flat_get enc k k0 hk L (t - k) hl]
      have e1 : t / k = (t - k) / k + 1 := by
        rw [Nat.div_eq_sub_div k0 ht']
      have e2 : t % k = (t - k) % k := Nat.mod_eq_sub_mod ht'
      rw [e1, e2]
      simp
/-- The order of two fields. -/
def leF (a b : FdC) : Bool := decide (cmpL (ptsAt a.nm 0) (ptsAt b.nm 0) ≤ 0)
theorem srt_map (D : List FdC) : (D.mergeSort leF).map FdC.fd = srt (D.map FdC.fd) := by
  unfold srt
  exact List.map_mergeSort (fun a _ b _ => rfl)
theorem pts_inj {a b : ByteArray} (ha : badAt a 0 = -1) (hb : badAt b 0 = -1) (h : ptsAt a 0 = ptsAt b 0) : a = b := by
  apply bytes_ext
  rw [(sound_flat a ha).2, (sound_flat b hb).2, h]
theorem lt62 {α : Type} (h : α → List Nat) (x y : α) : ltOf (fun x y => cmpL (h x) (h y)) x y = decide (cmpL (h x) (h y) < 0) := rfl
theorem swo62 {α : Type} (h : α → List Nat) : SWO (ltOf fun x y => cmpL (h x) (h y)) := {
  irrefl := fun x => by rw [lt62, cmpL_same]; rfl
  trans := fun x y z h1 h2 => by
    rw [lt62, decide_eq_true_eq] at *
    exact (cmpL_trans _ _ _ (by omega) (by omega)).2 (.inl h1)
  ntrans := fun x y z h1 h2 => by
    rw [lt62, decide_eq_false_iff_not] at *
    have a1 := cmpL_neg (h x) (h y)
    have a2 := cmpL_neg (h y) (h z)
    have a3 := cmpL_neg (h x) (h z)
    have := (cmpL_trans (h z) (h y) (h x) (by omega) (by omega)).1
    omega }
theorem sortWorld_heap {α : Type} [Inhabited α] (enc : α → List Value) (k : Nat) (w : World) (g off m : Nat) (dk : Array α) (os : Array Obj) (b : Nat) (hb : b < w.heap.size) (hne : b ≠ g) : (sortWorldK enc k w g off m dk os).heap[b]? = w.heap[b]? := by
  have hne' : ¬ g = b := fun e => hne e.symm
  simp [sortWorldK, grow, putRowK, putRow, mapBlock, Array.getElem?_append, Array.getElem_modify, hb, hne']
theorem sortWorld_fr {α : Type} [Inhabited α] (enc : α → List Value) (k : Nat) (w : World) (g off m : Nat) (dk : Array α) (os : Array Obj) : Fr (fun k => k = g) w (sortWorldK enc k w g off m dk os) :=
  ⟨rfl, rfl, rfl, by simp [sortWorldK, grow, putRowK, putRow, mapBlock], fun b hb hne => sortWorld_heap enc k w g off m dk os b hb hne⟩
theorem sort_any (D : List FdC) (hne : D ≠ []) (hs : ∀ p ∈ D, p.nm.size ≤ 17592186044416 ∧ badAt p.nm 0 = -1) (hd : ∀ p ∈ D, ∀ q ∈ D, p.nm = q.nm → p = q) (hl : D.length ≤ 2000000) (w : World) (hT : Tabs w) (g cap : Nat) (hg : 3 ≤ g) (hgl : g < w.heap.size) (hH : ∀ t, t < D.length * 7 → w.cell? ⟨g, 0 + t, none⟩ = (D.flatMap FdC.cells)[t]? ∧ w.frozen? ⟨g, 0 + t, none⟩ = false) :
    Calls Tryz.prog 61 #[.slice (some ⟨g, 0, none⟩) D.length cap, .func (.func 62) #[] #[]] w fun e w' => e = .returned (.tuple #[]) ∧ (∀ t, t < D.length * 7 → w'.cell? ⟨g, 0 + t, none⟩ = ((D.mergeSort leF).flatMap FdC.cells)[t]? ∧ w'.frozen? ⟨g, 0 + t, none⟩ = false) ∧ Fr (fun k => k = g) w w' := by
  obtain ⟨p0, hp0⟩ := List.exists_mem_of_ne_nil D hne
  letI : Inhabited { p : FdC // p ∈ D } := ⟨⟨p0, hp0⟩⟩
  have hsz : D.attach.toArray.size = D.length := by simp
  have hk : ∀ x : { p : FdC // p ∈ D }, x.1.cells.length = 7 := fun _ => rfl
  have hflat : ∀ L : List { p : FdC // p ∈ D }, L.flatMap (fun x => x.1.cells) = (L.map (·.1)).flatMap FdC.cells := fun L => by rw [List.flatMap_map]
  have hcmp : CmpLays Tryz.prog 62 #[] (fun x : { p : FdC // p ∈ D } => x.1.cells) 7 (fun x y => cmpL (ptsAt x.1.nm 0) (ptsAt y.1.nm 0)) g 0 D.attach.toArray.size w := by
    intro m os dk _ x y
    refine closure62 _ _ _ _ _ _ _ _ _ _ _ _ _ _ _ _ _ _ _ _ _ _ _ ?_ (hs _ x.2).1 (hs _ y.2).1 (hs _ x.2).2 (hs _ y.2).2
    have := hT.lt
    exact hT.of (sortWorld_heap _ _ _ _ _ _ _ _ _ (by omega) (by omega)) (sortWorld_heap _ _ _ _ _ _ _ _ _ (by omega) (by omega))
  have hH' : HoldsK (fun x : { p : FdC // p ∈ D } => x.1.cells) 7 w g 0 D.attach.toArray := by
    intro t ht
    have ht' : t < D.length * 7 := by simpa using ht
    refine ⟨?_, (hH t ht').2⟩
    rw [(hH t ht').1, id, get_flatK _ _ _ t (by simpa using ht')]
    have e := flat_get (fun x : { p : FdC // p ∈ D } => x.1.cells) 7 (by decide) hk D.attach t (by simpa using ht')
    rw [hflat, List.attach_map_subtype_val] at e
    exact e
  have hcon := AnyQ.slices_SortFunc_total sort61 7 Tryz.isAgg54 Tryz.sizeOf54 (fun x : { p : FdC // p ∈ D } => x.1.cells) hk (fun x v hv => by simp [FdC.cells] at hv; rcases hv with rfl | rfl | rfl | rfl | rfl | rfl | rfl <;> rfl) (fun x y => cmpL (ptsAt x.1.nm 0) (ptsAt y.1.nm 0)) (swo62 fun x : { p : FdC // p ∈ D } => ptsAt x.1.nm 0) 62 #[] g 0 cap D.attach.toArray w (enters_of Tryz.func62 (by kernel_rfl) rfl) hcmp hH' hgl (by rw [hsz]; omega) (fun x y h1 h2 => by
    rw [lt62 (fun x : { p : FdC // p ∈ D } => ptsAt x.1.nm 0), decide_eq_false_iff_not] at h1 h2
    have h3 := cmpL_neg (ptsAt x.1.nm 0) (ptsAt y.1.nm 0)
    exact Subtype.ext (hd _ x.2 _ y.2 (pts_inj (hs _ x.2).2 (hs _ y.2).2 (cmpL_zero _ _ (by omega)))))
  rw [hsz] at hcon
  refine Calls.mono hcon ?_
  rintro e w' ⟨rfl, n, os, rfl⟩
  refine ⟨rfl, ?_, sortWorld_fr _ _ _ _ _ _ _ _⟩
  intro t ht
  have hms : (D.attach.mergeSort fun x y => !(ltOf fun x y : { p : FdC // p ∈ D } => cmpL (ptsAt x.1.nm 0) (ptsAt y.1.nm 0)) y x).map (·.1) = D.mergeSort leF := by
    rw [List.map_mergeSort (s := leF), List.attach_map_subtype_val]
    intro a _ b _
    have h3 := cmpL_neg (ptsAt a.1.nm 0) (ptsAt b.1.nm 0)
    rw [lt62 (fun x : { p : FdC // p ∈ D } => ptsAt x.1.nm 0), Bool.eq_iff_iff]
    unfold leF
    simp only [Bool.not_eq_true', decide_eq_false_iff_not, decide_eq_true_eq]
    omega
  have h9 := holdsK_sortWorldK_c (fun x : { p : FdC // p ∈ D } => x.1.cells) 7 w g 0 D.attach.toArray (D.attach.toArray.toList.mergeSort fun x y => !(ltOf fun x y : { p : FdC // p ∈ D } => cmpL (ptsAt x.1.nm 0) (ptsAt y.1.nm 0)) y x).toArray n os hH' hgl (by simp)
  have h8 := (h9 t (by simpa using ht)).1
  refine ⟨?_, (h9 t (by simpa using ht)).2⟩
  rw [h8, id, get_flatK _ _ _ t (by simpa using ht)]
  have e := flat_get (fun x : { p : FdC // p ∈ D } => x.1.cells) 7 (by decide) hk (D.attach.mergeSort fun x y => !(ltOf fun x y : { p : FdC // p ∈ D } => cmpL (ptsAt x.1.nm 0) (ptsAt y.1.nm 0)) y x) t (by simpa using ht)
  rw [hflat, hms] at e
  exact e.symm
end Dc
end Go.Proofs.YtiakidomcjpdhaaGreatDoor

namespace Go.Proofs.YtiakidomcjpdhaaGreatDoor
open Go.RowKit
namespace Dc
open Go.Sort Go.Lib Pu

theorem srt_len (F : List (ByteArray × GV)) : (srt F).length = F.length := by
  unfold srt
  rw [List.length_mergeSort]
theorem flat_len : ∀ D : List FdC, (D.flatMap FdC.cells).length = D.length * 7
  | [] => rfl
  | p :: D => by
    rw [List.flatMap_cons, List.length_append, flat_len D, List.length_cons, Nat.add_mul]
    show 7 + _ = _
    omega
theorem sort_none (p : Option Addr) (cap : Nat) (fv : Value) (w : World) : Calls Tryz.prog 61 #[.slice p 0 cap, fv] w fun e w' => e = .returned (.tuple #[]) ∧ w' = w := AnyF.slices_SortFunc_none sort61 p cap fv w
/-- A slice of fields that may be written, from its block's first cell on. -/
def FreeS (w : World) (v : Value) : Prop := ∀ g o L c, v = .slice (some ⟨g, o, none⟩) L c → o = 0 ∧ L ≤ c ∧ ∀ t, t < L * 7 → w.frozen? ⟨g, t, none⟩ = false
/-- Fields that may be written, what they hold lying elsewhere. -/
def FreeF (w : World) (B : Nat) (v : Value) (F : List (ByteArray × GV)) : Prop := FreeS w v ∧ ∃ zs, SlAt w (fun b => B ≤ b) v F.length 7 zs ∧ LaidF w (fun b => B ≤ b ∧ v.ownBlock ≠ some b) F zs
theorem FreeF.conv {w w' : World} {B B' : Nat} {v : Value} {F : List (ByteArray × GV)} (h : FreeF w B v F) (hk : ∀ b, B ≤ b → b < w.heap.size → B' ≤ b ∧ w'.heap[b]? = w.heap[b]?) : FreeF w' B' v F := by
  obtain ⟨h1, zs, h2, h3⟩ := h
  refine ⟨fun g o L c e => ?_, zs, h2.conv (by decide) hk, h3.conv (fun b hb hl => ⟨⟨(hk b hb.1 hl).1, hb.2⟩, (hk b hb.1 hl).2⟩)⟩
  obtain ⟨h4, h5, h6⟩ := h1 g o L c e
  refine ⟨h4, h5, fun t ht => ?_⟩
  have h7 := h6 t ht
  rcases h2.2 with ⟨a, c', e2, h0⟩ | ⟨b, off, cap, e2, hb, _, hr⟩
  · rw [e2] at e
    injection e with _ e3 _
    omega
  · rw [e2] at e
    injection e with e3 e4 _
    injection e3 with e3
    injection e3 with e5 e6
    subst e5
    have hlt : b < w.heap.size := by
      have h8 := hr 0 (by omega)
      rw [List.getElem?_eq_getElem (by rw [h2.1]; omega)] at h8
      exact World.block_lt_of_cell? w _ h8
    simp only [World.frozen?, (hk b (hb (by omega)) hlt).2] at h7 ⊢
    exact h7
/-- The names are sound, short, and none is there twice. -/
theorem sortF (F : List (ByteArray × GV)) (hl : F.length ≤ 2000000) (hs : ∀ i (h : i < F.length), (F[i]).1.size ≤ 17592186044416) (hN : NamesOK F) (B : Nat) (hB : 3 ≤ B) (w : World) (hT : Tabs w) (v : Value) (zs : List Value) (hown : w.ownsRow B 54 7 v F.length zs) (hlaid : LaidF w (fun b => B ≤ b ∧ v.ownBlock ≠ some b) F zs) :
    Calls Tryz.prog 61 #[v, .func (.func 62) #[] #[]] w fun e w' => e = .returned (.tuple #[]) ∧ ∃ zs', SlAt w' (fun b => B ≤ b) v F.length 7 zs' ∧ LaidF w' (fun b => B ≤ b ∧ v.ownBlock ≠ some b) (srt F) zs' ∧ Fr (fun k => v.ownBlock = some k) w w' ∧ FreeS w' v := by
  by_cases h0 : F.length = 0
  · obtain rfl : F = [] := List.length_eq_zero_iff.1 h0
    have hfs : FreeS w v := fun g o L c e => by
      rcases hown.2 with ⟨e2, _⟩ | ⟨g2, c2, cur, e2, _, _, hn, _⟩
      · rw [e2] at e
        cases e
      · rw [e2] at e
        cases e
        exact ⟨rfl, hn, fun t ht => by simp at ht⟩
    obtain ⟨a, c, rfl⟩ := own_form hown
    refine (sort_none a c (.func (.func 62) #[] #[]) w).mono ?_
    rintro e w' ⟨rfl, rfl⟩
    unfold LaidF at hlaid
    subst hlaid
    exact ⟨rfl, [], ⟨rfl, .inl ⟨a, c, rfl, rfl⟩⟩, by rw [show srt [] = [] by unfold srt; rw [List.mergeSort_nil]]; unfold LaidF; rfl, Fr.refl _ _, hfs⟩
  · obtain ⟨D, hD1, hD2, hD3⟩ := laidF_open hlaid
    have hlen : D.length = F.length := by rw [← hD1, List.length_map]
    rcases hown.2 with ⟨_, hn⟩ | ⟨g, cap, cur, rfl, hb, hg, hn, hc, hz, ht⟩
    · exact absurd hn h0
    · have hob : (Value.slice (some ⟨g, 0, none⟩) F.length cap).ownBlock = some g := by
        have h9 := hown.lt
        simp [Value.ownBlock]
      have hget : ∀ p ∈ D, ∃ i, ∃ h : i < F.length, ∃ h' : i < D.length, D[i] = p ∧ (F[i]).1 = p.nm := by
        intro p hp
        obtain ⟨i, hi, he⟩ := List.mem_iff_getElem.1 hp
        refine ⟨i, by omega, hi, he, ?_⟩
        have : F[i]'(by omega) = (D[i]).fd := by simp [← hD1]
        rw [this, he]
        rfl
      have hcon := sort_any D (fun e => h0 (by rw [← hlen, e]; rfl)) (fun p hp => by
          obtain ⟨i, hi, hi', he, e2⟩ := hget p hp
          have h1 := (hN i hi).1
          have h2 := hs i hi
          rw [e2] at h1 h2
          have := (badAt_bd p.nm).1
          exact ⟨h2, by omega⟩) (fun p hp q hq e => by
          obtain ⟨i, hi, hi', he, e2⟩ := hget p hp
          obtain ⟨j, hj, hj', hf, f2⟩ := hget q hq
          rcases Nat.lt_trichotomy i j with h | h | h
          · exact absurd (by rw [e2, f2, e]) ((hN j hj).2 i hi h)
          · subst h
            rw [← he, ← hf]
          · exact absurd (by rw [e2, f2, e]) ((hN i hi).2 j hj h)) (by omega) w hT g cap (by omega) (lt_of_block hg) (fun t ht' => by
          rw [hlen] at ht'
          refine ⟨?_, ?_⟩
          · have e2 : (cur.toList.take (F.length * 7))[t]? = zs[t]? := by rw [ht]
            rw [List.getElem?_take_of_lt ht'] at e2
            rw [hD2, ← e2]
            simp [World.cell?, hg]
          · exact box_fz hg _)
      rw [hlen] at hcon
      refine Calls.mono hcon ?_
      rintro e w' ⟨rfl, h1, h2⟩
      have hp : (D.mergeSort leF).Perm D := List.mergeSort_perm D leF
      refine ⟨rfl, (D.mergeSort leF).flatMap FdC.cells, ⟨?_, .inr ⟨g, 0, cap, rfl, fun _ => hb, hn, fun t ht => (h1 t ht).1⟩⟩, ?_, h2.mono (fun k _ hk => by rw [hob, hk]), fun g' o L c e => ?_⟩
      · rw [flat_len, hp.length_eq, hlen]
      · rw [← hD1, ← srt_map]
        refine laidF_shut _ (fun p hp' => (hD3 p (hp.subset hp')).conv (fun b hb' hl' => ⟨hb', h2.block b hl' (fun e => hb'.2 (by rw [hob, e]))⟩))
      · cases e
        exact ⟨rfl, hn, fun t ht => by have := (h1 t ht).2; rwa [Nat.zero_add] at this⟩
end Dc
end Go.Proofs.YtiakidomcjpdhaaGreatDoor

namespace Go.Proofs.YtiakidomcjpdhaaGreatDoor
open Go.RowKit
namespace Dc
open Pu

theorem Fm.set5 {w : World} {C : Array Value} {k : Int} {v4 v5 : Value} {w1 : World} (h : Fm w C k v4 v5 w1) (u : Value) : Fm w C k v4 u (w1.setCell ⟨w.heap.size + 1 + 1, 5, none⟩ u) :=
  ⟨(Below.heap_setCell _ _ _ _ (by simp; omega)).trans h.a, (Below.heap_setCell _ _ _ _ (by simp)).trans h.z, heap_set h.v 5 u, h.b.setCell (p := ⟨w.heap.size + 1 + 1, 5, none⟩) (by simp; omega) _, by simpa using h.s⟩
theorem form_nextF {w wr W1 w2 w3 : World} {C : Array Value} {i : Nat} {v : Value} {va : Option Addr} {vc : Nat} {zs cs : List Value} {L L' : List (ByteArray × GV)} {nm : ByteArray} {NX : GV} {o : Obj} (hown : wr.ownsRow (w.heap.size + 3) 54 7 v i zs) (HLD : Hid (LaidF wr (fun b => w.heap.size + 3 ≤ b ∧ v.ownBlock ≠ some b) L zs)) (HTK : Hid (L' = L ++ [(nm, NX)]))
    (hms : w.heap.size + 3 ≤ wr.heap.size) (hb12 : Below wr.heap.size wr w2) (hsz1 : W1.heap.size = wr.heap.size + 1) (hsz2 : W1.heap.size ≤ w2.heap.size) (hlx : LaidV w2 (fun b => W1.heap.size ≤ b) NX cs) (hown' : w3.ownsRow (w.heap.size + 3) 54 7 (.slice va (i + 1) vc) (i + 1) (zs ++ (.string nm :: cs))) (hgrow3 : (w2.alloc o).grownBy w3 v.ownBlock) (hloc3 : (Value.slice va (i + 1) vc).ownBlock = v.ownBlock ∨ (Value.slice va (i + 1) vc).ownBlock = some (w2.alloc o).heap.size) (m3 : Fm w C 5 (.slice none 0 0) v w3) :
    Hid ((w3.setCell ⟨w.heap.size + 1 + 1, 5, none⟩ (.slice va (i + 1) vc)).ownsRow (w.heap.size + 3) 54 7 (.slice va (i + 1) vc) (i + 1) (zs ++ (.string nm :: cs)) ∧ Hid (LaidF (w3.setCell ⟨w.heap.size + 1 + 1, 5, none⟩ (.slice va (i + 1) vc)) (fun b => w.heap.size + 3 ≤ b ∧ (Value.slice va (i + 1) vc).ownBlock ≠ some b) L' (zs ++ (.string nm :: cs))) ∧ Fm w C 5 (.slice none 0 0) (.slice va (i + 1) vc) (w3.setCell ⟨w.heap.size + 1 + 1, 5, none⟩ (.slice va (i + 1) vc))) := by
  have hs12 := hb12.size
  have hV1 : LaidF (w2.alloc o) (fun b => w.heap.size + 3 ≤ b ∧ v.ownBlock ≠ some b) L zs := HLD.out.conv (fun b hb hl' => ⟨hb, (Below.heap_alloc _ _ _ (by omega)).trans (hb12.block b hl')⟩)
  have hge : ∀ b, W1.heap.size ≤ b → v.ownBlock ≠ some b := fun b hb e => by
    have := (hown.lt _ e).2
    omega
  refine ⟨?_, ?_, m3.set5 _⟩
  · exact own_fr (S := fun k => k = w.heap.size + 1 + 1) hown' (Fr.setCell _ _ _ rfl) (fun k hk e => by omega)
  · show LaidF _ _ _ _
    rw [HTK.out]
    have hV2 : LaidP (w2.alloc o) (fun b => w.heap.size + 3 ≤ b ∧ v.ownBlock ≠ some b) (nm, NX) (.string nm :: cs) := by
      unfold LaidP
      exact ⟨_, rfl, hlx.conv (fun b hb hl' => ⟨⟨by omega, hge b hb⟩, Below.heap_alloc _ _ _ hl'⟩)⟩
    exact (snocF hgrow3 hloc3 hV1 hV2).conv (fun b hb _ => ⟨hb, Below.heap_setCell _ _ _ _ (by simp; omega)⟩)
/-- A field with its value in the one form. -/
def nfp (x : ByteArray × GV) : ByteArray × GV := (x.1, nfV x.2)
set_option maxRecDepth 20000 in
set_option maxHeartbeats 16000000 in
theorem form_free (b : Bool) (n : Int) (t : ByteArray) (l : List GV) (f : List (ByteArray × GV)) (hsz : (GV.mk 5 b n t l f).sz ≤ 2000000) (hN : NamesOK f) (hf : ∀ i (h : i < f.length), FormAt (f[i]).2) : ∀ (w : World) (ok : Nat → Prop) (cs : Array Value), LaidV w ok (.mk 5 b n t l f) cs.toList → Tabs w → Calls Tryz.prog 39 #[.agg cs] w fun e w' => (VOut (fun b => w.heap.size ≤ b) (nfV (.mk 5 b n t l f)) e w' ∧ ∃ a0 a1 a2 a3 a4 a5, e = .returned (.agg #[a0, a1, a2, a3, a4, a5]) ∧ FreeF w' w.heap.size a5 (srt (f.map nfp))) ∧ Below w.heap.size w w' := by
  intro w ok cs hx hT
  obtain ⟨j0, hj, hj0, hj1, hj2⟩ := info_parts info65'
  obtain ⟨a1, c1, a2, c2, xs, ys, hcs, -, hs2, -, hf1⟩ := hx.form
  obtain rfl : cs = #[.int .i64 5, .bool b, .int .i64 n, .string t, .slice a1 l.length c1, .slice a2 f.length c2] := by
    cases cs
    simpa using hcs
  have hfl : f.length ≤ 2000000 := by have := szF_len f; unfold GV.sz at hsz; omega
  have HFS : Hid (∀ i (h : i < f.length), (f[i]).1.size ≤ 2000000) := fun i h => by have h9 := szF_get f i h; unfold GV.sz at hsz; omega
  have hT3 := hT.lt
  have HNM : Hid (NamesOK f) := hN
  have HT : Hid (Tabs w) := hT
  have HL : Hid (SlAt w ok (.slice a2 f.length c2) f.length 7 ys ∧ LaidF w ok f ys ∧ ∀ i (h : i < f.length), FormAt (f[i]).2) := ⟨hs2, hf1, hf⟩
  obtain ⟨N, hNN⟩ : ∃ N, nfV (.mk 5 b n t l f) = N := ⟨_, rfl⟩
  have HN : Hid (.mk 5 false 0 ⟨#[]⟩ [] (srt (f.map nfp)) = N) := by show _ = _; rw [← hNN, nfV, nfF_map]; simp; rfl
  rw [hNN]
  clear hNN hT hs2 hf1 hf hN hcs hx hsz
  have m0 := Fm.new w #[.int .i64 5, .bool b, .int .i64 n, .string t, .slice a1 l.length c1, .slice a2 f.length c2] 5
  go_enter Tryz.func39, Tryz.ntmps39
  go_wp2
  go_loopw [51] (fun u w' => ∃ (i : Nat) (v : Value) (zs : List Value), u = .int .i64 (i : Int) ∧ i ≤ f.length ∧ w'.ownsRow (w.heap.size + 3) 54 7 v i zs ∧ Hid (LaidF w' (fun b => w.heap.size + 3 ≤ b ∧ v.ownBlock ≠ some b) ((f.map nfp).take i) zs) ∧ Fm w #[.int .i64 5, .bool b, .int .i64 n, .string t, .slice a1 l.length c1, .slice a2 f.length c2] 5 (.slice none 0 0) v w') (fun u _ => f.length - numF u)
  case atStart => exact ⟨0, .slice none 0 0, [], rfl, Nat.zero_le _, World.ownsRow_nil _ _ _ _, by show LaidF _ _ _ _; simp [LaidF], m0⟩
  case round =>
    obtain ⟨i, v, zs, rfl, hil, hown, HLD, m⟩ := hrel
    have hmb := m.b
    have hms := m.s
    clear m0
    by_cases hlt : i < f.length
    · have hlt' : (i : Int) < (f.length : Int) := by omega
      obtain ⟨sb, off, es, ha1, hsb, hlv, hname, hcell⟩ := SlAt.field (HL.out.1.conv (ok' := fun b => b < w.heap.size) (w' := wr) (by decide) (fun b _ hb => ⟨hb, hmb.block b hb⟩)) (HL.out.2.1.conv (fun b _ hb => ⟨hb, hmb.block b hb⟩)) i hlt
      have hcp := HL.out.2.2 i hlt
      have hns := HFS.out i hlt
      obtain ⟨⟨nm, X⟩, hX⟩ : ∃ X, f[i] = X := ⟨_, rfl⟩
      have HTK : Hid ((f.map nfp).take (i + 1) = (f.map nfp).take i ++ [(nm, nfV X)]) := by show _ = _; rw [List.take_succ_eq_append_getElem (by simpa using hlt), List.getElem_map, hX]; rfl
      rw [hX] at hlv hcp hname hns
      simp only at hlv hcp hname hns
      clear hX
      cases hXc : X with
      | mk k' b' n' t' l' f' =>
      rw [hXc] at hlv
      obtain ⟨p1, q1, p2, q2, _, _, rfl, -⟩ := hlv.form
      rw [← hXc] at hlv
      subst ha1
      have e0 := hcell 0 (by decide)
      have e1 := hcell 1 (by decide)
      have e2 := hcell 2 (by decide)
      have e3 := hcell 3 (by decide)
      have e4 := hcell 4 (by decide)
      have e5 := hcell 5 (by decide)
      simp only [List.getElem?_cons_zero, List.getElem?_cons_succ, Nat.add_zero, Nat.reduceAdd] at e0 e1 e2 e3 e4 e5
      obtain ⟨NX, hNX⟩ : ∃ NX, nfV X = NX := ⟨_, rfl⟩
      obtain ⟨W1, hW1⟩ : ∃ W1, wr.alloc (.cells #[.string nm, .int .i64 k', .bool b', .int .i64 n', .string t', .slice p1 l'.length q1, .slice p2 f'.length q2] 54) = W1 := ⟨_, rfl⟩
      have hb1 : Below wr.heap.size wr W1 := by rw [← hW1]; exact (Below.refl _ _).alloc (Nat.le_refl _) _
      have hsz1 : W1.heap.size = wr.heap.size + 1 := by rw [← hW1]; simp
      have hbx : W1.heap[wr.heap.size]? = some (.cells #[.string nm, .int .i64 k', .bool b', .int .i64 n', .string t', .slice p1 l'.length q1, .slice p2 f'.length q2] 54 (0, 0)) := by rw [← hW1]; exact heap_alloc_new _ _
      have hcl := fun W => Clone_any nm W (by omega)
      have hcall : ∀ w2, Below W1.heap.size W1 w2 → Calls Tryz.prog 39 #[.agg #[.int .i64 k', .bool b', .int .i64 n', .string t', .slice p1 l'.length q1, .slice p2 f'.length q2]] w2 fun e w' => VOut (fun b => w2.heap.size ≤ b) NX e w' ∧ Below w2.heap.size w2 w' := fun w2 h2 => by
        rw [← hNX]
        have h12 : Below wr.heap.size wr w2 := hb1.trans (h2.mono (by omega))
        exact hcp w2 (fun b => b < w.heap.size) _ (hlv.conv (fun b hb hl => ⟨hb, h12.block b hl⟩)) (HT.out.of ((h12.block 1 (by omega)).trans (hmb.block 1 (by omega))) ((h12.block 2 (by omega)).trans (hmb.block 2 (by omega))))
      rw [hNX] at HTK
      have LD : ∀ wq, Below W1.heap.size W1 wq → wq.cell? ⟨w.heap.size + 1 + 1, 5, none⟩ = some v ∧ wq.heap[wr.heap.size]? = some (.cells #[.string nm, .int .i64 k', .bool b', .int .i64 n', .string t', .slice p1 l'.length q1, .slice p2 f'.length q2] 54 (0, 0)) := by
        intro wq hq
        refine ⟨?_, (hq.block _ (by omega)).trans hbx⟩
        have h1 := (hq.block (w.heap.size + 1 + 1) (by omega)).trans ((hb1.block (w.heap.size + 1 + 1) (by omega)).trans m.v)
        simp [World.cell?, h1]
      have hq2 : ∀ w2, Below W1.drew.heap.size W1.drew w2 → Below W1.heap.size W1 w2 ∧ w2.cell? ⟨w.heap.size + 1 + 1, 5, none⟩ = some v ∧ w2.heap[wr.heap.size]? = some (.cells #[.string nm, .int .i64 k', .bool b', .int .i64 n', .string t', .slice p1 l'.length q1, .slice p2 f'.length q2] 54 (0, 0)) := fun w2 h2 => by
        have hb2 : Below W1.heap.size W1 w2 := ⟨h2.os, h2.tape, h2.output, h2.size, h2.block⟩
        exact ⟨hb2, LD w2 hb2⟩
      have hq3 : ∀ w2, Below W1.heap.size W1 w2 → ∀ w3, Below w2.heap.size w2 w3 → Below W1.heap.size W1 w3 ∧ w3.cell? ⟨w.heap.size + 1 + 1, 5, none⟩ = some v ∧ w3.heap[wr.heap.size]? = some (.cells #[.string nm, .int .i64 k', .bool b', .int .i64 n', .string t', .slice p1 l'.length q1, .slice p2 f'.length q2] 54 (0, 0)) := fun w2 h2 w3 h3 => by
        have hb3 : Below W1.heap.size W1 w3 := h2.trans (h3.mono h2.size)
        exact ⟨hb3, LD w3 hb3⟩
      have x5 : W1.cell? ⟨w.heap.size + 1 + 1, 5, none⟩ = some v := (LD W1 (Below.refl _ _)).1
      have CL : Hid (∀ wq : World, wq.heap[wr.heap.size]? = some (.cells #[.string nm, .int .i64 k', .bool b', .int .i64 n', .string t', .slice p1 l'.length q1, .slice p2 f'.length q2] 54 (0, 0)) → ∀ j u, [.string nm, .int .i64 k', .bool b', .int .i64 n', .string t', .slice p1 l'.length q1, .slice p2 f'.length q2][j]? = some u → wq.cell? ⟨wr.heap.size, j, none⟩ = some u) := fun wq hq j u hu => by
        simp only [World.cell?, hq]
        simpa using hu
      clear hcell hXc hcp hlv hNX LD
      go_wp2
      refine wp_region_held_drew (S := fun w' => w'.heap[wr.heap.size]? = some (.cells #[.string nm, .int .i64 k', .bool b', .int .i64 n', .string t', .slice p1 l'.length q1, .slice p2 f'.length q2] 54 (0, 0))) (by kernel_rfl) hbx ?_
      intro hS
      refine wpAnyH_take (i := 0) (v := .pointer (some ⟨w.heap.size + 1 + 1, 5, none⟩)) rfl (by kernel_rfl) (by kernel_rfl) (by kernel_rfl) (fun _ _ _ h => h) (Or.inl ⟨by kernel_rfl, fun wq hS => by clear hS; go_simp⟩) hS ?_
      try simp only [Act.put, List.getElem_toArray, List.getElem_cons_zero, List.setIfInBounds_toArray, List.set_cons_zero, List.set_cons_succ]
      refine wpAnyH_take (i := 2) (v := .pointer (some ⟨wr.heap.size, 0, none⟩)) rfl (by kernel_rfl) (by kernel_rfl) (by kernel_rfl) (fun _ _ _ h => h) (Or.inl ⟨by kernel_rfl, fun wq hS => by clear hS; go_simp⟩) hS ?_
      try simp only [Act.put, List.getElem_toArray, List.getElem_cons_succ, List.getElem_cons_zero, List.setIfInBounds_toArray, List.set_cons_zero, List.set_cons_succ]
      refine wpAnyH_take (i := 3) (v := .string nm) rfl (by kernel_rfl) (by kernel_rfl) (by kernel_rfl) (fun _ _ _ h => h) (Or.inl ⟨by kernel_rfl, fun wq hS => by have g0 := CL.out wq hS 0 _ rfl; clear hS; go_simp⟩) hS ?_
      try simp only [Act.put, List.getElem_toArray, List.getElem_cons_succ, List.getElem_cons_zero, List.setIfInBounds_toArray, List.set_cons_zero, List.set_cons_succ]
      refine wpAnyH_take (i := 5) (v := .pointer (some ⟨wr.heap.size, 1, none⟩)) rfl (by kernel_rfl) (by kernel_rfl) (by kernel_rfl) (fun _ _ _ h => h) (Or.inl ⟨by kernel_rfl, fun wq hS => by clear hS; go_simp⟩) hS ?_
      try simp only [Act.put, List.getElem_toArray, List.getElem_cons_succ, List.getElem_cons_zero, List.setIfInBounds_toArray, List.set_cons_zero, List.set_cons_succ]
      refine wpAnyH_take (i := 6) (v := .agg #[.int .i64 k', .bool b', .int .i64 n', .string t', .slice p1 l'.length q1, .slice p2 f'.length q2]) rfl (by kernel_rfl) (by kernel_rfl) (by kernel_rfl) (fun _ _ _ h => h) (Or.inl ⟨by kernel_rfl, fun wq hS => by have g1 := CL.out wq hS 1 _ rfl; have g2 := CL.out wq hS 2 _ rfl; have g3 := CL.out wq hS 3 _ rfl; have g4 := CL.out wq hS 4 _ rfl; have g5 := CL.out wq hS 5 _ rfl; have g6 := CL.out wq hS 6 _ rfl; clear hS; go_simp⟩) hS ?_
      try simp only [Act.put, List.getElem_toArray, List.getElem_cons_succ, List.getElem_cons_zero, List.setIfInBounds_toArray, List.set_cons_zero, List.set_cons_succ]
      refine wpAnyH_ready (rs := [1, 4]) (by kernel_rfl) (by simp) ?_
      refine AllReadyH.cons rfl (fun K' hK' => ?_) (AllReadyH.cons rfl (fun K' hK' => ?_) AllReadyH.nil)
      · go_simp
        refine hK'.out _ _ hS (fun hS => ?_)
        clear hK' K'
        try simp only [Act.put, List.getElem_toArray, List.getElem_cons_succ, List.getElem_cons_zero, List.setIfInBounds_toArray, List.set_cons_zero, List.set_cons_succ]
        refine wpAnyH_ready (rs := [4]) (by kernel_rfl) (by simp) ?_
        refine AllReadyH.cons rfl (fun K' hK' => ?_) AllReadyH.nil
        go_simp
        refine (hcl _).mono ?_
        rintro e w2 ⟨rfl, h2⟩
        obtain ⟨hb2, x52, s2⟩ := hq2 w2 h2
        refine hK'.out _ _ s2 (fun hS => ?_)
        clear hK' K'
        try simp only [Act.put, List.getElem_toArray, List.getElem_cons_succ, List.getElem_cons_zero, List.setIfInBounds_toArray, List.set_cons_zero, List.set_cons_succ]
        refine wpAnyH_ready (rs := [7]) (by kernel_rfl) (by simp) ?_
        refine AllReadyH.cons rfl (fun K' hK' => ?_) AllReadyH.nil
        go_simp
        refine (hcall w2 hb2).mono ?_
        rintro e w3 ⟨⟨kk, bb, nn, tt, r1, s1, u1, r2, s2, u2, rfl, hlx0⟩, h3⟩
        obtain ⟨hb3, x53, s3⟩ := hq3 w2 hb2 w3 h3
        have hlx := hlx0.conv (w' := w3) (ok' := fun b => W1.heap.size ≤ b) (fun b hb _ => ⟨Nat.le_trans hb2.size hb, rfl⟩)
        clear hlx0
        refine hK'.out _ _ s3 (fun hS => ?_)
        clear hK' K'
        try simp only [Act.put, List.getElem_toArray, List.getElem_cons_succ, List.getElem_cons_zero, List.setIfInBounds_toArray, List.set_cons_zero, List.set_cons_succ]
        refine wpAnyH_ready (rs := [8]) (by kernel_rfl) (by simp) ?_
        refine AllReadyH.cons rfl (fun K' hK' => ?_) AllReadyH.nil
        go_simp
        refine hK'.out _ _ hS (fun hS => ?_)
        clear hK' K'
        try simp only [Act.put, List.getElem_toArray, List.getElem_cons_succ, List.getElem_cons_zero, List.setIfInBounds_toArray, List.set_cons_zero, List.set_cons_succ]
        refine wpAnyH_ready (rs := [9]) (by kernel_rfl) (by simp) ?_
        refine AllReadyH.cons rfl (fun K' hK' => ?_) AllReadyH.nil
        go_simp
        refine hK'.out _ _ ((Below.heap_alloc _ _ _ (lt_of_block hS)).trans hS) (fun hS => ?_)
        clear hK' K'
        try simp only [Act.put, List.getElem_toArray, List.getElem_cons_succ, List.getElem_cons_zero, List.setIfInBounds_toArray, List.set_cons_zero, List.set_cons_succ]
        have hsz3 := hb3.size
        have hb13 : Below wr.heap.size wr w3 := hb1.trans (hb3.mono (by omega))
        have hown3 := own_kept hown hb13
        refine wpAnyH_ready (rs := [10]) (by kernel_rfl) (by simp) ?_
        refine AllReadyH.cons rfl (fun K' hK' => ?_) AllReadyH.nil
        refine step_append_own rfl (.tmp 56) (.tmp 64) 23 rfl (w.heap.size + 3) 54 j0 _ 7 104 Tryz.underlying23 hj hj0 hj1 hj2 rfl (by decide) v i zs rfl (hown3.alloc _) ⟨w3.heap.size, 0, none⟩ 1 1 [.string nm, .int .i64 kk, .bool bb, .int .i64 nn, .string tt, .slice r1 s1 u1, .slice r2 s2 u2] rfl rfl (cells7' (heap_alloc_new _ _)) (by simp [Value.oneCell']) (by unfold maxLen; omega) (by omega) (by simp; omega) ?_
        intro v' w4 hown' hgrow4 hloc4
        have hb14 : Below (w.heap.size + 3) wr w4 := Below.grown ((hb13.mono hms).alloc (by omega) _) hgrow4 (by simp; omega) (fun j hj => (hown.lt _ hj).1)
        have m4 := m.keep hb14
        have c5 : w4.cell? ⟨w.heap.size + 1 + 1, 5, none⟩ = some v := by simp [World.cell?, m4.v]
        have z5 := box_fz m4.v 5
        have s4 : w4.heap[wr.heap.size]? = some (.cells #[.string nm, .int .i64 k', .bool b', .int .i64 n', .string t', .slice p1 l'.length q1, .slice p2 f'.length q2] 54 (0, 0)) := (hgrow4.block _ (by simp; omega) (fun e => by have := (hown.lt _ e.symm).2; omega)).trans hS
        refine hK'.out _ _ s4 (fun hS => ?_)
        clear hK' K'
        try simp only [Act.put, List.getElem_toArray, List.getElem_cons_succ, List.getElem_cons_zero, List.setIfInBounds_toArray, List.set_cons_zero, List.set_cons_succ]
        refine wpAnyH_take (i := 11) (v := .pointer (some ⟨w.heap.size + 1 + 1, 5, none⟩)) rfl (by kernel_rfl) (by kernel_rfl) (by kernel_rfl) (fun _ _ _ h => h) (Or.inl ⟨by kernel_rfl, fun wq hS => by clear hS; go_simp⟩) hS ?_
        try simp only [Act.put, List.getElem_toArray, List.getElem_cons_succ, List.getElem_cons_zero, List.setIfInBounds_toArray, List.set_cons_zero, List.set_cons_succ]
        refine wpAnyH_ready (rs := [12]) (by kernel_rfl) (by simp) ?_
        refine AllReadyH.cons rfl (fun K' hK' => ?_) AllReadyH.nil
        obtain ⟨va, vc, rfl⟩ := own_form hown'
        go_simp
        refine hK'.out _ _ ((Below.heap_setCell _ _ _ _ (by simp; omega)).trans s4) (fun hS => ?_)
        clear hK' K'
        try simp only [Act.put, List.getElem_toArray, List.getElem_cons_succ, List.getElem_cons_zero, List.setIfInBounds_toArray, List.set_cons_zero, List.set_cons_succ]
        refine wpAnyH_done (by kernel_rfl) ?_ _
        have H4 := form_nextF hown HLD HTK hms hb13 hsz1 hsz3 hlx hown' hgrow4 hloc4 m4
        clear c5 z5 hown3 hlx hgrow4 hloc4 hown' HLD HTK x5
        go_wp2
        go_roundw
        case rel => exact ⟨i + 1, _, _, by simp, hlt, H4.out.1, H4.out.2.1, H4.out.2.2⟩
        case measure => simp [numF]; omega
      · go_simp
        refine (hcl _).mono ?_
        rintro e w2 ⟨rfl, h2⟩
        obtain ⟨hb2, x52, s2⟩ := hq2 w2 h2
        refine hK'.out _ _ s2 (fun hS => ?_)
        clear hK' K'
        try simp only [Act.put, List.getElem_toArray, List.getElem_cons_succ, List.getElem_cons_zero, List.setIfInBounds_toArray, List.set_cons_zero, List.set_cons_succ]
        refine wpAnyH_ready (rs := [1, 7]) (by kernel_rfl) (by simp) ?_
        refine AllReadyH.cons rfl (fun K' hK' => ?_) (AllReadyH.cons rfl (fun K' hK' => ?_) AllReadyH.nil)
        · go_simp
          refine hK'.out _ _ hS (fun hS => ?_)
          clear hK' K'
          try simp only [Act.put, List.getElem_toArray, List.getElem_cons_succ, List.getElem_cons_zero, List.setIfInBounds_toArray, List.set_cons_zero, List.set_cons_succ]
          refine wpAnyH_ready (rs := [7]) (by kernel_rfl) (by simp) ?_
          refine AllReadyH.cons rfl (fun K' hK' => ?_) AllReadyH.nil
          go_simp
          refine (hcall w2 hb2).mono ?_
          rintro e w3 ⟨⟨kk, bb, nn, tt, r1, s1, u1, r2, s2, u2, rfl, hlx0⟩, h3⟩
          obtain ⟨hb3, x53, s3⟩ := hq3 w2 hb2 w3 h3
          have hlx := hlx0.conv (w' := w3) (ok' := fun b => W1.heap.size ≤ b) (fun b hb _ => ⟨Nat.le_trans hb2.size hb, rfl⟩)
          clear hlx0
          refine hK'.out _ _ s3 (fun hS => ?_)
          clear hK' K'
          try simp only [Act.put, List.getElem_toArray, List.getElem_cons_succ, List.getElem_cons_zero, List.setIfInBounds_toArray, List.set_cons_zero, List.set_cons_succ]
          refine wpAnyH_ready (rs := [8]) (by kernel_rfl) (by simp) ?_
          refine AllReadyH.cons rfl (fun K' hK' => ?_) AllReadyH.nil
          go_simp
          refine hK'.out _ _ hS (fun hS => ?_)
          clear hK' K'
          try simp only [Act.put, List.getElem_toArray, List.getElem_cons_succ, List.getElem_cons_zero, List.setIfInBounds_toArray, List.set_cons_zero, List.set_cons_succ]
          refine wpAnyH_ready (rs := [9]) (by kernel_rfl) (by simp) ?_
          refine AllReadyH.cons rfl (fun K' hK' => ?_) AllReadyH.nil
          go_simp
          refine hK'.out _ _ ((Below.heap_alloc _ _ _ (lt_of_block hS)).trans hS) (fun hS => ?_)
          clear hK' K'
          try simp only [Act.put, List.getElem_toArray, List.getElem_cons_succ, List.getElem_cons_zero, List.setIfInBounds_toArray, List.set_cons_zero, List.set_cons_succ]
          have hsz3 := hb3.size
          have hb13 : Below wr.heap.size wr w3 := hb1.trans (hb3.mono (by omega))
          have hown3 := own_kept hown hb13
          refine wpAnyH_ready (rs := [10]) (by kernel_rfl) (by simp) ?_
          refine AllReadyH.cons rfl (fun K' hK' => ?_) AllReadyH.nil
          refine step_append_own rfl (.tmp 56) (.tmp 64) 23 rfl (w.heap.size + 3) 54 j0 _ 7 104 Tryz.underlying23 hj hj0 hj1 hj2 rfl (by decide) v i zs rfl (hown3.alloc _) ⟨w3.heap.size, 0, none⟩ 1 1 [.string nm, .int .i64 kk, .bool bb, .int .i64 nn, .string tt, .slice r1 s1 u1, .slice r2 s2 u2] rfl rfl (cells7' (heap_alloc_new _ _)) (by simp [Value.oneCell']) (by unfold maxLen; omega) (by omega) (by simp; omega) ?_
          intro v' w4 hown' hgrow4 hloc4
          have hb14 : Below (w.heap.size + 3) wr w4 := Below.grown ((hb13.mono hms).alloc (by omega) _) hgrow4 (by simp; omega) (fun j hj => (hown.lt _ hj).1)
          have m4 := m.keep hb14
          have c5 : w4.cell? ⟨w.heap.size + 1 + 1, 5, none⟩ = some v := by simp [World.cell?, m4.v]
          have z5 := box_fz m4.v 5
          have s4 : w4.heap[wr.heap.size]? = some (.cells #[.string nm, .int .i64 k', .bool b', .int .i64 n', .string t', .slice p1 l'.length q1, .slice p2 f'.length q2] 54 (0, 0)) := (hgrow4.block _ (by simp; omega) (fun e => by have := (hown.lt _ e.symm).2; omega)).trans hS
          refine hK'.out _ _ s4 (fun hS => ?_)
          clear hK' K'
          try simp only [Act.put, List.getElem_toArray, List.getElem_cons_succ, List.getElem_cons_zero, List.setIfInBounds_toArray, List.set_cons_zero, List.set_cons_succ]
          refine wpAnyH_take (i := 11) (v := .pointer (some ⟨w.heap.size + 1 + 1, 5, none⟩)) rfl (by kernel_rfl) (by kernel_rfl) (by kernel_rfl) (fun _ _ _ h => h) (Or.inl ⟨by kernel_rfl, fun wq hS => by clear hS; go_simp⟩) hS ?_
          try simp only [Act.put, List.getElem_toArray, List.getElem_cons_succ, List.getElem_cons_zero, List.setIfInBounds_toArray, List.set_cons_zero, List.set_cons_succ]
          refine wpAnyH_ready (rs := [12]) (by kernel_rfl) (by simp) ?_
          refine AllReadyH.cons rfl (fun K' hK' => ?_) AllReadyH.nil
          obtain ⟨va, vc, rfl⟩ := own_form hown'
          go_simp
          refine hK'.out _ _ ((Below.heap_setCell _ _ _ _ (by simp; omega)).trans s4) (fun hS => ?_)
          clear hK' K'
          try simp only [Act.put, List.getElem_toArray, List.getElem_cons_succ, List.getElem_cons_zero, List.setIfInBounds_toArray, List.set_cons_zero, List.set_cons_succ]
          refine wpAnyH_done (by kernel_rfl) ?_ _
          have H4 := form_nextF hown HLD HTK hms hb13 hsz1 hsz3 hlx hown' hgrow4 hloc4 m4
          clear c5 z5 hown3 hlx hgrow4 hloc4 hown' HLD HTK x5
          go_wp2
          go_roundw
          case rel => exact ⟨i + 1, _, _, by simp, hlt, H4.out.1, H4.out.2.1, H4.out.2.2⟩
          case measure => simp [numF]; omega
        · go_simp
          refine (hcall w2 hb2).mono ?_
          rintro e w3 ⟨⟨kk, bb, nn, tt, r1, s1, u1, r2, s2, u2, rfl, hlx0⟩, h3⟩
          obtain ⟨hb3, x53, s3⟩ := hq3 w2 hb2 w3 h3
          have hlx := hlx0.conv (w' := w3) (ok' := fun b => W1.heap.size ≤ b) (fun b hb _ => ⟨Nat.le_trans hb2.size hb, rfl⟩)
          clear hlx0
          refine hK'.out _ _ s3 (fun hS => ?_)
          clear hK' K'
          try simp only [Act.put, List.getElem_toArray, List.getElem_cons_succ, List.getElem_cons_zero, List.setIfInBounds_toArray, List.set_cons_zero, List.set_cons_succ]
          refine wpAnyH_ready (rs := [1, 8]) (by kernel_rfl) (by simp) ?_
          refine AllReadyH.cons rfl (fun K' hK' => ?_) (AllReadyH.cons rfl (fun K' hK' => ?_) AllReadyH.nil)
          · go_simp
            refine hK'.out _ _ hS (fun hS => ?_)
            clear hK' K'
            try simp only [Act.put, List.getElem_toArray, List.getElem_cons_succ, List.getElem_cons_zero, List.setIfInBounds_toArray, List.set_cons_zero, List.set_cons_succ]
            refine wpAnyH_ready (rs := [8]) (by kernel_rfl) (by simp) ?_
            refine AllReadyH.cons rfl (fun K' hK' => ?_) AllReadyH.nil
            go_simp
            refine hK'.out _ _ hS (fun hS => ?_)
            clear hK' K'
            try simp only [Act.put, List.getElem_toArray, List.getElem_cons_succ, List.getElem_cons_zero, List.setIfInBounds_toArray, List.set_cons_zero, List.set_cons_succ]
            refine wpAnyH_ready (rs := [9]) (by kernel_rfl) (by simp) ?_
            refine AllReadyH.cons rfl (fun K' hK' => ?_) AllReadyH.nil
            go_simp
            refine hK'.out _ _ ((Below.heap_alloc _ _ _ (lt_of_block hS)).trans hS) (fun hS => ?_)
            clear hK' K'
            try simp only [Act.put, List.getElem_toArray, List.getElem_cons_succ, List.getElem_cons_zero, List.setIfInBounds_toArray, List.set_cons_zero, List.set_cons_succ]
            have hsz3 := hb3.size
            have hb13 : Below wr.heap.size wr w3 := hb1.trans (hb3.mono (by omega))
            have hown3 := own_kept hown hb13
            refine wpAnyH_ready (rs := [10]) (by kernel_rfl) (by simp) ?_
            refine AllReadyH.cons rfl (fun K' hK' => ?_) AllReadyH.nil
            refine step_append_own rfl (.tmp 56) (.tmp 64) 23 rfl (w.heap.size + 3) 54 j0 _ 7 104 Tryz.underlying23 hj hj0 hj1 hj2 rfl (by decide) v i zs rfl (hown3.alloc _) ⟨w3.heap.size, 0, none⟩ 1 1 [.string nm, .int .i64 kk, .bool bb, .int .i64 nn, .string tt, .slice r1 s1 u1, .slice r2 s2 u2] rfl rfl (cells7' (heap_alloc_new _ _)) (by simp [Value.oneCell']) (by unfold maxLen; omega) (by omega) (by simp; omega) ?_
            intro v' w4 hown' hgrow4 hloc4
            have hb14 : Below (w.heap.size + 3) wr w4 := Below.grown ((hb13.mono hms).alloc (by omega) _) hgrow4 (by simp; omega) (fun j hj => (hown.lt _ hj).1)
            have m4 := m.keep hb14
            have c5 : w4.cell? ⟨w.heap.size + 1 + 1, 5, none⟩ = some v := by simp [World.cell?, m4.v]
            have z5 := box_fz m4.v 5
            have s4 : w4.heap[wr.heap.size]? = some (.cells #[.string nm, .int .i64 k', .bool b', .int .i64 n', .string t', .slice p1 l'.length q1, .slice p2 f'.length q2] 54 (0, 0)) := (hgrow4.block _ (by simp; omega) (fun e => by have := (hown.lt _ e.symm).2; omega)).trans hS
            refine hK'.out _ _ s4 (fun hS => ?_)
            clear hK' K'
            try simp only [Act.put, List.getElem_toArray, List.getElem_cons_succ, List.getElem_cons_zero, List.setIfInBounds_toArray, List.set_cons_zero, List.set_cons_succ]
            refine wpAnyH_take (i := 11) (v := .pointer (some ⟨w.heap.size + 1 + 1, 5, none⟩)) rfl (by kernel_rfl) (by kernel_rfl) (by kernel_rfl) (fun _ _ _ h => h) (Or.inl ⟨by kernel_rfl, fun wq hS => by clear hS; go_simp⟩) hS ?_
            try simp only [Act.put, List.getElem_toArray, List.getElem_cons_succ, List.getElem_cons_zero, List.setIfInBounds_toArray, List.set_cons_zero, List.set_cons_succ]
            refine wpAnyH_ready (rs := [12]) (by kernel_rfl) (by simp) ?_
            refine AllReadyH.cons rfl (fun K' hK' => ?_) AllReadyH.nil
            obtain ⟨va, vc, rfl⟩ := own_form hown'
            go_simp
            refine hK'.out _ _ ((Below.heap_setCell _ _ _ _ (by simp; omega)).trans s4) (fun hS => ?_)
            clear hK' K'
            try simp only [Act.put, List.getElem_toArray, List.getElem_cons_succ, List.getElem_cons_zero, List.setIfInBounds_toArray, List.set_cons_zero, List.set_cons_succ]
            refine wpAnyH_done (by kernel_rfl) ?_ _
            have H4 := form_nextF hown HLD HTK hms hb13 hsz1 hsz3 hlx hown' hgrow4 hloc4 m4
            clear c5 z5 hown3 hlx hgrow4 hloc4 hown' HLD HTK x5
            go_wp2
            go_roundw
            case rel => exact ⟨i + 1, _, _, by simp, hlt, H4.out.1, H4.out.2.1, H4.out.2.2⟩
            case measure => simp [numF]; omega
          · go_simp
            refine hK'.out _ _ hS (fun hS => ?_)
            clear hK' K'
            try simp only [Act.put, List.getElem_toArray, List.getElem_cons_succ, List.getElem_cons_zero, List.setIfInBounds_toArray, List.set_cons_zero, List.set_cons_succ]
            refine wpAnyH_ready (rs := [1, 9]) (by kernel_rfl) (by simp) ?_
            refine AllReadyH.cons rfl (fun K' hK' => ?_) (AllReadyH.cons rfl (fun K' hK' => ?_) AllReadyH.nil)
            · go_simp
              refine hK'.out _ _ hS (fun hS => ?_)
              clear hK' K'
              try simp only [Act.put, List.getElem_toArray, List.getElem_cons_succ, List.getElem_cons_zero, List.setIfInBounds_toArray, List.set_cons_zero, List.set_cons_succ]
              refine wpAnyH_ready (rs := [9]) (by kernel_rfl) (by simp) ?_
              refine AllReadyH.cons rfl (fun K' hK' => ?_) AllReadyH.nil
              go_simp
              refine hK'.out _ _ ((Below.heap_alloc _ _ _ (lt_of_block hS)).trans hS) (fun hS => ?_)
              clear hK' K'
              try simp only [Act.put, List.getElem_toArray, List.getElem_cons_succ, List.getElem_cons_zero, List.setIfInBounds_toArray, List.set_cons_zero, List.set_cons_succ]
              have hsz3 := hb3.size
              have hb13 : Below wr.heap.size wr w3 := hb1.trans (hb3.mono (by omega))
              have hown3 := own_kept hown hb13
              refine wpAnyH_ready (rs := [10]) (by kernel_rfl) (by simp) ?_
              refine AllReadyH.cons rfl (fun K' hK' => ?_) AllReadyH.nil
              refine step_append_own rfl (.tmp 56) (.tmp 64) 23 rfl (w.heap.size + 3) 54 j0 _ 7 104 Tryz.underlying23 hj hj0 hj1 hj2 rfl (by decide) v i zs rfl (hown3.alloc _) ⟨w3.heap.size, 0, none⟩ 1 1 [.string nm, .int .i64 kk, .bool bb, .int .i64 nn, .string tt, .slice r1 s1 u1, .slice r2 s2 u2] rfl rfl (cells7' (heap_alloc_new _ _)) (by simp [Value.oneCell']) (by unfold maxLen; omega) (by omega) (by simp; omega) ?_
              intro v' w4 hown' hgrow4 hloc4
              have hb14 : Below (w.heap.size + 3) wr w4 := Below.grown ((hb13.mono hms).alloc (by omega) _) hgrow4 (by simp; omega) (fun j hj => (hown.lt _ hj).1)
              have m4 := m.keep hb14
              have c5 : w4.cell? ⟨w.heap.size + 1 + 1, 5, none⟩ = some v := by simp [World.cell?, m4.v]
              have z5 := box_fz m4.v 5
              have s4 : w4.heap[wr.heap.size]? = some (.cells #[.string nm, .int .i64 k', .bool b', .int .i64 n', .string t', .slice p1 l'.length q1, .slice p2 f'.length q2] 54 (0, 0)) := (hgrow4.block _ (by simp; omega) (fun e => by have := (hown.lt _ e.symm).2; omega)).trans hS
              refine hK'.out _ _ s4 (fun hS => ?_)
              clear hK' K'
              try simp only [Act.put, List.getElem_toArray, List.getElem_cons_succ, List.getElem_cons_zero, List.setIfInBounds_toArray, List.set_cons_zero, List.set_cons_succ]
              refine wpAnyH_take (i := 11) (v := .pointer (some ⟨w.heap.size + 1 + 1, 5, none⟩)) rfl (by kernel_rfl) (by kernel_rfl) (by kernel_rfl) (fun _ _ _ h => h) (Or.inl ⟨by kernel_rfl, fun wq hS => by clear hS; go_simp⟩) hS ?_
              try simp only [Act.put, List.getElem_toArray, List.getElem_cons_succ, List.getElem_cons_zero, List.setIfInBounds_toArray, List.set_cons_zero, List.set_cons_succ]
              refine wpAnyH_ready (rs := [12]) (by kernel_rfl) (by simp) ?_
              refine AllReadyH.cons rfl (fun K' hK' => ?_) AllReadyH.nil
              obtain ⟨va, vc, rfl⟩ := own_form hown'
              go_simp
              refine hK'.out _ _ ((Below.heap_setCell _ _ _ _ (by simp; omega)).trans s4) (fun hS => ?_)
              clear hK' K'
              try simp only [Act.put, List.getElem_toArray, List.getElem_cons_succ, List.getElem_cons_zero, List.setIfInBounds_toArray, List.set_cons_zero, List.set_cons_succ]
              refine wpAnyH_done (by kernel_rfl) ?_ _
              have H4 := form_nextF hown HLD HTK hms hb13 hsz1 hsz3 hlx hown' hgrow4 hloc4 m4
              clear c5 z5 hown3 hlx hgrow4 hloc4 hown' HLD HTK x5
              go_wp2
              go_roundw
              case rel => exact ⟨i + 1, _, _, by simp, hlt, H4.out.1, H4.out.2.1, H4.out.2.2⟩
              case measure => simp [numF]; omega
            · go_simp
              refine hK'.out _ _ ((Below.heap_alloc _ _ _ (lt_of_block hS)).trans hS) (fun hS => ?_)
              clear hK' K'
              try simp only [Act.put, List.getElem_toArray, List.getElem_cons_succ, List.getElem_cons_zero, List.setIfInBounds_toArray, List.set_cons_zero, List.set_cons_succ]
              have x54 : (w3.alloc (.cells #[.string nm, .int .i64 kk, .bool bb, .int .i64 nn, .string tt, .slice r1 s1 u1, .slice r2 s2 u2] 54)).cell? ⟨w.heap.size + 1 + 1, 5, none⟩ = some v := (World.cell?_alloc_some _ _ _ (by rw [x53]; rfl)).trans x53
              refine wpAnyH_ready (rs := [1]) (by kernel_rfl) (by simp) ?_
              refine AllReadyH.cons rfl (fun K' hK' => ?_) AllReadyH.nil
              go_simp
              refine hK'.out _ _ hS (fun hS => ?_)
              clear hK' K'
              try simp only [Act.put, List.getElem_toArray, List.getElem_cons_succ, List.getElem_cons_zero, List.setIfInBounds_toArray, List.set_cons_zero, List.set_cons_succ]
              have hsz3 := hb3.size
              have hb13 : Below wr.heap.size wr w3 := hb1.trans (hb3.mono (by omega))
              have hown3 := own_kept hown hb13
              refine wpAnyH_ready (rs := [10]) (by kernel_rfl) (by simp) ?_
              refine AllReadyH.cons rfl (fun K' hK' => ?_) AllReadyH.nil
              refine step_append_own rfl (.tmp 56) (.tmp 64) 23 rfl (w.heap.size + 3) 54 j0 _ 7 104 Tryz.underlying23 hj hj0 hj1 hj2 rfl (by decide) v i zs rfl (hown3.alloc _) ⟨w3.heap.size, 0, none⟩ 1 1 [.string nm, .int .i64 kk, .bool bb, .int .i64 nn, .string tt, .slice r1 s1 u1, .slice r2 s2 u2] rfl rfl (cells7' (heap_alloc_new _ _)) (by simp [Value.oneCell']) (by unfold maxLen; omega) (by omega) (by simp; omega) ?_
              intro v' w4 hown' hgrow4 hloc4
              have hb14 : Below (w.heap.size + 3) wr w4 := Below.grown ((hb13.mono hms).alloc (by omega) _) hgrow4 (by simp; omega) (fun j hj => (hown.lt _ hj).1)
              have m4 := m.keep hb14
              have c5 : w4.cell? ⟨w.heap.size + 1 + 1, 5, none⟩ = some v := by simp [World.cell?, m4.v]
              have z5 := box_fz m4.v 5
              have s4 : w4.heap[wr.heap.size]? = some (.cells #[.string nm, .int .i64 k', .bool b', .int .i64 n', .string t', .slice p1 l'.length q1, .slice p2 f'.length q2] 54 (0, 0)) := (hgrow4.block _ (by simp; omega) (fun e => by have := (hown.lt _ e.symm).2; omega)).trans hS
              refine hK'.out _ _ s4 (fun hS => ?_)
              clear hK' K'
              try simp only [Act.put, List.getElem_toArray, List.getElem_cons_succ, List.getElem_cons_zero, List.setIfInBounds_toArray, List.set_cons_zero, List.set_cons_succ]
              refine wpAnyH_take (i := 11) (v := .pointer (some ⟨w.heap.size + 1 + 1, 5, none⟩)) rfl (by kernel_rfl) (by kernel_rfl) (by kernel_rfl) (fun _ _ _ h => h) (Or.inl ⟨by kernel_rfl, fun wq hS => by clear hS; go_simp⟩) hS ?_
              try simp only [Act.put, List.getElem_toArray, List.getElem_cons_succ, List.getElem_cons_zero, List.setIfInBounds_toArray, List.set_cons_zero, List.set_cons_succ]
              refine wpAnyH_ready (rs := [12]) (by kernel_rfl) (by simp) ?_
              refine AllReadyH.cons rfl (fun K' hK' => ?_) AllReadyH.nil
              obtain ⟨va, vc, rfl⟩ := own_form hown'
              go_simp
              refine hK'.out _ _ ((Below.heap_setCell _ _ _ _ (by simp; omega)).trans s4) (fun hS => ?_)
              clear hK' K'
              try simp only [Act.put, List.getElem_toArray, List.getElem_cons_succ, List.getElem_cons_zero, List.setIfInBounds_toArray, List.set_cons_zero, List.set_cons_succ]
              refine wpAnyH_done (by kernel_rfl) ?_ _
              have H4 := form_nextF hown HLD HTK hms hb13 hsz1 hsz3 hlx hown' hgrow4 hloc4 m4
              clear c5 z5 hown3 hlx hgrow4 hloc4 hown' HLD HTK x5
              go_wp2
              go_roundw
              case rel => exact ⟨i + 1, _, _, by simp, hlt, H4.out.1, H4.out.2.1, H4.out.2.2⟩
              case measure => simp [numF]; omega
    · have hlt' : ¬ (i : Int) < (f.length : Int) := by omega
      obtain rfl : i = f.length := by omega
      have hld := HLD.out
      rw [List.take_of_length_le (by simp)] at hld
      have hsf := sortF (f.map nfp) (by simpa using hfl) (fun i h => by rw [List.getElem_map]; have := HFS.out i (by simpa using h); exact Nat.le_trans this (by decide)) (fun j h => by
        have h1 := HNM.out j (by simpa using h)
        rw [List.getElem_map]
        refine ⟨h1.1, fun k hk hkj => ?_⟩
        rw [List.getElem_map]
        exact h1.2 k (by simpa using hk) hkj) (w.heap.size + 3) (by omega) wr (HT.out.of (hmb.block 1 (by omega)) (hmb.block 2 (by omega))) v zs (by rw [List.length_map]; exact hown) hld
      obtain ⟨va, vc, rfl⟩ := own_form hown
      have hk5 : ∀ w5, Fr (fun k => (Value.slice va f.length vc).ownBlock = some k) wr w5 → Fm w #[.int .i64 5, .bool b, .int .i64 n, .string t, .slice a1 l.length c1, .slice a2 f.length c2] 5 (.slice none 0 0) (.slice va f.length vc) w5 := fun w5 h5 => m.keep (h5.below hms (fun k hk e => by have := (hown.lt _ e).1; omega))
      obtain ⟨x0, x1, x2, x3, x4, x5⟩ := box6 m.v
      clear HLD hld hown HL hil hlt HFS HNM
      go_wp2_with (go_at_call 61; refine hsf.mono ?_; rintro e w5 ⟨rfl, zs', hsl, hlf, hfr, hfs⟩; have m5 := hk5 w5 hfr; obtain ⟨x0, x1, x2, x3, x4, x5⟩ := box6 m5.v; obtain ⟨y0, y1, y2, y3, y4, y5⟩ := box6 m5.z; have z0 := box_fz m5.z 0; have z1 := box_fz m5.z 1; have z2 := box_fz m5.z 2; have z3 := box_fz m5.z 3; have z4 := box_fz m5.z 4; have z5 := box_fz m5.z 5)
      have HV : LaidV w5 (fun b => w.heap.size + 3 ≤ b) N [.int .i64 5, .bool false, .int .i64 0, .string ⟨#[]⟩, .slice none 0 0, .slice va f.length vc] := by
        rw [← HN.out]
        unfold LaidV
        refine ⟨_, _, [], zs', rfl, ⟨rfl, .inl ⟨none, 0, rfl, rfl⟩⟩, ?_, by unfold LaidL; rfl, hlf.conv (fun b hb _ => ⟨hb.1, rfl⟩)⟩
        rw [srt_len]
        exact hsl
      refine bodyPost_ret (v := .agg #[.int .i64 5, .bool false, .int .i64 0, .string ⟨#[]⟩, .slice none 0 0, .slice va f.length vc]) (by simp [results, Tryz.results39, go_sem, *]) rfl ⟨⟨⟨_, _, _, _, _, _, _, _, _, _, rfl, ?_⟩, _, _, _, _, _, _, rfl, ?_⟩, ?_⟩
      · refine HV.conv (fun b hb hl => ⟨by omega, ?_⟩)
        rw [Below.heap_setCell _ _ _ _ (by simp; omega), Below.heap_setCell _ _ _ _ (by simp; omega), Below.heap_setCell _ _ _ _ (by simp; omega), Below.heap_setCell _ _ _ _ (by simp; omega), Below.heap_setCell _ _ _ _ (by simp; omega), Below.heap_setCell _ _ _ _ (by simp; omega)]
      · refine FreeF.conv (B := w.heap.size + 3) ⟨hfs, zs', by rw [srt_len]; exact hsl, hlf⟩ (fun b hb hl => ⟨by omega, ?_⟩)
        rw [Below.heap_setCell _ _ _ _ (by simp; omega), Below.heap_setCell _ _ _ _ (by simp; omega), Below.heap_setCell _ _ _ _ (by simp; omega), Below.heap_setCell _ _ _ _ (by simp; omega), Below.heap_setCell _ _ _ _ (by simp; omega), Below.heap_setCell _ _ _ _ (by simp; omega)]
      · exact (((((m5.b.setCell (p := ⟨w.heap.size + 1, 0, none⟩) (by simp) _).setCell (p := ⟨w.heap.size + 1, 1, none⟩) (by simp) _).setCell (p := ⟨w.heap.size + 1, 2, none⟩) (by simp) _).setCell (p := ⟨w.heap.size + 1, 3, none⟩) (by simp) _).setCell (p := ⟨w.heap.size + 1, 4, none⟩) (by simp) _).setCell (p := ⟨w.heap.size + 1, 5, none⟩) (by simp) _
theorem form_f (b : Bool) (n : Int) (t : ByteArray) (l : List GV) (f : List (ByteArray × GV)) (hsz : (GV.mk 5 b n t l f).sz ≤ 2000000) (hN : NamesOK f) (hf : ∀ i (h : i < f.length), FormAt (f[i]).2) : FormAt (.mk 5 b n t l f) := fun w ok cs hx hT =>
  (form_free b n t l f hsz hN hf w ok cs hx hT).mono fun _ _ h => ⟨h.1.1, h.2⟩
end Dc
end Go.Proofs.YtiakidomcjpdhaaGreatDoor

namespace Go.Proofs.YtiakidomcjpdhaaGreatDoor
open Go.RowKit
namespace Dc
open Pu Pt

/-- oneForm, at every value of bounded size that can be told. -/
theorem form_any : ∀ (m : Nat) (x : GV) (d : Int), x.sz ≤ m → m ≤ 2000000 → TdV x d → FormAt x
  | 0, x, _, h, _, _ => by have := GV.sz_pos x; omega
  | m + 1, .mk k bo n t l fs, d, h, hm, hT => by
    have hs : 1 + t.size + szL l + szF fs ≤ m + 1 := by simpa [GV.sz] using h
    by_cases k4 : k = 4
    · subst k4
      have hT' : TdL l (d + 1) := by simp [TdV] at hT; exact hT.1
      exact form_l bo n t l fs (by omega) fun i hi => form_any m _ (d + 1) (by have := szL_get l i hi; omega) (by omega) (TdL_get.1 hT' i hi)
    by_cases k5 : k = 5
    · subst k5
      have hT' : NamesOK fs ∧ TdF fs (d + 1) := by simp [TdV] at hT; exact ⟨hT.1, hT.2.1⟩
      exact form_f bo n t l fs (by omega) hT'.1 fun i hi => form_any m _ (d + 1) (by have := szF_get fs i hi; omega) (by omega) (TdF_get.1 hT'.2 i hi)
    exact form_small k bo n t l fs (by omega) ⟨k4, k5⟩
/-- Why a value has no canonical text. -/
def Bad (x : GV) (c : Int) : Prop := (65536 < cntV x ∧ c = 2) ∨ (cntV x ≤ 65536 ∧ ¬ TdV x 0 ∧ c = 8) ∨ (cntV x ≤ 65536 ∧ TdV x 0 ∧ 65536 < (txV x).length ∧ c = 2)
/-- It has one. -/
def Good (x : GV) : Prop := cntV x ≤ 65536 ∧ TdV x 0 ∧ (txV x).length ≤ 65536
theorem rf_two {x : GV} {e : Ending} (h : RfOut x e) : (∃ c, Bad x c ∧ e = .returned (.iface 31 (.int .i64 c))) ∨ (Good x ∧ e = .returned .nilIface) := by
  rcases h with ⟨h1, h2⟩ | ⟨h1, h2, h3⟩ | ⟨h1, h2, h3, h4⟩ | ⟨h1, h2, h3, h4⟩
  · exact .inl ⟨2, .inl ⟨h1, rfl⟩, h2⟩
  · exact .inl ⟨8, .inr (.inl ⟨h1, h2, rfl⟩), h3⟩
  · exact .inl ⟨2, .inr (.inr ⟨h1, h2, h3, rfl⟩), h4⟩
  · exact .inr ⟨⟨h1, h2, h3⟩, h4⟩
/-- What Norm answers: a fault, or the one form in memory of its own. -/
def NoOut (x : GV) (B : Nat) (e : Ending) (w' : World) : Prop := (∃ c, Bad x c ∧ e = .returned (.tuple #[.agg #[.int .i64 0, .bool false, .int .i64 0, .string ⟨#[]⟩, .slice none 0 0, .slice none 0 0], .iface 31 (.int .i64 c)])) ∨ (Good x ∧ ∃ cs : Array Value, e = .returned (.tuple #[.agg cs, .nilIface]) ∧ LaidV w' (fun b => B ≤ b) (nfV x) cs.toList)
set_option maxRecDepth 20000 in
set_option maxHeartbeats 4000000 in
theorem norm_any (x : GV) (hsz : x.sz ≤ 2000000) (hok : okV x) (w : World) (ok : Nat → Prop) (cs : Array Value) (h5 : 5 ≤ w.heap.size) (hP : Pow10 w) (hT : Tabs w) (hx : LaidV w ok x cs.toList) : Calls Tryz.prog 16 #[.agg cs] w fun e w' => NoOut x w.heap.size e w' ∧ Below w.heap.size w w' := by
  have k38 := fun (W : World) (hW : Below w.heap.size w W) => refusal_any x hsz hok W ok cs (Nat.le_trans h5 hW.size) (hP.of (hW.block 0 (by omega)) (hW.block 4 (by omega))) (hx.conv (fun k hk hl => ⟨hk, hW.block k hl⟩))
  have k39 := fun (W : World) (hW : Below w.heap.size w W) (hG : Good x) => form_any _ x 0 (Nat.le_refl _) hsz hG.2.1 W ok cs (hx.conv (fun k hk hl => ⟨hk, hW.block k hl⟩)) (hT.of (hW.block 1 (by omega)) (hW.block 2 (by omega)))
  have HX : Hid (∃ k b n t s1 s2, cs = #[.int .i64 k, .bool b, .int .i64 n, .string t, s1, s2]) := by
    cases x with
    | mk k b n t l f =>
    obtain ⟨a1, c1, a2, c2, xs, ys, hcs, -, -, -, -⟩ := hx.form
    exact ⟨k, b, n, t, .slice a1 l.length c1, .slice a2 f.length c2, by cases cs; simpa using hcs⟩
  obtain ⟨k, b, n, t, s1, s2, rfl⟩ := HX.out
  clear HX hx hT hsz hok hP
  have m0 : CpAt w #[.int .i64 k, .bool b, .int .i64 n, .string t, s1, s2] ((w.alloc (.cells #[.int .i64 k, .bool b, .int .i64 n, .string t, s1, s2] 25)).alloc (.cells #[.int .i64 0, .bool false, .int .i64 0, .string ⟨#[]⟩, .slice none 0 0, .slice none 0 0] 25)) :=
    ⟨(Below.heap_alloc _ _ _ (by simp)).trans (heap_alloc_new _ _), heap_new1 _ _ _, ((Below.refl _ _).alloc (Nat.le_refl _) _).alloc (by simp) _, by simp⟩
  obtain ⟨x0, x1, x2, x3, x4, x5⟩ := box6 m0.v
  have q38 : Calls Tryz.prog 38 #[.agg #[.int .i64 k, .bool b, .int .i64 n, .string t, s1, s2]] ((w.alloc (.cells #[.int .i64 k, .bool b, .int .i64 n, .string t, s1, s2] 25)).alloc (.cells #[.int .i64 0, .bool false, .int .i64 0, .string ⟨#[]⟩, .slice none 0 0, .slice none 0 0] 25)) fun e w' => (∃ c, e = .returned (.iface 31 (.int .i64 c)) ∧ Hid (Bad x c) ∧ CpAt w #[.int .i64 k, .bool b, .int .i64 n, .string t, s1, s2] w') ∨ (e = .returned .nilIface ∧ Hid (Good x) ∧ CpAt w #[.int .i64 k, .bool b, .int .i64 n, .string t, s1, s2] w') := by
    refine (k38 _ m0.b).mono ?_
    rintro e w' ⟨h1, h2⟩
    have m1 := m0.keep (h2.mono (by simp))
    rcases rf_two h1 with ⟨c, h3, h4⟩ | ⟨h3, h4⟩
    · exact .inl ⟨c, h4, h3, m1⟩
    · exact .inr ⟨h4, h3, m1⟩
  clear k38 m0
  go_enter Tryz.func16, Tryz.ntmps16
  go_wp2_with (first
    | (go_at_call 38; refine q38.mono ?_; rintro e w1 (⟨c, rfl, HB, m1⟩ | ⟨rfl, HB, m1⟩); all_goals (obtain ⟨y0, y1, y2, y3, y4, y5⟩ := box6 m1.v; obtain ⟨z0, z1, z2, z3, z4, z5⟩ := box6 m1.z; have f0 := box_fz m1.z 0; have f1 := box_fz m1.z 1; have f2 := box_fz m1.z 2; have f3 := box_fz m1.z 3; have f4 := box_fz m1.z 4; have f5 := box_fz m1.z 5))
    | (go_at_call 39; refine (k39 _ m1.b HB.out).mono ?_; rintro e w2 ⟨⟨kk, bb, nn, tt, r1, s3, u1, r2, s4, u2, rfl, hlx⟩, h2⟩; have m2 := m1.keep (h2.mono m1.s); obtain ⟨v0, v1, v2, v3, v4, v5⟩ := box6 m2.z; have g0 := box_fz m2.z 0; have g1 := box_fz m2.z 1; have g2 := box_fz m2.z 2; have g3 := box_fz m2.z 3; have g4 := box_fz m2.z 4; have g5 := box_fz m2.z 5))
  · refine bodyPost_ret (v := .tuple #[.agg #[.int .i64 0, .bool false, .int .i64 0, .string ⟨#[]⟩, .slice none 0 0, .slice none 0 0], .iface 31 (.int .i64 c)]) (by simp [results, Tryz.results16, go_sem, *]) rfl ⟨.inl ⟨c, HB.out, rfl⟩, ?_⟩
    exact (((((m1.b.setCell (p := ⟨w.heap.size + 1, 0, none⟩) (by simp) _).setCell (p := ⟨w.heap.size + 1, 1, none⟩) (by simp) _).setCell (p := ⟨w.heap.size + 1, 2, none⟩) (by simp) _).setCell (p := ⟨w.heap.size + 1, 3, none⟩) (by simp) _).setCell (p := ⟨w.heap.size + 1, 4, none⟩) (by simp) _).setCell (p := ⟨w.heap.size + 1, 5, none⟩) (by simp) _
  · refine bodyPost_ret (v := .tuple #[.agg #[.int .i64 kk, .bool bb, .int .i64 nn, .string tt, .slice r1 s3 u1, .slice r2 s4 u2], .nilIface]) (by simp [results, Tryz.results16, go_sem, *]) rfl ⟨.inr ⟨HB.out, _, rfl, ?_⟩, ?_⟩
    · have hs1 := m1.s
      refine hlx.conv (fun b hb hl => ⟨by omega, ?_⟩)
      rw [Below.heap_setCell _ _ _ _ (by simp; omega), Below.heap_setCell _ _ _ _ (by simp; omega), Below.heap_setCell _ _ _ _ (by simp; omega), Below.heap_setCell _ _ _ _ (by simp; omega), Below.heap_setCell _ _ _ _ (by simp; omega), Below.heap_setCell _ _ _ _ (by simp; omega)]
    · exact (((((m2.b.setCell (p := ⟨w.heap.size + 1, 0, none⟩) (by simp) _).setCell (p := ⟨w.heap.size + 1, 1, none⟩) (by simp) _).setCell (p := ⟨w.heap.size + 1, 2, none⟩) (by simp) _).setCell (p := ⟨w.heap.size + 1, 3, none⟩) (by simp) _).setCell (p := ⟨w.heap.size + 1, 4, none⟩) (by simp) _).setCell (p := ⟨w.heap.size + 1, 5, none⟩) (by simp) _
end Dc
end Go.Proofs.YtiakidomcjpdhaaGreatDoor
