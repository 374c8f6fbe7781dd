/- Where this program's slices.SortFunc stands among its functions and types, so that the library's own contract on it speaks of it (printed by the guide's tool lay-plain). What slices.SortFunc does with an object's fields: they are in the order of their names then. -/
import Derived.Shelf.SlSortCmp.NoneTotal
import Derived.Ground.SlsfProg
import Derived.Test.YtiakidomcjpdhaaGreatDoorProg
import Derived.Test.YtiakidomcjpdhaaGreatDoorG25
namespace Go.Proofs.YtiakidomcjpdhaaGreatDoor
open Go.Shelf
def sort61_ren : Go.Shelf.Ren := ⟨fun | 6 => 61 | 15 => 86 | 14 => 85 | 28 => 120 | 29 => 121 | 20 => 112 | 21 => 113 | 22 => 114 | 23 => 115 | 24 => 116 | 25 => 117 | 26 => 118 | 27 => 119 | 46 => 142 | 47 => 143 | 48 => 144 | 49 => 145 | 50 => 146 | 57 => 153 | n => n, fun | 22 => 23 | 24 => 54 | 25 => 91 | 3 => 3 | 39 => 114 | 0 => 0 | 53 => 150 | 55 => 131 | 4 => 4 | 46 => 143 | 45 => 142 | 50 => 147 | 5 => 5 | 9 => 9 | 66 => 164 | 70 => 168 | 76 => 176 | 77 => 138 | n => n, fun | n => n⟩
theorem sort61 : Go.Proofs.SlLaysF0.n6 Tryz.prog sort61_ren := {
  mixed := by kernel_rfl
  f6 := ⟨Tryz.f61.name, by decide, Tryz.func61.trans (congrArg some (by kernel_rfl))⟩
  f14 := ⟨Tryz.f85.name, by decide, Tryz.func85.trans (congrArg some (by kernel_rfl))⟩
  f15 := Tryz.func86.trans (congrArg some (by kernel_rfl))
  f20 := ⟨Tryz.f112.name, by decide, Tryz.func112.trans (congrArg some (by kernel_rfl))⟩
  f21 := ⟨Tryz.f113.name, by decide, Tryz.func113.trans (congrArg some (by kernel_rfl))⟩
  f22 := ⟨Tryz.f114.name, by decide, Tryz.func114.trans (congrArg some (by kernel_rfl))⟩
  f23 := ⟨Tryz.f115.name, by decide, Tryz.func115.trans (congrArg some (by kernel_rfl))⟩
  f24 := ⟨Tryz.f116.name, by decide, Tryz.func116.trans (congrArg some (by kernel_rfl))⟩
  f25 := ⟨Tryz.f117.name, by decide, Tryz.func117.trans (congrArg some (by kernel_rfl))⟩
  f26 := ⟨Tryz.f118.name, by decide, Tryz.func118.trans (congrArg some (by kernel_rfl))⟩
  f27 := ⟨Tryz.f119.name, by decide, Tryz.func119.trans (congrArg some (by kernel_rfl))⟩
  f28 := Tryz.func120.trans (congrArg some (by kernel_rfl))
  f29 := Tryz.func121.trans (congrArg some (by kernel_rfl))
  f46 := ⟨Tryz.f142.name, by decide, Tryz.func142.trans (congrArg some (by kernel_rfl))⟩
  f47 := Tryz.func143.trans (congrArg some (by kernel_rfl))
  f48 := Tryz.func144.trans (congrArg some (by kernel_rfl))
  f49 := ⟨Tryz.f145.name, by decide, Tryz.func145.trans (congrArg some (by kernel_rfl))⟩
  f50 := ⟨Tryz.f146.name, by decide, Tryz.func146.trans (congrArg some (by kernel_rfl))⟩
  f57 := ⟨Tryz.f153.name, by decide, Tryz.func153.trans (congrArg some (by kernel_rfl))⟩
  t0 := Tryz.underlying0
  a0 := Tryz.isAgg0
  z0 := Tryz.sizeOf0
  v0 := Tryz.zeroValue0
  t3 := Tryz.underlying3
  a3 := Tryz.isAgg3
  z3 := Tryz.sizeOf3
  v3 := Tryz.zeroValue3
  t4 := Tryz.underlying4
  a4 := Tryz.isAgg4
  z4 := Tryz.sizeOf4
  v4 := Tryz.zeroValue4
  t5 := Tryz.underlying5
  a5 := Tryz.isAgg5
  z5 := Tryz.sizeOf5
  v5 := Tryz.zeroValue5
  t9 := Tryz.underlying9
  a9 := Tryz.isAgg9
  z9 := Tryz.sizeOf9
  v9 := Tryz.zeroValue9
  t22 := Tryz.underlying23
  a22 := Tryz.isAgg23
  z22 := Tryz.sizeOf23
  v22 := Tryz.zeroValue23
  t25 := Tryz.underlying91
  a25 := Tryz.isAgg91
  z25 := Tryz.sizeOf91
  v25 := Tryz.zeroValue91
  t39 := Tryz.underlying114
  a39 := Tryz.isAgg114
  z39 := Tryz.sizeOf114
  v39 := Tryz.zeroValue114
  t45 := Tryz.underlying142
  a45 := Tryz.isAgg142
  z45 := Tryz.sizeOf142
  v45 := Tryz.zeroValue142
  t46 := Tryz.underlying143
  a46 := Tryz.isAgg143
  z46 := Tryz.sizeOf143
  v46 := Tryz.zeroValue143
  t50 := Tryz.underlying147
  a50 := Tryz.isAgg147
  z50 := Tryz.sizeOf147
  v50 := Tryz.zeroValue147
  t53 := Tryz.underlying150
  a53 := Tryz.isAgg150
  z53 := Tryz.sizeOf150
  v53 := Tryz.zeroValue150
  t55 := Tryz.underlying131
  a55 := Tryz.isAgg131
  z55 := Tryz.sizeOf131
  v55 := Tryz.zeroValue131
  t66 := Tryz.underlying164
  a66 := Tryz.isAgg164
  z66 := Tryz.sizeOf164
  v66 := Tryz.zeroValue164
  t70 := Tryz.underlying168
  a70 := Tryz.isAgg168
  z70 := Tryz.sizeOf168
  v70 := Tryz.zeroValue168
  t76 := Tryz.underlying176
  a76 := Tryz.isAgg176
  z76 := Tryz.sizeOf176
  v76 := Tryz.zeroValue176
  t77 := Tryz.underlying138
  a77 := Tryz.isAgg138
  z77 := Tryz.sizeOf138
  v77 := Tryz.zeroValue138 }
end Go.Proofs.YtiakidomcjpdhaaGreatDoor

namespace Go.Proofs.YtiakidomcjpdhaaGreatDoor
open Go.RowKit
namespace Dc
open Go.Sort Go.Lib EncW

/-- A field, with the cells that it lies in. -/
structure FdC where
  nm : ByteArray
  gv : GV
  k : Int
  b : Bool
  n : Int
  t : ByteArray
  a1 : Option Addr
  l1 : Nat
  c1 : Nat
  a2 : Option Addr
  l2 : Nat
  c2 : Nat
def FdC.cells (p : FdC) : List Value := [.string p.nm, .int .i64 p.k, .bool p.b, .int .i64 p.n, .string p.t, .slice p.a1 p.l1 p.c1, .slice p.a2 p.l2 p.c2]
def FdC.fd (p : FdC) : ByteArray × GV := (p.nm, p.gv)
theorem laidF_open {w : World} {ok : Nat → Prop} : ∀ {F : List (ByteArray × GV)} {zs : List Value}, LaidF w ok F zs → ∃ D : List FdC, D.map FdC.fd = F ∧ D.flatMap FdC.cells = zs ∧ ∀ p ∈ D, LaidP w ok p.fd p.cells
  | [], zs, h => by
    unfold LaidF at h
    exact ⟨[], rfl, h.symm, fun p hp => by cases hp⟩
  | (nm, x) :: F, zs, h => by
    unfold LaidF at h
    obtain ⟨a, r, rfl, h1, h2⟩ := h
    obtain ⟨D, rfl, rfl, h3⟩ := laidF_open h2
    have h1' := h1
    unfold LaidP at h1
    obtain ⟨a, rfl, h4⟩ := h1
    cases hx : x with
    | mk k b n t l f =>
    rw [hx] at h4
    obtain ⟨p1, q1, p2, q2, _, _, rfl, -⟩ := h4.form
    refine ⟨⟨nm, x, k, b, n, t, p1, l.length, q1, p2, f.length, q2⟩ :: D, by rw [← hx]; rfl, rfl, ?_⟩
    intro p hp
    rcases List.mem_cons.1 hp with rfl | hp
    · exact h1'
    · exact h3 p hp
theorem laidF_shut {w : World} {ok : Nat → Prop} : ∀ D : List FdC, (∀ p ∈ D, LaidP w ok p.fd p.cells) → LaidF w ok (D.map FdC.fd) (D.flatMap FdC.cells)
  | [], _ => by
    show LaidF w ok [] []
    unfold LaidF
    rfl
  | p :: D, h => by
    show LaidF w ok (p.fd :: D.map FdC.fd) (p.cells ++ D.flatMap FdC.cells)
    unfold LaidF
    exact ⟨_, _, rfl, h p (List.mem_cons_self ..), laidF_shut D (fun q hq => h q (List.mem_cons_of_mem _ hq))⟩
theorem flat_get {α : Type} [Inhabited α] (enc : α → List Value) (k : Nat) (k0 : 0 < k) (hk : ∀ x, (enc x).length = k) : ∀ (L : List α) (t : Nat), t < L.length * k → (L.flatMap enc)[t]? = some ((enc L.toArray[t / k]!)[t % k]!)
  | [], t, h => by simp at h
  | x :: L, t, h => by
    rw [List.flatMap_cons]
    by_cases ht : t < k
    · rw [List.getElem?_append_left (by rw [hk]; exact ht), Nat.div_eq_of_lt ht, Nat.mod_eq_of_lt ht]
      have : t < (enc x).length := by rw [hk]; exact ht
      simp [List.getElem?_eq_getElem this, getElem!_pos (enc x) t this]
    · have ht' : k ≤ t := by omega
      rw [List.getElem?_append_right (by rw [hk]; exact ht'), hk]
      have hl : t - k < L.length * k := by
        rw [List.length_cons, Nat.add_mul] at h
        omega
      rw [flat_get enc k k0 hk L (t - k) hl]
      have e1 : t / k = (t - k) / k + 1 := by
        rw [Nat.div_eq_sub_div k0 ht']
      have e2 : t % k = (t - k) % k := Nat.mod_eq_sub_mod ht'
      rw [e1, e2]
      simp
/-- The order of two fields. -/
def leF (a b : FdC) : Bool := decide (cmpL (ptsAt a.nm 0) (ptsAt b.nm 0) ≤ 0)
theorem srt_map (D : List FdC) : (D.mergeSort leF).map FdC.fd = srt (D.map FdC.fd) := by
  unfold srt
  exact List.map_mergeSort (fun a _ b _ => rfl)
theorem pts_inj {a b : ByteArray} (ha : badAt a 0 = -1) (hb : badAt b 0 = -1) (h : ptsAt a 0 = ptsAt b 0) : a = b := by
  apply bytes_ext
  rw [(sound_flat a ha).2, (sound_flat b hb).2, h]
theorem lt62 {α : Type} (h : α → List Nat) (x y : α) : ltOf (fun x y => cmpL (h x) (h y)) x y = decide (cmpL (h x) (h y) < 0) := rfl
theorem swo62 {α : Type} (h : α → List Nat) : SWO (ltOf fun x y => cmpL (h x) (h y)) := {
  irrefl := fun x => by rw [lt62, cmpL_same]; rfl
  trans := fun x y z h1 h2 => by
    rw [lt62, decide_eq_true_eq] at *
    exact (cmpL_trans _ _ _ (by omega) (by omega)).2 (.inl h1)
  ntrans := fun x y z h1 h2 => by
    rw [lt62, decide_eq_false_iff_not] at *
    have a1 := cmpL_neg (h x) (h y)
    have a2 := cmpL_neg (h y) (h z)
    have a3 := cmpL_neg (h x) (h z)
    have := (cmpL_trans (h z) (h y) (h x) (by omega) (by omega)).1
    omega }
theorem sortWorld_heap {α : Type} [Inhabited α] (enc : α → List Value) (k : Nat) (w : World) (g off m : Nat) (dk : Array α) (os : Array Obj) (b : Nat) (hb : b < w.heap.size) (hne : b ≠ g) : (sortWorldK enc k w g off m dk os).heap[b]? = w.heap[b]? := by
  have hne' : ¬ g = b := fun e => hne e.symm
  simp [sortWorldK, grow, putRowK, putRow, mapBlock, Array.getElem?_append, Array.getElem_modify, hb, hne']
theorem sortWorld_fr {α : Type} [Inhabited α] (enc : α → List Value) (k : Nat) (w : World) (g off m : Nat) (dk : Array α) (os : Array Obj) : Fr (fun k => k = g) w (sortWorldK enc k w g off m dk os) :=
  ⟨rfl, rfl, rfl, by simp [sortWorldK, grow, putRowK, putRow, mapBlock], fun b hb hne => sortWorld_heap enc k w g off m dk os b hb hne⟩
theorem sort_any (D : List FdC) (hne : D ≠ []) (hs : ∀ p ∈ D, p.nm.size ≤ 17592186044416 ∧ badAt p.nm 0 = -1) (hd : ∀ p ∈ D, ∀ q ∈ D, p.nm = q.nm → p = q) (hl : D.length ≤ 2000000) (w : World) (hT : Tabs w) (g cap : Nat) (hg : 3 ≤ g) (hgl : g < w.heap.size) (hH : ∀ t, t < D.length * 7 → w.cell? ⟨g, 0 + t, none⟩ = (D.flatMap FdC.cells)[t]? ∧ w.frozen? ⟨g, 0 + t, none⟩ = false) :
    Calls Tryz.prog 61 #[.slice (some ⟨g, 0, none⟩) D.length cap, .func (.func 62) #[] #[]] w fun e w' => e = .returned (.tuple #[]) ∧ (∀ t, t < D.length * 7 → w'.cell? ⟨g, 0 + t, none⟩ = ((D.mergeSort leF).flatMap FdC.cells)[t]? ∧ w'.frozen? ⟨g, 0 + t, none⟩ = false) ∧ Fr (fun k => k = g) w w' := by
  obtain ⟨p0, hp0⟩ := List.exists_mem_of_ne_nil D hne
  letI : Inhabited { p : FdC // p ∈ D } := ⟨⟨p0, hp0⟩⟩
  have hsz : D.attach.toArray.size = D.length := by simp
  have hk : ∀ x : { p : FdC // p ∈ D }, x.1.cells.length = 7 := fun _ => rfl
  have hflat : ∀ L : List { p : FdC // p ∈ D }, L.flatMap (fun x => x.1.cells) = (L.map (·.1)).flatMap FdC.cells := fun L => by rw [List.flatMap_map]
  have hcmp : CmpLays Tryz.prog 62 #[] (fun x : { p : FdC // p ∈ D } => x.1.cells) 7 (fun x y => cmpL (ptsAt x.1.nm 0) (ptsAt y.1.nm 0)) g 0 D.attach.toArray.size w := by
    intro m os dk _ x y
    refine closure62 _ _ _ _ _ _ _ _ _ _ _ _ _ _ _ _ _ _ _ _ _ _ _ ?_ (hs _ x.2).1 (hs _ y.2).1 (hs _ x.2).2 (hs _ y.2).2
    have := hT.lt
    exact hT.of (sortWorld_heap _ _ _ _ _ _ _ _ _ (by omega) (by omega)) (sortWorld_heap _ _ _ _ _ _ _ _ _ (by omega) (by omega))
  have hH' : HoldsK (fun x : { p : FdC // p ∈ D } => x.1.cells) 7 w g 0 D.attach.toArray := by
    intro t ht
    have ht' : t < D.length * 7 := by simpa using ht
    refine ⟨?_, (hH t ht').2⟩
    rw [(hH t ht').1, id, get_flatK _ _ _ t (by simpa using ht')]
    have e := flat_get (fun x : { p : FdC // p ∈ D } => x.1.cells) 7 (by decide) hk D.attach t (by simpa using ht')
    rw [hflat, List.attach_map_subtype_val] at e
    exact e
  have hcon := AnyQ.slices_SortFunc_total sort61 7 Tryz.isAgg54 Tryz.sizeOf54 (fun x : { p : FdC // p ∈ D } => x.1.cells) hk (fun x v hv => by simp [FdC.cells] at hv; rcases hv with rfl | rfl | rfl | rfl | rfl | rfl | rfl <;> rfl) (fun x y => cmpL (ptsAt x.1.nm 0) (ptsAt y.1.nm 0)) (swo62 fun x : { p : FdC // p ∈ D } => ptsAt x.1.nm 0) 62 #[] g 0 cap D.attach.toArray w (enters_of Tryz.func62 (by kernel_rfl) rfl) hcmp hH' hgl (by rw [hsz]; omega) (fun x y h1 h2 => by
    rw [lt62 (fun x : { p : FdC // p ∈ D } => ptsAt x.1.nm 0), decide_eq_false_iff_not] at h1 h2
    have h3 := cmpL_neg (ptsAt x.1.nm 0) (ptsAt y.1.nm 0)
    exact Subtype.ext (hd _ x.2 _ y.2 (pts_inj (hs _ x.2).2 (hs _ y.2).2 (cmpL_zero _ _ (by omega)))))
  rw [hsz] at hcon
  refine Calls.mono hcon ?_
  rintro e w' ⟨rfl, n, os, rfl⟩
  refine ⟨rfl, ?_, sortWorld_fr _ _ _ _ _ _ _ _⟩
  intro t ht
  have hms : (D.attach.mergeSort fun x y => !(ltOf fun x y : { p : FdC // p ∈ D } => cmpL (ptsAt x.1.nm 0) (ptsAt y.1.nm 0)) y x).map (·.1) = D.mergeSort leF := by
    rw [List.map_mergeSort (s := leF), List.attach_map_subtype_val]
    intro a _ b _
    have h3 := cmpL_neg (ptsAt a.1.nm 0) (ptsAt b.1.nm 0)
    rw [lt62 (fun x : { p : FdC // p ∈ D } => ptsAt x.1.nm 0), Bool.eq_iff_iff]
    unfold leF
    simp only [Bool.not_eq_true', decide_eq_false_iff_not, decide_eq_true_eq]
    omega
  have h9 := holdsK_sortWorldK_c (fun x : { p : FdC // p ∈ D } => x.1.cells) 7 w g 0 D.attach.toArray (D.attach.toArray.toList.mergeSort fun x y => !(ltOf fun x y : { p : FdC // p ∈ D } => cmpL (ptsAt x.1.nm 0) (ptsAt y.1.nm 0)) y x).toArray n os hH' hgl (by simp)
  have h8 := (h9 t (by simpa using ht)).1
  refine ⟨?_, (h9 t (by simpa using ht)).2⟩
  rw [h8, id, get_flatK _ _ _ t (by simpa using ht)]
  have e := flat_get (fun x : { p : FdC // p ∈ D } => x.1.cells) 7 (by decide) hk (D.attach.mergeSort fun x y => !(ltOf fun x y : { p : FdC // p ∈ D } => cmpL (ptsAt x.1.nm 0) (ptsAt y.1.nm 0)) y x) t (by simpa using ht)
  rw [hflat, hms] at e
  exact e.symm
end Dc
end Go.Proofs.YtiakidomcjpdhaaGreatDoor
