/- A disk by what it holds: a model, and the disk's calls told by it. Small things: a slice that is written out, numbers of a disk, two errors held together. -/
import Derived.Test.YtcinjdaanhpbjaaGreatXac
namespace Go.Proofs.YtcinjdaanhpbjaaGreat
open Go.RowKit
namespace Dk
open Bw Rg

/-- What a file holds: its name, its bytes, how many of them are synced. -/
abbrev Fl := ByteArray × List UInt8 × Nat
def FR.ab (f : FR) : Fl := (f.nm, f.bs, f.sy)
/-- What a disk holds. -/
structure Ab where
  room : Int
  on : Bool
  bud : Int
  st : Int
  L : List Fl
def usedA (L : List Fl) : Nat := (L.map fun x => x.2.1.length).sum
theorem used_ab (fs : List FR) : usedA (fs.map FR.ab) = used fs := by
  unfold usedA used
  rw [List.map_map]
  rfl
/-- An error by its number; 0: none. -/
def codeV (n : Int) : Value := if n = 0 then .nilIface else code n
/-- A step: is it done, and what is left. -/
def stepA (a : Ab) : Int × Ab := if a.bud = 0 then (11, { a with on := false }) else (0, { a with bud := less a.bud, st := wrap64 (a.st + 1) })
def putA (s : ByteArray) (ns : List UInt8) : List Fl → List Fl
  | [] => [(s, ns, 0)]
  | x :: r => if x.1 = s then (x.1, x.2.1 ++ ns, x.2.2) :: r else x :: putA s ns r
def findA (s : ByteArray) (L : List Fl) : Option Fl := L.find? fun x => decide (x.1 = s)
def syncL (s : ByteArray) (L : List Fl) : List Fl := L.map fun x => if x.1 = s then (x.1, x.2.1, x.2.1.length) else x
def keptA (keep : Int) (x : Fl) : Nat := x.2.2 + (max keep 0).toNat % (x.2.1.length - x.2.2 + 1)
def tornL (keep : Int) (L : List Fl) : List Fl := L.map fun x => (x.1, x.2.1.take (keptA keep x), keptA keep x)
def appendA (a : Ab) (s : ByteArray) (ns : List UInt8) : Int × Ab :=
  if isNm s = false then (1, a) else if a.on = false then (11, a) else if a.room - (usedA a.L : Int) < (ns.length : Int) then (12, a)
  else ((stepA a).1, { (stepA a).2 with L := putA s ns a.L })
def syncA (a : Ab) (s : ByteArray) : Int × Ab :=
  if a.on = false then (11, a) else if (findA s a.L).isNone then (9, a) else ((stepA a).1, { (stepA a).2 with L := if (stepA a).1 = 0 then syncL s a.L else a.L })
def powerA (a : Ab) (keep : Int) : Ab := { a with on := true, bud := -1, L := if a.on then a.L else tornL keep a.L }
/-- Its numbers are such as a disk's are. -/
structure Ok (a : Ab) : Prop where
  full : (usedA a.L : Int) ≤ a.room
  room : a.room ≤ 9223372036854775807
  lo : -1 ≤ a.bud
  hi : a.bud ≤ 9223372036854775807
  many : a.L.length < 9223372036854775807
  big : usedA a.L ≤ 140737488355328
/-- A disk in the block db, all of it from the mark on, holds this. -/
def DiskIs (base : Nat) (w : World) (db : Nat) (a : Ab) : Prop :=
  ∃ d, DiskAt w d ∧ d.db = db ∧ d.room = a.room ∧ d.on = a.on ∧ d.bud = a.bud ∧ d.st = a.st ∧ d.fs.map FR.ab = a.L ∧ ∀ k ∈ d.foot, base ≤ k
section
variable {base db : Nat} {w w' : World} {a : Ab}
theorem DiskIs.below (h : DiskIs base w db a) (hb : Below w.heap.size w w') : DiskIs base w' db a := by
  obtain ⟨d, h1, h2⟩ := h
  exact ⟨d, h1.below hb, h2⟩
theorem fr_below {d : Ds} (h : ∀ k ∈ d.foot, base ≤ k) (hs : base ≤ w.heap.size) (f : Fr (Of d) w w') : Below base w w' := f.below hs (fun k hk hc => by have := h k hc; omega)
theorem grew_base {d d' : Ds} (h : ∀ k ∈ d.foot, base ≤ k) (hs : base ≤ w.heap.size) (g : Grew d d' w) : ∀ k ∈ d'.foot, base ≤ k := fun k hk => by
  rcases g k hk with h1 | h1
  · exact h k h1
  · omega
theorem DiskIs.lt (h : DiskIs base w db a) : base ≤ w.heap.size := by
  obtain ⟨d, h1, _, _, _, _, _, _, h2⟩ := h
  have e : d.db ∈ d.foot := mem_foot.2 (.inl rfl)
  have h3 := h1.lt _ e
  have h4 := h2 _ e
  omega
end
theorem putA_new {s : ByteArray} {ns : List UInt8} : ∀ {L : List Fl}, (∀ x ∈ L, x.1 ≠ s) → putA s ns L = L ++ [(s, ns, 0)]
  | [], _ => rfl
  | x :: L, h => by
    rw [putA, if_neg (h x (by simp)), putA_new (fun y hy => h y (List.mem_cons_of_mem _ hy))]
    rfl
theorem putA_mid {s : ByteArray} {ns : List UInt8} {x : Fl} {L2 : List Fl} (hx : x.1 = s) : ∀ {L1 : List Fl}, (∀ y ∈ L1, y.1 ≠ s) → putA s ns (L1 ++ x :: L2) = L1 ++ (x.1, x.2.1 ++ ns, x.2.2) :: L2
  | [], _ => by rw [List.nil_append, putA, if_pos hx]; rfl
  | y :: L1, h => by
    rw [List.cons_append, putA, if_neg (h y (by simp)), putA_mid hx (fun z hz => h z (List.mem_cons_of_mem _ hz))]
    rfl
theorem mid_names {l1 l2 : List FR} {f : FR} (h : ((l1 ++ f :: l2).map FR.nm).Nodup) : (∀ g ∈ l1, g.nm ≠ f.nm) ∧ ∀ g ∈ l2, g.nm ≠ f.nm := by
  rw [List.map_append, List.map_cons, List.nodup_append, List.nodup_cons] at h
  obtain ⟨_, ⟨h1, _⟩, h2⟩ := h
  refine ⟨fun g hg e => h2 g.nm (List.mem_map_of_mem hg) f.nm (by simp) e, fun g hg e => h1 (e ▸ List.mem_map_of_mem hg)⟩
theorem has_put {s : ByteArray} {fs l1 l2 : List FR} {f : FR} {v : Value} {ns : List UInt8} (h : Has s fs l1 f l2) (hn : (fs.map FR.nm).Nodup) : (l1 ++ f.more v ns :: l2).map FR.ab = putA s ns (fs.map FR.ab) := by
  obtain ⟨rfl, e | ⟨h1, rfl, rfl, h4, h5⟩⟩ := h
  · subst e
    have h1 := (mid_names hn).1
    rw [List.map_append, List.map_cons, List.map_append, List.map_cons, putA_mid (x := f.ab) (s := f.nm) rfl]
    · rfl
    · intro y hy
      obtain ⟨g, hg, rfl⟩ := List.mem_map.1 hy
      exact h1 g hg
  · rw [putA_new, List.map_append, List.map_cons]
    · simp [FR.ab, FR.more, h4, h5]
    · intro y hy
      obtain ⟨g, hg, rfl⟩ := List.mem_map.1 hy
      exact h1 g hg
section
variable {base db : Nat} {w w' : World} {a : Ab}
theorem newD (n : Int) (w : World) (h : 0 ≤ n) : Calls Tryz.prog 26 #[.int .i64 n] w fun e w' => e = .returned (.tuple #[.pointer (some ⟨w.heap.size + 1, 0, none⟩), .nilIface]) ∧ DiskIs w.heap.size w' (w.heap.size + 1) ⟨n, true, -1, 0, []⟩ ∧ Below w.heap.size w w' := by
  refine (new_ok n w h).mono ?_
  rintro e w' ⟨rfl, hd, hb⟩
  refine ⟨rfl, ⟨_, hd, rfl, rfl, rfl, rfl, rfl, rfl, fun k hk => ?_⟩, hb⟩
  simp [fresh, Ds.foot] at hk
  omega
theorem cutD (h : DiskIs base w db a) (n : Int) (hn : 0 ≤ n) (ho : a.on = true) : Calls Tryz.prog 29 #[.pointer (some ⟨db, 0, none⟩), .int .i64 n] w fun e w' => e = .returned .nilIface ∧ DiskIs base w' db { a with bud := n } ∧ Below base w w' := by
  have hlt := h.lt
  obtain ⟨d, h1, rfl, h2, h3, h4, h5, h6, h7⟩ := h
  refine (cut_ok w d n h1 hn).mono ?_
  rintro e w' ⟨rfl, hd, hf⟩
  rw [h3, ho, if_pos rfl] at hd
  exact ⟨rfl, ⟨_, hd, rfl, h2, ho.symm, rfl, h5, h6, h7⟩, fr_below h7 hlt hf⟩
theorem stepD (_h : DiskIs base w db a) (hok : Ok a) {d : Ds} (hd : d.db = db ∧ d.room = a.room ∧ d.on = a.on ∧ d.bud = a.bud ∧ d.st = a.st ∧ d.fs.map FR.ab = a.L) : ∀ W, DiskAt W d → Calls Tryz.prog 63 #[.pointer (some ⟨d.db, 0, none⟩)] W fun e w' => e = .returned (codeV (stepA a).1) ∧ DiskAt w' { d with on := (stepA a).2.on, bud := (stepA a).2.bud, st := (stepA a).2.st } ∧ Fr (fun k => k = d.db) W w' := by
  intro W hW
  obtain ⟨h1, h2, h3, h4, h5, h6⟩ := hd
  by_cases hb : a.bud = 0
  · have e : stepA a = (11, { a with on := false }) := if_pos hb
    rw [e]
    refine (step_cut W d hW (h4.trans hb)).mono ?_
    rintro e w' ⟨rfl, hx, hf⟩
    refine ⟨rfl, ?_, hf⟩
    rw [← h4, ← h5]
    exact hx
  · have e : stepA a = (0, { a with bud := less a.bud, st := wrap64 (a.st + 1) }) := if_neg hb
    rw [e]
    refine (step_done W d hW (h4 ▸ hb) (h4 ▸ hok.lo) (h4 ▸ hok.hi)).mono ?_
    rintro e w' ⟨rfl, hx, hf⟩
    refine ⟨rfl, ?_, hf⟩
    rw [← h4, ← h5, ← h3]
    exact hx
theorem appendD {w0 : World} (h0 : DiskIs base w0 db a) (hbw : Below w0.heap.size w0 w) (hok : Ok a) (s : ByteArray) (b : Value) (ns : List UInt8) (hs : s.size ≤ 140737488355328) (hb : SlM w b ns) (hap : ∀ x l c, b = .slice (some x) l c → 0 < l → x.block < base ∨ w0.heap.size ≤ x.block) (hbig : usedA a.L + ns.length ≤ 140737488355328) :
    Calls Tryz.prog 27 #[.pointer (some ⟨db, 0, none⟩), .string s, b] w fun e w' => e = .returned (codeV (appendA a s ns).1) ∧ DiskIs base w' db (appendA a s ns).2 ∧ Below base w w' := by
  have h' := h0.below hbw
  have hlt := h'.lt
  obtain ⟨d, h01, rfl, h2, h3, h4, h5, h6, h7⟩ := h0
  have h1 := h01.below hbw
  have hu : used d.fs = usedA a.L := by rw [← h6, used_ab]
  by_cases hn : isNm s = true
  · by_cases ho : a.on = true
    · by_cases hr : a.room - (usedA a.L : Int) < (ns.length : Int)
      · have e : appendA a s ns = (12, a) := by simp [appendA, hn, ho, hr]
        rw [e]
        refine (append_full w d s b ns h1 hs hn (h3.trans ho) hb (by rw [hu, h2]; exact hok.full) (h2 ▸ hok.room) (by rw [hu, h2]; exact hr) (by omega)).mono ?_
        rintro e w' ⟨rfl, hb'⟩
        exact ⟨rfl, h'.below hb', hb'.mono hlt⟩
      · have e : appendA a s ns = ((stepA a).1, { (stepA a).2 with L := putA s ns a.L }) := by simp [appendA, hn, ho, hr]
        rw [e]
        refine (append_ok w d (stepA a).2.on (stepA a).2.bud (stepA a).2.st s b (codeV (stepA a).1) ns h1 hn (h3.trans ho) hb (fun x l c e hl hc => ?_) ?_ (by rw [hu, h2]; exact hok.full) (h2 ▸ hok.room) (by rw [hu, h2]; omega) (by rw [hu]; exact hbig) (stepD h' hok ⟨rfl, h2, h3, h4, h5, h6⟩)).mono ?_
        · have := hap x l c e hl
          have := h7 _ hc
          have := h01.lt _ hc
          omega
        · have := hok.many
          rw [← h6, List.length_map] at this
          exact this
        · rintro e w' ⟨l1, f, l2, v', rfl, hd, hh, hf, hg⟩
          have hst : (stepA a).2.room = a.room := by unfold stepA; split <;> rfl
          refine ⟨rfl, ⟨_, hd, rfl, h2.trans hst.symm, rfl, rfl, rfl, ?_, grew_base h7 hlt hg⟩, fr_below h7 hlt hf⟩
          rw [has_put hh h1.names, h6]
    · have ho' : a.on = false := by simpa using ho
      have e : appendA a s ns = (11, a) := by simp [appendA, hn, ho']
      rw [e]
      refine (append_off w d s b h1 hs hn (h3.trans ho')).mono ?_
      rintro e w' ⟨rfl, rfl⟩
      exact ⟨rfl, h', Below.refl _ _⟩
  · have hn' : isNm s = false := by simpa using hn
    have e : appendA a s ns = (1, a) := by simp [appendA, hn']
    rw [e]
    refine (append_bad w d s b hs hn').mono ?_
    rintro e w' ⟨rfl, rfl⟩
    exact ⟨rfl, h', Below.refl _ _⟩
theorem findA_none {s : ByteArray} {fs : List FR} : (findA s (fs.map FR.ab)).isNone = true ↔ ∀ f ∈ fs, f.nm ≠ s := by
  unfold findA
  rw [Option.isNone_iff_eq_none, List.find?_eq_none]
  constructor
  · intro h f hf
    have := h _ (List.mem_map_of_mem hf)
    have h3 : ¬ decide (f.ab.1 = s) = true := this
    rw [decide_eq_true_eq] at h3
    exact h3
  · intro h x hx
    obtain ⟨f, hf, rfl⟩ := List.mem_map.1 hx
    have h3 : ¬ f.ab.1 = s := h f hf
    show ¬ decide (f.ab.1 = s) = true
    rw [decide_eq_true_eq]
    exact h3
theorem syncL_mid {l1 l2 : List FR} {f : FR} (h : ((l1 ++ f :: l2).map FR.nm).Nodup) : (l1 ++ f.synced :: l2).map FR.ab = syncL f.nm ((l1 ++ f :: l2).map FR.ab) := by
  obtain ⟨h1, h2⟩ := mid_names h
  have key : ∀ l : List FR, (∀ g ∈ l, g.nm ≠ f.nm) → (l.map FR.ab).map (fun x : Fl => if x.1 = f.nm then (x.1, x.2.1, x.2.1.length) else x) = l.map FR.ab := fun l hl => by
    rw [List.map_map]
    apply List.map_congr_left
    intro g hg
    exact if_neg (c := g.ab.1 = f.nm) (hl g hg)
  unfold syncL
  rw [List.map_append, List.map_cons, List.map_append, List.map_cons, List.map_append, List.map_cons, key l1 h1, key l2 h2]
  simp [FR.ab, FR.synced]
theorem syncD (h : DiskIs base w db a) (hok : Ok a) (s : ByteArray) (hs : s.size ≤ 140737488355328) :
    Calls Tryz.prog 45 #[.pointer (some ⟨db, 0, none⟩), .string s] w fun e w' => e = .returned (codeV (syncA a s).1) ∧ DiskIs base w' db (syncA a s).2 ∧ Below base w w' := by
  have hlt := h.lt
  have h' := h
  obtain ⟨d, h1, rfl, h2, h3, h4, h5, h6, h7⟩ := h
  by_cases ho : a.on = true
  · by_cases hn : ∀ f ∈ d.fs, f.nm ≠ s
    · have e : syncA a s = (9, a) := by
        have := findA_none.2 hn
        rw [h6] at this
        simp [syncA, ho, this]
      rw [e]
      refine (sync_none w d s h1 (h3.trans ho) hn hs).mono ?_
      rintro e w' ⟨rfl, rfl⟩
      exact ⟨rfl, h', Below.refl _ _⟩
    · have hsome : (findA s a.L).isNone = false := by
        have : ¬ (findA s a.L).isNone = true := fun hc => hn (by rw [← h6] at hc; exact findA_none.1 hc)
        exact Bool.eq_false_iff.2 this
      have e : syncA a s = ((stepA a).1, { (stepA a).2 with L := if (stepA a).1 = 0 then syncL s a.L else a.L }) := by simp [syncA, ho, hsome]
      obtain ⟨l1, f, l2, e2, rfl⟩ := find_split hn
      have hm : f ∈ d.fs := by rw [e2]; simp
      rw [e]
      by_cases hb : a.bud = 0
      · have e3 : stepA a = (11, { a with on := false }) := if_pos hb
        rw [e3]
        refine (sync_cut w d f h1 (h3.trans ho) hm (h4.trans hb)).mono ?_
        rintro e w' ⟨rfl, hd, hf⟩
        exact ⟨rfl, ⟨_, hd, rfl, h2, rfl, h4, h5, h6, h7⟩, fr_below h7 hlt hf⟩
      · have e3 : stepA a = (0, { a with bud := less a.bud, st := wrap64 (a.st + 1) }) := if_neg hb
        rw [e3]
        refine (sync_done w d l1 l2 f h1 (h3.trans ho) e2 (h4 ▸ hb) (h4 ▸ hok.lo) (h4 ▸ hok.hi)).mono ?_
        rintro e w' ⟨rfl, hd, hf⟩
        refine ⟨rfl, ⟨_, hd, rfl, h2, h3, by show less d.bud = _; rw [h4], by show wrap64 (d.st + 1) = _; rw [h5], ?_, fun k hk => ?_⟩, fr_below h7 hlt hf⟩
        · have hnd := h1.names
          rw [e2] at hnd
          rw [syncL_mid hnd, ← e2, h6]
          rfl
        · rcases foot_swap (d := d) (f := f) (f' := f.synced) (n := base) rfl (fun k hk => .inl hk) k hk with h8 | h8
          · refine h7 k ?_
            have ed : ({ d with fs := l1 ++ f :: l2 } : Ds) = d := by rw [← e2]
            rw [ed] at h8
            exact h8
          · exact h8
  · have ho' : a.on = false := by simpa using ho
    have e : syncA a s = (11, a) := by simp [syncA, ho']
    rw [e]
    refine (sync_off w d s h1 (h3.trans ho')).mono ?_
    rintro e w' ⟨rfl, rfl⟩
    exact ⟨rfl, h', Below.refl _ _⟩
theorem tornL_of {keep : Int} : ∀ {fs gs : List FR}, Torn keep (fun _ => false) fs gs → gs.map FR.ab = tornL keep (fs.map FR.ab)
  | [], [], _ => rfl
  | f :: fs, g :: gs, h => by
    have ih := tornL_of h.2
    have h1 := h.1
    rw [if_neg (by simp)] at h1
    obtain ⟨v', rfl⟩ := h1
    unfold tornL at ih ⊢
    rw [List.map_cons, ih]
    rfl
  | [], _ :: _, h => h.elim
  | _ :: _, [], h => h.elim
theorem powerD (h : DiskIs base w db a) (hok : Ok a) (keep : Int) (hk1 : -9223372036854775808 ≤ keep) (hk2 : keep ≤ 9223372036854775807) :
    Calls Tryz.prog 30 #[.pointer (some ⟨db, 0, none⟩), .int .i64 keep] w fun e w' => e = .returned (.tuple #[]) ∧ DiskIs base w' db (powerA a keep) ∧ Below base w w' := by
  have hlt := h.lt
  obtain ⟨d, h1, rfl, h2, h3, h4, h5, h6, h7⟩ := h
  have hu : used d.fs = usedA a.L := by rw [← h6, used_ab]
  by_cases ho : a.on = true
  · have e : powerA a keep = { a with on := true, bud := -1 } := by simp [powerA, ho]
    rw [e]
    refine (power_on w d keep h1 (h3.trans ho)).mono ?_
    rintro e w' ⟨rfl, hd, hf⟩
    exact ⟨rfl, ⟨_, hd, rfl, h2, rfl, rfl, h5, h6, h7⟩, fr_below h7 hlt hf⟩
  · have ho' : a.on = false := by simpa using ho
    have e : powerA a keep = { a with on := true, bud := -1, L := tornL keep a.L } := by simp [powerA, ho']
    rw [e]
    refine (power_off w d keep h1 (h3.trans ho') (by rw [hu]; exact hok.big) hk1 hk2).mono ?_
    rintro e w' ⟨fs1, rfl, hd, ht, hf, hg⟩
    refine ⟨rfl, ⟨_, hd, rfl, h2, rfl, rfl, h5, ?_, grew_base h7 hlt hg⟩, fr_below h7 hlt hf⟩
    rw [tornL_of ht, h6]
theorem readD (h : DiskIs base w db a) (hok : Ok a) (s : ByteArray) (x : Fl) (ho : a.on = true) (hf : findA s a.L = some x) :
    Calls Tryz.prog 18 #[.pointer (some ⟨db, 0, none⟩), .string s] w fun e w' => ∃ v', e = .returned (.tuple #[v', .nilIface]) ∧ RowB w.heap.size w' v' x.2.1 ∧ Below w.heap.size w w' := by
  obtain ⟨d, h1, rfl, h2, h3, h4, h5, h6, h7⟩ := h
  have hu : used d.fs = usedA a.L := by rw [← h6, used_ab]
  unfold findA at hf
  have hmem := List.mem_of_find?_eq_some hf
  have hnm : x.1 = s := by simpa using List.find?_some hf
  rw [← h6] at hmem
  obtain ⟨f, hf', rfl⟩ := List.mem_map.1 hmem
  have hnm' : f.nm = s := hnm
  subst hnm'
  exact read_hit w d f h1 (h3.trans ho) hf' (by have := len_used hf'; have := hok.big; omega)
end
end Dk
end Go.Proofs.YtcinjdaanhpbjaaGreat

namespace Go.Proofs.YtcinjdaanhpbjaaGreat
open Go.RowKit
namespace Dk
open Bw Rg

/-- A slice that is written out. -/
theorem lit_slm (w : World) (bs : List UInt8) (h : bs.length ≤ 9223372036854775807) (_hp : 0 < bs.length) : SlM (w.alloc (.cells (Lib.byteCells bs).toArray 5)) (.slice (some ⟨w.heap.size, 0, none⟩) bs.length bs.length) bs := by
  refine .inr ⟨w.heap.size, 0, bs.length, rfl, Nat.le_refl _, h, fun j hj => ?_⟩
  have := cells_new w (Lib.byteCells bs) 5 j (.int .u8 (bs[j].toNat : Int)) (by simp [Lib.byteCells, hj])
  rw [add0] at this
  rw [Nat.zero_add]
  exact this
theorem ok (a : Ab) (h : decide ((usedA a.L : Int) ≤ a.room ∧ a.room ≤ 9223372036854775807 ∧ -1 ≤ a.bud ∧ a.bud ≤ 9223372036854775807 ∧ a.L.length < 9223372036854775807 ∧ usedA a.L ≤ 140737488355328) = true) : Ok a := by
  obtain ⟨h1, h2, h3, h4, h5, h6⟩ := of_decide_eq_true h
  exact ⟨h1, h2, h3, h4, h5, h6⟩
theorem comp29 : (Tryz.prog.info? 48).map (·.comparable) = some true := by kernel_rfl
theorem eq_err (a b : Int) (W : World) : (Op.equalIn 10000 38 (.iface 48 (.int .i64 a)) (.iface 48 (.int .i64 b))).run Tryz.prog W = .ok (a == b) W := by
  obtain ⟨i, hi, hc⟩ := Option.map_eq_some_iff.1 comp29
  rw [show (10000 : Nat) = 9999 + 1 from rfl, Op.equalIn]
  simp only [Sem.run_bind, run_underlying Tryz.underlying38, Result.andThen_ok]
  simp [typeInfo, hi, hc]
  rw [show (9999 : Nat) = 9998 + 1 from rfl]
  exact run_equalIn_int (P := Tryz.prog) W 9998 48 .i64 .i64 a b Tryz.underlying48
theorem bin_err (a b : Int) (W : World) : (binOp .eql 38 (.iface 48 (.int .i64 a)) (.iface 48 (.int .i64 b))).run Tryz.prog W = .ok (.bool (a == b)) W := by
  simp only [binOp]
  simp [Op.equal, Op.maxDepth, eq_err a b W]
end Dk
end Go.Proofs.YtcinjdaanhpbjaaGreat
