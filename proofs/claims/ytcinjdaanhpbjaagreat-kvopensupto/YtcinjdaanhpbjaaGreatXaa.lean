/- What the disk's small functions do: contracts, by walking their text. What isName, pick, Same, find and Used do: contracts, by walking their text. What Used does: a contract, by walking its text: a range over the map, in whatever order. -/
import Derived.Test.YtcinjdaanhpbjaaGreatDk
import Derived.Test.YtcinjdaanhpbjaaGreatLay
namespace Go.Proofs.YtcinjdaanhpbjaaGreat
open Go.RowKit
namespace Dk
open Bw

/-- An error by its number. -/
abbrev code (n : Int) : Value := .iface 48 (.int .i64 n)
/-- bytes.Clone. -/
theorem clone_any (u : Value) (bs : List UInt8) (w : World) (hu : SlM w u bs) (hlen : bs.length ≤ 140737488355328) :
    Calls Tryz.prog 52 #[u] w fun e w' => ∃ v', e = .returned v' ∧ RowB w.heap.size w' v' bs ∧ Below w.heap.size w w' := by
  have go : ∀ (a : Addr) (c : Nat), (∀ j (h : j < bs.length), w.cell? (a.add j) = some (.int .u8 (bs[j].toNat : Int))) → Calls Tryz.prog 52 #[.slice (some a) bs.length c] w fun e w' => ∃ v', e = .returned v' ∧ RowB w.heap.size w' v' bs ∧ Below w.heap.size w w' := by
    intro a c hc
    refine (bytes_Clone_at a bs.length c (bs.map fun b => (b.toNat : Int)) w (by simp) hlen (fun j hj => ?_)).mono ?_
    · rw [hc j hj]
      simp [hj]
    · rintro e w' ⟨v', rfl, hr, _, hb⟩
      refine ⟨v', rfl, ?_, hb⟩
      have e : (bs.map fun b => (b.toNat : Int)).map (Value.int .u8) = Lib.byteCells bs := by simp [Lib.byteCells]
      rw [e] at hr
      exact hr
  rcases hu with ⟨rfl, rfl | ⟨x, cap, rfl, _⟩⟩ | ⟨b, off, cap, rfl, h1, h2, hc⟩
  · refine (bytes_Clone_nil 0 0 w).mono ?_
    rintro e w' ⟨rfl, rfl⟩
    exact ⟨_, rfl, RowB.nil _ _, Below.refl _ _⟩
  · exact go x cap (fun j hj => by simp at hj)
  · exact go ⟨b, off, none⟩ cap (fun j hj => by rw [addO]; exact hc j hj)
/-- strings.Clone. -/
theorem sclone_any (s : ByteArray) (w : World) (hs : s.size ≤ 281474976710656) : Calls Tryz.prog 57 #[.string s] w fun e w' => e = .returned (.string s) ∧ Below w.heap.size w w' := by
  go_enter Tryz.func57, Tryz.ntmps57
  go_wp2_with (go_at_call 83; refine (stringslite_Clone s _ hs).mono ?_; rintro e w1 ⟨rfl, hb⟩)
  go_ret
  exact ⟨rfl, hb⟩

theorem new_neg (n : Int) (w : World) (h : n < 0) : Calls Tryz.prog 26 #[.int .i64 n] w fun e w' => e = .returned (.tuple #[.pointer none, code 1]) ∧ w' = w := by
  go_enter Tryz.func26, Tryz.ntmps26
  go_wp2
  go_ret2
  exact ⟨rfl, rfl⟩
/-- A new disk. -/
def fresh (w : World) (room : Int) : Ds := ⟨w.heap.size + 1, w.heap.size, room, true, -1, 0, []⟩
theorem map_new (w : World) : MapAt (w.alloc (.map #[] 0)) w.heap.size [] :=
  ⟨.map [], World.ownsMap_made _ _ _ _, rfl, fun _ => rfl, fun f hf => by simp at hf⟩
theorem new_ok (n : Int) (w : World) (h : 0 ≤ n) : Calls Tryz.prog 26 #[.int .i64 n] w fun e w' => e = .returned (.tuple #[.pointer (some ⟨w.heap.size + 1, 0, none⟩), .nilIface]) ∧ DiskAt w' (fresh w n) ∧ Below w.heap.size w w' := by
  have hn : ¬ n < 0 := by omega
  have hmm := @run_makeMap Tryz.prog
  go_enter Tryz.func26, Tryz.ntmps26
  go_wp2
  go_ret2
  refine ⟨rfl, ⟨?_, ?_, fun f hf => by simp [fresh] at hf, by simp [fresh, Ds.foot], by simp [fresh], fun f hf => by simp [fresh] at hf⟩, ?_⟩
  · have := heap_alloc_new (w.alloc (.map #[] 0)) (.cells #[.int .i64 n, .map (some w.heap.size), .bool true, .int .i64 (-1), .int .i64 0] 116)
    simpa [fresh] using this
  · exact (map_new w).kept (heap_alloc_old (w.alloc (.map #[] 0)) _ (by simp))
  · exact ((Below.refl _ _).alloc (Nat.le_refl _) _).alloc (by simp) _
theorem cut_neg (w : World) (d : Ds) (n : Int) (hn : n < 0) : Calls Tryz.prog 29 #[.pointer (some ⟨d.db, 0, none⟩), .int .i64 n] w fun e w' => e = .returned (code 1) ∧ w' = w := by
  go_enter Tryz.func29, Tryz.ntmps29
  go_wp2
  go_ret
  exact ⟨rfl, rfl⟩
theorem DiskAt.set2 {w : World} {d : Ds} (h : DiskAt w d) (b : Bool) : DiskAt (w.setCell ⟨d.db, 2, none⟩ (.bool b)) { d with on := b } := by
  refine h.own ?_ (Fr.setCell _ _ _ rfl)
  simp [World.setCell, Array.getElem?_modify, h.cells]
theorem DiskAt.set3 {w : World} {d : Ds} (h : DiskAt w d) (n : Int) : DiskAt (w.setCell ⟨d.db, 3, none⟩ (.int .i64 n)) { d with bud := n } := by
  refine h.own ?_ (Fr.setCell _ _ _ rfl)
  simp [World.setCell, Array.getElem?_modify, h.cells]
theorem DiskAt.set4 {w : World} {d : Ds} (h : DiskAt w d) (n : Int) : DiskAt (w.setCell ⟨d.db, 4, none⟩ (.int .i64 n)) { d with st := n } := by
  refine h.own ?_ (Fr.setCell _ _ _ rfl)
  simp [World.setCell, Array.getElem?_modify, h.cells]
/-- What a disk's call may turn: the disk's blocks. -/
abbrev Of (d : Ds) : Nat → Prop := fun k => k ∈ d.foot
theorem of_db (d : Ds) : Of d d.db := by simp [Of, Ds.foot]
theorem cut_ok (w : World) (d : Ds) (n : Int) (h : DiskAt w d) (hn : 0 ≤ n) : Calls Tryz.prog 29 #[.pointer (some ⟨d.db, 0, none⟩), .int .i64 n] w fun e w' => e = .returned .nilIface ∧ DiskAt w' { d with bud := if d.on then n else d.bud } ∧ Fr (Of d) w w' := by
  have hn' : ¬ n < 0 := by omega
  have c2 := h.c2
  have c3 := h.c3
  have z3 := h.fz 3
  by_cases ho : d.on = true
  · rw [ho] at c2 ⊢
    go_enter Tryz.func29, Tryz.ntmps29
    go_wp2
    go_ret
    refine ⟨rfl, ?_, Fr.setCell _ _ _ (of_db d)⟩
    have := h.set3 n
    rw [ho] at this
    exact this
  · have ho' : d.on = false := by simpa using ho
    rw [ho'] at c2 ⊢
    go_enter Tryz.func29, Tryz.ntmps29
    go_wp2
    go_ret
    refine ⟨rfl, ?_, Fr.refl _ _⟩
    rw [← ho']
    exact h
/-- A step at a budget of 0. -/
theorem step_cut (w : World) (d : Ds) (h : DiskAt w d) (hb : d.bud = 0) : Calls Tryz.prog 63 #[.pointer (some ⟨d.db, 0, none⟩)] w fun e w' => e = .returned (code 11) ∧ DiskAt w' { d with on := false } ∧ Fr (fun k => k = d.db) w w' := by
  have c2 := h.c2
  have c3 := h.c3
  have z2 := h.fz 2
  rw [hb] at c3
  go_enter Tryz.func63, Tryz.ntmps63
  go_wp2
  go_ret
  exact ⟨rfl, h.set2 false, Fr.setCell _ _ _ rfl⟩
/-- What a step leaves of a budget. -/
def less (b : Int) : Int := if b = -1 then -1 else b - 1
theorem step_done (w : World) (d : Ds) (h : DiskAt w d) (hb : d.bud ≠ 0) (hl : -1 ≤ d.bud) (hu : d.bud ≤ 9223372036854775807) : Calls Tryz.prog 63 #[.pointer (some ⟨d.db, 0, none⟩)] w fun e w' => e = .returned .nilIface ∧ DiskAt w' { d with bud := less d.bud, st := wrap64 (d.st + 1) } ∧ Fr (fun k => k = d.db) w w' := by
  have c3 := h.c3
  have z3 := h.fz 3
  have c4 := h.c4
  have z4 := h.fz 4
  have hb0 : (d.bud == 0) = false := by simpa using hb
  by_cases h1 : d.bud = -1
  · have h2 : less d.bud = d.bud := by unfold less; rw [if_pos h1, h1]
    have hb1 : (d.bud != -1) = false := by simp [h1]
    rw [h2]
    go_enter Tryz.func63, Tryz.ntmps63
    go_wp2
    go_ret
    exact ⟨rfl, h.set4 _, Fr.setCell _ _ _ rfl⟩
  · have h2 : less d.bud = d.bud - 1 := by unfold less; rw [if_neg h1]
    have hb1 : (d.bud != -1) = true := by simpa using h1
    rw [h2]
    go_enter Tryz.func63, Tryz.ntmps63
    go_wp2
    go_ret
    exact ⟨rfl, (h.set3 _).set4 _, (Fr.setCell (S := fun k => k = d.db) _ _ _ rfl).and (Fr.setCell (S := fun k => k = d.db) _ _ _ rfl) (fun _ _ h => h)⟩
end Dk
end Go.Proofs.YtcinjdaanhpbjaaGreat

namespace Go.Proofs.YtcinjdaanhpbjaaGreat
open Go.RowKit
namespace Dk
open Bw

/-- May a byte stand in a name? -/
def nb (c : Nat) : Bool := decide (97 ≤ c ∧ c ≤ 122) || decide (48 ≤ c ∧ c ≤ 57) || decide (c = 46)
theorem nameByte_any (c : Nat) (w : World) : Calls Tryz.prog 89 #[.int .u8 (c : Int)] w fun e w' => e = .returned (.bool (nb c)) ∧ w' = w := by
  by_cases h1 : (97 : Int) ≤ (c : Int)
  · by_cases h2 : (c : Int) ≤ 122
    · have e : nb c = true := by simp [nb]; omega
      rw [e]
      clear e
      go_enter Tryz.func89, Tryz.ntmps89
      go_wp2
      go_ret
      exact ⟨rfl, rfl⟩
    · have e : nb c = false := by simp [nb]; omega
      have h3 : (48 : Int) ≤ (c : Int) := by omega
      have h4 : ¬ (c : Int) ≤ 57 := by omega
      have h5 : ((c : Int) == 46) = false := by simp; omega
      rw [e]
      clear e
      go_enter Tryz.func89, Tryz.ntmps89
      go_wp2
      go_ret
      exact ⟨rfl, rfl⟩
  · by_cases h3 : (48 : Int) ≤ (c : Int)
    · by_cases h4 : (c : Int) ≤ 57
      · have e : nb c = true := by simp [nb]; omega
        rw [e]
        clear e
        go_enter Tryz.func89, Tryz.ntmps89
        go_wp2
        go_ret
        exact ⟨rfl, rfl⟩
      · have e : nb c = false := by simp [nb]; omega
        have h5 : ((c : Int) == 46) = false := by simp; omega
        rw [e]
        clear e
        go_enter Tryz.func89, Tryz.ntmps89
        go_wp2
        go_ret
        exact ⟨rfl, rfl⟩
    · have e : nb c = ((c : Int) == 46) := by
        by_cases h6 : c = 46
        · subst h6; rfl
        · have : ((c : Int) == 46) = false := by simp; omega
          rw [this]
          simp [nb]
          omega
      rw [e]
      clear e
      go_enter Tryz.func89, Tryz.ntmps89
      go_wp2
      go_ret
      exact ⟨rfl, rfl⟩
/-- Is it a name? -/
def isNm (s : ByteArray) : Bool := decide (1 ≤ s.size ∧ s.size ≤ 32) && s.data.toList.all fun c => nb c.toNat
def numOf : Value → Nat
  | .int _ n => n.toNat
  | _ => 0
theorem get_list (s : ByteArray) (k : Nat) (h : k < s.size) (h2 : k < s.data.toList.length) : s[k] = s.data.toList[k] := by
  cases s with
  | mk d => simp [ByteArray.getElem_eq_getElem_data]
theorem isName_any (s : ByteArray) (w : World) (hs : s.size ≤ 140737488355328) : Calls Tryz.prog 62 #[.string s] w fun e w' => e = .returned (.bool (isNm s)) ∧ w' = w := by
  by_cases h0 : s.size < 1
  · have h1 : (s.size : Int) < 1 := by omega
    have e : isNm s = false := by simp [isNm]; omega
    rw [e]
    clear e
    go_enter Tryz.func62, Tryz.ntmps62
    go_wp2
    go_ret
    exact ⟨rfl, rfl⟩
  · have h1 : ¬ (s.size : Int) < 1 := by omega
    by_cases h2 : s.size ≤ 32
    · have h3 : ¬ (32 : Int) < (s.size : Int) := by omega
      have e : isNm s = s.data.toList.all fun c => nb c.toNat := by
        simp only [isNm]
        rw [decide_eq_true (by omega)]
        rfl
      rw [e]
      clear e
      have HS : Hid (s.data.toList.length = s.size) := by show _ = _; simp
      obtain ⟨R, hR⟩ : ∃ R, (s.data.toList.all fun c => nb c.toNat) = R := ⟨_, rfl⟩
      have HR : Hid ((s.data.toList.all fun c => nb c.toNat) = R) := hR
      rw [hR]
      clear hR
      go_enter Tryz.func62, Tryz.ntmps62
      go_wp2
      go_loopw [14] (fun x wr => ∃ k : Nat, x = .int .i64 (k : Int) ∧ k ≤ s.size ∧ wr = w ∧ Hid ((s.data.toList.drop k).all (fun c => nb c.toNat) = R)) (fun x _ => s.size - numOf x)
      case atStart => exact ⟨0, rfl, Nat.zero_le _, rfl, HR⟩
      case round =>
        obtain ⟨k, rfl, hk, rfl, HK⟩ := hrel
        clear HR
        by_cases hlt : k < s.size
        · have hlt' : (k : Int) < (s.size : Int) := by omega
          have hl2 : k < s.data.toList.length := by rw [HS.out]; exact hlt
          have hst : ((s.data.toList.drop k).all fun c => nb c.toNat) = (nb (s.data.toList[k]).toNat && (s.data.toList.drop (k + 1)).all fun c => nb c.toNat) := by
            rw [List.drop_eq_getElem_cons hl2]; rfl
          have hgl := get_list s k hlt hl2
          rw [← hgl] at hst
          obtain ⟨d, hd⟩ : ∃ d, (s[k]'hlt).toNat = d := ⟨_, rfl⟩
          rw [hd] at hst
          rw [HK.out] at hst
          have hcall := fun W => nameByte_any d W
          by_cases hn : nb d = true
          · rw [hn, Bool.true_and] at hst
            have HE : Hid (((s.data.toList.drop (k + 1)).all fun c => nb c.toNat) = R) := hst.symm
            clear hst hgl
            rw [hn] at hcall
            go_wp2_with (go_at_call 89; refine (hcall _).mono ?_; rintro e w1 ⟨rfl, rfl⟩)
            go_roundw
            case rel => exact ⟨k + 1, by go_num, hlt, by first | trivial | rfl, HE⟩
            case measure => simp [numOf]; omega
          · have hn' : nb d = false := by simpa using hn
            rw [hn', Bool.false_and] at hst
            have HE : Hid (R = false) := hst
            clear hst hgl hn
            rw [hn'] at hcall
            go_wp2_with (go_at_call 89; refine (hcall _).mono ?_; rintro e w1 ⟨rfl, rfl⟩)
            go_ret
            rw [HE.out]
            exact ⟨rfl, rfl⟩
        · have hlt' : ¬ (k : Int) < (s.size : Int) := by omega
          have HE : Hid (R = true) := by
            show _ = _
            rw [← HK.out, List.drop_of_length_le (by rw [HS.out]; omega)]
            rfl
          go_wp2
          go_ret
          rw [HE.out]
          exact ⟨rfl, rfl⟩
    · have h3 : (32 : Int) < (s.size : Int) := by omega
      have e : isNm s = false := by simp [isNm]; omega
      rw [e]
      clear e
      go_enter Tryz.func62, Tryz.ntmps62
      go_wp2
      go_ret
      exact ⟨rfl, rfl⟩
theorem find_off (w : World) (d : Ds) (s : ByteArray) (h : DiskAt w d) (ho : d.on = false) : Calls Tryz.prog 51 #[.pointer (some ⟨d.db, 0, none⟩), .string s] w fun e w' => e = .returned (.tuple #[.pointer none, code 11]) ∧ w' = w := by
  have c2 := h.c2
  rw [ho] at c2
  go_enter Tryz.func51, Tryz.ntmps51
  go_wp2
  go_ret2
  exact ⟨rfl, rfl⟩
theorem find_none (w : World) (d : Ds) (s : ByteArray) (h : DiskAt w d) (ho : d.on = true) (hn : ∀ f ∈ d.fs, f.nm ≠ s) (hs : s.size ≤ 140737488355328) : Calls Tryz.prog 51 #[.pointer (some ⟨d.db, 0, none⟩), .string s] w fun e w' => e = .returned (.tuple #[.pointer none, code 9]) ∧ w' = w := by
  have c1 := h.c1
  have c2 := h.c2
  rw [ho] at c2
  have hl := h.map.miss hn (by omega)
  go_enter Tryz.func51, Tryz.ntmps51
  go_wp2
  go_ret2
  exact ⟨rfl, rfl⟩
theorem find_hit (w : World) (d : Ds) (f : FR) (h : DiskAt w d) (ho : d.on = true) (hf : f ∈ d.fs) : Calls Tryz.prog 51 #[.pointer (some ⟨d.db, 0, none⟩), .string f.nm] w fun e w' => e = .returned (.tuple #[.pointer (some ⟨f.fb, 0, none⟩), .nilIface]) ∧ w' = w := by
  have c1 := h.c1
  have c2 := h.c2
  rw [ho] at c2
  have hl := h.map.hit hf (by have := h.short f hf; omega)
  go_enter Tryz.func51, Tryz.ntmps51
  go_wp2
  go_ret2
  exact ⟨rfl, rfl⟩
end Dk
end Go.Proofs.YtcinjdaanhpbjaaGreat

namespace Go.Proofs.YtcinjdaanhpbjaaGreat
open Go.RowKit
namespace Dk
open Bw

/-- A step of a range over a disk's map: nothing is left, or one of the files comes. -/
theorem next_file {w : World} {ops : Array Oper} {rest : List Oper} {o : Oper} {a : Act} {Q : Exit → Act → World → Prop} (hg : o.guard = none) (it : Operand) (hop : o.op = Op.next it false) (mb r n : Nat) (fs : List FR) (D : DataW Unit) (left : Lit → Bool) (cnt : Nat)
    (hit : a.eval it = .pointer (some ⟨r, 0, none⟩)) (h : w.ranges Tryz.prog 9 ptrElem mb r n D left cnt) (hin : ∀ kl, left kl = true → Maps.has D kl = true) (hhas : ∀ s : ByteArray, Maps.has D (key s) = fs.any fun f => decide (f.nm = s)) (hat : ∀ f ∈ fs, ∀ z, D.atKey (key f.nm) z = .lit (.int .i64 (f.fb : Int)))
    (hDone : cnt = 0 → (∀ kl, left kl = false) → wpList Tryz.prog ops Q rest (a.put o.dst (.tuple #[.bool false])) w)
    (hMore : ∀ (f : FR) (w' : World) (cnt' : Nat), f ∈ fs → left (key f.nm) = true → w'.ranges Tryz.prog 9 ptrElem mb r n D (fun z => left z && !z.sameKey (key f.nm)) cnt' → cnt' < cnt → w.grownBy w' (some r) → w'.heap.size = w.heap.size →
      (Instr.entry (.pointer (some ⟨r, 0, none⟩))).run Tryz.prog w' = .ok (.tuple #[.string f.nm, .pointer (some ⟨f.fb, 0, none⟩)]) w' → wpList Tryz.prog ops Q rest (a.put o.dst (.tuple #[.bool true, .string f.nm, .pointer (some ⟨f.fb, 0, none⟩)])) w') :
    wpList Tryz.prog ops Q (o :: rest) a w := by
  refine wpList_next_ranges w hg it hop 9 law9 ptrElem Value.string ptrV (fun k kl hk => ?_) (fun v y hv => ptrElem_inv hv) mb r n D left cnt hit h hDone ?_
  · obtain ⟨s, rfl, _⟩ := WideMaps.string_of_keyOf Tryz.underlying9 hk
    exact ⟨s, rfl⟩
  · intro s c kl y w' cnt' hk hl hv hy hr hc hg' hs' hen
    obtain ⟨s', es, ek, _⟩ := WideMaps.string_of_keyOf Tryz.underlying9 hk
    cases es
    have ek' : kl = key s := ek
    subst ek'
    have hh := hin _ hl
    rw [hhas s, List.any_eq_true] at hh
    obtain ⟨f, hf, hfs⟩ := hh
    have hfs' : f.nm = s := by simpa using hfs
    subst hfs'
    have h3 := hat f hf .nil
    rw [hy .nil] at h3
    have h4 : ptrElem (ptrV c) = some (.lit (.int .i64 (f.fb : Int)), y.2) := by rw [hv, ← h3]
    have h5 := ptrElem_at h4
    rw [h5] at hen ⊢
    exact hMore f w' cnt' hf hl hr hc hg' hs' hen

/-- The bytes of those files that are no longer to come. -/
def usedIf (left : Lit → Bool) (fs : List FR) : Nat := (fs.map fun f => if left (key f.nm) then 0 else f.bs.length).sum
theorem usedIf_none {left : Lit → Bool} {fs : List FR} (h : ∀ kl, left kl = false) : usedIf left fs = used fs := by
  unfold usedIf used
  simp [h]
theorem usedIf_all {left : Lit → Bool} : ∀ {fs : List FR}, (∀ f ∈ fs, left (key f.nm) = true) → usedIf left fs = 0
  | [], _ => rfl
  | f :: fs, h => by
    have ih := usedIf_all (left := left) (fs := fs) (fun g hg => h g (List.mem_cons_of_mem _ hg))
    unfold usedIf at ih ⊢
    rw [List.map_cons, List.sum_cons, ih, if_pos (h f (by simp))]
theorem usedIf_le (left : Lit → Bool) : ∀ fs : List FR, usedIf left fs ≤ used fs
  | [] => Nat.le_refl _
  | f :: fs => by
    have ih := usedIf_le left fs
    unfold usedIf used at ih ⊢
    rw [List.map_cons, List.sum_cons, List.map_cons, List.sum_cons]
    split <;> omega
theorem usedIf_other {left : Lit → Bool} {s : ByteArray} : ∀ {fs : List FR}, (∀ f ∈ fs, f.nm ≠ s) → usedIf (fun z => left z && !z.sameKey (key s)) fs = usedIf left fs
  | [], _ => rfl
  | f :: fs, h => by
    have ih := usedIf_other (left := left) (s := s) (fs := fs) (fun g hg => h g (List.mem_cons_of_mem _ hg))
    unfold usedIf at ih ⊢
    rw [List.map_cons, List.sum_cons, List.map_cons, List.sum_cons, ih]
    have e := Maps.sameKey_ne (fun e => h f (by simp) (key_inj e))
    simp [e]
theorem usedIf_step {left : Lit → Bool} {f : FR} : ∀ {fs : List FR}, (fs.map FR.nm).Nodup → f ∈ fs → left (key f.nm) = true → usedIf (fun z => left z && !z.sameKey (key f.nm)) fs = usedIf left fs + f.bs.length
  | [], _, hf, _ => by simp at hf
  | g :: fs, hnd, hf, hl => by
    rw [List.map_cons, List.nodup_cons] at hnd
    rcases List.mem_cons.1 hf with e | hf'
    · subst e
      have ho := usedIf_other (left := left) (s := f.nm) (fs := fs) (fun x hx e => hnd.1 (e ▸ List.mem_map_of_mem hx))
      unfold usedIf at ho ⊢
      rw [List.map_cons, List.sum_cons, List.map_cons, List.sum_cons, ho]
      have e := WideAt.sameKey_self (key_is f.nm)
      simp [e, hl]
      omega
    · have hne : g.nm ≠ f.nm := fun e => hnd.1 (e ▸ List.mem_map_of_mem hf')
      have ih := usedIf_step (left := left) hnd.2 hf' hl
      unfold usedIf at ih ⊢
      rw [List.map_cons, List.sum_cons, List.map_cons, List.sum_cons, ih]
      have e := Maps.sameKey_ne (fun e => hne (key_inj e))
      simp [e]
      omega
theorem used_any (w : World) (d : Ds) (h : DiskAt w d) (hu : used d.fs ≤ 9223372036854775807) : Calls Tryz.prog 31 #[.pointer (some ⟨d.db, 0, none⟩)] w fun e w' => e = .returned (.int .i64 (used d.fs : Int)) ∧ Below w.heap.size w w' := by
  have c1 := h.c1
  obtain ⟨D, hown, _, hhas, hat⟩ := h.map
  have HH : Hid (∀ s : ByteArray, Maps.has D (key s) = d.fs.any fun f => decide (f.nm = s)) := hhas
  have HA : Hid (∀ f ∈ d.fs, ∀ z, D.atKey (key f.nm) z = .lit (.int .i64 (f.fb : Int))) := hat
  clear hhas hat
  go_enter Tryz.func31, Tryz.ntmps31
  go_wp2_with (first
    | (at_range; refine wpList_range_own _ rfl _ 114 rfl 9 95 law9 Tryz.underlying114 _ d.mb d.fs.length D rfl hown ?_; intro w0 hrg0 hg0 hs0)
    | go_in)
  go_frame
  go_loopw [3] (fun x wr => ∃ (left : Lit → Bool) (cnt : Nat), wr.ranges Tryz.prog 9 ptrElem d.mb w.heap.size d.fs.length D left cnt ∧ Hid (∀ kl, left kl = true → Maps.has D kl = true) ∧ x = .int .i64 ((usedIf left d.fs : Nat) : Int) ∧ Below w.heap.size w wr)
    (fun _ wr => wr.rangeLeft d.mb w.heap.size)
  case atStart =>
    refine ⟨_, _, hrg0, fun kl e => e, ?_, (Below.refl _ _).grown hg0 (Nat.le_refl _) (fun j hj => by cases hj)⟩
    rw [usedIf_all]
    · rfl
    · intro f hf
      rw [HH.out f.nm, List.any_eq_true]
      exact ⟨f, hf, by simp⟩
  case round =>
    obtain ⟨left, cnt, hrg, HL, rfl, hnx⟩ := hrel
    clear hrg0 hg0 hs0
    go_wp2_with (first
      | (at_next; refine next_file rfl _ rfl d.mb w.heap.size d.fs.length d.fs D left cnt rfl hrg HL.out HH.out HA.out ?_ ?_)
      | go_in)
    · intro _ hl0
      rw [usedIf_none hl0]
      go_wp2
      go_ret
      exact ⟨rfl, hnx⟩
    · intro f w1 cnt1 hf hl hrg1 hlt hg1 hs1 hen
      have hnx1 : Below w.heap.size w w1 := hnx.grown hg1 hnx.size (fun j hj => by cases hj; exact Nat.le_refl _)
      have hstep := usedIf_step h.names hf hl
      have hle := usedIf_le (fun z => left z && !z.sameKey (key f.nm)) d.fs
      obtain ⟨sa, sc, hv⟩ := (h.files f hf).row.form
      have cf : w1.cell? ⟨f.fb, 0, none⟩ = some (.slice sa f.bs.length sc) := by
        rw [← hv]
        exact (hnx1.cell (p := ⟨f.fb, 0, none⟩) (lt_of_block (h.files f hf).cells)).trans (h.files f hf).c0
      obtain ⟨U, hU⟩ : ∃ U, usedIf left d.fs = U := ⟨_, rfl⟩
      obtain ⟨L, hL⟩ : ∃ L, f.bs.length = L := ⟨_, rfl⟩
      rw [hU, hL] at hstep
      rw [hL] at cf
      rw [hU]
      have hb : U + L ≤ 9223372036854775807 := by omega
      have HE : Hid (usedIf (fun z => left z && !z.sameKey (key f.nm)) d.fs = U + L) := hstep
      clear hstep hle hU hL hv hnx
      go_wp2
      go_roundw
      case rel =>
        refine ⟨_, cnt1, hrg1, fun kl e => HL.out kl (by simp at e; exact e.1), ?_, hnx1⟩
        rw [HE.out]
        go_num
      case measure => rw [hrg1.left_eq, hrg.left_eq]; exact hlt
end Dk
end Go.Proofs.YtcinjdaanhpbjaaGreat
