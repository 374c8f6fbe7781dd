/- A strings.Builder that takes pieces: which memory it may turn. What Write does where Norm answers a form: that form's text. What escaped does: by walking its text; a number's text at base 16. What escaped does, at every character. -/
import Derived.Test.YtiakidomcjpdhaaGreatDoorGTe
import Derived.Lib.Builder
import Derived.Laws.Externs
namespace Go.Proofs.YtiakidomcjpdhaaGreatDoor
open Go.RowKit
namespace Pu
open SndW PlnW Go.Lib

/-- Appending a string's bytes to a row of one's own: as the library's law, and where the row lies then. -/
theorem append_loc {P : Program} (w : World) (base : Nat) (t u ty e : TypeId) (i : TypeInfo) (ht : P.underlying t = some (.slice e)) (hu : P.underlying u = some .string) (hi : P.info? e = some i) (hz : i.zero = some (.int .u8 0)) (hsize : i.size = 1) (hby : i.bytes = 1)
    (v : Value) (n : Nat) (xs : List Value) (hown : w.ownsRow base e 1 v n xs) (s : ByteArray) (h63 : n + s.size ≤ maxLen) (hbytes : n + s.size ≤ 140737488355328) (hbase : base ≤ w.heap.size) :
    ∃ v' w', (Builtin.append_ #[t, u] ty #[v, .string s]).run P w = .ok v' w' ∧ w'.ownsRow base e 1 v' (n + s.size) (xs ++ strCells s) ∧ w.grownBy w' v.ownBlock ∧ (v'.ownBlock = v.ownBlock ∨ v'.ownBlock = some w.heap.size) := by
  obtain ⟨v', w', hr, h2, h3, h4⟩ := run_append_own_string (P := P) w base t u ty e i ht hu hi hz hsize hby v n xs hown s h63 hbytes hbase
  refine ⟨v', w', hr, h2, h3, ?_⟩
  have hsmall : n + s.size ≤ 9223372036854775807 := by simp only [maxLen] at h63; omega
  have hxl : xs.length = n := by simpa using hown.1
  rcases hown.2 with ⟨rfl, rfl⟩ | ⟨g, cap, cur, rfl, hbg, hg, hnc, hcm, hcs, htake⟩
  · by_cases hm : s.size = 0
    · have := h4.2 ⟨rfl, hm⟩
      rw [this]
      exact .inl rfl
    · have hr2 := run_append_nil_string (P := P) w t u ty e i (.int .u8 0) ht hu hi hz s (by omega) (by omega) (by rw [hby]; omega)
      rw [hr2] at hr
      injection hr with e1 e2
      rw [← e1]
      exact .inr rfl
  · by_cases hroom : n + s.size ≤ cap
    · have hcs' : cur.size = cap := by simpa using hcs
      have hr2 := run_append_room_string (P := P) w t u ty e i ht hu hi hsize g n cap cur hg s hroom (by omega)
      rw [hr2] at hr
      injection hr with e1 e2
      rw [← e1]
      exact .inl rfl
    · have holds : ∀ j u, xs[j]? = some u → w.cell? ((⟨g, 0, none⟩ : Addr).add j) = some u := hown.cells (g := g) rfl
      have hr2 := run_append_grow_string (P := P) w t u ty e i (.int .u8 0) ht hu hi hz ⟨g, 0, none⟩ n cap xs (by rw [hsize]; simpa using hxl) holds s (by omega) (by omega) (by rw [hby]; exact growslice_fits (by omega) (by omega))
      rw [hr2] at hr
      injection hr with e1 e2
      rw [← e1]
      exact .inr rfl
theorem wpList_append_loc {P : Program} {w : World} {ops : Array Oper} {rest : List Oper} {o : Oper} {a : Act} {Q : Exit → Act → World → Prop} (hgd : o.guard = none) (sl x : Operand) (t u : TypeId)
    (ho : o.op = .call { callee := .builtin .append, args := #[sl, x], argTypes := #[t, u] })
    (base : Nat) (e : TypeId) (i : TypeInfo) (ht : P.underlying t = some (.slice e)) (hu : P.underlying u = some .string) (hi : P.info? e = some i) (hz : i.zero = some (.int .u8 0)) (hsize : i.size = 1) (hby : i.bytes = 1)
    (v : Value) (n : Nat) (xs : List Value) (hs : a.eval sl = v) (hown : w.ownsRow base e 1 v n xs) (s : ByteArray) (hx : a.eval x = .string s) (h63 : n + s.size ≤ maxLen) (hbytes : n + s.size ≤ 140737488355328) (hbase : base ≤ w.heap.size)
    (h : ∀ v' w', w'.ownsRow base e 1 v' (n + s.size) (xs ++ strCells s) → w.grownBy w' v.ownBlock → (v'.ownBlock = v.ownBlock ∨ v'.ownBlock = some w.heap.size) → wpList P ops Q rest (a.put o.dst v') w') : wpList P ops Q (o :: rest) a w := by
  refine wpList_plain hgd fun K hK => ?_
  obtain ⟨v', w', hr, h2, h3, h4⟩ := append_loc (P := P) w base t u o.type e i ht hu hi hz hsize hby v n xs hown s h63 hbytes hbase
  unfold Oper.wp execOp
  simp only [ho, resolve, invoke, builtin, Sem.run_bind, Sem.run_pure, Result.andThen_ok, List.map_toArray, List.map_cons, List.map_nil, hs, hx, hr]
  exact hK _ _ (h v' w' h2 h3 h4)
/-- What the function value of Write holds: a builder, and the row of its bytes. -/
def BuR (bl base : Nat) (b : List UInt8) (S : Nat → Prop) (w : World) : Prop :=
  base ≤ bl ∧ base ≤ w.heap.size ∧ (∀ k, S k → k < w.heap.size) ∧ ∃ p v, (p = .pointer none ∨ p = .pointer (some ⟨bl, 0, none⟩)) ∧ w.heap[bl]? = some (.cells #[p, v] 58 (0, 0)) ∧ RowB base w v b ∧ v.ownBlock ≠ some bl ∧ ∀ k, S k ↔ k = bl ∨ v.ownBlock = some k
theorem own31 : ∀ (args : Array Value) (w : World), Sem.run Tryz.prog (callFunc 31 args) w = .ok (.enter 31 args) w := fun args w => by go_simp
theorem size58 : (Tryz.prog.info? 58).map (·.size) = some 2 := by kernel_rfl
set_option maxHeartbeats 1000000 in
set_option maxRecDepth 100000 in
/-- copyCheck at a builder that has been used: nothing turns. -/
theorem copyCheck_own (bl : Nat) (w : World) (h0 : w.cell? ⟨bl, 0, none⟩ = some (.pointer (some ⟨bl, 0, none⟩))) : Calls Tryz.prog 53 #[.pointer (some ⟨bl, 0, none⟩)] w fun e w' => e = .returned (.tuple #[]) ∧ w' = w := by
  obtain ⟨j, hj, _⟩ := Option.map_eq_some_iff.1 size58
  go_enter Tryz.func53, Tryz.ntmps53
  go_wp2
  rw [Lib.run_neq_ptr_same w _ Tryz.underlying56 hj]
  go_wp2
  go_end0
  exact ⟨rfl, rfl⟩
set_option maxHeartbeats 1000000 in
set_option maxRecDepth 100000 in
/-- copyCheck at a fresh builder: it stores its own address. -/
theorem copyCheck_new (bl : Nat) (w : World) (h0 : w.cell? ⟨bl, 0, none⟩ = some (.pointer none)) (hsh : w.shape? bl = some (58, 2)) (hfz : w.frozen? ⟨bl, 0, none⟩ = false) : Calls Tryz.prog 53 #[.pointer (some ⟨bl, 0, none⟩)] w fun e w' => e = .returned (.tuple #[]) ∧ w' = w.setCell ⟨bl, 0, none⟩ (.pointer (some ⟨bl, 0, none⟩)) := by
  obtain ⟨j, hj, hjs⟩ := Option.map_eq_some_iff.1 size58
  go_enter Tryz.func53, Tryz.ntmps53
  go_wp2
  rw [Lib.run_to_unsafe w ⟨bl, 0, none⟩ Tryz.underlying56 Tryz.underlying104 hj (by rw [hjs]; decide) hsh (Nat.zero_lt_succ 1)]
  simp only [Result.andThen]
  rw [Oper.upon_value]
  go_wp2
  rw [run_callFunc_extern Tryz.func77 (by kernel_rfl) (by kernel_rfl) (by kernel_rfl) (e := Extern.AbiNoEscape.same) (by kernel_rfl)]
  rw [Lib.run_noEscape]
  simp only [Result.andThen]
  rw [Oper.upon_value]
  go_wp2
  rw [Lib.run_from_unsafe w ⟨bl, 0, none⟩ Tryz.underlying104 Tryz.underlying56 hj hsh (by kernel_rfl)]
  simp only [Result.andThen]
  rw [Oper.upon_value]
  go_wp2
  go_end0
  exact ⟨rfl, rfl⟩
theorem info5b : (Tryz.prog.info? 5).map (fun i => (i.zero, i.size, i.bytes)) = some (some (.int .u8 0), 1, 1) := by kernel_rfl
set_option maxHeartbeats 2000000 in
set_option maxRecDepth 20000 in
/-- WriteString, from where the builder has been used. -/
theorem writeString_used (bl base : Nat) (b : List UInt8) (v : Value) (s : ByteArray) (w w1 : World) (hcc : Calls Tryz.prog 53 #[.pointer (some ⟨bl, 0, none⟩)] w fun e w' => e = .returned (.tuple #[]) ∧ w' = w1) (hb : w1.heap[bl]? = some (.cells #[.pointer (some ⟨bl, 0, none⟩), v] 58 (0, 0))) (hrow : RowB base w1 v b) (hbase : base ≤ w1.heap.size) (hne : v.ownBlock ≠ some bl) (hlim : b.length + s.size ≤ 1000000000) :
    Calls Tryz.prog 32 #[.pointer (some ⟨bl, 0, none⟩), .string s] w fun e w' => e = .returned (.tuple #[.int .i64 s.size, .nilIface]) ∧ ∃ v' w2, w2.ownsRow base 5 1 v' (b.length + s.size) (Lib.byteCells b ++ strCells s) ∧ w1.grownBy w2 v.ownBlock ∧ (v'.ownBlock = v.ownBlock ∨ v'.ownBlock = some w1.heap.size) ∧ w' = w2.setCell ⟨bl, 1, none⟩ v' := by
  have x1 : w1.cell? ⟨bl, 1, none⟩ = some v := by simp [World.cell?, hb]
  obtain ⟨i0, hi, hz0, hz1, hz2⟩ := info_parts info5b
  have hm : b.length + s.size ≤ maxLen := by unfold maxLen; omega
  have HF : Hid (∀ w2, w1.grownBy w2 v.ownBlock → w2.frozen? ⟨bl, 1, none⟩ = false ∧ ∃ u, w2.cell? ⟨bl, 1, none⟩ = some u) := fun w2 hg => by
    have e := (hg.block bl (lt_of_block hb) (fun e => hne e.symm)).trans hb
    exact ⟨by simp [World.frozen?, e], v, by simp [World.cell?, e]⟩
  obtain ⟨va, vc, hv⟩ := RowB.form hrow
  subst hv
  have HR := (show Hid _ from hrow)
  have HN := (show Hid _ from hne)
  clear hrow hne hb
  go_enter Tryz.func32, Tryz.ntmps32
  go_wp2_with (first
    | (go_at_call 53; refine hcc.mono ?_; rintro e w' ⟨rfl, rfl⟩)
    | (at_builtin; refine wpList_append_loc rfl _ _ 49 9 rfl base 5 i0 Tryz.underlying49 Tryz.underlying9 hi hz0 hz1 hz2 _ _ _ rfl HR.out s rfl hm (by omega) hbase ?_; intro v' w2 q1 q2 q3; obtain ⟨fz, u, xu⟩ := HF.out _ q2; obtain ⟨a', c', rfl⟩ := own_form q1; have Q1 := (show Hid _ from q1); have Q2 := (show Hid _ from q2); have Q3 := (show Hid _ from q3); clear q1 q2 q3))
  go_ret2
  exact ⟨rfl, _, w2, Q1.out, Q2.out, Q3.out, rfl⟩
theorem row_kept {w w' : World} {base n : Nat} {v : Value} {xs : List Value} (h : w.ownsRow base 5 1 v n xs) (hk : ∀ k, v.ownBlock = some k → w'.heap[k]? = w.heap[k]?) : w'.ownsRow base 5 1 v n xs := by
  obtain ⟨h1, h2⟩ := h
  refine ⟨h1, ?_⟩
  rcases h2 with h2 | ⟨g, cap, cur, rfl, hbg, hg, h3⟩
  · exact .inl h2
  · exact .inr ⟨g, cap, cur, rfl, hbg, (hk g rfl).trans hg, h3⟩
theorem row_lt {w : World} {base n : Nat} {v : Value} {xs : List Value} (h : w.ownsRow base 5 1 v n xs) {k : Nat} (hk : v.ownBlock = some k) : k < w.heap.size := by
  rcases h.2 with ⟨rfl, _⟩ | ⟨g, cap, cur, rfl, hbg, hg, h3⟩
  · cases hk
  · have e : g = k := by simpa [Value.ownBlock] using hk
    subst e
    exact lt_of_block hg
/-- What lies behind a piece that was written. -/
theorem bu_after {bl base : Nat} {b : List UInt8} {S : Nat → Prop} {w w1 w2 : World} {v v' : Value} {s : ByteArray} (h1 : base ≤ bl) (h2 : base ≤ w.heap.size) (hS : ∀ k, S k ↔ k = bl ∨ v.ownBlock = some k) (hb1 : w1.heap[bl]? = some (.cells #[.pointer (some ⟨bl, 0, none⟩), v] 58 (0, 0))) (f1 : Fr S w w1) (hz1 : w1.heap.size = w.heap.size) (hn : v.ownBlock ≠ some bl)
    (q1 : w2.ownsRow base 5 1 v' (b.length + s.size) (Lib.byteCells b ++ strCells s)) (q2 : w1.grownBy w2 v.ownBlock) (q3 : v'.ownBlock = v.ownBlock ∨ v'.ownBlock = some w1.heap.size) :
    ∃ S', BuR bl base (b ++ s.data.toList) S' (w2.setCell ⟨bl, 1, none⟩ v') ∧ Kp S w S' (w2.setCell ⟨bl, 1, none⟩ v') := by
  have hbl := lt_of_block hb1
  have hb2 : w2.heap[bl]? = some (.cells #[.pointer (some ⟨bl, 0, none⟩), v] 58 (0, 0)) := (q2.block bl hbl (fun e => hn e.symm)).trans hb1
  have hn' : v'.ownBlock ≠ some bl := by
    rcases q3 with e | e
    · rw [e]; exact hn
    · rw [e]
      intro h
      have : w1.heap.size = bl := by simpa using h
      omega
  have f3 : Fr (fun k => k = bl) w2 (w2.setCell ⟨bl, 1, none⟩ v') := Fr.setCell w2 _ _ rfl
  have r3 : (w2.setCell ⟨bl, 1, none⟩ v').ownsRow base 5 1 v' (b.length + s.size) (Lib.byteCells b ++ strCells s) := row_kept q1 fun k hk => f3.block k (row_lt q1 hk) (fun e => hn' (e ▸ hk))
  have hz3 : (w2.setCell ⟨bl, 1, none⟩ v').heap.size = w2.heap.size := by simp
  refine ⟨fun k => k = bl ∨ v'.ownBlock = some k, ⟨h1, by rw [hz3]; exact Nat.le_trans (hz1 ▸ h2) q2.size, fun k hk => ?_, _, v', .inr rfl, ?_, RowB.more r3 (by rw [Lib.size_eq]) rfl, hn', fun _ => Iff.rfl⟩, ⟨?_, fun k hk => ?_⟩⟩
  · rw [hz3]
    rcases hk with rfl | hk
    · exact lt_of_block hb2
    · exact row_lt q1 hk
  · simp only [World.setCell, Array.getElem?_modify, hb2]
    simp
  · have f2 : Fr S w1 w2 := Fr.grown q2 fun k hk _ => (hS k).2 (.inr hk)
    exact (f1.trans f2).trans (f3.mono fun k _ e => (hS k).2 (.inl e))
  · rcases hk with rfl | hk
    · exact .inl ((hS _).2 (.inl rfl))
    · rcases q3 with e | e
      · exact .inl ((hS k).2 (.inr (e ▸ hk)))
      · rw [e] at hk
        have : w1.heap.size = k := by simpa using hk
        exact .inr (by omega)
theorem writeString_any (bl base : Nat) (b : List UInt8) (S : Nat → Prop) (w : World) (s : ByteArray) (h : BuR bl base b S w) (hlim : b.length + s.size ≤ 1000000000) : Calls Tryz.prog 32 #[.pointer (some ⟨bl, 0, none⟩), .string s] w fun e w' => e = .returned (.tuple #[.int .i64 s.size, .nilIface]) ∧ ∃ S', BuR bl base (b ++ s.data.toList) S' w' ∧ Kp S w S' w' := by
  obtain ⟨h1, h2, h3, p, v, hp, hb, hr, hn, hS⟩ := h
  rcases hp with rfl | rfl
  · have x0 : w.cell? ⟨bl, 0, none⟩ = some (.pointer none) := by simp [World.cell?, hb]
    have fz : w.frozen? ⟨bl, 0, none⟩ = false := by simp [World.frozen?, hb]
    have f1 : Fr (fun k => k = bl) w (w.setCell ⟨bl, 0, none⟩ (.pointer (some ⟨bl, 0, none⟩))) := Fr.setCell w _ _ rfl
    have hb1 : (w.setCell ⟨bl, 0, none⟩ (.pointer (some ⟨bl, 0, none⟩))).heap[bl]? = some (.cells #[.pointer (some ⟨bl, 0, none⟩), v] 58 (0, 0)) := by
      simp only [World.setCell, Array.getElem?_modify, hb]
      simp
    have hr1 : RowB base (w.setCell ⟨bl, 0, none⟩ (.pointer (some ⟨bl, 0, none⟩))) v b := row_kept hr fun k hk => f1.block k (row_lt hr hk) (fun e => hn (e ▸ hk))
    have hz1 : (w.setCell ⟨bl, 0, none⟩ (.pointer (some ⟨bl, 0, none⟩))).heap.size = w.heap.size := by simp
    refine (writeString_used bl base b v s w _ (copyCheck_new bl w x0 (by simp [World.shape?, hb]) fz) hb1 hr1 (by rw [hz1]; exact h2) hn hlim).mono ?_
    rintro e w' ⟨e1, v', w2, q1, q2, q3, rfl⟩
    exact ⟨e1, bu_after h1 h2 hS hb1 (f1.mono fun k _ e => (hS k).2 (.inl e)) hz1 hn q1 q2 q3⟩
  · have x0 : w.cell? ⟨bl, 0, none⟩ = some (.pointer (some ⟨bl, 0, none⟩)) := by simp [World.cell?, hb]
    refine (writeString_used bl base b v s w w (copyCheck_own bl w x0) hb hr h2 hn hlim).mono ?_
    rintro e w' ⟨e1, v', w2, q1, q2, q3, rfl⟩
    exact ⟨e1, bu_after h1 h2 hS hb (Fr.refl _ _) rfl hn q1 q2 q3⟩
theorem bu_put (bl base : Nat) : Putter 31 (.pointer (some ⟨bl, 0, none⟩)) 1000000000 (BuR bl base) where
  lt := fun h => h.2.2.1
  kept := fun {b S w w'} h f => by
    obtain ⟨h1, h2, h3, p, v, hp, hb, hr, hn, hS⟩ := h
    exact ⟨h1, Nat.le_trans h2 f.size, fun k hk => Nat.lt_of_lt_of_le (h3 k hk) f.size, p, v, hp, (f.block bl (lt_of_block hb) (fun x => x ((hS bl).2 (.inl rfl)))).trans hb, row_kept hr (fun k hk => f.block k (row_lt hr hk) (fun x => x ((hS k).2 (.inr hk)))), hn, hS⟩
  call := fun {b S w} s h hlim => by
    have hw := writeString_any bl base b S w s h hlim
    clear h
    go_enter Tryz.func31, Tryz.ntmps31
    go_wp2_with (go_at_call 32; refine hw.mono ?_; rintro e w' ⟨rfl, S', hR', hk'⟩)
    go_end0
    exact ⟨rfl, S', hR', hk'⟩
end Pu
end Go.Proofs.YtiakidomcjpdhaaGreatDoor

namespace Go.Proofs.YtiakidomcjpdhaaGreatDoor
open Go.RowKit
namespace Pu
open SndW PlnW Go.Lib

/-- The builder's String. -/
theorem string_any (bl base : Nat) (b : List UInt8) (S : Nat → Prop) (w : World) (h : BuR bl base b S w) : Calls Tryz.prog 33 #[.pointer (some ⟨bl, 0, none⟩)] w fun e w' => e = .returned (.string ⟨b.toArray⟩) ∧ Below base w w' := by
  obtain ⟨h1, h2, h3, p, v, hp, hb, hr, hn, hS⟩ := h
  have hl : (Lib.byteCells b).length = b.length := by simp [Lib.byteCells]
  have hr2 : w.ownsRow base 5 1 v (Lib.byteCells b).length (Lib.byteCells b) := by rw [hl]; exact hr
  have hB : Lib.IsBuilderF 58 5 base bl (Lib.byteCells b) w := by
    rcases hp with rfl | rfl
    · exact .inl ⟨h1, v, hb, World.ownsRowF_of hr2, hn⟩
    · exact .inr ⟨h1, v, hb, World.ownsRowF_of hr2, hn⟩
  refine (Builder_String_any_k base bl b w hB h2).mono ?_
  rintro e w' ⟨e1, _, e2, _⟩
  exact ⟨e1, e2⟩
set_option maxHeartbeats 4000000 in
set_option maxRecDepth 20000 in
theorem write_ok (hE : EscAt) (x : GV) (hsz : x.sz ≤ 2000000) (hok : okV x) (htx : (txV x).length ≤ 1000000000) (w : World) (k : Int) (bo : Bool) (n : Int) (t : ByteArray) (s1 s2 : Value) (h5 : 5 ≤ w.heap.size) (hT : Pow10 w)
    (hN : ∀ W, Below w.heap.size w W → Calls Tryz.prog 16 #[.agg #[.int .i64 k, .bool bo, .int .i64 n, .string t, s1, s2]] W fun e w' => ∃ cs : Array Value, e = .returned (.tuple #[.agg cs, .nilIface]) ∧ LaidV w' (fun _ => True) x cs.toList ∧ Below W.heap.size W w') :
    Calls Tryz.prog 11 #[.agg #[.int .i64 k, .bool bo, .int .i64 n, .string t, s1, s2]] w fun e w' => e = .returned (.tuple #[.string ⟨(txV x).toArray⟩, .nilIface]) ∧ Below w.heap.size w w' := by
  have hN1 := hN (w.alloc (.cells #[.int .i64 k, .bool bo, .int .i64 n, .string t, s1, s2] 25)) ((Below.refl _ _).alloc (Nat.le_refl _) _)
  clear hN
  have hab : Below w.heap.size w (w.alloc (.cells #[.int .i64 k, .bool bo, .int .i64 n, .string t, s1, s2] 25)) := (Below.refl _ _).alloc (Nat.le_refl _) _
  have HAB := (show Hid _ from hab)
  clear hab
  cases hx : x with
  | mk k' b' n' t' l' f' =>
  have HX := (show Hid _ from hx)
  go_enter Tryz.func11, Tryz.ntmps11
  go_wp2_with (go_at_call 16; refine hN1.mono ?_; rintro e w1 ⟨cs, rfl, hlv, hb1⟩; have hf := (HX.out ▸ hlv : LaidV w1 (fun _ => True) (.mk k' b' n' t' l' f') cs.toList).form; obtain ⟨p1, q1, p2, q2, _, _, hcs, _⟩ := hf; obtain rfl : cs = #[.int .i64 k', .bool b', .int .i64 n', .string t', .slice p1 l'.length q1, .slice p2 f'.length q2] := (by cases cs; simpa using hcs))
  obtain ⟨C, hC⟩ : ∃ C : Array Value, C = #[.int .i64 k', .bool b', .int .i64 n', .string t', .slice p1 l'.length q1, .slice p2 f'.length q2] := ⟨_, rfl⟩
  have hw1 : w.heap.size ≤ w1.heap.size := Nat.le_trans HAB.out.size hb1.size
  have hb2 : Below w1.heap.size w1 ((w1.alloc (.cells C 25)).alloc (.cells #[.pointer none, .slice none 0 0] 58)) := ((Below.refl _ _).alloc (Nat.le_refl _) _).alloc (by simp) _
  have e1 : (w1.alloc (.cells C 25)).heap.size = w1.heap.size + 1 := by simp
  have hnew : ((w1.alloc (.cells C 25)).alloc (.cells #[.pointer none, .slice none 0 0] 58)).heap[w1.heap.size + 1]? = some (.cells #[.pointer none, .slice none 0 0] 58 (0, 0)) := by
    have h := heap_alloc_new (w1.alloc (.cells C 25)) (.cells #[.pointer none, .slice none 0 0] 58)
    rw [e1] at h
    exact h
  have hlv2 := hlv.conv (w' := (w1.alloc (.cells C 25)).alloc (.cells #[.pointer none, .slice none 0 0] 58)) (ok' := fun k => ¬ k = w1.heap.size + 1) fun k _ hl => ⟨by omega, hb2.block k hl⟩
  obtain ⟨W2, hW2⟩ : ∃ W, W = (w1.alloc (.cells C 25)).alloc (.cells #[.pointer none, .slice none 0 0] 58) := ⟨_, rfl⟩
  rw [← hC]
  have eC : C.toList = [.int .i64 k', .bool b', .int .i64 n', .string t', .slice p1 l'.length q1, .slice p2 f'.length q2] := congrArg Array.toList hC
  rw [← eC] at hlv2
  rw [← hW2] at hb2 hnew hlv2 ⊢
  have hB0 : Below w.heap.size w W2 := (HAB.out.trans (hb1.mono HAB.out.size)).trans (hb2.mono hw1)
  have hR : BuR (w1.heap.size + 1) w.heap.size [] (fun k => k = w1.heap.size + 1) W2 := ⟨by omega, hB0.size, fun k hk => by rw [hk]; exact lt_of_block hnew, .pointer none, .slice none 0 0, .inl rfl, hnew, RowB.nil _ _, by simp [Value.ownBlock], fun k => by simp [Value.ownBlock]⟩
  have hc := tell_any (bu_put (w1.heap.size + 1) w.heap.size) own31 hE _ x (Nat.le_refl _) hsz hok [] (fun k => k = w1.heap.size + 1) W2 C hR (Nat.le_trans h5 hB0.size) (hT.of (hB0.block 0 (by omega)) (hB0.block 4 (by omega))) (fun k hk => by omega) hlv2 (by simpa using htx)
  refine Calls.mono hc ?_
  rintro e w3 ⟨rfl, S', hR', hk'⟩
  have hst := string_any _ _ _ S' w3 hR'
  rw [List.nil_append] at hst
  have hB3 : Below w.heap.size w w3 := hB0.trans (hk'.fr.below hB0.size (fun k hk => by omega))
  have HB3 := (show Hid _ from hB3)
  rw [HX.out] at hst
  clear hc hR hnew hlv2 hb2 hB0 hR' hk' hB3 hlv HAB hN1 hb1 hW2 hC hcs
  go_wp2_with (go_at_call 33; refine hst.mono ?_; rintro e w4 ⟨rfl, hb4⟩)
  go_ret2
  exact ⟨rfl, HB3.out.trans hb4⟩
end Pu
end Go.Proofs.YtiakidomcjpdhaaGreatDoor

namespace Go.Proofs.YtiakidomcjpdhaaGreatDoor
open Go.RowKit
namespace Es
open Pu PlnW

theorem two16 (w : World) : Calls Tryz.prog 138 #[.int .i64 16] w fun e w' => e = .returned (.bool true) ∧ w' = w := by
  go_enter Tryz.func138, Tryz.ntmps138
  go_wp2
  go_ret
  exact ⟨rfl, rfl⟩
theorem cell4 {w : World} (h : Pow10 w) (i n : Nat) (hi : Lib.deBruijn64tab[i]? = some n) : w.cell? ⟨4, i, none⟩ = some (.int .u8 (n : Int)) := by
  have hd := h.2
  unfold Dbr Lib.TabIs World.var? at hd
  rw [show Tryz.prog.globalNamed "math/bits.deBruijn64tab" = some 4 by kernel_rfl] at hd
  simp only [Option.bind_some] at hd
  cases hq : w.heap[4]? with
  | none => simp [hq] at hd
  | some o =>
    cases o with
    | cells cs e f =>
      simp only [hq, Option.some.injEq] at hd
      simp [World.cell?, hq, hd, hi]
    | _ => simp [hq] at hd
theorem tz16 (w : World) (h : Pow10 w) : Calls Tryz.prog 152 #[.int .u64 16] w fun e w' => e = .returned (.int .i64 4) ∧ w' = w := by
  have c := cell4 h 15 4 rfl
  have hx : IntKind.u64.wrap (bits BinOp.and IntKind.u64 16 (IntKind.u64.wrap (-16)) * 285870213051353865) / 288230376151711744 = 15 := by decide +kernel
  go_enter Tryz.func152, Tryz.ntmps152
  go_wp2
  go_ret
  exact ⟨rfl, rfl⟩
theorem tz (w : World) (h : Pow10 w) : Calls Tryz.prog 139 #[.int .u64 16] w fun e w' => e = .returned (.int .i64 4) ∧ w' = w := by
  go_enter Tryz.func139, Tryz.ntmps139
  go_wp2_with (go_at_call 152; refine (tz16 _ h).mono ?_; rintro e w1 ⟨rfl, rfl⟩)
  go_ret
  exact ⟨rfl, rfl⟩
/-- Where the digits stand in the array. -/
def Dg (w : World) (P : Nat) (u j : Nat) : Prop := ∃ cur : Array Value, w.heap[P]? = some (.cells cur 162 (0, 0)) ∧ cur.size = 65 ∧ ∀ k, k < j → cur[64 - k]? = some (.int .u8 ((hexB (u / 16 ^ k % 16)).toNat : Int))
theorem dig (D : Nat) (hD : D < 16) (h : D < (⟨#[48, 49, 50, 51, 52, 53, 54, 55, 56, 57, 97, 98, 99, 100, 101, 102, 103, 104, 105, 106, 107, 108, 109, 110, 111, 112, 113, 114, 115, 116, 117, 118, 119, 120, 121, 122]⟩ : ByteArray).size) : ((⟨#[48, 49, 50, 51, 52, 53, 54, 55, 56, 57, 97, 98, 99, 100, 101, 102, 103, 104, 105, 106, 107, 108, 109, 110, 111, 112, 113, 114, 115, 116, 117, 118, 119, 120, 121, 122]⟩ : ByteArray)[D]'h) = hexB D := by
  have hc : D = 0 ∨ D = 1 ∨ D = 2 ∨ D = 3 ∨ D = 4 ∨ D = 5 ∨ D = 6 ∨ D = 7 ∨ D = 8 ∨ D = 9 ∨ D = 10 ∨ D = 11 ∨ D = 12 ∨ D = 13 ∨ D = 14 ∨ D = 15 := by omega
  rcases hc with rfl | rfl | rfl | rfl | rfl | rfl | rfl | rfl | rfl | rfl | rfl | rfl | rfl | rfl | rfl | rfl <;> rfl
theorem facts : ∀ r, r < 32 → ∀ j, j < 4 → 16 ≤ (65536 + r) / 16 ^ j ∧ (65536 + r) / 16 ^ j ≤ 65567 ∧ bits .and .u64 (((65536 + r) / 16 ^ j : Nat) : Int) 15 = (((65536 + r) / 16 ^ j % 16 : Nat) : Int) := by decide +kernel
theorem Dg.set {w : World} {P u j : Nat} (h : Dg w P u j) (hj : j < 65) : Dg (w.setCell ⟨P, 64 - j, none⟩ (.int .u8 ((hexB (u / 16 ^ j % 16)).toNat : Int))) P u (j + 1) := by
  obtain ⟨cur, h1, h2, h3⟩ := h
  refine ⟨cur.setIfInBounds (64 - j) (.int .u8 ((hexB (u / 16 ^ j % 16)).toNat : Int)), by simp [World.setCell, Array.getElem?_modify, h1], by simpa using h2, fun k hk => ?_⟩
  rw [Array.getElem?_setIfInBounds]
  by_cases e : k = j
  · subst e
    rw [if_pos rfl, if_pos (by omega)]
  · rw [if_neg (by omega)]
    exact h3 k (by omega)
theorem Dg.at {w : World} {P u j : Nat} (h : Dg w P u j) (i : Nat) (hi : i < 65) : ∃ v, w.cell? ⟨P, i, none⟩ = some v ∧ w.frozen? ⟨P, i, none⟩ = false := by
  obtain ⟨cur, h1, h2, h3⟩ := h
  exact ⟨cur[i], by simp [World.cell?, h1], by simp [World.frozen?, h1]⟩
theorem below_set {N : Nat} {w w' : World} {P i : Nat} {v : Value} (h : Below N w w') (hP : N ≤ P) : Below N w (w'.setCell ⟨P, i, none⟩ v) :=
  ⟨h.os, h.tape, h.output, by simpa using h.size, fun k hk => (Below.heap_setCell _ _ _ _ (by show k ≠ P; omega)).trans (h.block k hk)⟩
theorem Dg.text {w : World} {P u : Nat} (h0 : 65536 ≤ u) (h1 : u < 65568) (h : Dg w P u 5) : (convert 49 9 (.slice (some ⟨P, 60, none⟩) 5 5)).run Tryz.prog w = .ok (.string ⟨#[49, 48, 48, hexB (u / 16 % 16), hexB (u % 16)]⟩) w := by
  obtain ⟨cur, hc, hs, hd⟩ := h
  have k4 := hd 4 (by omega)
  have k3 := hd 3 (by omega)
  have k2 := hd 2 (by omega)
  have k1 := hd 1 (by omega)
  have k0 := hd 0 (by omega)
  rw [show u / 16 ^ 4 % 16 = 1 by omega, show hexB 1 = 49 from rfl] at k4
  rw [show u / 16 ^ 3 % 16 = 0 by omega, show hexB 0 = 48 from rfl] at k3
  rw [show u / 16 ^ 2 % 16 = 0 by omega, show hexB 0 = 48 from rfl] at k2
  rw [show u / 16 ^ 1 % 16 = u / 16 % 16 by omega] at k1
  rw [show u / 16 ^ 0 % 16 = u % 16 by omega] at k0
  refine run_convert_bytes_back (P := Tryz.prog) w 49 9 5 ⟨P, 60, none⟩ 5 [49, 48, 48, hexB (u / 16 % 16), hexB (u % 16)] Tryz.underlying49 Tryz.underlying5 Tryz.underlying9 (fun j hj => ?_)
  have hj5 : j = 0 ∨ j = 1 ∨ j = 2 ∨ j = 3 ∨ j = 4 := by simp at hj; omega
  rcases hj5 with rfl | rfl | rfl | rfl | rfl
  · simpa [Addr.add, World.cell?, hc] using k4
  · simpa [Addr.add, World.cell?, hc] using k3
  · simpa [Addr.add, World.cell?, hc] using k2
  · simpa [Addr.add, World.cell?, hc] using k1
  · simpa [Addr.add, World.cell?, hc] using k0
set_option maxHeartbeats 2000000 in
set_option maxRecDepth 8000 in
theorem fmt16 (w : World) (h : Pow10 w) (h5 : 5 ≤ w.heap.size) (u : Nat) (h0 : 65536 ≤ u) (h1 : u < 65568) : Calls Tryz.prog 109 #[.slice none 0 0, .int .u64 (u : Int), .int .i64 16, .bool false, .bool false] w fun e w' => ∃ v, e = .returned (.tuple #[v, .string ⟨#[49, 48, 48, hexB (u / 16 % 16), hexB (u % 16)]⟩]) ∧ Below w.heap.size w w' := by
  have hb0 : ∀ o, Below w.heap.size w (w.alloc o) := fun o => (Below.refl _ _).alloc (Nat.le_refl _) o
  have hp0 : ∀ o, Pow10 (w.alloc o) := fun o => h.of ((hb0 o).block 0 (by omega)) ((hb0 o).block 4 (by omega))
  go_enter Tryz.func109, Tryz.ntmps109
  go_wp2_with (first
    | (go_at_call 138; refine (two16 _).mono ?_; rintro e w1 ⟨rfl, hw1⟩; rw [hw1])
    | (go_at_call 139; refine (tz _ (hp0 _)).mono ?_; rintro e w2 ⟨rfl, hw2⟩; rw [hw2]))
  go_loopw [1, 13] (fun x y wr => ∃ j : Nat, x = .int .u64 ((u / 16 ^ j : Nat) : Int) ∧ y = .int .i64 (65 - (j : Int)) ∧ j ≤ 4 ∧ Hid (Dg wr w.heap.size u j) ∧ Hid (Below w.heap.size w wr)) (fun x _ _ => numT x)
  case atStart => exact ⟨0, by simp, by simp, by omega, ⟨_, heap_alloc_new _ _, by kernel_rfl, fun k hk => by omega⟩, hb0 _⟩
  case round =>
    obtain ⟨j, rfl, rfl, hj, HD, HB⟩ := hrel
    by_cases hj4 : j < 4
    · obtain ⟨f1, f2, f3⟩ := facts (u - 65536) (by omega) j hj4
      rw [show 65536 + (u - 65536) = u by omega] at f1 f2 f3
      obtain ⟨V, hV⟩ : ∃ V, u / 16 ^ j = V := ⟨_, rfl⟩
      rw [hV] at f1 f2 f3 ⊢
      have HV : Hid (u / 16 ^ j = V) := hV
      clear hV
      have hc : (16 : Int) ≤ (V : Int) := by omega
      have hd16 : V % 16 < 16 := Nat.mod_lt _ (by omega)
      obtain ⟨D, hD⟩ : ∃ D, V % 16 = D := ⟨_, rfl⟩
      rw [hD] at f3 hd16
      obtain ⟨ov, ho, hz⟩ := HD.out.at (65 - j - 1) (by omega)
      go_wp2
      go_roundw
      case rel =>
        rw [dig D hd16]
        refine ⟨j + 1, ?_, ?_, hj4, ?_, ?_⟩
        · rw [Nat.pow_succ, ← Nat.div_div_eq_div_mul, HV.out]
          rfl
        · congr 1
          omega
        · have h9 := HD.out.set (by omega)
          rw [HV.out, hD, show 64 - j = 65 - j - 1 by omega] at h9
          exact h9
        · exact below_set HB.out (Nat.le_refl _)
      case measure => simp [numT]; omega
    · have hj5 : j = 4 := by omega
      subst hj5
      have e1 : u / 16 ^ 4 = 1 := by omega
      have h9 := HD.out.set (by omega)
      rw [e1] at h9 ⊢
      have hcv : (convert 49 9 (.slice (some ⟨w.heap.size, 60, none⟩) 5 5)).run Tryz.prog (wr.setCell ⟨w.heap.size, 60, none⟩ (.int .u8 ((hexB 1).toNat : Int))) = .ok (.string ⟨#[49, 48, 48, hexB (u / 16 % 16), hexB (u % 16)]⟩) (wr.setCell ⟨w.heap.size, 60, none⟩ (.int .u8 ((hexB 1).toNat : Int))) := Dg.text h0 h1 h9
      obtain ⟨ov, ho, hz⟩ := HD.out.at 60 (by omega)
      have HB9 : Hid (Below w.heap.size w (wr.setCell ⟨w.heap.size, 60, none⟩ (.int .u8 ((hexB 1).toNat : Int)))) := below_set HB.out (Nat.le_refl _)
      have HCV : Hid ((convert 49 9 (.slice (some ⟨w.heap.size, 60, none⟩) 5 5)).run Tryz.prog (wr.setCell ⟨w.heap.size, 60, none⟩ (.int .u8 ((hexB 1).toNat : Int))) = .ok (.string ⟨#[49, 48, 48, hexB (u / 16 % 16), hexB (u % 16)]⟩) (wr.setCell ⟨w.heap.size, 60, none⟩ (.int .u8 ((hexB 1).toNat : Int)))) := hcv
      rw [show (65 - ((4 : Nat) : Int)) = 61 from rfl]
      clear h9 hcv
      go_wp2
      rw [dig 1 (by omega), HCV.out]
      go_simp
      go_wp2
      go_ret2
      exact ⟨_, rfl, HB9.out⟩
theorem formatInt16 (w : World) (h : Pow10 w) (h5 : 5 ≤ w.heap.size) (u : Nat) (h0 : 65536 ≤ u) (h1 : u < 65568) : Calls Tryz.prog 49 #[.int .i64 (u : Int), .int .i64 16] w fun e w' => e = .returned (.string ⟨#[49, 48, 48, hexB (u / 16 % 16), hexB (u % 16)]⟩) ∧ Below w.heap.size w w' := by
  have c : Calls Tryz.prog 75 #[.int .i64 (u : Int), .int .i64 16] w fun e w' => e = .returned (.string ⟨#[49, 48, 48, hexB (u / 16 % 16), hexB (u % 16)]⟩) ∧ Below w.heap.size w w' := by
    have hf := fmt16 w h h5 u h0 h1
    have hn : ¬ (u : Int) < 0 := by omega
    go_enter Tryz.func75, Tryz.ntmps75
    go_wp2_with (go_at_call 109; refine hf.mono ?_; rintro e w1 ⟨v, rfl, hb⟩)
    go_ret
    exact ⟨rfl, hb⟩
  go_enter Tryz.func49, Tryz.ntmps49
  go_wp2_with (go_at_call 75; refine c.mono ?_; rintro e w1 ⟨rfl, hb⟩)
  go_ret
  exact ⟨rfl, hb⟩
end Es
end Go.Proofs.YtiakidomcjpdhaaGreatDoor

namespace Go.Proofs.YtiakidomcjpdhaaGreatDoor
open Go.RowKit
namespace Es
open Pu PlnW

theorem five {w : World} (h : Pow10 w) : 5 ≤ w.heap.size := by
  have h1 := cell4 h 15 4 rfl
  have := World.block_lt_of_cell? w ⟨4, 15, none⟩ h1
  simp at this
  omega
set_option maxRecDepth 4000 in
theorem esc_low (r : Nat) (w : World) (h : Pow10 w) (hr : r < 32) (n8 : r ≠ 8) (n9 : r ≠ 9) (n10 : r ≠ 10) (n12 : r ≠ 12) (n13 : r ≠ 13) : Calls Tryz.prog 76 #[.int .i32 (r : Int)] w fun e w' => e = .returned (.string ⟨#[92, 117, 48, 48, hexB (r / 16), hexB (r % 16)]⟩) ∧ Below w.heap.size w w' := by
  have hf := formatInt16 w h (five h) (65536 + r) (by omega) (by omega)
  rw [show (65536 + r) / 16 % 16 = r / 16 by omega, show (65536 + r) % 16 = r % 16 by omega] at hf
  obtain ⟨U, hU⟩ : ∃ U : Nat, 65536 + r = U := ⟨_, rfl⟩
  rw [hU] at hf
  have hu : (65536 : Int) + (r : Int) = (U : Int) := by omega
  have e1 : ¬ (r : Int) = 34 := by omega
  have e2 : ¬ (r : Int) = 92 := by omega
  have e3 : ¬ (r : Int) = 8 := by omega
  have e4 : ¬ (r : Int) = 9 := by omega
  have e5 : ¬ (r : Int) = 10 := by omega
  have e6 : ¬ (r : Int) = 12 := by omega
  have e7 : ¬ (r : Int) = 13 := by omega
  have e8 : ¬ (32 : Int) ≤ (r : Int) := by omega
  obtain ⟨a, ha⟩ : ∃ a, hexB (r / 16) = a := ⟨_, rfl⟩
  obtain ⟨b, hb⟩ : ∃ b, hexB (r % 16) = b := ⟨_, rfl⟩
  rw [ha, hb] at hf ⊢
  clear ha hb
  go_enter Tryz.func76, Tryz.ntmps76
  go_wp2_with (go_at_call 49; refine hf.mono ?_; rintro e w1 ⟨rfl, hb1⟩)
  go_ret
  exact ⟨by rfl, hb1⟩
theorem esc_const (r : Nat) (w : World) (hr : 32 ≤ r ∨ r = 8 ∨ r = 9 ∨ r = 10 ∨ r = 12 ∨ r = 13) (hm : r < 1114112) : Calls Tryz.prog 76 #[.int .i32 (r : Int)] w fun e w' => e = .returned (.string ⟨(escR r).toArray⟩) ∧ w' = w := by
  by_cases h34 : r = 34
  · subst h34
    go_enter Tryz.func76, Tryz.ntmps76
    go_wp2
    go_ret
    exact ⟨rfl, rfl⟩
  by_cases h92 : r = 92
  · subst h92
    go_enter Tryz.func76, Tryz.ntmps76
    go_wp2
    go_ret
    exact ⟨rfl, rfl⟩
  have e1 : ¬ (r : Int) = 34 := by omega
  have e2 : ¬ (r : Int) = 92 := by omega
  rcases hr with h | rfl | rfl | rfl | rfl | rfl
  · have e3 : ¬ (r : Int) = 8 := by omega
    have e4 : ¬ (r : Int) = 9 := by omega
    have e5 : ¬ (r : Int) = 10 := by omega
    have e6 : ¬ (r : Int) = 12 := by omega
    have e7 : ¬ (r : Int) = 13 := by omega
    have e8 : (32 : Int) ≤ (r : Int) := by omega
    have e : escR r = [] := by
      unfold escR
      rw [if_neg h34, if_neg h92, if_neg (by omega), if_neg (by omega), if_neg (by omega), if_neg (by omega), if_neg (by omega), if_pos h]
    rw [e]
    go_enter Tryz.func76, Tryz.ntmps76
    go_wp2
    go_ret
    exact ⟨rfl, rfl⟩
  all_goals
    go_enter Tryz.func76, Tryz.ntmps76
    go_wp2
    go_ret
    exact ⟨rfl, rfl⟩
theorem escAt : EscAt := fun r w hr hT => by
  by_cases h : 32 ≤ r ∨ r = 8 ∨ r = 9 ∨ r = 10 ∨ r = 12 ∨ r = 13
  · refine (esc_const r w h hr).mono ?_
    rintro e w' ⟨rfl, rfl⟩
    exact ⟨rfl, Below.refl _ _⟩
  · have e : escR r = [92, 117, 48, 48, hexB (r / 16), hexB (r % 16)] := by
      unfold escR
      rw [if_neg (by omega), if_neg (by omega), if_neg (by omega), if_neg (by omega), if_neg (by omega), if_neg (by omega), if_neg (by omega), if_neg (by omega)]
    rw [e]
    exact esc_low r w hT (by omega) (by omega) (by omega) (by omega) (by omega) (by omega)
end Es
end Go.Proofs.YtiakidomcjpdhaaGreatDoor
