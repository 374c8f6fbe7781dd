/- What tell does at every value: a contract by induction on the value, for every function value that takes pieces. What length does: how many bytes the text of a value has, told up to a bound. What the reference's told answers: can a value be told? By walking its text, and by induction. What canon.namesCanBeTold answers: are an object's names sound, and none there twice? -/
import Derived.Test.YtiakidomcjpdhaaGreatDoorGNm
import Derived.Test.YtiakidomcjpdhaaGreatDoorGObD
import Derived.Maps.OwnOps
namespace Go.Proofs.YtiakidomcjpdhaaGreatDoor
open Go.RowKit
namespace Pu
open SndW PlnW

mutual
/-- The numbers in a value are such as an int64 holds. -/
def okV : GV → Prop
  | .mk k _ n _ l f => (k = 2 → -9223372036854775808 ≤ n ∧ n ≤ 9223372036854775807) ∧ okL l ∧ okF f
def okL : List GV → Prop
  | [] => True
  | x :: l => okV x ∧ okL l
def okF : List (ByteArray × GV) → Prop
  | [] => True
  | x :: l => okP x ∧ okF l
def okP : ByteArray × GV → Prop
  | (_, x) => okV x
end
theorem okL_get : ∀ {l : List GV}, okL l → ∀ i (h : i < l.length), okV l[i]
  | [], _, i, h => by simp at h
  | x :: l, hl, 0, _ => hl.1
  | x :: l, hl, i + 1, h => okL_get hl.2 i (by simpa using h)
theorem okF_get : ∀ {l : List (ByteArray × GV)}, okF l → ∀ i (h : i < l.length), okV (l[i]).2
  | [], _, i, h => by simp at h
  | x :: l, hl, 0, _ => by cases x; exact hl.1
  | x :: l, hl, i + 1, h => okF_get hl.2 i (by simpa using h)
open Go.Sort Go.Lib in
theorem below_grow (w : World) (k : Nat) (os : Array Obj) : Below w.heap.size w (grow (w.drewN k) os) := by
  refine ⟨rfl, rfl, rfl, ?_, fun i hi => ?_⟩
  · simp [grow]
  · show ((w.drewN k).heap ++ os)[i]? = _
    rw [Array.getElem?_append_left (by simpa using hi)]
    rfl
theorem formatInt_any (n : Int) (h0 : -9223372036854775808 ≤ n) (h1 : n ≤ 9223372036854775807) (w : World) (hT : Pow10 w) : Calls Tryz.prog 49 #[.int .i64 n, .int .i64 10] w fun e w' => e = .returned (.string ⟨(Lib.itoa n).toArray⟩) ∧ Below w.heap.size w w' := by
  refine (strconv_FormatInt_10 n h0 h1 w hT.1).mono ?_
  rintro e w' ⟨rfl, k, os, rfl⟩
  exact ⟨rfl, below_grow _ _ _⟩

section
variable {f : FuncId} {cap : Value} {lim : Nat} {R : List UInt8 → (Nat → Prop) → World → Prop}
set_option maxRecDepth 20000 in
set_option maxHeartbeats 4000000 in
theorem tell_step (P : Putter f cap lim R) (hF : ∀ (args : Array Value) (w : World), Sem.run Tryz.prog (callFunc f args) w = .ok (.enter f args) w) (hE : EscAt) (k : Int) (bo : Bool) (n : Int) (t : ByteArray) (l : List GV) (fs : List (ByteArray × GV)) (hsz : (GV.mk k bo n t l fs).sz ≤ 2000000) (hok : okV (GV.mk k bo n t l fs)) (hl : ∀ i (h : i < l.length), TellAt f cap lim R (l[i])) (hf : ∀ i (h : i < fs.length), (fs[i]).1.size ≤ 2000000 ∧ TellAt f cap lim R (fs[i]).2) : TellAt f cap lim R (.mk k bo n t l fs) := by
  intro b S w cs hR h5 hT hS hx hlim
  obtain ⟨a1, c1, a2, c2, xs, ys, hcs, hs1, hs2, hl1, hf1⟩ := hx.form
  obtain rfl : cs = #[.int .i64 k, .bool bo, .int .i64 n, .string t, .slice a1 l.length c1, .slice a2 fs.length c2] := by
    cases cs
    simpa using hcs
  have hlen : t.size ≤ 2000000 ∧ l.length ≤ 2000000 ∧ fs.length ≤ 2000000 := by
    have := szL_len l
    have := szF_len fs
    unfold GV.sz at hsz
    omega
  obtain ⟨C, hC⟩ : ∃ C : Array Value, C = #[.int .i64 k, .bool bo, .int .i64 n, .string t, .slice a1 l.length c1, .slice a2 fs.length c2] := ⟨_, rfl⟩
  have hab : Below w.heap.size w (w.alloc (.cells C 25)) := (Below.refl _ _).alloc (Nat.le_refl _) _
  have hRa := P.keep hR hab
  have hka := Kp.below (S := S) hab
  have ha5 : 5 ≤ (w.alloc (.cells C 25)).heap.size := Nat.le_trans h5 hab.size
  have hTa := hka.pow h5 hS hT
  obtain ⟨Wa, hWa⟩ : ∃ W, W = w.alloc (.cells C 25) := ⟨_, rfl⟩
  rw [← hWa] at hab hRa hka ha5 hTa
  by_cases k0 : k = 0
  · subst k0
    have hc := P.call ⟨#[110, 117, 108, 108]⟩ hRa (by simp [txV] at hlim; simp [ByteArray.size]; omega)
    have HC : Hid (Calls Tryz.prog f #[.string ⟨#[110, 117, 108, 108]⟩, cap] Wa (Took R (b ++ txV (.mk 0 bo n t l fs)) S w)) := by
      refine Calls.mono hc ?_
      rintro e w' ⟨q1, S', q2, q3⟩
      exact ⟨q1, S', by simpa [txV] using q2, hka.trans q3⟩
    rw [hWa, hC] at HC
    clear hc hRa hka hab hTa ha5 hWa hC hx hcs hs1 hs2 hl1 hf1
    go_enter Tryz.func30, Tryz.ntmps30
    go_wp2_with (refine Calls.mono HC.out ?_; rintro e w' ⟨rfl, S', hR', hk'⟩)
    go_end0
    exact ⟨rfl, S', hR', hk'⟩
  by_cases k1 : k = 1
  · subst k1
    have htx : txV (.mk 1 bo n t l fs) = Lib.formatBool bo := by cases bo <;> rfl
    rw [htx] at hlim ⊢
    have hfb := strconv_FormatBool bo Wa
    have HC : Hid (Calls Tryz.prog f #[.string ⟨(Lib.formatBool bo).toArray⟩, cap] Wa (Took R (b ++ Lib.formatBool bo) S w)) := by
      refine Calls.mono (P.call ⟨(Lib.formatBool bo).toArray⟩ hRa (by simpa [ByteArray.size] using hlim)) ?_
      rintro e w' ⟨q1, S', q2, q3⟩
      exact ⟨q1, S', by simpa using q2, hka.trans q3⟩
    rw [hWa, hC] at HC hfb
    clear hRa hka hab hTa ha5 hWa hC hx hcs hs1 hs2 hl1 hf1
    go_enter Tryz.func30, Tryz.ntmps30
    go_wp2_with (first
      | (go_at_call 48; refine hfb.mono ?_; rintro e w' ⟨rfl, rfl⟩)
      | (refine Calls.mono HC.out ?_; rintro e w' ⟨rfl, S', hR', hk'⟩))
    go_end0
    exact ⟨rfl, S', hR', hk'⟩
  by_cases k2 : k = 2
  · subst k2
    have htx : txV (.mk 2 bo n t l fs) = Lib.itoa n := by simp [txV]
    rw [htx] at hlim ⊢
    have hn := hok
    unfold okV at hn
    have hfi := formatInt_any n (hn.1 rfl).1 (hn.1 rfl).2 Wa hTa
    have HC : Hid (∀ w2, Below Wa.heap.size Wa w2 → Calls Tryz.prog f #[.string ⟨(Lib.itoa n).toArray⟩, cap] w2 (Took R (b ++ Lib.itoa n) S w)) := fun w2 hb2 => by
      refine Calls.mono (P.call ⟨(Lib.itoa n).toArray⟩ (P.keep hRa hb2) (by simpa [ByteArray.size] using hlim)) ?_
      rintro e w' ⟨q1, S', q2, q3⟩
      exact ⟨q1, S', by simpa using q2, (hka.trans (Kp.below hb2)).trans q3⟩
    rw [hWa, hC] at HC hfi
    clear hn
    clear hRa hka hab hTa ha5 hWa hC hx hcs hs1 hs2 hl1 hf1
    go_enter Tryz.func30, Tryz.ntmps30
    go_wp2_with (first
      | (go_at_call 49; refine hfi.mono ?_; rintro e w2 ⟨rfl, hb2⟩)
      | (refine Calls.mono (HC.out _ hb2) ?_; rintro e w' ⟨rfl, S', hR', hk'⟩))
    go_end0
    exact ⟨rfl, S', hR', hk'⟩
  by_cases k3 : k = 3
  · subst k3
    have htx : txV (.mk 3 bo n t l fs) = quotedB t := by simp [txV]
    rw [htx] at hlim ⊢
    have hc := tellText_any P hF hE t hlen.1 b S Wa hRa ha5 hTa hS hlim
    have HC : Hid (Calls Tryz.prog 50 #[.string t, putV f cap] Wa (Took R (b ++ quotedB t) S w)) := by
      refine Calls.mono hc ?_
      rintro e w' ⟨q1, S', q2, q3⟩
      exact ⟨q1, S', q2, hka.trans q3⟩
    rw [hWa, hC] at HC
    clear hc
    clear hRa hka hab hTa ha5 hWa hC hx hcs hs1 hs2 hl1 hf1
    go_enter Tryz.func30, Tryz.ntmps30
    go_wp2_with (go_at_call 50; refine Calls.mono HC.out ?_; rintro e w' ⟨rfl, S', hR', hk'⟩)
    go_end0
    exact ⟨rfl, S', hR', hk'⟩
  by_cases k4 : k = 4
  · subst k4
    have htx : txV (.mk 4 bo n t l fs) = [91] ++ txL l true ++ [93] := by simp [txV]
    rw [htx] at hlim ⊢
    have hkb : ∀ k, ¬ S k → k < w.heap.size → ¬ S k ∧ Wa.heap[k]? = w.heap[k]? := fun k h1 h2 => ⟨h1, hab.block k h2⟩
    have hc := tellList_any P hF l hlen.2.1 hl b S Wa a1 c1 xs hRa ha5 hTa hS (hs1.conv (by decide) hkb) (hl1.conv hkb) (by simp only [List.length_append, List.length_cons, List.length_nil] at hlim; omega)
    have HC : Hid (Calls Tryz.prog 51 #[.slice a1 l.length c1, putV f cap] Wa (Took R (b ++ ([91] ++ txL l true ++ [93])) S w)) := by
      refine Calls.mono hc ?_
      rintro e w' ⟨q1, S', q2, q3⟩
      exact ⟨q1, S', q2, hka.trans q3⟩
    rw [hWa, hC] at HC
    clear hc hkb
    clear hRa hka hab hTa ha5 hWa hC hx hcs hs1 hs2 hl1 hf1
    go_enter Tryz.func30, Tryz.ntmps30
    go_wp2_with (go_at_call 51; refine Calls.mono HC.out ?_; rintro e w' ⟨rfl, S', hR', hk'⟩)
    go_end0
    exact ⟨rfl, S', hR', hk'⟩
  by_cases k5 : k = 5
  · subst k5
    have htx : txV (.mk 5 bo n t l fs) = [123] ++ txF fs true ++ [125] := by simp [txV]
    rw [htx] at hlim ⊢
    have hkb : ∀ k, ¬ S k → k < w.heap.size → ¬ S k ∧ Wa.heap[k]? = w.heap[k]? := fun k h1 h2 => ⟨h1, hab.block k h2⟩
    have hc := tellFields_any P hF fs hlen.2.2 (fun i h => ⟨fun b S w q1 q2 q3 q4 q5 => tellText_any P hF hE _ (hf i h).1 b S w q1 q2 q3 q4 q5, (hf i h).2⟩) b S Wa a2 c2 ys hRa ha5 hTa hS (hs2.conv (by decide) hkb) (hf1.conv hkb) (by simp only [List.length_append, List.length_cons, List.length_nil] at hlim; omega)
    have HC : Hid (Calls Tryz.prog 52 #[.slice a2 fs.length c2, putV f cap] Wa (Took R (b ++ ([123] ++ txF fs true ++ [125])) S w)) := by
      refine Calls.mono hc ?_
      rintro e w' ⟨q1, S', q2, q3⟩
      exact ⟨q1, S', q2, hka.trans q3⟩
    rw [hWa, hC] at HC
    clear hc hkb
    clear hRa hka hab hTa ha5 hWa hC hx hcs hs1 hs2 hl1 hf1
    go_enter Tryz.func30, Tryz.ntmps30
    go_wp2_with (go_at_call 52; refine Calls.mono HC.out ?_; rintro e w' ⟨rfl, S', hR', hk'⟩)
    go_end0
    exact ⟨rfl, S', hR', hk'⟩
  have htx : txV (.mk k bo n t l fs) = [] := by simp [txV, k0, k1, k2, k3, k4, k5]
  rw [htx, List.append_nil]
  have e0 : (k == 0) = false := by simpa using k0
  have e1 : (k == 1) = false := by simpa using k1
  have e2 : (k == 2) = false := by simpa using k2
  have e3 : (k == 3) = false := by simpa using k3
  have e4 : (k == 4) = false := by simpa using k4
  have e5 : (k == 5) = false := by simpa using k5
  have HC : Hid (Took R b S w (.returned (.tuple #[])) Wa) := ⟨rfl, S, hRa, hka⟩
  rw [hWa, hC] at HC
  clear hRa hka hab hTa ha5 hWa hC hx hcs hs1 hs2 hl1 hf1 htx
  go_enter Tryz.func30, Tryz.ntmps30
  go_wp2
  go_end0
  exact HC.out
theorem szL_get : ∀ (l : List GV) (i : Nat) (h : i < l.length), (l[i]).sz ≤ szL l
  | [], i, h => by simp at h
  | x :: l, 0, _ => by simp [szL]
  | x :: l, i + 1, h => by
    have := szL_get l i (by simpa using h)
    simp only [List.getElem_cons_succ, szL]
    omega
theorem szF_get : ∀ (l : List (ByteArray × GV)) (i : Nat) (h : i < l.length), (l[i]).1.size + (l[i]).2.sz ≤ szF l
  | [], i, h => by simp at h
  | (nm, x) :: l, 0, _ => by simp [szF, szP]
  | x :: l, i + 1, h => by
    have := szF_get l i (by simpa using h)
    simp only [List.getElem_cons_succ, szF]
    omega
/-- tell, at every value of bounded size. -/
theorem tell_any (P : Putter f cap lim R) (hF : ∀ (args : Array Value) (w : World), Sem.run Tryz.prog (callFunc f args) w = .ok (.enter f args) w) (hE : EscAt) : ∀ (m : Nat) (x : GV), x.sz ≤ m → m ≤ 2000000 → okV x → TellAt f cap lim R x
  | 0, x, h, _, _ => by have := GV.sz_pos x; omega
  | m + 1, .mk k bo n t l fs, h, hm, hok => by
    have hs : 1 + t.size + szL l + szF fs ≤ m + 1 := by simpa [GV.sz] using h
    have ho := hok
    unfold okV at ho
    refine tell_step P hF hE k bo n t l fs (by omega) hok (fun i hi => ?_) (fun i hi => ⟨?_, ?_⟩)
    · exact tell_any P hF hE m _ (by have := szL_get l i hi; omega) (by omega) (okL_get ho.2.1 i hi)
    · have := szF_get fs i hi
      omega
    · exact tell_any P hF hE m _ (by have := szF_get fs i hi; omega) (by omega) (okF_get ho.2.2 i hi)
end
end Pu
end Go.Proofs.YtiakidomcjpdhaaGreatDoor

namespace Go.Proofs.YtiakidomcjpdhaaGreatDoor
open Go.RowKit
namespace Pu
open SndW PlnW

/-- What the function value of length holds: how many bytes it took, up to a bound. -/
def LenR (c : Nat) (b : List UInt8) (S : Nat → Prop) (w : World) : Prop := (∀ k, S k ↔ k = c) ∧ w.heap[c]? = some (.cells #[.int .i64 (min (b.length : Int) 65537)] 3 (0, 0))
theorem own83 : ∀ (args : Array Value) (w : World), Sem.run Tryz.prog (callFunc 83 args) w = .ok (.enter 83 args) w := fun args w => by go_simp
theorem len_put (c : Nat) : Putter 83 (.pointer (some ⟨c, 0, none⟩)) 4611686018427387904 (LenR c) where
  lt := fun {b S w} h k hk => by
    rw [(h.1 k).1 hk]
    exact lt_of_block h.2
  kept := fun {b S w w'} h f => ⟨h.1, (f.block c (lt_of_block h.2) (fun hn => hn ((h.1 c).2 rfl))).trans h.2⟩
  call := fun {b S w} s h hlim => by
    obtain ⟨hS, hc⟩ := h
    have x0 : w.cell? ⟨c, 0, none⟩ = some (.int .i64 (min (b.length : Int) 65537)) := by simp [World.cell?, hc]
    have fz : w.frozen? ⟨c, 0, none⟩ = false := by simp [World.frozen?, hc]
    go_enter Tryz.func83, Tryz.ntmps83
    go_wp2
    go_end0
    refine ⟨rfl, S, ⟨hS, ?_⟩, Fr.setCell w _ _ ((hS c).2 rfl), fun _ h => .inl h⟩
    have e : min (min (b.length : Int) 65537 + s.size) 65537 = min (((b ++ s.data.toList).length : Nat) : Int) 65537 := by
      rw [List.length_append, ← Lib.size_eq]
      omega
    rw [e]
    simp only [World.setCell, Array.getElem?_modify, hc]
    simp
set_option maxRecDepth 20000 in
set_option maxHeartbeats 4000000 in
/-- length, at every value of bounded size. -/
theorem length_any (hE : EscAt) (x : GV) (hsz : x.sz ≤ 2000000) (hok : okV x) (htx : (txV x).length ≤ 4611686018427387904) (w : World) (ok : Nat → Prop) (cs : Array Value) (h5 : 5 ≤ w.heap.size) (hT : Pow10 w) (hx : LaidV w ok x cs.toList) : Calls Tryz.prog 59 #[.agg cs] w fun e w' => e = .returned (.int .i64 (min ((txV x).length : Int) 65537)) ∧ Below w.heap.size w w' := by
  obtain ⟨W, hW⟩ : ∃ W, W = (w.alloc (.cells cs 25)).alloc (.cells #[.int .i64 0] 3) := ⟨_, rfl⟩
  have hb1 : Below w.heap.size w W := by rw [hW]; exact ((Below.refl _ _).alloc (Nat.le_refl _) _).alloc (by simp) _
  have hR : LenR (w.heap.size + 1) [] (fun k => k = w.heap.size + 1) W := ⟨fun _ => Iff.rfl, by
    rw [hW]
    have h := heap_alloc_new (w.alloc (.cells cs 25)) (.cells #[.int .i64 0] 3)
    have e : (w.alloc (.cells cs 25)).heap.size = w.heap.size + 1 := by simp
    rw [e] at h
    exact h⟩
  have hk : Kp (fun k => k = w.heap.size + 1) w (fun k => k = w.heap.size + 1) W := Kp.below hb1
  have hc := tell_any (len_put (w.heap.size + 1)) own83 hE _ x (Nat.le_refl _) hsz hok [] (fun k => k = w.heap.size + 1) W cs hR (Nat.le_trans h5 hb1.size) (hT.of (hb1.block 0 (by omega)) (hb1.block 4 (by omega))) (fun k hk => by omega) (hx.conv fun k _ hl => ⟨by omega, hb1.block k hl⟩) (by simpa using htx)
  have HC : Hid (Calls Tryz.prog 30 #[.agg cs, putV 83 (.pointer (some ⟨w.heap.size + 1, 0, none⟩))] W fun e w' => e = .returned (.tuple #[]) ∧ w'.cell? ⟨w.heap.size + 1, 0, none⟩ = some (.int .i64 (min ((txV x).length : Int) 65537)) ∧ Below w.heap.size w w') := by
    refine Calls.mono hc ?_
    rintro e w' ⟨q1, S', q2, q3⟩
    refine ⟨q1, ?_, ?_⟩
    · have := q2.2
      simp only [List.nil_append] at this
      simp [World.cell?, this]
    · exact (hk.trans q3).fr.below (Nat.le_refl _) (fun k hk => by omega)
  cases x with
  | mk k bo n t l fs =>
  obtain ⟨a1, c1, a2, c2, xs, ys, hcs, _⟩ := hx.form
  obtain rfl : cs = #[.int .i64 k, .bool bo, .int .i64 n, .string t, .slice a1 l.length c1, .slice a2 fs.length c2] := by
    cases cs
    simpa using hcs
  rw [hW] at HC
  obtain ⟨T, hTt⟩ : ∃ T, txV (.mk k bo n t l fs) = T := ⟨_, rfl⟩
  rw [hTt] at HC ⊢
  clear hc hR hk hb1 hx hcs hW hTt htx
  go_enter Tryz.func59, Tryz.ntmps59
  go_wp2_with (go_at_call 30; refine Calls.mono HC.out ?_; rintro e w' ⟨rfl, hcell, hb⟩)
  go_ret
  exact ⟨rfl, hb⟩
end Pu
end Go.Proofs.YtiakidomcjpdhaaGreatDoor

namespace Go.Proofs.YtiakidomcjpdhaaGreatDoor
open Go.RowKit
namespace Pu
open SndW RefW

mutual
/-- A value can be told, within so many lists and objects. -/
def TdV : GV → Int → Prop
  | .mk k _ n t l f, d => if k = 0 ∨ k = 1 then True else if k = 2 then (-9007199254740991 ≤ n ∧ n ≤ 9007199254740991) else if k = 3 then badAt t 0 < 0 else if k = 4 then TdL l (d + 1) ∧ d < 32 else if k = 5 then NamesOK f ∧ TdF f (d + 1) ∧ d < 32 else False
def TdL : List GV → Int → Prop
  | [], _ => True
  | x :: l, d => TdV x d ∧ TdL l d
def TdF : List (ByteArray × GV) → Int → Prop
  | [], _ => True
  | x :: l, d => TdP x d ∧ TdF l d
def TdP : ByteArray × GV → Int → Prop
  | (_, x), d => TdV x d
end
theorem TdL_get : ∀ {l : List GV} {d : Int}, TdL l d ↔ ∀ i (h : i < l.length), TdV l[i] d
  | [], d => by simp [TdL]
  | x :: l, d => by
    unfold TdL
    rw [TdL_get (l := l)]
    constructor
    · rintro ⟨h1, h2⟩ i h
      cases i with
      | zero => exact h1
      | succ i => exact h2 i (by simpa using h)
    · intro h
      exact ⟨h 0 (by simp), fun i hi => h (i + 1) (by simpa using hi)⟩
theorem TdF_get : ∀ {l : List (ByteArray × GV)} {d : Int}, TdF l d ↔ ∀ i (h : i < l.length), TdV (l[i]).2 d
  | [], d => by simp [TdF]
  | (nm, x) :: l, d => by
    unfold TdF
    rw [TdF_get (l := l)]
    unfold TdP
    constructor
    · rintro ⟨h1, h2⟩ i h
      cases i with
      | zero => exact h1
      | succ i => exact h2 i (by simpa using h)
    · intro h
      exact ⟨h 0 (by simp), fun i hi => h (i + 1) (by simpa using hi)⟩
/-- An answer that says whether something holds. -/
def Says' (p : Prop) (e : Ending) : Prop := ∃ V : Bool, e = .returned (.bool V) ∧ (V = true ↔ p)
theorem Says'.of {p : Prop} {V : Bool} (h : V = true ↔ p) : Says' p (.returned (.bool V)) := ⟨V, rfl, h⟩
def ToldAt (x : GV) : Prop := ∀ (d : Int) (w : World) (ok : Nat → Prop) (cs : Array Value), LaidV w ok x cs.toList → 0 ≤ d → d + x.sz ≤ 1000000000 → Calls Tryz.prog 34 #[.agg cs, .int .i64 d] w fun e w' => Says' (TdV x d) e ∧ Below w.heap.size w w'
set_option maxRecDepth 20000 in
set_option maxHeartbeats 4000000 in
theorem told_small (k : Int) (b : Bool) (n : Int) (t : ByteArray) (l : List GV) (f : List (ByteArray × GV)) (ht : t.size ≤ 2000000) (hk : k ≠ 4 ∧ k ≠ 5) : ToldAt (.mk k b n t l f) := by
  intro d w ok cs hx hd0 hd1
  obtain ⟨a1, c1, a2, c2, xs, ys, hcs, _⟩ := hx.form
  obtain rfl : cs = #[.int .i64 k, .bool b, .int .i64 n, .string t, .slice a1 l.length c1, .slice a2 f.length c2] := by
    cases cs
    simpa using hcs
  clear hcs hx
  have k4 : (k == 4) = false := by simpa using hk.1
  have k5 : (k == 5) = false := by simpa using hk.2
  have hab : Below w.heap.size w (w.alloc (.cells #[.int .i64 k, .bool b, .int .i64 n, .string t, .slice a1 l.length c1, .slice a2 f.length c2] 25)) := (Below.refl _ _).alloc (Nat.le_refl _) _
  have HAB := (show Hid _ from hab)
  clear hab
  by_cases k0 : k = 0
  · subst k0
    have HS : Hid (Says' (TdV (.mk 0 b n t l f) d) (.returned (.bool true))) := Says'.of (by simp [TdV])
    go_enter Tryz.func34, Tryz.ntmps34
    go_wp2
    go_ret
    exact ⟨HS.out, HAB.out⟩
  by_cases k1 : k = 1
  · subst k1
    have HS : Hid (Says' (TdV (.mk 1 b n t l f) d) (.returned (.bool true))) := Says'.of (by simp [TdV])
    go_enter Tryz.func34, Tryz.ntmps34
    go_wp2
    go_ret
    exact ⟨HS.out, HAB.out⟩
  have e0 : (k == 0) = false := by simpa using k0
  have e1 : (k == 1) = false := by simpa using k1
  by_cases k2 : k = 2
  · subst k2
    by_cases h1 : (-9007199254740991 : Int) ≤ n
    · by_cases h2 : n ≤ (9007199254740991 : Int)
      · have HS : Hid (Says' (TdV (.mk 2 b n t l f) d) (.returned (.bool true))) := Says'.of (by simp [TdV, h1, h2])
        go_enter Tryz.func34, Tryz.ntmps34
        go_wp2
        go_ret
        exact ⟨HS.out, HAB.out⟩
      · have HS : Hid (Says' (TdV (.mk 2 b n t l f) d) (.returned (.bool false))) := Says'.of (by simp [TdV, h1, h2])
        go_enter Tryz.func34, Tryz.ntmps34
        go_wp2
        go_ret
        exact ⟨HS.out, HAB.out⟩
    · have HS : Hid (Says' (TdV (.mk 2 b n t l f) d) (.returned (.bool false))) := Says'.of (by simp [TdV, h1])
      go_enter Tryz.func34, Tryz.ntmps34
      go_wp2
      go_ret
      exact ⟨HS.out, HAB.out⟩
  have e2 : (k == 2) = false := by simpa using k2
  by_cases k3 : k = 3
  · subst k3
    have cB := Bad_any t (w.alloc (.cells #[.int .i64 3, .bool b, .int .i64 n, .string t, .slice a1 l.length c1, .slice a2 f.length c2] 25)) (by omega)
    have HS : Hid (Says' (TdV (.mk 3 b n t l f) d) (.returned (.bool (decide (badAt t 0 < 0))))) := Says'.of (by simp [TdV])
    obtain ⟨N, hN⟩ : ∃ N, badAt t 0 = N := ⟨_, rfl⟩
    rw [hN] at cB HS
    go_enter Tryz.func34, Tryz.ntmps34
    go_wp2_with (go_at_call 54; refine cB.mono ?_; rintro e w1 ⟨rfl, h1⟩)
    go_ret
    exact ⟨HS.out, HAB.out.trans (h1.mono HAB.out.size)⟩
  have e3 : (k == 3) = false := by simpa using k3
  have HS : Hid (Says' (TdV (.mk k b n t l f) d) (.returned (.bool false))) := Says'.of (by simp [TdV, k0, k1, k2, k3, hk.1, hk.2])
  go_enter Tryz.func34, Tryz.ntmps34
  go_wp2
  go_ret
  exact ⟨HS.out, HAB.out⟩
set_option maxRecDepth 20000 in
set_option maxHeartbeats 4000000 in
theorem told_l (b : Bool) (n : Int) (t : ByteArray) (l : List GV) (f : List (ByteArray × GV)) (hsz : (GV.mk 4 b n t l f).sz ≤ 2000000) (hl : ∀ i (h : i < l.length), ToldAt (l[i])) : ToldAt (.mk 4 b n t l f) := by
  intro d w ok cs hx hd0 hd1
  obtain ⟨a1, c1, a2, c2, xs, ys, hcs, hs1, hs2, hl1, hf1⟩ := hx.form
  obtain rfl : cs = #[.int .i64 4, .bool b, .int .i64 n, .string t, .slice a1 l.length c1, .slice a2 f.length c2] := by
    cases cs
    simpa using hcs
  have hll : l.length ≤ 2000000 := by have := szL_len l; have := szF_len f; unfold GV.sz at hsz; omega
  have hsub : ∀ i (h : i < l.length), d + 1 + (l[i]).sz ≤ 1000000000 := fun i h => by have h9 := szL_get l i h; unfold GV.sz at hd1; omega
  have HE : Hid (TdV (.mk 4 b n t l f) d ↔ (∀ i (h : i < l.length), TdV l[i] (d + 1)) ∧ d < 32) := by
    show _ ↔ _
    rw [← TdL_get]
    simp [TdV]
  obtain ⟨T, hTd⟩ : ∃ T, TdV (.mk 4 b n t l f) d = T := ⟨_, rfl⟩
  rw [hTd] at HE ⊢
  have hdb : d ≤ 1000000000 := by unfold GV.sz at hd1; omega
  clear hcs hx hsz hTd hd1
  obtain ⟨C, hC⟩ : ∃ C : Array Value, C = #[.int .i64 4, .bool b, .int .i64 n, .string t, .slice a1 l.length c1, .slice a2 f.length c2] := ⟨_, rfl⟩
  have m0 : SndW.OneAt w C (w.alloc (.cells C 25)) := ⟨heap_alloc_new _ _, (Below.refl _ _).alloc (Nat.le_refl _) _, by simp⟩
  have x0 := (box6 (hC ▸ m0.v)).1
  rw [hC] at m0
  go_enter Tryz.func34, Tryz.ntmps34
  go_wp2
  clear x0
  go_loopw [5] (fun u w' => ∃ (i : Nat), u = .int .i64 (i : Int) ∧ i ≤ l.length ∧ Hid (∀ j (h : j < l.length), j < i → TdV l[j] (d + 1)) ∧ SndW.OneAt w #[.int .i64 4, .bool b, .int .i64 n, .string t, .slice a1 l.length c1, .slice a2 f.length c2] w') (fun u _ => l.length - numT u)
  case atStart => exact ⟨0, rfl, Nat.zero_le _, fun _ _ h => by omega, m0⟩
  case round =>
    obtain ⟨i, rfl, hil, HI, m⟩ := hrel
    have hmb := m.b
    have hms := m.s
    obtain ⟨x0, x1, x2, x3, x4, x5⟩ := box6 m.v
    clear m0
    by_cases hlt : i < l.length
    · have hlt' : (i : Int) < (l.length : Int) := by omega
      obtain ⟨sb, off, es, ha, hsb, hlv, hcell⟩ := SlAt.elem (hs1.conv (ok' := fun b => b < wr.heap.size) (w' := wr) (by decide) (fun b _ hb => ⟨Nat.lt_of_lt_of_le hb hmb.size, hmb.block b hb⟩)) (hl1.conv (fun b _ hb => ⟨Nat.lt_of_lt_of_le hb hmb.size, hmb.block b hb⟩)) i hlt
      have hcp := hl i hlt
      have hsu := hsub i hlt
      have HN : Hid (T → TdV l[i] (d + 1)) := fun h => (HE.out.1 h).1 i hlt
      have HS : Hid (TdV l[i] (d + 1) → ∀ j (h : j < l.length), j < i + 1 → TdV l[j] (d + 1)) := by
        intro h1 j h hj
        by_cases hji : j = i
        · subst hji; exact h1
        · exact HI.out j h (by omega)
      obtain ⟨X, hX⟩ : ∃ X, (l[i]) = X := ⟨_, rfl⟩
      rw [hX] at hlv hcp hsu HN HS
      cases hXc : X with
      | mk k' b' n' t' l' f' =>
      rw [hXc] at hlv
      obtain ⟨p1, q1, p2, q2, _, _, rfl, _⟩ := hlv.form
      rw [← hXc] at hlv
      subst ha
      have e0 := hcell 0 (by decide)
      have e1 := hcell 1 (by decide)
      have e2 := hcell 2 (by decide)
      have e3 := hcell 3 (by decide)
      have e4 := hcell 4 (by decide)
      have e5 := hcell 5 (by decide)
      simp only [List.getElem?_cons_zero, List.getElem?_cons_succ, Nat.add_zero] at e0 e1 e2 e3 e4 e5
      have hcall := hcp (d + 1) wr (fun b => b < wr.heap.size) #[.int .i64 k', .bool b', .int .i64 n', .string t', .slice p1 l'.length q1, .slice p2 f'.length q2] hlv (by omega) hsu
      obtain ⟨Y, hY⟩ : ∃ Y, TdV X (d + 1) = Y := ⟨_, rfl⟩
      rw [hY] at hcall HN HS
      have hc2 : Calls Tryz.prog 34 #[.agg #[.int .i64 k', .bool b', .int .i64 n', .string t', .slice p1 l'.length q1, .slice p2 f'.length q2], .int .i64 (d + 1)] wr fun e w' => (e = .returned (.bool true) ∧ Hid Y ∧ Below wr.heap.size wr w') ∨ (e = .returned (.bool false) ∧ Hid (¬ Y) ∧ Below wr.heap.size wr w') := by
        refine hcall.mono ?_
        rintro e w' ⟨⟨V, e1, e2⟩, e3⟩
        cases V with
        | true => exact .inl ⟨e1, e2.1 rfl, e3⟩
        | false => exact .inr ⟨e1, (fun h => nomatch (e2.2 h) : ¬ Y), e3⟩
      clear hcell hXc hlv hcp hX hY hcall HI hsu hsub hs1 hl1 hl
      go_wp2_with (go_at_call 34; refine hc2.mono ?_; rintro e w2 (⟨rfl, HY, h2⟩ | ⟨rfl, HY, h2⟩))
      · go_roundw
        case rel => exact ⟨i + 1, by simp, hlt, HS.out HY.out, m.keep h2⟩
        case measure => simp [numT]; omega
      · go_ret
        exact ⟨Says'.of ⟨(fun h => nomatch h), fun h => absurd (HN.out h) HY.out⟩, hmb.trans (h2.mono hmb.size)⟩
    · have hlt' : ¬ (i : Int) < (l.length : Int) := by omega
      have HF : Hid (Says' T (.returned (.bool (decide (d < 32))))) := Says'.of (by
        rw [decide_eq_true_iff, HE.out]
        exact ⟨fun h => ⟨fun j hj => HI.out j hj (by omega), h⟩, fun h => h.2⟩)
      clear HI HE
      go_wp2
      go_ret
      exact ⟨HF.out, hmb⟩
set_option maxRecDepth 20000 in
set_option maxHeartbeats 4000000 in
theorem told_f (b : Bool) (n : Int) (t : ByteArray) (l : List GV) (f : List (ByteArray × GV)) (hsz : (GV.mk 5 b n t l f).sz ≤ 2000000) (hf : ∀ i (h : i < f.length), ToldAt (f[i]).2) : ToldAt (.mk 5 b n t l f) := by
  intro d w ok cs hx hd0 hd1
  obtain ⟨a1, c1, a2, c2, xs, ys, hcs, hs1, hs2, hl1, hf1⟩ := hx.form
  obtain rfl : cs = #[.int .i64 5, .bool b, .int .i64 n, .string t, .slice a1 l.length c1, .slice a2 f.length c2] := by
    cases cs
    simpa using hcs
  have hll : f.length ≤ 2000000 := by have := szL_len l; have := szF_len f; unfold GV.sz at hsz; omega
  have hnm : ∀ i (h : i < f.length), (f[i]).1.size ≤ 17592186044416 := fun i h => by have h9 := szF_get f i h; unfold GV.sz at hsz; omega
  have hsub : ∀ i (h : i < f.length), d + 1 + (f[i]).2.sz ≤ 1000000000 := fun i h => by have h9 := szF_get f i h; unfold GV.sz at hd1; omega
  have HE : Hid (TdV (.mk 5 b n t l f) d ↔ NamesOK f ∧ (∀ i (h : i < f.length), TdV (f[i]).2 (d + 1)) ∧ d < 32) := by
    show _ ↔ _
    rw [← TdF_get]
    simp [TdV]
  obtain ⟨T, hTd⟩ : ∃ T, TdV (.mk 5 b n t l f) d = T := ⟨_, rfl⟩
  rw [hTd] at HE ⊢
  have hdb : d ≤ 1000000000 := by unfold GV.sz at hd1; omega
  clear hcs hx hsz hTd hd1
  obtain ⟨C, hC⟩ : ∃ C : Array Value, C = #[.int .i64 5, .bool b, .int .i64 n, .string t, .slice a1 l.length c1, .slice a2 f.length c2] := ⟨_, rfl⟩
  have m0 : SndW.OneAt w C (w.alloc (.cells C 25)) := ⟨heap_alloc_new _ _, (Below.refl _ _).alloc (Nat.le_refl _) _, by simp⟩
  have hN := names_any f hll hnm (w.alloc (.cells C 25)) ok a2 c2 ys (hs2.conv (by decide) (fun k hk hl => ⟨hk, m0.b.block k hl⟩)) (hf1.conv (fun k hk hl => ⟨hk, m0.b.block k hl⟩))
  obtain ⟨x0, _, _, _, _, x5⟩ := box6 (hC ▸ m0.v)
  rw [hC] at m0 hN
  have HM := (show Hid _ from m0)
  have hN2 : Calls Tryz.prog 55 #[.slice a2 f.length c2] (w.alloc (.cells #[.int .i64 5, .bool b, .int .i64 n, .string t, .slice a1 l.length c1, .slice a2 f.length c2] 25)) fun e w' => ∃ V : Bool, e = .returned (.bool V) ∧ Hid (V = true ↔ NamesOK f) ∧ SndW.OneAt w #[.int .i64 5, .bool b, .int .i64 n, .string t, .slice a1 l.length c1, .slice a2 f.length c2] w' := by
    refine hN.mono ?_
    rintro e w' ⟨⟨V, e1, e2⟩, e3⟩
    exact ⟨V, e1, e2, HM.out.keep e3⟩
  clear hN m0 HM
  go_enter Tryz.func34, Tryz.ntmps34
  go_wp2_with (go_at_call 55; refine hN2.mono ?_; rintro e w1 ⟨V0, rfl, HV0, m1⟩)
  clear x0 x5 hN2
  go_loopw [7, 8] (fun v u w' => ∃ (i : Nat) (V : Bool), v = .bool V ∧ u = .int .i64 (i : Int) ∧ i ≤ f.length ∧ Hid (V = true ↔ NamesOK f ∧ ∀ j (h : j < f.length), j < i → TdV (f[j]).2 (d + 1)) ∧ SndW.OneAt w #[.int .i64 5, .bool b, .int .i64 n, .string t, .slice a1 l.length c1, .slice a2 f.length c2] w') (fun _ u _ => f.length - numT u)
  case atStart => exact ⟨0, V0, rfl, rfl, Nat.zero_le _, ⟨fun h => ⟨HV0.out.1 h, fun _ _ h => by omega⟩, fun h => HV0.out.2 h.1⟩, m1⟩
  case round =>
    obtain ⟨i, V, rfl, rfl, hil, HI, m⟩ := hrel
    have hmb := m.b
    have hms := m.s
    obtain ⟨x0, x1, x2, x3, x4, x5⟩ := box6 m.v
    clear m1 HV0
    cases V with
    | false =>
      have HF : Hid (Says' T (.returned (.bool false))) := Says'.of ⟨(fun h => nomatch h), fun h => nomatch (HI.out.2 ⟨(HE.out.1 h).1, fun j hj _ => (HE.out.1 h).2.1 j hj⟩)⟩
      clear HI HE
      by_cases hlt : i < f.length
      · have hlt' : (i : Int) < (f.length : Int) := by omega
        go_wp2
        go_ret
        exact ⟨HF.out, hmb⟩
      · have hlt' : ¬ (i : Int) < (f.length : Int) := by omega
        go_wp2
        go_ret
        exact ⟨HF.out, hmb⟩
    | true =>
      by_cases hlt : i < f.length
      · have hlt' : (i : Int) < (f.length : Int) := by omega
        obtain ⟨sb, off, es, ha, hsb, hlv, hname, hcell⟩ := SlAt.field (hs2.conv (ok' := fun b => b < wr.heap.size) (w' := wr) (by decide) (fun b _ hb => ⟨Nat.lt_of_lt_of_le hb hmb.size, hmb.block b hb⟩)) (hf1.conv (fun b _ hb => ⟨Nat.lt_of_lt_of_le hb hmb.size, hmb.block b hb⟩)) i hlt
        have hcp := hf i hlt
        have hsu := hsub i hlt
        have HS : Hid (∀ V2 : Bool, (V2 = true ↔ TdV (f[i]).2 (d + 1)) → (V2 = true ↔ NamesOK f ∧ ∀ j (h : j < f.length), j < i + 1 → TdV (f[j]).2 (d + 1))) := by
          intro V2 h2
          rw [h2]
          have h0 := HI.out.1 rfl
          refine ⟨fun h => ⟨h0.1, fun j hj hji => ?_⟩, fun h => h.2 i hlt (by omega)⟩
          by_cases hj2 : j = i
          · subst hj2; exact h
          · exact h0.2 j hj (by omega)
        obtain ⟨X, hX⟩ : ∃ X, (f[i]).2 = X := ⟨_, rfl⟩
        rw [hX] at hlv hcp hsu HS
        cases hXc : X with
        | mk k' b' n' t' l' f' =>
        rw [hXc] at hlv
        obtain ⟨p1, q1, p2, q2, _, _, rfl, _⟩ := hlv.form
        rw [← hXc] at hlv
        subst ha
        have e0 := hcell 0 (by decide)
        have e1 := hcell 1 (by decide)
        have e2 := hcell 2 (by decide)
        have e3 := hcell 3 (by decide)
        have e4 := hcell 4 (by decide)
        have e5 := hcell 5 (by decide)
        simp only [List.getElem?_cons_zero, List.getElem?_cons_succ, Nat.add_zero, Nat.reduceAdd] at e0 e1 e2 e3 e4 e5
        have hcall := hcp (d + 1) wr (fun b => b < wr.heap.size) #[.int .i64 k', .bool b', .int .i64 n', .string t', .slice p1 l'.length q1, .slice p2 f'.length q2] hlv (by omega) hsu
        have hc2 : Calls Tryz.prog 34 #[.agg #[.int .i64 k', .bool b', .int .i64 n', .string t', .slice p1 l'.length q1, .slice p2 f'.length q2], .int .i64 (d + 1)] wr fun e w' => ∃ V2 : Bool, e = .returned (.bool V2) ∧ Hid (V2 = true ↔ NamesOK f ∧ ∀ j (h : j < f.length), j < i + 1 → TdV (f[j]).2 (d + 1)) ∧ Below wr.heap.size wr w' := by
          refine hcall.mono ?_
          rintro e w' ⟨⟨V2, e1, e2⟩, e3⟩
          exact ⟨V2, e1, HS.out V2 e2, e3⟩
        clear hcell hXc hlv hcp hX hcall HI hsu hsub hs2 hf1 hf HS hname hnm
        go_wp2_with (go_at_call 34; refine hc2.mono ?_; rintro e w2 ⟨V2, rfl, HV2, h2⟩)
        go_roundw
        case rel => exact ⟨i + 1, V2, rfl, by simp, hlt, HV2, m.keep h2⟩
        case measure => simp [numT]; omega
      · have hlt' : ¬ (i : Int) < (f.length : Int) := by omega
        have HF : Hid (Says' T (.returned (.bool (decide (d < 32))))) := Says'.of (by
          have h0 := HI.out.1 rfl
          rw [decide_eq_true_iff, HE.out]
          exact ⟨fun h => ⟨h0.1, fun j hj => h0.2 j hj (by omega), h⟩, fun h => h.2.2⟩)
        clear HI HE
        go_wp2
        go_ret
        exact ⟨HF.out, hmb⟩
/-- told, at every value of bounded size. -/
theorem told_any : ∀ (m : Nat) (x : GV), x.sz ≤ m → m ≤ 2000000 → ToldAt x
  | 0, x, h, _ => by have := GV.sz_pos x; omega
  | m + 1, .mk k bo n t l fs, h, hm => by
    have hs : 1 + t.size + szL l + szF fs ≤ m + 1 := by simpa [GV.sz] using h
    by_cases k4 : k = 4
    · subst k4
      exact told_l bo n t l fs (by omega) fun i hi => told_any m _ (by have := szL_get l i hi; omega) (by omega)
    by_cases k5 : k = 5
    · subst k5
      exact told_f bo n t l fs (by omega) fun i hi => told_any m _ (by have := szF_get fs i hi; omega) (by omega)
    exact told_small k bo n t l fs (by omega) ⟨k4, k5⟩
end Pu
end Go.Proofs.YtiakidomcjpdhaaGreatDoor

namespace Go.Proofs.YtiakidomcjpdhaaGreatDoor
open Go.RowKit
open Go.Maps
namespace Pu
open SndW RefW EncW

/-- How often a name is there among the first. -/
def tms (f : List (ByteArray × GV)) (i : Nat) (nm : ByteArray) : Int := if (f.take i).any (fun y => decide (y.1 = nm)) then 1 else 0
theorem tms_same (f : List (ByteArray × GV)) (i : Nat) (h : i < f.length) : tms f (i + 1) (f[i]).1 = 1 := by
  unfold tms
  rw [List.take_succ_eq_append_getElem h, List.any_append, if_pos]
  rw [show List.any [f[i]] (fun y => decide (y.1 = (f[i]).1)) = true by rw [List.any_cons, decide_eq_true rfl, Bool.true_or], Bool.or_true]
theorem tms_other (f : List (ByteArray × GV)) (i : Nat) (h : i < f.length) (nm : ByteArray) (hn : nm ≠ (f[i]).1) : tms f (i + 1) nm = tms f i nm := by
  unfold tms
  rw [List.take_succ_eq_append_getElem h, List.any_append]
  rw [show List.any [f[i]] (fun y => decide (y.1 = nm)) = false by rw [List.any_cons, decide_eq_false (fun e => hn e.symm), List.any_nil, Bool.or_false], Bool.or_false]
theorem tms_one {f : List (ByteArray × GV)} {i : Nat} {nm : ByteArray} (h : tms f i nm = 1) : ∃ k, ∃ hk : k < f.length, k < i ∧ (f[k]).1 = nm := by
  unfold tms at h
  split at h
  · rename_i ha
    rw [List.any_eq_true] at ha
    obtain ⟨y, hy, he⟩ := ha
    obtain ⟨k, hk, rfl⟩ := List.mem_iff_getElem.1 hy
    have hk' := hk
    rw [List.length_take] at hk'
    refine ⟨k, by omega, by omega, ?_⟩
    rw [List.getElem_take] at he
    simpa using he
  · omega
theorem tms_none {f : List (ByteArray × GV)} {i : Nat} {nm : ByteArray} (h : tms f i nm = 0) : ∀ k (hk : k < f.length), k < i → (f[k]).1 ≠ nm := by
  intro k hk hki he
  unfold tms at h
  rw [if_pos] at h
  · omega
  · rw [List.any_eq_true]
    exact ⟨f[k], List.mem_iff_getElem.2 ⟨k, by rw [List.length_take]; omega, by rw [List.getElem_take]⟩, by simpa using he⟩
theorem tms_two (f : List (ByteArray × GV)) (i : Nat) (nm : ByteArray) : tms f i nm = 0 ∨ tms f i nm = 1 := by
  unfold tms
  split <;> simp
set_option maxRecDepth 20000 in
set_option maxHeartbeats 8000000 in
theorem namesC_any (f : List (ByteArray × GV)) (hfl : f.length ≤ 2000000) (hnm : ∀ i (h : i < f.length), (f[i]).1.size ≤ 17592186044416) (w : World) (ok : Nat → Prop) (a2 : Option Addr) (c2 : Nat) (ys : List Value) (hs2 : SlAt w ok (.slice a2 f.length c2) f.length 7 ys) (hf1 : LaidF w ok f ys) :
    Calls Tryz.prog 82 #[.slice a2 f.length c2] w fun e w' => NmOut f e ∧ Below w.heap.size w w' := by
  have hmm := @run_makeMap Tryz.prog
  go_enter Tryz.func82, Tryz.ntmps82
  go_wp2
  go_loopw [9] (fun u w' => ∃ (i n : Nat) (D : DataW Unit), u = .int .i64 (i : Int) ∧ i ≤ f.length ∧ n ≤ i ∧ w'.ownsMap Tryz.prog 9 (plainElem Tryz.prog 3) w.heap.size n D ∧ Hid (∀ nm : ByteArray, D.atKey (.string nm.data.toList) (.lit (.int .i64 0)) = .lit (.int .i64 (tms f i nm))) ∧ Hid (∀ j (h : j < f.length), j < i → badAt (f[j]).1 0 < 0 ∧ ∀ k (hk : k < f.length), k < j → (f[k]).1 ≠ (f[j]).1) ∧ Below w.heap.size w w') (fun u _ => f.length - numOf u)
  case atStart => exact ⟨0, 0, .map [], rfl, Nat.zero_le _, Nat.le_refl _, World.ownsMap_made _ _ _ _, fun nm => rfl, fun _ _ h => by omega, (Below.refl _ _).alloc (Nat.le_refl _) _⟩
  case round =>
    obtain ⟨i, n, D, rfl, hil, hni0, om, HD, HI, hmb⟩ := hrel
    have hlt0 := om.lt
    by_cases hlt : i < f.length
    · have hlt' : (i : Int) < (f.length : Int) := by omega
      obtain ⟨sb, off, es, ha2, hsb, hlv, hname, hcell⟩ := SlAt.field (hs2.conv (ok' := fun b => b < wr.heap.size) (w' := wr) (by decide) (fun b _ hb => ⟨Nat.lt_of_lt_of_le hb hmb.size, hmb.block b hb⟩)) (hf1.conv (fun b _ hb => ⟨Nat.lt_of_lt_of_le hb hmb.size, hmb.block b hb⟩)) i hlt
      have hni := hnm i hlt
      have HN : Hid (NamesOK f → badAt (f[i]).1 0 < 0 ∧ ∀ k (hk : k < f.length), k < i → (f[k]).1 ≠ (f[i]).1) := fun h => h i hlt
      have HS : Hid (badAt (f[i]).1 0 < 0 → tms f i (f[i]).1 = 0 → ∀ j (h : j < f.length), j < i + 1 → badAt (f[j]).1 0 < 0 ∧ ∀ k (hk : k < f.length), k < j → (f[k]).1 ≠ (f[j]).1) := by
        intro h1 h2 j h hj
        by_cases hji : j = i
        · subst hji; exact ⟨h1, fun k hk hkj => tms_none h2 k hk hkj⟩
        · exact HI.out j h (by omega)
      have HT : Hid (tms f (i + 1) (f[i]).1 = 1 ∧ ∀ nm, nm ≠ (f[i]).1 → tms f (i + 1) nm = tms f i nm) := ⟨tms_same f i hlt, fun nm h => tms_other f i hlt nm h⟩
      have HK := HD.out (f[i]).1
      have HTT := tms_two f i (f[i]).1
      have HO : Hid (tms f i (f[i]).1 = 1 → ¬ NamesOK f) := fun h g => by
        obtain ⟨k, hk, hki, he⟩ := tms_one h
        exact (g i hlt).2 k hk hki he
      obtain ⟨X, hX⟩ : ∃ X, (f[i]).2 = X := ⟨_, rfl⟩
      rw [hX] at hlv
      obtain ⟨nm, hN⟩ : ∃ nm, (f[i]).1 = nm := ⟨_, rfl⟩
      rw [hN] at hname hni HN HS HT HK HTT HO
      cases X with
      | mk k' b' n' t' l' f' =>
      obtain ⟨p1, q1, p2, q2, _, _, rfl, _⟩ := hlv.form
      subst ha2
      have e0 := hcell 0 (by decide)
      have e1 := hcell 1 (by decide)
      have e2 := hcell 2 (by decide)
      have e3 := hcell 3 (by decide)
      have e4 := hcell 4 (by decide)
      have e5 := hcell 5 (by decide)
      simp only [List.getElem?_cons_zero, List.getElem?_cons_succ, Nat.add_zero, Nat.reduceAdd] at e0 e1 e2 e3 e4 e5
      have hsz : nm.size ≤ maxLen := by unfold maxLen; omega
      have hkey : keyOf Tryz.prog 9 (.string nm) = some (.string nm.data.toList) := Go.WideMaps.keyOf_string_mk Tryz.underlying9 hsz
      have hnb : n < maxLen := by unfold maxLen; omega
      have hbd := badAt_bd nm
      obtain ⟨N, hNN⟩ : ∃ N, badAt nm 0 = N := ⟨_, rfl⟩
      have cS := fun W => isSound_any nm W (by omega)
      rw [hNN] at hbd HN HS
      simp only [hNN] at cS
      obtain ⟨T, hT⟩ : ∃ T, tms f i nm = T := ⟨_, rfl⟩
      rw [hT] at HS HK HTT HO
      have HT0 : Hid (tms f i nm = T) := hT
      have hsame := fun d z => atKey_put_same om.isMap (show Go.WideAt.IsKeyLit (.string nm.data.toList) by trivial) d z
      have hstep : ∀ W2 : World, (wr.alloc (.cells #[.string nm, .int .i64 k', .bool b', .int .i64 n', .string t', .slice p1 l'.length q1, .slice p2 f'.length q2] 54)).grownBy W2 (some w.heap.size) → W2.cell? ⟨wr.heap.size, 0, none⟩ = some (.string nm) ∧ Below w.heap.size w W2 := by
        intro W2 g2
        have fg : Fr (fun k => k = w.heap.size) _ W2 := Fr.grown g2 (fun k e _ => by simpa using e.symm)
        have hs1 := fg.size
        have hs2 := hmb.size
        simp only [World.size_alloc] at hs1
        refine ⟨?_, ?_⟩
        · have h1 := fg.block wr.heap.size (by simp) (by omega)
          rw [heap_alloc_new] at h1
          simp [World.cell?, h1]
        · refine ⟨fg.os.trans hmb.os, fg.tape.trans hmb.tape, fg.output.trans hmb.output, by omega, fun k hk => ?_⟩
          rw [fg.block k (by simp; omega) (by omega), Below.heap_alloc _ _ _ (by omega), hmb.block k hk]
      clear hcell hlv hX hs2 hf1 hnm HI hN hNN hmm hT
      rcases HTT with rfl | rfl
      · have HS1 : Hid (N < 0 → ∀ j (h : j < f.length), j < i + 1 → badAt (f[j]).1 0 < 0 ∧ ∀ k (hk : k < f.length), k < j → (f[k]).1 ≠ (f[j]).1) := fun h => HS.out h rfl
        have HD1 : Hid (∀ nm' : ByteArray, (D.put (.string nm.data.toList) (.lit (.int .i64 1))).atKey (.string nm'.data.toList) (.lit (.int .i64 0)) = .lit (.int .i64 (tms f (i + 1) nm'))) := by
          intro nm'
          by_cases h : nm' = nm
          · subst h
            rw [hsame, HT.out.1]
          · rw [atKey_put_other (fun e => h (str_inj e)), HD.out, HT.out.2 _ h]
        clear HS HO HT HT0 HD
        by_cases hN1 : N = -1
        · subst hN1
          go_wp2_with (first
            | (at_lookup; refine wpList_lookup_own_int _ rfl _ _ 140 rfl 9 3 .i64 law Tryz.underlying140 Tryz.underlying3 (zero3 _) w.heap.size (n + 1) _ rfl om2 _ _ rfl hkey ?_; intro c hat hwc; rw [hsame] at hat; obtain rfl : c = 1 := by (injection hat with hat; injection hat with _ hat; exact hat.symm))
            | (at_lookup; refine wpList_lookup_own_int _ rfl _ _ 140 rfl 9 3 .i64 law Tryz.underlying140 Tryz.underlying3 (zero3 _) w.heap.size n D rfl (om.alloc _) _ _ rfl hkey ?_; intro c hat hwc; obtain rfl : c = 0 := by (rw [HK] at hat; injection hat with hat; injection hat with _ hat; exact hat.symm))
            | (at_mapUpdate; refine wpList_mapUpdate_own _ rfl _ _ _ 140 rfl 9 3 law Tryz.underlying140 _ w.heap.size n D rfl (om.alloc _) hnb _ _ _ rfl rfl hkey _ [] (plainElem_int Tryz.underlying3 (WalkArith.wf_i64 (by omega))) ?_; intro w2 om2 g2; obtain ⟨cb2, hb2⟩ := hstep w2 g2)
            | (go_at_call 80; refine (cS _).mono ?_; rintro e w3 ⟨rfl, hb3⟩))
          go_roundw
          case rel =>
            obtain ⟨es, clock, h1, h2⟩ := om2
            exact ⟨i + 1, n + 1, _, by simp, hlt, by omega, ⟨es, clock, (hb3.block _ (Nat.lt_of_lt_of_le hlt0 (by have := g2.size; simp only [World.size_alloc] at this; omega))).trans h1, h2⟩, HD1, HS1.out (by decide), hb2.trans (hb3.mono hb2.size)⟩
          case measure => simp [numOf]; omega
        · have HF : Hid (¬ NamesOK f) := fun h => by
            have := (HN.out h).1
            omega
          have hN2 : (N == -1) = false := by simpa using hN1
          clear HN HS1 HD1
          go_wp2_with (first
            | (at_lookup; refine wpList_lookup_own_int _ rfl _ _ 140 rfl 9 3 .i64 law Tryz.underlying140 Tryz.underlying3 (zero3 _) w.heap.size (n + 1) _ rfl om2 _ _ rfl hkey ?_; intro c hat hwc; rw [hsame] at hat; obtain rfl : c = 1 := by (injection hat with hat; injection hat with _ hat; exact hat.symm))
            | (at_lookup; refine wpList_lookup_own_int _ rfl _ _ 140 rfl 9 3 .i64 law Tryz.underlying140 Tryz.underlying3 (zero3 _) w.heap.size n D rfl (om.alloc _) _ _ rfl hkey ?_; intro c hat hwc; obtain rfl : c = 0 := by (rw [HK] at hat; injection hat with hat; injection hat with _ hat; exact hat.symm))
            | (at_mapUpdate; refine wpList_mapUpdate_own _ rfl _ _ _ 140 rfl 9 3 law Tryz.underlying140 _ w.heap.size n D rfl (om.alloc _) hnb _ _ _ rfl rfl hkey _ [] (plainElem_int Tryz.underlying3 (WalkArith.wf_i64 (by omega))) ?_; intro w2 om2 g2; obtain ⟨cb2, hb2⟩ := hstep w2 g2)
            | (go_at_call 80; refine (cS _).mono ?_; rintro e w3 ⟨rfl, hb3⟩))
          go_ret
          exact ⟨NmOut.no HF.out, hb2.trans (hb3.mono hb2.size)⟩
      · have HF : Hid (¬ NamesOK f) := HO.out rfl
        clear HS HO HT HT0 HD HN
        go_wp2_with (first
          | (at_lookup; refine wpList_lookup_own_int _ rfl _ _ 140 rfl 9 3 .i64 law Tryz.underlying140 Tryz.underlying3 (zero3 _) w.heap.size (n + 1) _ rfl om2 _ _ rfl hkey ?_; intro c hat hwc; rw [hsame] at hat; obtain rfl : c = 2 := by (injection hat with hat; injection hat with _ hat; exact hat.symm))
          | (at_lookup; refine wpList_lookup_own_int _ rfl _ _ 140 rfl 9 3 .i64 law Tryz.underlying140 Tryz.underlying3 (zero3 _) w.heap.size n D rfl (om.alloc _) _ _ rfl hkey ?_; intro c hat hwc; obtain rfl : c = 1 := by (rw [HK] at hat; injection hat with hat; injection hat with _ hat; exact hat.symm))
          | (at_mapUpdate; refine wpList_mapUpdate_own _ rfl _ _ _ 140 rfl 9 3 law Tryz.underlying140 _ w.heap.size n D rfl (om.alloc _) hnb _ _ _ rfl rfl hkey _ [] (plainElem_int Tryz.underlying3 (WalkArith.wf_i64 (by omega))) ?_; intro w2 om2 g2; obtain ⟨cb2, hb2⟩ := hstep w2 g2))
        go_ret
        exact ⟨NmOut.no HF.out, hb2⟩
    · have hlt' : ¬ (i : Int) < (f.length : Int) := by omega
      have HF : Hid (NamesOK f) := fun j h => HI.out j h (by omega)
      clear HI
      go_wp2
      go_ret
      exact ⟨NmOut.yes HF.out, hmb⟩
end Pu
end Go.Proofs.YtiakidomcjpdhaaGreatDoor
