/- What the headers tell of the body. -/
import Derived.Test.YtngfoghnopnbmaaGreatDoorTk
namespace Go.Proofs.YtngfoghnopnbmaaGreatDoor
open Go.RowKit
namespace Ht
open Bw

/-- The headers that tell the body's length. -/
def tellers (hs : List (ByteArray × ByteArray)) : List (ByteArray × ByteArray) := hs.filter (fun h => tellB h.1.data.toList)
/-- What one header tells of the body: its length, whether it comes in pieces, what is amiss. -/
def bodyOne (a b : ByteArray) : Int × Bool × Option Int :=
  if sameL a.data.toList encL = true ∧ sameL b.data.toList chkL = true then (0, true, none)
  else if sameL a.data.toList encL = true ∨ lenB b.data.toList = false then (0, false, some 32)
  else if 65536 < numB 10 b.data.toList then (0, false, some 2)
  else (numB 10 b.data.toList, false, none)
/-- What headers tell of the body. -/
def bodyM (hs : List (ByteArray × ByteArray)) : Int × Bool × Option Int := match tellers hs with
  | [] => (0, false, none)
  | [h] => bodyOne h.1 h.2
  | _ :: _ :: _ => (0, false, some 32)
def lastT (l : List (ByteArray × ByteArray)) : ByteArray × ByteArray := l.getLastD (⟨#[]⟩, ⟨#[]⟩)
theorem tellers_snoc (l : List (ByteArray × ByteArray)) (x : ByteArray × ByteArray) : tellers (l ++ [x]) = if tellB x.1.data.toList = true then tellers l ++ [x] else tellers l := by
  unfold tellers
  rw [List.filter_append]
  split
  · rename_i h; simp [h]
  · rename_i h; simp [h]
theorem dg_hx {c : UInt8} (h : dgB c = true) : hxB c = true := by unfold hxB; rw [h]; rfl
/-- The variable that holds the header that tells, and that nothing old has turned. -/
structure BoxT (w : World) (a b : ByteArray) (w' : World) : Prop where
  c : w'.heap[w.heap.size]? = some (.cells #[.string a, .string b] 66 (0, 0))
  b : Below w.heap.size w w'
  s : w.heap.size + 1 ≤ w'.heap.size
theorem BoxT.keep {w w1 w2 : World} {a b : ByteArray} (h : BoxT w a b w1) (f : Below (w.heap.size + 1) w1 w2) : BoxT w a b w2 :=
  ⟨(f.block _ (by omega)).trans h.c, h.b.trans (f.mono (by omega)), Nat.le_trans h.s f.size⟩
theorem box2 {w : World} {b : Nat} {a0 a1 : Value} {t : TypeId} (h : w.heap[b]? = some (.cells #[a0, a1] t (0, 0))) : w.cell? ⟨b, 0, none⟩ = some a0 ∧ w.cell? ⟨b, 1, none⟩ = some a1 ∧ w.frozen? ⟨b, 0, none⟩ = false ∧ w.frozen? ⟨b, 1, none⟩ = false := by
  simp [World.cell?, World.frozen?, h]
theorem below_of_drew {w w' : World} (h : ∃ k, w' = w.drewN k) : Below w.heap.size w w' := by
  obtain ⟨k, rfl⟩ := h
  exact below_drewN (Below.refl _ _) k
/-- How bodyOf ends. -/
def BodyOut (r : Int × Bool × Option Int) (w : World) (e : Ending) (w' : World) : Prop := e = .returned (.tuple #[.int .i64 r.1, .bool r.2.1, errV r.2.2]) ∧ Below w.heap.size w w'
set_option maxRecDepth 20000 in
set_option maxHeartbeats 8000000 in
theorem body135 (hs : List (ByteArray × ByteArray)) (hl : hs.length ≤ 1000000) (hz : ∀ p ∈ hs, p.1.size ≤ 9223372036854775806 ∧ p.2.size ≤ 9223372036854775806) (v : Value) (w : World) (ok : Nat → Prop) (hv : SlN w ok v hs.length 2 (hCells hs)) : Calls Tryz.prog 135 #[v] w fun e w' => BodyOut (bodyM hs) w e w' := by
  obtain ⟨va, vc, rfl⟩ : ∃ a c, v = .slice a hs.length c := by
    rcases hv.2 with ⟨h0, a, c, rfl⟩ | ⟨b, off, cap, rfl, _⟩
    · exact ⟨a, c, by rw [h0]⟩
    · exact ⟨_, _, rfl⟩
  have HV : Hid (∀ i (h : i < hs.length), ∃ b off, va = some ⟨b, off, none⟩ ∧ b < w.heap.size ∧ w.cell? ⟨b, off + i * 2, none⟩ = some (.string (hs[i]).1) ∧ w.cell? ⟨b, off + i * 2 + 1, none⟩ = some (.string (hs[i]).2)) := fun i h => by
    rcases hv.2 with ⟨h0, _⟩ | ⟨b, off, cap, e, _, _, _, hc⟩
    · omega
    · injection e with e
      have key : ∀ j, j < 2 → (hCells hs)[i * 2 + j]? = [Value.string (hs[i]).1, .string (hs[i]).2][j]? := fun j hj => by
        have e1 : hCells hs = hCells (hs.take i) ++ ([Value.string (hs[i]).1, .string (hs[i]).2] ++ hCells (hs.drop (i + 1))) := by
          have : hs = hs.take i ++ ([hs[i]] ++ hs.drop (i + 1)) := by rw [List.singleton_append, ← List.drop_eq_getElem_cons h, List.take_append_drop]
          conv => lhs; rw [this]
          rw [hCells_app, hCells_app]
          rfl
        rw [e1, List.getElem?_append_right (by rw [hCells_len, List.length_take]; omega), hCells_len, List.length_take, Nat.min_eq_left (by omega), Nat.add_sub_cancel_left, List.getElem?_append_left (by simpa using hj)]
      have h0 := hc (i * 2 + 0) (by omega)
      have h1 := hc (i * 2 + 1) (by omega)
      rw [key 0 (by decide)] at h0
      rw [key 1 (by decide)] at h1
      have h0' : w.cell? ⟨b, off + i * 2, none⟩ = some (.string (hs[i]).1) := h0
      exact ⟨b, off, e, cell_lt h0', h0', by rw [Nat.add_assoc]; exact h1⟩
  have HZ : Hid (∀ p ∈ hs, p.1.size ≤ 9223372036854775806 ∧ p.2.size ≤ 9223372036854775806) := hz
  clear hv hz
  have m0 : BoxT w ⟨#[]⟩ ⟨#[]⟩ (w.alloc (.cells #[.string ⟨#[]⟩, .string ⟨#[]⟩] 66)) := ⟨heap_alloc_new _ _, allocB' _ _, by simp⟩
  obtain ⟨R, hR⟩ : ∃ R, bodyM hs = R := ⟨_, rfl⟩
  have HRB : Hid (bodyM hs = R) := hR
  rw [hR]
  clear hR
  go_enter Tryz.func135, Tryz.ntmps135
  go_wp2
  go_loopw [6, 11] (fun u v w' => ∃ (i n : Nat) (a b : ByteArray), v = .int .i64 (i : Int) ∧ i ≤ hs.length ∧ u = .int .i64 (n : Int) ∧ Hid (n = (tellers (hs.take i)).length ∧ (a, b) = lastT (tellers (hs.take i))) ∧ n ≤ i ∧ BoxT w a b w') (fun _ v _ => hs.length - numOf v)
  case atStart => exact ⟨0, 0, _, _, rfl, Nat.zero_le _, rfl, ⟨rfl, rfl⟩, Nat.le_refl _, m0⟩
  case round =>
    obtain ⟨i, n, a, b, rfl, hil, rfl, HI, hni, m⟩ := hrel
    clear m0
    have hms := m.s
    by_cases hlt : i < hs.length
    · have hlt' : (i : Int) < (hs.length : Int) := by omega
      have hnb : (n : Int) ≤ 1000000 := by omega
      obtain ⟨g, off, rfl, hg, hc0, hc1⟩ := HV.out i hlt
      obtain ⟨⟨x, y⟩, hx⟩ : ∃ p, hs[i] = p := ⟨_, rfl⟩
      have hxz := HZ.out _ (List.getElem_mem hlt)
      have HT : Hid (tellers (hs.take (i + 1)) = if tellB x.data.toList = true then tellers (hs.take i) ++ [(x, y)] else tellers (hs.take i)) := by
        show _ = _
        rw [List.take_succ_eq_append_getElem hlt, hx, tellers_snoc]
      rw [hx] at hc0 hc1 hxz
      have c0 : wr.cell? ⟨g, off + i * 2, none⟩ = some (.string x) := (m.b.cell (p := ⟨g, off + i * 2, none⟩) hg).trans hc0
      have c1 : wr.cell? ⟨g, off + i * 2 + 1, none⟩ = some (.string y) := (m.b.cell (p := ⟨g, off + i * 2 + 1, none⟩) hg).trans hc1
      have q := fun W => tell73 x hxz.1 W
      obtain ⟨A, hA⟩ : ∃ A, tellB x.data.toList = A := ⟨_, rfl⟩
      simp only [hA] at q
      rw [hA] at HT
      clear hc0 hc1 hx hA hxz
      have hb2 := allocB' wr (.cells #[.string x, .string y] 66)
      have m2 := m.keep (hb2.mono hms)
      have e2 : (wr.alloc (.cells #[.string x, .string y] 66)).heap[wr.heap.size]? = some (.cells #[.string x, .string y] 66 (0, 0)) := heap_alloc_new _ _
      cases A with
      | true =>
        rw [if_pos rfl] at HT
        go_wp2_with (go_at_call 73; refine (q _).mono ?_; rintro e w1 ⟨rfl, h1⟩; have b1 := below_of_drew h1; have m3 := m2.keep (b1.mono (by simp; omega)); have e3 := (b1.block wr.heap.size (by simp)).trans e2; obtain ⟨x0, x1, x2, x3⟩ := box2 e3; obtain ⟨y0, y1, y2, y3⟩ := box2 m3.c; clear h1)
        go_roundw
        case rel => exact ⟨i + 1, n + 1, x, y, by simp, hlt, by simp, ⟨by rw [HT.out, List.length_append, ← HI.out.1]; rfl, by rw [HT.out]; simp [lastT]⟩, by omega, ⟨heap_set (heap_set m3.c 0 _) 1 _, (m3.b.setCell (p := ⟨w.heap.size, 0, none⟩) (by simp) _).setCell (p := ⟨w.heap.size, 1, none⟩) (by simp) _, by simpa using m3.s⟩⟩
        case measure => simp [numOf]; omega
      | false =>
        rw [if_neg (by decide)] at HT
        go_wp2_with (go_at_call 73; refine (q _).mono ?_; rintro e w1 ⟨rfl, h1⟩; have b1 := below_of_drew h1; have m3 := m2.keep (b1.mono (by simp; omega)); clear h1)
        go_roundw
        case rel => exact ⟨i + 1, n, a, b, by simp, hlt, rfl, by show _ ∧ _; rw [HT.out]; exact HI.out, by omega, m3⟩
        case measure => simp [numOf]; omega
    · have hlt' : ¬ (i : Int) < (hs.length : Int) := by omega
      obtain rfl : i = hs.length := by omega
      have HI2 := HI.out
      rw [List.take_length] at HI2
      clear HI HV
      have hRB := HRB.out
      unfold bodyM at hRB
      clear HRB
      cases hT : tellers hs with
      | nil =>
        rw [hT] at HI2 hRB
        obtain ⟨rfl, -⟩ := HI2
        simp only at hRB
        subst hRB
        clear hT
        go_wp2
        go_ret3
        exact ⟨rfl, m.b⟩
      | cons h r =>
        cases r with
        | cons h' r =>
          rw [hT] at HI2 hRB
          simp only at hRB
          subst hRB
          have hn2 : (1 : Int) < (n : Int) := by have := HI2.1; simp at this; omega
          have hn0 : ((n : Int) == 0) = false := beq_eq_false_iff_ne.2 (by omega)
          clear HI2 hT
          go_wp2
          go_ret3
          exact ⟨rfl, m.b⟩
        | nil =>
          have hRB' : bodyOne h.1 h.2 = R := by rw [hT] at hRB; exact hRB
          rw [hT] at HI2
          obtain ⟨rfl, hab⟩ := HI2
          clear hRB
          have hmem : h ∈ hs := by
            have : h ∈ tellers hs := by rw [hT]; simp
            exact (List.mem_filter.1 this).1
          have hzz := HZ.out h hmem
          obtain ⟨rfl, rfl⟩ : a = h.1 ∧ b = h.2 := by
            have : (a, b) = h := hab
            rw [← this]
            exact ⟨rfl, rfl⟩
          obtain ⟨a, b⟩ := h
          simp only at hzz m hRB'
          clear hab hmem hT HZ
          have qa := fun W => same44 a ⟨#[84, 114, 97, 110, 115, 102, 101, 114, 45, 69, 110, 99, 111, 100, 105, 110, 103]⟩ hzz.1 W
          have qb := fun W => same44 b ⟨#[99, 104, 117, 110, 107, 101, 100]⟩ hzz.2 W
          have ql := fun W => len152 b hzz.2 W
          have HN : Hid (lenB b.data.toList = true → ∀ W, Calls Tryz.prog 134 #[.string b, .int .i64 10] W fun e w' => e = .returned (.int .i64 (numB 10 b.data.toList)) ∧ w' = W) := fun h W => by
            simp only [lenB, Bool.and_eq_true, decide_eq_true_eq, List.all_eq_true] at h
            exact num134 b 10 (by decide) (by rw [Lib.size_eq]; exact h.1.2) (fun c hc => dg_hx (h.2 c hc)) W
          unfold bodyOne encL chkL at hRB'
          obtain ⟨S1, hS1⟩ : ∃ S, sameL a.data.toList [84, 114, 97, 110, 115, 102, 101, 114, 45, 69, 110, 99, 111, 100, 105, 110, 103] = S := ⟨_, rfl⟩
          obtain ⟨S2, hS2⟩ : ∃ S, sameL b.data.toList [99, 104, 117, 110, 107, 101, 100] = S := ⟨_, rfl⟩
          obtain ⟨S3, hS3⟩ : ∃ S, lenB b.data.toList = S := ⟨_, rfl⟩
          obtain ⟨V, hV⟩ : ∃ V, numB 10 b.data.toList = V := ⟨_, rfl⟩
          simp only [hS1, hS2, hS3, hV] at qa qb ql HN hRB'
          clear hS1 hS2 hS3 hV hzz
          obtain ⟨y0, y1, y2, y3⟩ := box2 m.c
          cases S1 with
          | true =>
            cases S2 with
            | true =>
              rw [if_pos ⟨rfl, rfl⟩] at hRB'
              subst hRB'
              go_wp2_with (first
                | (have hq := m1; go_at_call 44; refine (qb _).mono ?_; rintro e w2 ⟨rfl, h1⟩; have b1 := below_of_drew h1; have m2 := m1.keep (b1.mono m1.s); obtain ⟨z0, z1, z2, z3⟩ := box2 m2.c; clear h1 b1 hq)
                | (go_at_call 44; refine (qa _).mono ?_; rintro e w1 ⟨rfl, h1⟩; have b1 := below_of_drew h1; have m1 := m.keep (b1.mono m.s); obtain ⟨z0, z1, z2, z3⟩ := box2 m1.c; clear h1 b1))
              go_ret3
              exact ⟨rfl, m2.b⟩
            | false =>
              rw [if_neg (by simp), if_pos (.inl rfl)] at hRB'
              subst hRB'
              go_wp2_with (first
                | (have hq := m2; go_at_call 44; refine (qa _).mono ?_; rintro e w3 ⟨rfl, h1⟩; have b1 := below_of_drew h1; have m3 := m2.keep (b1.mono m2.s); obtain ⟨z0, z1, z2, z3⟩ := box2 m3.c; clear h1 b1 hq)
                | (have hq := m1; go_at_call 44; refine (qb _).mono ?_; rintro e w2 ⟨rfl, h1⟩; have b1 := below_of_drew h1; have m2 := m1.keep (b1.mono m1.s); obtain ⟨z0, z1, z2, z3⟩ := box2 m2.c; clear h1 b1 hq)
                | (go_at_call 44; refine (qa _).mono ?_; rintro e w1 ⟨rfl, h1⟩; have b1 := below_of_drew h1; have m1 := m.keep (b1.mono m.s); obtain ⟨z0, z1, z2, z3⟩ := box2 m1.c; clear h1 b1))
              go_ret3
              exact ⟨rfl, m3.b⟩
          | false =>
            cases S3 with
            | false =>
              rw [if_neg (by simp), if_pos (.inr rfl)] at hRB'
              subst hRB'
              go_wp2_with (first
                | (go_at_call 152; refine (ql _).mono ?_; rintro e w9 ⟨rfl, rfl⟩)
                | (have hq := m1; go_at_call 44; refine (qa _).mono ?_; rintro e w2 ⟨rfl, h1⟩; have b1 := below_of_drew h1; have m2 := m1.keep (b1.mono m1.s); obtain ⟨z0, z1, z2, z3⟩ := box2 m2.c; clear h1 b1 hq)
                | (go_at_call 44; refine (qa _).mono ?_; rintro e w1 ⟨rfl, h1⟩; have b1 := below_of_drew h1; have m1 := m.keep (b1.mono m.s); obtain ⟨z0, z1, z2, z3⟩ := box2 m1.c; clear h1 b1))
              go_ret3
              exact ⟨rfl, m2.b⟩
            | true =>
              have qn := HN.out rfl
              rw [if_neg (by simp), if_neg (by simp)] at hRB'
              by_cases hbig : 65536 < V
              · rw [if_pos hbig] at hRB'
                subst hRB'
                go_wp2_with (first
                  | (go_at_call 152; refine (ql _).mono ?_; rintro e w9 ⟨rfl, rfl⟩)
                  | (go_at_call 134; refine (qn _).mono ?_; rintro e w9 ⟨rfl, rfl⟩)
                  | (have hq := m1; go_at_call 44; refine (qa _).mono ?_; rintro e w2 ⟨rfl, h1⟩; have b1 := below_of_drew h1; have m2 := m1.keep (b1.mono m1.s); obtain ⟨z0, z1, z2, z3⟩ := box2 m2.c; clear h1 b1 hq)
                  | (go_at_call 44; refine (qa _).mono ?_; rintro e w1 ⟨rfl, h1⟩; have b1 := below_of_drew h1; have m1 := m.keep (b1.mono m.s); obtain ⟨z0, z1, z2, z3⟩ := box2 m1.c; clear h1 b1))
                go_ret3
                exact ⟨rfl, m2.b⟩
              · rw [if_neg hbig] at hRB'
                subst hRB'
                go_wp2_with (first
                  | (go_at_call 152; refine (ql _).mono ?_; rintro e w9 ⟨rfl, rfl⟩)
                  | (go_at_call 134; refine (qn _).mono ?_; rintro e w9 ⟨rfl, rfl⟩)
                  | (have hq := m1; go_at_call 44; refine (qa _).mono ?_; rintro e w2 ⟨rfl, h1⟩; have b1 := below_of_drew h1; have m2 := m1.keep (b1.mono m1.s); obtain ⟨z0, z1, z2, z3⟩ := box2 m2.c; clear h1 b1 hq)
                  | (go_at_call 44; refine (qa _).mono ?_; rintro e w1 ⟨rfl, h1⟩; have b1 := below_of_drew h1; have m1 := m.keep (b1.mono m.s); obtain ⟨z0, z1, z2, z3⟩ := box2 m1.c; clear h1 b1))
                go_ret3
                exact ⟨rfl, m2.b⟩
end Ht
end Go.Proofs.YtngfoghnopnbmaaGreatDoor
