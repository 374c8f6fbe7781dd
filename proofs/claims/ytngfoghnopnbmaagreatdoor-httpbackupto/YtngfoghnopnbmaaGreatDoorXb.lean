/- The target that parts make: appendCoded, and Join. -/
import Derived.Test.YtngfoghnopnbmaaGreatDoorXa
import Derived.Test.YtngfoghnopnbmaaGreatDoorVe
import Derived.Deep.RegionHeld3
import Derived.Laws.OwnMore
namespace Go.Proofs.YtngfoghnopnbmaaGreatDoor
open Go.RowKit
namespace Ht
open Bw

theorem hex_at : ∀ (k : Nat) (h : k < 16), ((⟨#[48, 49, 50, 51, 52, 53, 54, 55, 56, 57, 65, 66, 67, 68, 69, 70]⟩ : ByteArray)[k]'h) = hexU k := by decide
theorem and15 (x : Nat) (h : x < 256) : bits .and .u8 (x : Int) 15 = ((x % 16 : Nat) : Int) := by
  have key : ∀ a : Fin 256, bits .and .u8 ((a.val : Nat) : Int) 15 = ((a.val % 16 : Nat) : Int) := by decide +kernel
  exact key ⟨x, h⟩
theorem three_cells (w : World) (x y z : Value) : ∀ j u, [x, y, z][j]? = some u → (w.alloc (.cells #[x, y, z] 5)).cell? ((⟨w.heap.size, 0, none⟩ : Addr).add j) = some u := cells_new w [x, y, z] 5
/-- From a world to a later one nothing of the elder blocks has turned but a row's own; where the row lies then. -/
structure Gr (w : World) (v : Value) (w' : World) (v' : Value) : Prop where
  g : w.grownBy w' v.ownBlock
  at' : v'.ownBlock = v.ownBlock ∨ ∃ k, v'.ownBlock = some k ∧ w.heap.size ≤ k
theorem Gr.refl (w : World) (v : Value) : Gr w v w v := ⟨⟨rfl, rfl, rfl, Nat.le_refl _, fun _ _ _ => rfl⟩, .inl rfl⟩
theorem Gr.trans {a b c : World} {u v x : Value} (h : Gr a u b v) (k : Gr b v c x) : Gr a u c x := by
  refine ⟨⟨k.g.os.trans h.g.os, k.g.tape.trans h.g.tape, k.g.output.trans h.g.output, Nat.le_trans h.g.size k.g.size, fun i hi hn => ?_⟩, ?_⟩
  · have h1 := h.g.size
    refine (k.g.block i (by omega) (fun e => ?_)).trans (h.g.block i hi hn)
    rcases h.at' with e2 | ⟨j, e2, hj⟩
    · exact hn (e.trans e2)
    · rw [e2] at e
      injection e with e
      omega
  · have h1 := h.g.size
    rcases k.at' with e | ⟨j, e, hj⟩
    · rcases h.at' with e2 | ⟨j, e2, hj⟩
      · exact .inl (e.trans e2)
      · exact .inr ⟨j, e.trans e2, hj⟩
    · exact .inr ⟨j, e, by omega⟩
theorem Gr.of_below {w w' : World} (h : Below w.heap.size w w') (v : Value) : Gr w v w' v := ⟨⟨h.os, h.tape, h.output, h.size, fun i hi _ => h.block i hi⟩, .inl rfl⟩
theorem Gr.size {w w' : World} {v v' : Value} (h : Gr w v w' v') : w.heap.size ≤ w'.heap.size := h.g.size
theorem Gr.below {base : Nat} {w w' : World} {v v' : Value} {bs : List UInt8} (h : Gr w v w' v') (hr : RowB base w v bs) (hb : base ≤ w.heap.size) : Below base w w' := RowB.grown hr h.g hb
/-- What lies in no block of the row's own stays. -/
theorem Gr.keeps {base : Nat} {w w' : World} {v v' : Value} {bs : List UInt8} (h : Gr w v w' v') {W : World} (hr : RowB base W v bs) {k : Nat} (hk : W.heap.size ≤ k) (hkw : k < w.heap.size) : w'.heap[k]? = w.heap[k]? :=
  h.g.block k hkw (fun e => by have := hr.gt k e.symm; omega)
theorem Gr.app {w w' : World} {v v' : Value} (g : w.grownBy w' v.ownBlock) (h : v'.ownBlock = v.ownBlock ∨ v'.ownBlock = some w.heap.size) : Gr w v w' v' := ⟨g, by
  rcases h with h | h
  · exact .inl h
  · exact .inr ⟨_, h, Nat.le_refl _⟩⟩
section
variable {w : World}
set_option maxRecDepth 20000 in
set_option maxHeartbeats 8000000 in
theorem coded51 {base : Nat} {v : Value} {bs : List UInt8} (hrow0 : RowB base w v bs) (hb : base ≤ w.heap.size) (s : ByteArray) (hl : bs.length + 3 * s.size ≤ 1000000000) :
    Calls Tryz.prog 51 #[v, .string s] w fun e w' => ∃ v', e = .returned v' ∧ RowB base w' v' (bs ++ escL s.data.toList) ∧ Gr w v w' v' := by
  obtain ⟨i0, hi, hz0, hz1, hz2⟩ := info_parts info5
  have HSZ : Hid (s.size = s.data.toList.length) := Lib.size_eq s
  have hrow := hrow0
  clear hrow0
  go_enter Tryz.func51, Tryz.ntmps51
  go_wp2
  go_loopw [0, 9] (fun u k w' => ∃ i : Nat, k = .int .i64 (i : Int) ∧ i ≤ s.size ∧ RowB base w' u (bs ++ escL (s.data.toList.take i)) ∧ Gr w v w' u) (fun _ k _ => s.size - numOf k)
  case atStart => exact ⟨0, rfl, Nat.zero_le _, by rw [List.take_zero, show escL [] = [] from rfl, List.append_nil]; exact hrow, Gr.refl _ _⟩
  case round =>
    clear hrow
    obtain ⟨i, rfl, hil, hrow, hbw⟩ := hrel
    have hsz := hbw.size
    have hM : (bs ++ escL (s.data.toList.take i)).length ≤ 1000000000 := by
      have h1 := escL_len (s.data.toList.take i)
      have h2 : (s.data.toList.take i).length ≤ s.size := by rw [HSZ.out, List.length_take]; omega
      rw [List.length_append]
      omega
    by_cases hlt : i < s.size
    · have hlt' : (i : Int) < (s.size : Int) := by omega
      have hl2 : i < s.data.toList.length := by rw [← HSZ.out]; exact hlt
      obtain ⟨c, hc⟩ : ∃ c, s[i]'hlt = c := ⟨_, rfl⟩
      have HC : Hid (bs ++ escL (s.data.toList.take (i + 1)) = (bs ++ escL (s.data.toList.take i)) ++ escB c) := by
        have e0 := get_data hlt
        rw [hc, List.getElem?_eq_getElem hl2] at e0
        show _ = _
        rw [escL_take _ _ hl2, Option.some.inj e0, List.append_assoc]
      obtain ⟨L, hL⟩ : ∃ L, bs ++ escL (s.data.toList.take i) = L := ⟨_, rfl⟩
      rw [hL] at hrow hM HC
      have q1 := ld86 c
      have q2 := fun W => strings_IndexByte ⟨#[45, 46, 95, 126, 33, 36, 58, 64]⟩ (c.toNat : Int) W
      have hcc : ((c.toNat : Int)).toNat.toUInt8 = c := by simp
      simp only [hcc] at q2
      have hm : plB c = (ldB c || decide (0 ≤ Lib.indexByte [45, 46, 95, 126, 33, 36, 58, 64] c)) := by
        unfold plB plL
        congr 1
        rw [Bool.eq_iff_iff, decide_eq_true_eq, decide_eq_true_eq, idx_nonneg]
      obtain ⟨A, hA⟩ : ∃ A, ldB c = A := ⟨_, rfl⟩
      obtain ⟨I, hI⟩ : ∃ I, Lib.indexByte [45, 46, 95, 126, 33, 36, 58, 64] c = I := ⟨_, rfl⟩
      simp only [hA, hI] at q1 q2 hm
      clear hA hI hcc hL
      have ha := allocB' wr (.cells #[.int .u8 (c.toNat : Int)] 5)
      by_cases hp : A = true ∨ 0 ≤ I
      · have HE : Hid (bs ++ escL (s.data.toList.take (i + 1)) = L ++ [c]) := by
          show _ = _
          rw [HC.out]
          unfold escB
          rw [if_pos (by rw [hm]; simpa using hp)]
        clear hm
        have hcs : A = true ∨ (A = false ∧ 0 ≤ I) := by
          cases A
          · right; exact ⟨rfl, by simpa using hp⟩
          · left; rfl
        clear hp
        have hr2 := hrow.kept ha
        have ho := one_sl wr c
        rcases hcs with rfl | ⟨rfl, hI0⟩
        all_goals
          go_wp2_with (first
            | (go_at_call 86; refine (q1 _).mono ?_; rintro e w1 ⟨rfl, hw⟩; obtain rfl := hw.symm)
            | (go_at_call 87; refine (q2 _).mono ?_; rintro e w1 ⟨rfl, hw⟩; obtain rfl := hw.symm)
            | (refine appb_at rfl (.tmp 22) (.tmp 24) rfl base _ L rfl hr2 (.slice (some ⟨wr.heap.size, 0, none⟩) 1 1) [c] rfl ho (by simp; omega) (by simp; omega) ?_; intro v' w3 hr3 hg3 ha3; have H3 : Hid _ := And.intro hr3 (Gr.app hg3 ha3); clear hr3 hg3 ha3))
          go_roundw
          case rel => exact ⟨i + 1, by simp, hlt, by rw [HE.out]; exact H3.out.1, (hbw.trans (Gr.of_below ha _)).trans H3.out.2⟩
          case measure => simp [numOf]; omega
      · have HE : Hid (bs ++ escL (s.data.toList.take (i + 1)) = L ++ [37, hexU (c.toNat / 16), hexU (c.toNat % 16)]) := by
          show _ = _
          rw [HC.out]
          unfold escB
          rw [if_neg (by rw [hm]; simpa using hp)]
        have hA : A = false := by
          cases A
          · rfl
          · exact absurd (.inl rfl) hp
        have hI0 : ¬ 0 ≤ I := fun h => hp (.inr h)
        subst hA
        clear hm hp ha
        obtain ⟨x, hx⟩ : ∃ x, c.toNat = x := ⟨_, rfl⟩
        have hxl : x < 256 := by rw [← hx]; exact UInt8.toNat_lt _
        rw [hx] at q1 q2 HE
        obtain ⟨Q, hQ⟩ : ∃ Q, x / 16 = Q := ⟨_, rfl⟩
        obtain ⟨R, hR⟩ : ∃ R, x % 16 = R := ⟨_, rfl⟩
        have q3 : Q < 16 := by omega
        have r3 : R < 16 := by omega
        have q4 : (x : Int) / 16 = (Q : Int) := by omega
        have q2' : (Q : Int) < 16 := by omega
        have r2' : (R : Int) < 16 := by omega
        have r4 : bits .and .u8 (x : Int) 15 = (R : Int) := by rw [and15 x hxl, hR]
        have q6 : ((⟨#[48, 49, 50, 51, 52, 53, 54, 55, 56, 57, 65, 66, 67, 68, 69, 70]⟩ : ByteArray)[Q]'(by show Q < 16; omega)) = hexU Q := hex_at Q q3
        have r6 : ((⟨#[48, 49, 50, 51, 52, 53, 54, 55, 56, 57, 65, 66, 67, 68, 69, 70]⟩ : ByteArray)[R]'(by show R < 16; omega)) = hexU R := hex_at R r3
        obtain ⟨hq, hhq⟩ : ∃ hq : UInt8, hexU Q = hq := ⟨_, rfl⟩
        obtain ⟨hr, hhr⟩ : ∃ hr : UInt8, hexU R = hr := ⟨_, rfl⟩
        rw [hhq] at q6
        rw [hhr] at r6
        rw [hQ, hR, hhq, hhr] at HE
        clear hQ hR hhq hhr
        go_wp2_with (first
          | (go_at_call 86; refine (q1 _).mono ?_; rintro e w1 ⟨rfl, hw⟩; obtain rfl := hw.symm)
          | (go_at_call 87; refine (q2 _).mono ?_; rintro e w1 ⟨rfl, hw⟩; obtain rfl := hw.symm))
        go_region_held3 (fun w' => True) (trivial) ((refine step_append_own (by rfl) (.tmp 26) (.tmp 33) 29 (by rfl) base 5 i0 (.int .u8 0) 1 1 Tryz.underlying29 hi hz0 hz1 hz2 rfl (by decide) u0 _ _ (by rfl) (RowB.kept (w := wr.drew) hrow ((Below.refl _ _).alloc (Nat.le_refl _) _)) ⟨wr.heap.size, 0, none⟩ 3 3 [.int .u8 37, .int .u8 (hq.toNat : Int), .int .u8 (hr.toNat : Int)] (by rfl) rfl (cells_new wr.drew _ _) (by simp [Value.oneCell']) (by unfold maxLen; omega) (by omega) (by simp; omega) ?_; intro v' w3 hown' hgrow3 hloc3))
        all_goals
          go_wp2
          have hrow3 : RowB base w3 v' (bs ++ escL (s.data.toList.take (i + 1))) := by
            rw [HE.out]
            exact RowB.more hown' rfl rfl
          have hbw3 : Gr w v w3 v' := (hbw.trans (Gr.of_below (w' := wr.drew.alloc _) ((below_drewN (Below.refl _ _) 1).alloc (Nat.le_refl _) _) _)).trans (Gr.app hgrow3 hloc3)
          refine ⟨⟨i + 1, by simp, hlt, hrow3, hbw3⟩, ?_⟩
          simp [numOf]
          omega
    · have hlt' : ¬ (i : Int) < (s.size : Int) := by omega
      have hie : s.data.toList.take i = s.data.toList := by rw [List.take_of_length_le]; rw [← HSZ.out]; omega
      rw [hie] at hrow
      go_wp2
      go_ret
      exact ⟨_, rfl, hrow, hbw⟩
/-- A slice holds these texts. -/
def TxAt (w : World) (v : Value) (l : List ByteArray) : Prop := ∃ a c, v = .slice a l.length c ∧ ∀ i (h : i < l.length), ∃ b off, a = some ⟨b, off, none⟩ ∧ b < w.heap.size ∧ w.cell? ⟨b, off + i, none⟩ = some (.string l[i])
theorem TxAt.below {w w' : World} {v : Value} {l : List ByteArray} (h : TxAt w v l) (f : Below w.heap.size w w') : TxAt w' v l := by
  obtain ⟨a, c, h1, h2⟩ := h
  refine ⟨a, c, h1, fun i hi => ?_⟩
  obtain ⟨b, off, k1, k2, k3⟩ := h2 i hi
  exact ⟨b, off, k1, Nat.lt_of_lt_of_le k2 f.size, (f.cell (p := ⟨b, off + i, none⟩) k2).trans k3⟩
def tl (b : ByteArray) : List UInt8 := b.data.toList
/-- How much texts and pairs of texts hold, how many there are. -/
def bulk2 (ps : List ByteArray) (qs : List (ByteArray × ByteArray)) : Nat := wtT (ps.map tl) + ps.length + (wtP (qs.map bsL) + qs.length)
theorem jp_step (ps : List ByteArray) {i : Nat} (h : i < ps.length) : jp true ((ps.map tl).take (i + 1)) = jp true ((ps.map tl).take i) ++ ((if i = 0 then [] else [47]) ++ escL (tl ps[i])) := by
  rw [List.take_succ_eq_append_getElem (by simpa using h), jp_snoc]
  congr 2
  · by_cases h0 : i = 0
    · subst h0; simp
    · rw [if_neg h0, if_neg]
      intro e
      have := congrArg List.length e.2
      rw [List.length_take, List.length_map, List.length_nil] at this
      omega
  · simp
theorem jq_step (qs : List (ByteArray × ByteArray)) {i : Nat} (h : i < qs.length) : jq true ((qs.map bsL).take (i + 1)) = jq true ((qs.map bsL).take i) ++ [if i = 0 then 63 else 38] ++ escL (tl (qs[i]).1) ++ [61] ++ escL (tl (qs[i]).2) := by
  rw [List.take_succ_eq_append_getElem (by simpa using h), jq_snoc]
  have e : (if true = true ∧ (qs.map bsL).take i = [] then (63 : UInt8) else 38) = if i = 0 then 63 else 38 := by
    by_cases h0 : i = 0
    · subst h0; simp
    · rw [if_neg h0, if_neg]
      intro e
      have := congrArg List.length e.2
      rw [List.length_take, List.length_map, List.length_nil] at this
      omega
  rw [e]
  simp [bsL, tl]
theorem jp_room (ps : List ByteArray) (qs : List (ByteArray × ByteArray)) {i : Nat} (h : i < ps.length) : (jp true ((ps.map tl).take i)).length + 3 * (ps[i]).size ≤ 3 * bulk2 ps qs := by
  have h1 := jp_len true ((ps.map tl).take i)
  have h2 := wtT_split (ps.map tl) (i := i) (by simpa using h)
  have e : ((ps.map tl)[i]'(by simpa using h)).length = (ps[i]).size := by rw [List.getElem_map, Lib.size_eq]; rfl
  rw [e] at h2
  have h3 : ((ps.map tl).take i).length ≤ ps.length := by rw [List.length_take, List.length_map]; omega
  unfold bulk2
  omega
theorem jq_room (ps : List ByteArray) (qs : List (ByteArray × ByteArray)) {i : Nat} (h : i < qs.length) : (jp true (ps.map tl)).length + (jq true ((qs.map bsL).take i)).length + 3 * ((qs[i]).1.size + (qs[i]).2.size) ≤ 3 * bulk2 ps qs := by
  have h0 := jp_len true (ps.map tl)
  have h1 := jq_len true ((qs.map bsL).take i)
  have h2 := wtP_split (qs.map bsL) (i := i) (by simpa using h)
  have e1 : ((qs.map bsL)[i]'(by simpa using h)).1.length = (qs[i]).1.size := by rw [List.getElem_map, Lib.size_eq]; rfl
  have e2 : ((qs.map bsL)[i]'(by simpa using h)).2.length = (qs[i]).2.size := by rw [List.getElem_map, Lib.size_eq]; rfl
  rw [e1, e2] at h2
  have h3 : ((qs.map bsL).take i).length ≤ qs.length := by rw [List.length_take, List.length_map]; omega
  rw [List.length_map] at h0
  unfold bulk2
  omega
theorem join_room (ps : List ByteArray) (qs : List (ByteArray × ByteArray)) : (joinM (ps.map tl) (qs.map bsL)).length ≤ 3 * bulk2 ps qs + 1 := by
  have h0 := jp_len true (ps.map tl)
  have h1 := jq_len true (qs.map bsL)
  rw [List.length_map] at h0 h1
  unfold joinM bulk2
  simp only [List.length_append, List.length_cons, List.length_nil]
  omega
set_option maxRecDepth 20000 in
set_option maxHeartbeats 16000000 in
theorem join27 (ps : List ByteArray) (qs : List (ByteArray × ByteArray)) (hbk : bulk2 ps qs ≤ 100000000) (vp vq : Value) (hvp : TxAt w vp ps) (hvq : HdAt w vq qs) :
    Calls Tryz.prog 27 #[vp, vq] w fun e w' => e = .returned (.string ⟨(joinM (ps.map tl) (qs.map bsL)).toArray⟩) ∧ Below w.heap.size w w' := by
  obtain ⟨pa, pc, rfl, hvp⟩ := hvp
  obtain ⟨qa, qc, rfl, hvq⟩ := hvq
  have HP : Hid _ := hvp
  have HQ : Hid _ := hvq
  clear hvp hvq
  have hpl : ps.length ≤ 100000000 := by unfold bulk2 at hbk; omega
  have hql : qs.length ≤ 100000000 := by unfold bulk2 at hbk; omega
  have hnew : RowB w.heap.size (w.alloc (.cells #[.int .u8 47] 5)) (.slice (some ⟨w.heap.size, 0, none⟩) 1 1) [47] := World.ownsRow_lit w #[.int .u8 47] 1 (Nat.le_refl _) (by unfold maxLen; omega) rfl
  have hb0 := allocB' w (.cells #[.int .u8 47] 5)
  obtain ⟨w1, hw1⟩ : ∃ v, w.alloc (.cells #[.int .u8 47] 5) = v := ⟨_, rfl⟩
  have H1 : Hid (RowB w.heap.size w1 (.slice (some ⟨w.heap.size, 0, none⟩) 1 1) [47] ∧ Below w.heap.size w w1) := by rw [← hw1]; exact ⟨hnew, hb0⟩
  clear hnew hb0
  go_enter Tryz.func27, Tryz.ntmps27
  go_wp2
  go_loopw [5, 13] (fun u k w' => ∃ i : Nat, k = .int .i64 (i : Int) ∧ i ≤ ps.length ∧ RowB w.heap.size w' u ([47] ++ jp true ((ps.map tl).take i)) ∧ Below w.heap.size w w') (fun _ k _ => ps.length - numOf k)
  case atStart => exact ⟨0, rfl, Nat.zero_le _, by simpa [jp] using H1.out.1, H1.out.2⟩
  case round =>
    clear H1 hw1
    obtain ⟨i, rfl, hil, hrow, hbw⟩ := hrel
    have hsz := hbw.size
    by_cases hlt : i < ps.length
    · have hlt' : (i : Int) < (ps.length : Int) := by omega
      obtain ⟨g, off, rfl, hg, hc⟩ := HP.out i hlt
      have hrm := jp_room ps qs hlt
      have HT := jp_step ps hlt
      obtain ⟨x, hx⟩ : ∃ x, ps[i] = x := ⟨_, rfl⟩
      rw [hx] at hc hrm HT
      have c0 : wr.cell? ⟨g, off + i, none⟩ = some (.string x) := (hbw.cell (p := ⟨g, off + i, none⟩) hg).trans hc
      obtain ⟨L, hL⟩ : ∃ L, jp true ((ps.map tl).take i) = L := ⟨_, rfl⟩
      rw [hL] at hrow hrm HT
      have HT2 : Hid _ := HT
      have HB : Hid (Below w.heap.size w wr) := hbw
      clear hc hx hL HT hbw
      by_cases h0 : i = 0
      · have h0' : ¬ (0 : Int) < (i : Int) := by omega
        have H0 : Hid (i = 0) := h0
        clear h0
        have q51 := coded51 hrow hsz x (by rw [List.length_append]; simp only [List.length_cons, List.length_nil]; omega)
        go_wp2_with (go_at_call 51; refine q51.mono ?_; rintro e w3 ⟨v3, rfl, hr3, hb3⟩; have H3 : Hid _ := And.intro hr3 (hb3.below hrow hsz); clear hr3 hb3)
        go_roundw
        case rel => exact ⟨i + 1, by simp, hlt, by rw [HT2.out, if_pos H0.out, List.nil_append, ← List.append_assoc]; exact H3.out.1, HB.out.trans H3.out.2⟩
        case measure => simp [numOf]; omega
      · have h0' : (0 : Int) < (i : Int) := by omega
        have ha := allocB' wr (.cells #[.int .u8 47] 5)
        have hr2 := hrow.kept ha
        have ho : SlM (wr.alloc (.cells #[.int .u8 47] 5)) (.slice (some ⟨wr.heap.size, 0, none⟩) 1 1) [47] := one_sl wr 47
        go_wp2_with (first
          | (go_at_call 51; refine (coded51 H3.out.1 (Nat.le_trans (Nat.le_trans hsz (by simp)) hz3) x (by simp only [List.length_append, List.length_cons, List.length_nil]; omega)).mono ?_; rintro e w4 ⟨v4, rfl, hr4, hb4⟩; have H4 : Hid _ := And.intro hr4 (hb4.below H3.out.1 (Nat.le_trans (Nat.le_trans hsz (by simp)) hz3)); clear hr4 hb4)
          | (refine app_any rfl (.tmp 20) (.tmp 21) rfl w.heap.size _ ([47] ++ L) rfl hr2 (.slice (some ⟨wr.heap.size, 0, none⟩) 1 1) [47] rfl ho (by simp; omega) (by simp; omega) ?_; intro v3 w3 hr3 hb3; have hz3 := hb3.size; have H3 : Hid _ := And.intro hr3 hb3; clear hr3 hb3))
        go_roundw
        case rel => exact ⟨i + 1, by simp, hlt, by rw [HT2.out, if_neg h0, ← List.append_assoc, ← List.append_assoc]; exact H4.out.1, ((HB.out.trans (ha.mono hsz)).trans H3.out.2).trans H4.out.2⟩
        case measure => simp [numOf]; omega
    · have hlt' : ¬ (i : Int) < (ps.length : Int) := by omega
      have hie : (ps.map tl).take i = ps.map tl := by rw [List.take_of_length_le]; simp; omega
      rw [hie] at hrow
      have H2 : Hid (RowB w.heap.size wr u5 ([47] ++ jp true (ps.map tl)) ∧ Below w.heap.size w wr) := ⟨hrow, hbw⟩
      clear hrow hbw hie
      go_wp2
      go_loopw [5, 29] (fun u k w' => ∃ i : Nat, k = .int .i64 (i : Int) ∧ i ≤ qs.length ∧ RowB w.heap.size w' u ([47] ++ jp true (ps.map tl) ++ jq true ((qs.map bsL).take i)) ∧ Below w.heap.size w w') (fun _ k _ => qs.length - numOf k)
      case atStart => exact ⟨0, rfl, Nat.zero_le _, by simpa [jq] using H2.out.1, H2.out.2⟩
      case round =>
        clear H2 hsz hlt hlt' hil
        obtain ⟨i, rfl, hil, hrow, hbw⟩ := hrel
        have hsz := hbw.size
        by_cases hlt : i < qs.length
        · have hlt' : (i : Int) < (qs.length : Int) := by omega
          obtain ⟨g, off, rfl, hg, hc, hd⟩ := HQ.out i hlt
          have hrm := jq_room ps qs hlt
          have HT := jq_step qs hlt
          obtain ⟨⟨x, y⟩, hx⟩ : ∃ x, qs[i] = x := ⟨_, rfl⟩
          rw [hx] at hc hd hrm HT
          simp only at hc hd hrm HT
          have c0 : wr.cell? ⟨g, off + i * 2, none⟩ = some (.string x) := (hbw.cell (p := ⟨g, off + i * 2, none⟩) hg).trans hc
          have c1 : wr.cell? ⟨g, off + i * 2 + 1, none⟩ = some (.string y) := (hbw.cell (p := ⟨g, off + i * 2 + 1, none⟩) hg).trans hd
          obtain ⟨L, hL⟩ : ∃ L, [47] ++ jp true (ps.map tl) ++ jq true ((qs.map bsL).take i) = L := ⟨_, rfl⟩
          have hLl : L.length + 3 * (x.size + y.size) ≤ 300000001 := by
            rw [← hL]
            simp only [List.length_append, List.length_cons, List.length_nil]
            omega
          have HT2 : Hid ([47] ++ jp true (ps.map tl) ++ jq true ((qs.map bsL).take (i + 1)) = L ++ [if i = 0 then 63 else 38] ++ escL (tl x) ++ [61] ++ escL (tl y)) := by
            show _ = _
            rw [HT, ← hL]
            simp only [List.append_assoc]
          rw [hL] at hrow
          have hex := escL_len (tl x)
          have htx : (tl x).length = x.size := (Lib.size_eq x).symm
          have HB : Hid (Below w.heap.size w wr) := hbw
          clear hc hd hx hL HT hbw
          obtain ⟨w2, hw2⟩ : ∃ v, wr.alloc (.cells #[.string x, .string y] 69) = v := ⟨_, rfl⟩
          have ha : Below wr.heap.size wr w2 := by rw [← hw2]; exact allocB' _ _
          have hz2 : w2.heap.size = wr.heap.size + 1 := by rw [← hw2]; simp
          have hN : w2.heap[wr.heap.size]? = some (.cells #[.string x, .string y] 69 (0, 0)) := by rw [← hw2]; exact heap_alloc_new _ _
          have hrw2 : RowB w.heap.size w2 u5 L := hrow.kept ha
          have HX : Hid (∀ (W : World) (V : Value), Gr w2 u5 W V → W.cell? ⟨wr.heap.size, 0, none⟩ = some (.string x) ∧ W.cell? ⟨wr.heap.size, 1, none⟩ = some (.string y)) := fun W V h => by
            have h3 := (h.keeps hrow (k := wr.heap.size) (Nat.le_refl _) (by omega)).trans hN
            exact ⟨(bx2 h3).1, (bx2 h3).2.1⟩
          have HF : Hid (∀ (l : List UInt8) (S : ByteArray) (W : World) (V : Value), RowB w.heap.size W V l → l.length + 3 * S.size ≤ 1000000000 → Gr w2 u5 W V → Calls Tryz.prog 51 #[V, .string S] W fun e w' => ∃ v', e = .returned v' ∧ RowB w.heap.size w' v' (l ++ escL (tl S)) ∧ Gr w2 u5 w' v') := fun l S W V h1 h2 h3 => by
            refine (coded51 h1 (Nat.le_trans hsz (by have := h3.size; omega)) S h2).mono ?_
            rintro e w' ⟨v', rfl, k1, k2⟩
            exact ⟨v', rfl, k1, h3.trans k2⟩
          have HE : Hid (∀ (W : World) (V : Value), Gr w2 u5 W V → Below w.heap.size w W) := fun W V h => (HB.out.trans (ha.mono hsz)).trans (h.below hrw2 (by omega))
          have hr2 := hrw2.kept (allocB' w2 (.cells #[.int .u8 63] 5))
          have hr2' := hrw2.kept (allocB' w2 (.cells #[.int .u8 38] 5))
          have ho : SlM (w2.alloc (.cells #[.int .u8 63] 5)) (.slice (some ⟨w2.heap.size, 0, none⟩) 1 1) [63] := one_sl w2 63
          have ho' : SlM (w2.alloc (.cells #[.int .u8 38] 5)) (.slice (some ⟨w2.heap.size, 0, none⟩) 1 1) [38] := one_sl w2 38
          have hz2' : wr.heap.size < w2.heap.size := by omega
          clear hN ha hrow hrw2 hz2
          by_cases h0 : i = 0
          · have h0' : ((i : Int) == 0) = true := by simp [h0]
            have H0 : Hid (i = 0) := h0
            clear h0
            go_wp2_with (first
              | (have hq' := H5; go_at_call 51; refine (HF.out _ y _ _ H5.out.1 (by simp only [List.length_append, List.length_cons, List.length_nil]; omega) H5.out.2).mono ?_; clear hq'; rintro e w6 ⟨v6, rfl, k1, k2⟩; have H6 : Hid _ := And.intro k1 k2; clear k1 k2)
              | (go_at_call 51; refine (HF.out _ x _ _ H3.out.1 (by simp only [List.length_append, List.length_cons, List.length_nil]; omega) H3.out.2).mono ?_; rintro e w4 ⟨v4, rfl, k1, k2⟩; have hz4 := k2.size; have hr4 := k1.kept (allocB' w4 (.cells #[.int .u8 61] 5)); have ho4 : SlM (w4.alloc (.cells #[.int .u8 61] 5)) (.slice (some ⟨w4.heap.size, 0, none⟩) 1 1) [61] := one_sl w4 61; have H4 : Hid _ := And.intro k1 k2; clear k1 k2)
              | (refine appb_at rfl (.tmp 36) (.tmp 37) rfl w.heap.size _ L rfl hr2 (.slice (some ⟨w2.heap.size, 0, none⟩) 1 1) [63] rfl ho (by simp; omega) (by simp; omega) ?_; intro v3 w3 hr3 hg3 ha3; have H3 : Hid _ := And.intro hr3 ((Gr.of_below (allocB' w2 (.cells #[.int .u8 63] 5)) _).trans (Gr.app hg3 ha3)); clear hr3 hg3 ha3; have e0 := (HX.out _ _ H3.out.2).1)
              | (refine appb_at rfl (.tmp 46) (.tmp 47) rfl w.heap.size _ _ rfl hr4 (.slice (some ⟨w4.heap.size, 0, none⟩) 1 1) [61] rfl ho4 (by simp only [List.length_append, List.length_cons, List.length_nil]; omega) (by simp; omega) ?_; intro v5 w5 hr5 hg5 ha5; have H5 : Hid _ := And.intro hr5 (H4.out.2.trans ((Gr.of_below (allocB' w4 (.cells #[.int .u8 61] 5)) _).trans (Gr.app hg5 ha5))); clear hr5 hg5 ha5; have e1 := (HX.out _ _ H5.out.2).2))
            go_roundw
            case rel => exact ⟨i + 1, by simp, hlt, by rw [HT2.out, if_pos H0.out]; exact H6.out.1, HE.out _ _ H6.out.2⟩
            case measure => simp [numOf]; omega
          · have h0' : ((i : Int) == 0) = false := by simp [h0]
            go_wp2_with (first
              | (have hq' := H5; go_at_call 51; refine (HF.out _ y _ _ H5.out.1 (by simp only [List.length_append, List.length_cons, List.length_nil]; omega) H5.out.2).mono ?_; clear hq'; rintro e w6 ⟨v6, rfl, k1, k2⟩; have H6 : Hid _ := And.intro k1 k2; clear k1 k2)
              | (go_at_call 51; refine (HF.out _ x _ _ H3.out.1 (by simp only [List.length_append, List.length_cons, List.length_nil]; omega) H3.out.2).mono ?_; rintro e w4 ⟨v4, rfl, k1, k2⟩; have hz4 := k2.size; have hr4 := k1.kept (allocB' w4 (.cells #[.int .u8 61] 5)); have ho4 : SlM (w4.alloc (.cells #[.int .u8 61] 5)) (.slice (some ⟨w4.heap.size, 0, none⟩) 1 1) [61] := one_sl w4 61; have H4 : Hid _ := And.intro k1 k2; clear k1 k2)
              | (refine appb_at rfl (.tmp 39) (.tmp 40) rfl w.heap.size _ L rfl hr2' (.slice (some ⟨w2.heap.size, 0, none⟩) 1 1) [38] rfl ho' (by simp; omega) (by simp; omega) ?_; intro v3 w3 hr3 hg3 ha3; have H3 : Hid _ := And.intro hr3 ((Gr.of_below (allocB' w2 (.cells #[.int .u8 38] 5)) _).trans (Gr.app hg3 ha3)); clear hr3 hg3 ha3; have e0 := (HX.out _ _ H3.out.2).1)
              | (refine appb_at rfl (.tmp 46) (.tmp 47) rfl w.heap.size _ _ rfl hr4 (.slice (some ⟨w4.heap.size, 0, none⟩) 1 1) [61] rfl ho4 (by simp only [List.length_append, List.length_cons, List.length_nil]; omega) (by simp; omega) ?_; intro v5 w5 hr5 hg5 ha5; have H5 : Hid _ := And.intro hr5 (H4.out.2.trans ((Gr.of_below (allocB' w4 (.cells #[.int .u8 61] 5)) _).trans (Gr.app hg5 ha5))); clear hr5 hg5 ha5; have e1 := (HX.out _ _ H5.out.2).2))
            go_roundw
            case rel => exact ⟨i + 1, by simp, hlt, by rw [HT2.out, if_neg h0]; exact H6.out.1, HE.out _ _ H6.out.2⟩
            case measure => simp [numOf]; omega
        · have hlt' : ¬ (i : Int) < (qs.length : Int) := by omega
          have hie : (qs.map bsL).take i = qs.map bsL := by rw [List.take_of_length_le]; simp; omega
          rw [hie] at hrow
          have hcv := conv_sl hrow.slm
          obtain ⟨va, vl, vc, rfl⟩ : ∃ va vl vc, u5 = .slice va vl vc := by obtain ⟨a, c, e⟩ := hrow.form; exact ⟨_, _, _, e⟩
          clear hrow hie
          go_wp2
          go_ret
          exact ⟨rfl, hbw⟩
end
end Ht
end Go.Proofs.YtngfoghnopnbmaaGreatDoor
