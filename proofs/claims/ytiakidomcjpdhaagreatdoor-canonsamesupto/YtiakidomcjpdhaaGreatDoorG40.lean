/- Plain mathematics: how great the value of a text is: at most four times its bytes. Nothing of the program. What value of the reader does: a contract, by walking its text, and by induction on the brackets that may still open. -/
import Derived.Test.YtiakidomcjpdhaaGreatDoorG06
import Derived.Test.YtiakidomcjpdhaaGreatDoorG09
import Derived.Test.YtiakidomcjpdhaaGreatDoorG16
namespace Go.Proofs.YtiakidomcjpdhaaGreatDoor
open Go.RowKit
namespace SndW
open RefW EncW

theorem enc_le4 (r : Int) : (Lib.encodeRune r).length ≤ 4 := by
  have h := (Lib.runeCells_le r).2
  rw [← Lib.byteCells_encodeRune] at h
  simpa [Lib.byteCells] using h
theorem flat_le4 : ∀ zs : List Int, (zs.flatMap Lib.encodeRune).length ≤ 4 * zs.length
  | [] => by simp
  | z :: r => by
    have := flat_le4 r
    have := enc_le4 z
    simp only [List.flatMap_cons, List.length_append, List.length_cons]
    omega
theorem txt_le4 {cs : List Nat} (h : AllPt cs) : (txt cs).size ≤ 4 * cs.length := by
  unfold txt
  rw [runes_eq _ (badPt_all cs 0 h), Lib.size_eq]
  have := flat_le4 (cs.map fun (n : Nat) => (n : Int))
  simpa using this

theorem fw_bl {s : ByteArray} {p : Nat} (ha : Al s p) : p ≤ bl s p := (bl_le s p ha.2).1
theorem fw_word {s : ByteArray} : ∀ (t : List Nat) {p q : Nat}, wordS s t p = .ok q → q = p + t.length
  | [], p, q, h => by unfold wordS at h; injection h with h; simp [h]
  | c :: t, p, q, h => by
    unfold wordS at h
    split at h
    · have := fw_word t h
      simp only [List.length_cons]
      omega
    · cases h
theorem fw_dg {s : ByteArray} : ∀ (f n p : Nat), p ≤ (dgF s f n p).2
  | 0, n, p => Nat.le_refl _
  | f + 1, n, p => by
    unfold dgF
    split
    · have := fw_dg (s := s) f (min (n * 10 + (nx s p - 48)) 9007199254740992) (p + 1)
      omega
    · exact Nat.le_refl _
theorem fw_digits {s : ByteArray} {p n q : Nat} (h : digitsS s p = .ok (n, q)) : p < q := by
  unfold digitsS at h
  split at h
  · rename_i hd
    split at h
    · injection h with h
      injection h with h1 h2
      omega
    · injection h with h
      have hp : p < s.size := lt_of_nx (by intro e; rw [e] at hd; exact absurd hd (by decide))
      obtain ⟨k, hk⟩ : ∃ k, s.size - p = k + 1 := ⟨s.size - p - 1, by omega⟩
      rw [hk, dgF, if_pos hd] at h
      have := fw_dg (s := s) k (min (0 * 10 + (nx s p - 48)) 9007199254740992) (p + 1)
      rw [h] at this
      simp only at this
      omega
  · cases h
theorem fw_number {s : ByteArray} {p q : Nat} {n : Int} (h : numberS s p = .ok (n, q)) : p < q := by
  unfold numberS at h
  generalize hr : digitsS s (if nx s p = 45 then p + 1 else p) = r at h
  cases r with
  | error x => cases h
  | ok x =>
    obtain ⟨m, q'⟩ := x
    have h1 := fw_digits hr
    simp only at h
    split at h
    · cases h
    · injection h with h
      injection h with e1 e2
      subst e2
      split at h1 <;> omega
theorem fw_hex {s : ByteArray} : ∀ (k : Nat) {n p m q : Nat}, Al s p → hexF s (badAt s 0) k n p = .ok (m, q) → p ≤ q
  | 0, n, p, m, q, ha, h => by
    unfold hexF at h
    injection h with h
    injection h with h1 h2
    omega
  | k + 1, n, p, m, q, ha, h => by
    unfold hexF at h
    generalize hr : chS s (badAt s 0) p = r at h
    cases r with
    | error x => cases h
    | ok x =>
      obtain ⟨c, q1⟩ := x
      simp only at h
      split at h
      · cases h
      · have := fw_hex k (al_ch ha hr).2 h
        have := chS_ok hr ha.2
        omega
theorem fw_numbered {s : ByteArray} {slash p c q : Nat} (ha : Al s p) (h : numberedS s (badAt s 0) slash p = .ok (c, q)) : p ≤ q := by
  unfold numberedS at h
  generalize hr : hexF s (badAt s 0) 4 0 p = r at h
  cases r with
  | error x => cases h
  | ok x =>
    obtain ⟨n, q1⟩ := x
    have hh := fw_hex 4 ha hr
    simp only at h
    split at h
    · injection h with h
      injection h with e1 e2
      omega
    · split at h
      · injection h with h
        injection h with e1 e2
        omega
      · cases h
theorem fw_esc {s : ByteArray} {slash p c q : Nat} (ha : Al s p) (h : escS s (badAt s 0) slash p = .ok (c, q)) : p < q := by
  unfold escS at h
  generalize hr : chS s (badAt s 0) p = r at h
  cases r with
  | error x => cases h
  | ok x =>
    obtain ⟨d, q1⟩ := x
    have h1 := (al_ch ha hr).2
    have h2 := chS_ok hr ha.2
    simp only [escC] at h
    repeat' split at h
    all_goals
      first
        | (have := fw_numbered h1 h; omega)
        | cases h; done
        | (injection h with h; injection h with e1 e2; omega)
theorem fw_qu {s : ByteArray} : ∀ (f : Nat) {acc : List Nat} {p : Nat} {cs : List Nat} {q : Nat}, Al s p → quF s (badAt s 0) f acc p = .ok (cs, q) → cs.length + p < acc.length + q
  | 0, acc, p, cs, q, _, h => by unfold quF at h; cases h
  | f + 1, acc, p, cs, q, ha, h => by
    unfold quF at h
    generalize hr : chS s (badAt s 0) p = r at h
    cases r with
    | error x => cases h
    | ok x =>
      obtain ⟨c, q1⟩ := x
      have h1 := al_ch ha hr
      have h0 := chS_ok hr ha.2
      simp only at h
      split at h
      · injection h with h
        injection h with e1 e2
        subst e1
        omega
      · split at h
        · generalize hr2 : escS s (badAt s 0) p q1 = r2 at h
          cases r2 with
          | error x => cases h
          | ok x =>
            obtain ⟨d, q2⟩ := x
            have h2 := al_esc h1.2 hr2
            have h3 := fw_esc h1.2 hr2
            have := fw_qu f h2.2 h
            simp only [List.length_append, List.length_cons, List.length_nil] at this
            omega
        · split at h
          · cases h
          · have := fw_qu f h1.2 h
            simp only [List.length_append, List.length_cons, List.length_nil] at this
            omega
theorem fw_quoted {s : ByteArray} {p : Nat} {cs : List Nat} {q : Nat} (ha : Al s p) (h : quotedS s (badAt s 0) p = .ok (cs, q)) : (txt cs).size + 4 * p + 8 ≤ 4 * q := by
  unfold quotedS at h
  split at h
  · have h1 := al_ascii ha (by omega) (by omega)
    have h2 := al_qu _ (by intro y hy; simp at hy) h1 h
    have h3 := fw_qu _ h1 h
    have h4 := txt_le4 h2.1
    simp only [List.length_nil] at h3
    omega
  · cases h

theorem fw_elems {σ : Type} {s : ByteArray} {one : σ → Nat → Except (Nat × Nat) (σ × Nat)} {close : Nat} {J : σ → Nat} (hc : 0 < close ∧ close < 128)
    (hone : ∀ st p st2 q, Al s p → one st p = .ok (st2, q) → Al s q ∧ J st2 + 4 * p ≤ J st + 4 * q) : ∀ (f : Nat) {st : σ} {p : Nat} {st2 : σ} {q : Nat}, Al s p → elemsF s one close f st p = .ok (st2, q) → J st2 + 4 * p + 4 ≤ J st + 4 * q
  | 0, st, p, st2, q, _, h => by unfold elemsF at h; cases h
  | f + 1, st, p, st2, q, ha, h => by
    unfold elemsF at h
    generalize hr : one st p = r at h
    cases r with
    | error x => cases h
    | ok x =>
      obtain ⟨st1, q1⟩ := x
      have h1 := hone _ _ _ _ ha hr
      have h2 := al_bl h1.1
      have h3 := fw_bl h1.1
      simp only at h
      split at h
      · injection h with h
        injection h with e1 e2
        subst e1
        omega
      · split at h
        · have h4 := al_ascii h2 (by omega) (by omega)
          have := fw_elems hc hone f (al_bl h4) h
          have := fw_bl h4
          omega
        · cases h
theorem fw_bracket {σ : Type} {s : ByteArray} {one : σ → Nat → Except (Nat × Nat) (σ × Nat)} {close : Nat} {J : σ → Nat} (hc : 0 < close ∧ close < 128)
    (hone : ∀ st p st2 q, Al s p → one st p = .ok (st2, q) → Al s q ∧ J st2 + 4 * p ≤ J st + 4 * q) {st : σ} {p : Nat} {st2 : σ} {q : Nat} (ha : Al s (p + 1)) (h : bracketS s one close st p = .ok (st2, q)) : J st2 + 4 * p + 4 ≤ J st + 4 * q := by
  unfold bracketS at h
  have h1 := fw_bl ha
  split at h
  · injection h with h
    injection h with e1 e2
    subst e1
    omega
  · have := fw_elems hc hone _ (al_bl ha) h
    omega
theorem szL_snoc (l : List GV) (x : GV) : szL (l ++ [x]) = szL l + x.sz := by
  induction l with
  | nil => simp [szL]
  | cons y l ih => simp [szL, ih, Nat.add_assoc]
theorem szF_snoc (l : List (ByteArray × GV)) (x : ByteArray × GV) : szF (l ++ [x]) = szF l + szP x := by
  induction l with
  | nil => simp [szF]
  | cons y l ih => simp [szF, ih, Nat.add_assoc]

theorem sz_list {s : ByteArray} {val : Nat → Except (Nat × Nat) (GV × Nat)} (hval : ∀ p x q, Al s p → val p = .ok (x, q) → Al s q ∧ x.sz + 4 * p ≤ 4 * q) {p : Nat} {x : GV} {q : Nat} (ha : Al s (p + 1)) (h : listS s val p = .ok (x, q)) : x.sz + 4 * p ≤ 4 * q := by
  unfold listS at h
  generalize hr : bracketS s (oneL val) 93 [] p = r at h
  cases r with
  | error x => cases h
  | ok y =>
    obtain ⟨l, q1⟩ := y
    injection h with h
    injection h with e1 e2
    subst e1
    subst e2
    have := fw_bracket (J := szL) (by decide) (fun st p st2 q ha h => by
      unfold oneL at h
      generalize hr : val p = r at h
      cases r with
      | error x => cases h
      | ok y =>
        obtain ⟨x, q1⟩ := y
        injection h with h
        injection h with e1 e2
        subst e1
        subst e2
        have := hval _ _ _ ha hr
        refine ⟨this.1, ?_⟩
        rw [szL_snoc]
        omega) ha hr
    simp [GV.sz, szL, szF, ByteArray.size] at this ⊢
    omega
theorem sz_obj {s : ByteArray} {val : Nat → Except (Nat × Nat) (GV × Nat)} (hval : ∀ p x q, Al s p → val p = .ok (x, q) → Al s q ∧ x.sz + 4 * p ≤ 4 * q) {p : Nat} {x : GV} {q : Nat} (ha : Al s (p + 1)) (h : objS s (badAt s 0) val p = .ok (x, q)) : x.sz + 4 * p ≤ 4 * q := by
  unfold objS at h
  generalize hr : bracketS s (oneF s (badAt s 0) val) 125 [] p = r at h
  cases r with
  | error x => cases h
  | ok y =>
    obtain ⟨l, q1⟩ := y
    injection h with h
    injection h with e1 e2
    subst e1
    subst e2
    have := fw_bracket (J := szF) (by decide) (fun st p st2 q ha h => by
      unfold oneF at h
      generalize hr : quotedS s (badAt s 0) p = r at h
      cases r with
      | error x => cases h
      | ok y =>
        obtain ⟨cs, q1⟩ := y
        have hq := al_quoted ha hr
        have hq2 := fw_quoted ha hr
        simp only at h
        split at h
        · cases h
        · split at h
          · have hb0 := al_bl hq.2
            have hb1 := al_ascii hb0 (by omega) (by omega)
            have hb := al_bl hb1
            have f0 := fw_bl hq.2
            have f1 := fw_bl hb1
            generalize hr2 : val (bl s (bl s q1 + 1)) = r2 at h
            cases r2 with
            | error x => cases h
            | ok y =>
              obtain ⟨x, q2⟩ := y
              injection h with h
              injection h with e1 e2
              subst e1
              subst e2
              have hv := hval _ _ _ hb hr2
              refine ⟨hv.1, ?_⟩
              rw [szF_snoc]
              simp only [szP]
              omega
          · cases h) ha hr
    simp [GV.sz, szL, szF, ByteArray.size] at this ⊢
    omega
theorem sz0 : (⟨#[]⟩ : ByteArray).size = 0 := rfl
theorem sz_valC {s : ByteArray} {lst obj : Nat → Except (Nat × Nat) (GV × Nat)}
    (hl : ∀ p x q, Al s (p + 1) → lst p = .ok (x, q) → x.sz + 4 * p ≤ 4 * q) (ho : ∀ p x q, Al s (p + 1) → obj p = .ok (x, q) → x.sz + 4 * p ≤ 4 * q)
    {p : Nat} {x : GV} {q : Nat} (ha : Al s p) (h : valC s (badAt s 0) lst obj p = .ok (x, q)) : x.sz + 4 * p ≤ 4 * q := by
  unfold valC at h
  split at h
  · generalize hr : wordS s [110, 117, 108, 108] p = r at h
    cases r with
    | error x => cases h
    | ok y =>
      injection h with h
      injection h with e1 e2
      subst e1
      have := fw_word _ hr
      simp [GV.sz, szL, szF, sz0] at this ⊢
      omega
  split at h
  · generalize hr : wordS s [116, 114, 117, 101] p = r at h
    cases r with
    | error x => cases h
    | ok y =>
      injection h with h
      injection h with e1 e2
      subst e1
      have := fw_word _ hr
      simp [GV.sz, szL, szF, sz0] at this ⊢
      omega
  split at h
  · generalize hr : wordS s [102, 97, 108, 115, 101] p = r at h
    cases r with
    | error x => cases h
    | ok y =>
      injection h with h
      injection h with e1 e2
      subst e1
      have := fw_word _ hr
      simp [GV.sz, szL, szF, sz0] at this ⊢
      omega
  split at h
  · generalize hr : quotedS s (badAt s 0) p = r at h
    cases r with
    | error x => cases h
    | ok y =>
      obtain ⟨cs, q1⟩ := y
      injection h with h
      injection h with e1 e2
      subst e1
      have := fw_quoted ha hr
      simp [GV.sz, szL, szF]
      omega
  split at h
  · exact hl _ _ _ (al_ascii ha (by omega) (by omega)) h
  split at h
  · exact ho _ _ _ (al_ascii ha (by omega) (by omega)) h
  split at h
  · generalize hr : numberS s p = r at h
    cases r with
    | error x => cases h
    | ok y =>
      obtain ⟨n, q1⟩ := y
      injection h with h
      injection h with e1 e2
      subst e1
      have := fw_number hr
      simp [GV.sz, szL, szF, sz0]
      omega
  · cases h
theorem sz_val {s : ByteArray} : ∀ (k : Nat) {p : Nat} {x : GV} {q : Nat}, Al s p → valS s (badAt s 0) k p = .ok (x, q) → x.sz + 4 * p ≤ 4 * q
  | 0, p, x, q, ha, h => by
    unfold valS at h
    exact sz_valC (fun _ _ _ _ h => by cases h) (fun _ _ _ _ h => by cases h) ha h
  | k + 1, p, x, q, ha, h => by
    have h' := h
    unfold valS at h'
    have ih : ∀ p x q, Al s p → valS s (badAt s 0) k p = .ok (x, q) → Al s q ∧ x.sz + 4 * p ≤ 4 * q := fun p x q ha h => ⟨(snd_val k ha h).2, sz_val k ha h⟩
    exact sz_valC (fun _ _ _ ha h => sz_list ih ha h) (fun _ _ _ ha h => sz_obj ih ha h) ha h'
/-- The value of a text is no greater than four times its bytes. -/
theorem sz_parse {s : ByteArray} {x : GV} (h : parseS s = .ok x) : x.sz ≤ 4 * s.size := by
  unfold parseS at h
  generalize hr : valS s (badAt s 0) 32 (bl s 0) = r at h
  cases r with
  | error x => cases h
  | ok y =>
    obtain ⟨z, q⟩ := y
    simp only at h
    split at h
    · cases h
    · injection h with h
      subst h
      have h0 : Al s (bl s 0) := al_bl ⟨rfl, Nat.zero_le _⟩
      have h1 := sz_val 32 h0 hr
      have h2 := (snd_val 32 h0 hr).2.2
      omega
end SndW
end Go.Proofs.YtiakidomcjpdhaaGreatDoor

namespace Go.Proofs.YtiakidomcjpdhaaGreatDoor
open Go.RowKit

theorem wordS_gt {s : ByteArray} {l : List Nat} {p q : Nat} (h : wordS s l p = .ok q) (hl : l ≠ []) : p < q := by
  have key : ∀ (l : List Nat) (p q : Nat), wordS s l p = .ok q → p + l.length = q := by
    intro l
    induction l with
    | nil => intro p q h; unfold wordS at h; injection h with h
    | cons c t ih =>
      intro p q h
      unfold wordS at h
      split at h
      · have := ih _ _ h
        simp
        omega
      · cases h
  have h1 := key l p q h
  have h2 : 0 < l.length := List.length_pos_iff.2 hl
  omega

set_option maxRecDepth 20000 in
set_option maxHeartbeats 16000000 in
theorem value_step (rb : Nat) (s : ByteArray) (bad : Int) (dep : Nat) (lst obj : Nat → Except (Nat × Nat) (GV × Nat)) (hlst : BracketAt 102 rb s bad dep lst) (hobj : BracketAt 103 rb s bad dep obj) (hrb : 6 ≤ rb) (hs : s.size ≤ 65536) :
    ValueAt rb s bad dep (valC s bad lst obj) := by
  intro w p hr hT hp
  have hlt := hr.lt
  have hs2 : s.size ≤ 140737488351232 := by omega
  obtain ⟨N, hN⟩ : ∃ N, valC s bad lst obj p = N := ⟨_, rfl⟩
  rw [hN]
  obtain ⟨c, hc⟩ : ∃ c, nx s p = c := ⟨_, rfl⟩
  have hc256 : c < 256 := by rw [← hc]; exact nx_lt s p
  have f0 : Fr (Own rb) w (w.alloc ZV) := Fr.alloc _ _ _
  have hz0 : ∀ {n : Nat} (w' : World), Fr (Own rb) ((w.alloc ZV).drewN n) w' → w'.heap[w.heap.size]? = some (.cells #[.int .i64 0, .bool false, .int .i64 0, .string ⟨#[]⟩, .slice none 0 0, .slice none 0 0] 25 (0, 0)) := fun w' f =>
    (f.block _ (by simp) (by show ¬ _ = _; omega)).trans (heap_alloc_new w ZV)
  by_cases k110 : c = 110
  · have HV : Hid (N = match wordS s [110, 117, 108, 108] p with | .error x => .error x | .ok q => .ok (.mk 0 false 0 ⟨#[]⟩ [] [], q)) := by show _ = _; rw [← hN, valC, if_pos (show nx s p = 110 from hc.trans k110)]; try rfl
    clear hN
    have m110 : ((c : Int) == 110) = true := by simp [k110]
    cases hx : wordS s [110, 117, 108, 108] p with
    | error x =>
      have HE : Hid (N = .error (x.1, x.2)) := by show _ = _; rw [HV.out, hx]
      have HX : Hid (wordS s [110, 117, 108, 108] p = .error (x.1, x.2)) := hx
      clear HV hx
      go_enter Tryz.func70, Tryz.ntmps70
      go_wp2_with (first
        | (go_at_call 99; refine (next_any _ _ _ _ _ _ (hr.alloc _) hp hs2).mono ?_; rintro e w1 ⟨rfl, n1, rfl⟩; rw [hc])
        | (go_at_call 100; refine (word_any _ rb s p bad dep ⟨#[110, 117, 108, 108]⟩ 0 false ((hr.alloc _).drewN _) hp hs2 (by decide) (by decide)).mono ?_; intro e w2 ho; obtain ⟨⟨bk, rfl, hbk⟩, f2⟩ := Out.isNo HX.out ho; clear ho))
      exact panics0 (Out.no HE.out ⟨⟨_, rfl, hbk⟩, (f0.trans (Fr.drewN _ _ _)).trans f2⟩)
    | ok x =>
      have HE : Hid (N = .ok (.mk 0 false 0 ⟨#[]⟩ [] [], x)) := by show _ = _; rw [HV.out, hx]
      have HX : Hid (wordS s [110, 117, 108, 108] p = .ok x) := hx
      have hq1 : p < x := wordS_gt hx (by decide)
      clear HV hx
      go_enter Tryz.func70, Tryz.ntmps70
      go_wp2_with (first
        | (go_at_call 99; refine (next_any _ _ _ _ _ _ (hr.alloc _) hp hs2).mono ?_; rintro e w1 ⟨rfl, n1, rfl⟩; rw [hc])
        | (go_at_call 100; refine (word_any _ rb s p bad dep ⟨#[110, 117, 108, 108]⟩ 0 false ((hr.alloc _).drewN _) hp hs2 (by decide) (by decide)).mono ?_; intro e w2 ho; obtain ⟨rfl, rd2, hq2, f2⟩ := Out.isOk HX.out ho; clear ho; have hz := hz0 _ f2; obtain ⟨y0, y1, y2, y3, y4, y5⟩ := box6 hz; have z0 := box_fz hz 0; have z1 := box_fz hz 1; have z2 := box_fz hz 2; have z3 := box_fz hz 3; have z4 := box_fz hz 4; have z5 := box_fz hz 5))
      refine bodyPost_ret (v := .agg #[.int .i64 0, .bool false, .int .i64 0, .string ⟨#[]⟩, .slice none 0 0, .slice none 0 0]) (by simp [results, Tryz.results70, go_sem, *]) rfl (Out.yes HE.out ⟨⟨_, _, _, _, _, _, _, _, _, _, rfl, ?_⟩, ?_, hq1, hq2, ?_⟩)
      · refine LaidV.conv (ok := fun b => w.heap.size + 1 ≤ b) (w := w2) (fun b hb hl => ⟨by omega, ?_⟩) (by unfold LaidV; exact ⟨_, _, [], [], rfl, ⟨rfl, .inl ⟨none, 0, rfl, rfl⟩⟩, ⟨rfl, .inl ⟨none, 0, rfl, rfl⟩⟩, by unfold LaidL; rfl, by unfold LaidF; rfl⟩)
        rw [Below.heap_setCell _ _ _ _ (by simp; omega), Below.heap_setCell _ _ _ _ (by simp; omega), Below.heap_setCell _ _ _ _ (by simp; omega), Below.heap_setCell _ _ _ _ (by simp; omega), Below.heap_setCell _ _ _ _ (by simp; omega), Below.heap_setCell _ _ _ _ (by simp; omega)]
      · exact (((((rd2.other _ (by simp; omega)).other _ (by simp; omega)).other _ (by simp; omega)).other _ (by simp; omega)).other _ (by simp; omega)).other _ (by simp; omega)
      · exact (((((((f0.trans (Fr.drewN _ _ _)).trans f2).setNew _ (by simp)).setNew _ (by simp)).setNew _ (by simp)).setNew _ (by simp)).setNew _ (by simp)).setNew _ (by simp)
  by_cases k116 : c = 116
  · have HV : Hid (N = match wordS s [116, 114, 117, 101] p with | .error x => .error x | .ok q => .ok (.mk 1 true 0 ⟨#[]⟩ [] [], q)) := by show _ = _; rw [← hN, valC, if_neg (show ¬ nx s p = 110 by rw [hc]; exact k110), if_pos (show nx s p = 116 from hc.trans k116)]; try rfl
    clear hN
    have m110 : ((c : Int) == 110) = false := by simp; omega
    have m116 : ((c : Int) == 116) = true := by simp [k116]
    cases hx : wordS s [116, 114, 117, 101] p with
    | error x =>
      have HE : Hid (N = .error (x.1, x.2)) := by show _ = _; rw [HV.out, hx]
      have HX : Hid (wordS s [116, 114, 117, 101] p = .error (x.1, x.2)) := hx
      clear HV hx
      go_enter Tryz.func70, Tryz.ntmps70
      go_wp2_with (first
        | (go_at_call 99; refine (next_any _ _ _ _ _ _ (hr.alloc _) hp hs2).mono ?_; rintro e w1 ⟨rfl, n1, rfl⟩; rw [hc])
        | (go_at_call 100; refine (word_any _ rb s p bad dep ⟨#[116, 114, 117, 101]⟩ 1 true ((hr.alloc _).drewN _) hp hs2 (by decide) (by decide)).mono ?_; intro e w2 ho; obtain ⟨⟨bk, rfl, hbk⟩, f2⟩ := Out.isNo HX.out ho; clear ho))
      exact panics0 (Out.no HE.out ⟨⟨_, rfl, hbk⟩, (f0.trans (Fr.drewN _ _ _)).trans f2⟩)
    | ok x =>
      have HE : Hid (N = .ok (.mk 1 true 0 ⟨#[]⟩ [] [], x)) := by show _ = _; rw [HV.out, hx]
      have HX : Hid (wordS s [116, 114, 117, 101] p = .ok x) := hx
      have hq1 : p < x := wordS_gt hx (by decide)
      clear HV hx
      go_enter Tryz.func70, Tryz.ntmps70
      go_wp2_with (first
        | (go_at_call 99; refine (next_any _ _ _ _ _ _ (hr.alloc _) hp hs2).mono ?_; rintro e w1 ⟨rfl, n1, rfl⟩; rw [hc])
        | (go_at_call 100; refine (word_any _ rb s p bad dep ⟨#[116, 114, 117, 101]⟩ 1 true ((hr.alloc _).drewN _) hp hs2 (by decide) (by decide)).mono ?_; intro e w2 ho; obtain ⟨rfl, rd2, hq2, f2⟩ := Out.isOk HX.out ho; clear ho; have hz := hz0 _ f2; obtain ⟨y0, y1, y2, y3, y4, y5⟩ := box6 hz; have z0 := box_fz hz 0; have z1 := box_fz hz 1; have z2 := box_fz hz 2; have z3 := box_fz hz 3; have z4 := box_fz hz 4; have z5 := box_fz hz 5))
      refine bodyPost_ret (v := .agg #[.int .i64 1, .bool true, .int .i64 0, .string ⟨#[]⟩, .slice none 0 0, .slice none 0 0]) (by simp [results, Tryz.results70, go_sem, *]) rfl (Out.yes HE.out ⟨⟨_, _, _, _, _, _, _, _, _, _, rfl, ?_⟩, ?_, hq1, hq2, ?_⟩)
      · refine LaidV.conv (ok := fun b => w.heap.size + 1 ≤ b) (w := w2) (fun b hb hl => ⟨by omega, ?_⟩) (by unfold LaidV; exact ⟨_, _, [], [], rfl, ⟨rfl, .inl ⟨none, 0, rfl, rfl⟩⟩, ⟨rfl, .inl ⟨none, 0, rfl, rfl⟩⟩, by unfold LaidL; rfl, by unfold LaidF; rfl⟩)
        rw [Below.heap_setCell _ _ _ _ (by simp; omega), Below.heap_setCell _ _ _ _ (by simp; omega), Below.heap_setCell _ _ _ _ (by simp; omega), Below.heap_setCell _ _ _ _ (by simp; omega), Below.heap_setCell _ _ _ _ (by simp; omega), Below.heap_setCell _ _ _ _ (by simp; omega)]
      · exact (((((rd2.other _ (by simp; omega)).other _ (by simp; omega)).other _ (by simp; omega)).other _ (by simp; omega)).other _ (by simp; omega)).other _ (by simp; omega)
      · exact (((((((f0.trans (Fr.drewN _ _ _)).trans f2).setNew _ (by simp)).setNew _ (by simp)).setNew _ (by simp)).setNew _ (by simp)).setNew _ (by simp)).setNew _ (by simp)
  by_cases k102 : c = 102
  · have HV : Hid (N = match wordS s [102, 97, 108, 115, 101] p with | .error x => .error x | .ok q => .ok (.mk 1 false 0 ⟨#[]⟩ [] [], q)) := by show _ = _; rw [← hN, valC, if_neg (show ¬ nx s p = 110 by rw [hc]; exact k110), if_neg (show ¬ nx s p = 116 by rw [hc]; exact k116), if_pos (show nx s p = 102 from hc.trans k102)]; try rfl
    clear hN
    have m110 : ((c : Int) == 110) = false := by simp; omega
    have m116 : ((c : Int) == 116) = false := by simp; omega
    have m102 : ((c : Int) == 102) = true := by simp [k102]
    cases hx : wordS s [102, 97, 108, 115, 101] p with
    | error x =>
      have HE : Hid (N = .error (x.1, x.2)) := by show _ = _; rw [HV.out, hx]
      have HX : Hid (wordS s [102, 97, 108, 115, 101] p = .error (x.1, x.2)) := hx
      clear HV hx
      go_enter Tryz.func70, Tryz.ntmps70
      go_wp2_with (first
        | (go_at_call 99; refine (next_any _ _ _ _ _ _ (hr.alloc _) hp hs2).mono ?_; rintro e w1 ⟨rfl, n1, rfl⟩; rw [hc])
        | (go_at_call 100; refine (word_any _ rb s p bad dep ⟨#[102, 97, 108, 115, 101]⟩ 1 false ((hr.alloc _).drewN _) hp hs2 (by decide) (by decide)).mono ?_; intro e w2 ho; obtain ⟨⟨bk, rfl, hbk⟩, f2⟩ := Out.isNo HX.out ho; clear ho))
      exact panics0 (Out.no HE.out ⟨⟨_, rfl, hbk⟩, (f0.trans (Fr.drewN _ _ _)).trans f2⟩)
    | ok x =>
      have HE : Hid (N = .ok (.mk 1 false 0 ⟨#[]⟩ [] [], x)) := by show _ = _; rw [HV.out, hx]
      have HX : Hid (wordS s [102, 97, 108, 115, 101] p = .ok x) := hx
      have hq1 : p < x := wordS_gt hx (by decide)
      clear HV hx
      go_enter Tryz.func70, Tryz.ntmps70
      go_wp2_with (first
        | (go_at_call 99; refine (next_any _ _ _ _ _ _ (hr.alloc _) hp hs2).mono ?_; rintro e w1 ⟨rfl, n1, rfl⟩; rw [hc])
        | (go_at_call 100; refine (word_any _ rb s p bad dep ⟨#[102, 97, 108, 115, 101]⟩ 1 false ((hr.alloc _).drewN _) hp hs2 (by decide) (by decide)).mono ?_; intro e w2 ho; obtain ⟨rfl, rd2, hq2, f2⟩ := Out.isOk HX.out ho; clear ho; have hz := hz0 _ f2; obtain ⟨y0, y1, y2, y3, y4, y5⟩ := box6 hz; have z0 := box_fz hz 0; have z1 := box_fz hz 1; have z2 := box_fz hz 2; have z3 := box_fz hz 3; have z4 := box_fz hz 4; have z5 := box_fz hz 5))
      refine bodyPost_ret (v := .agg #[.int .i64 1, .bool false, .int .i64 0, .string ⟨#[]⟩, .slice none 0 0, .slice none 0 0]) (by simp [results, Tryz.results70, go_sem, *]) rfl (Out.yes HE.out ⟨⟨_, _, _, _, _, _, _, _, _, _, rfl, ?_⟩, ?_, hq1, hq2, ?_⟩)
      · refine LaidV.conv (ok := fun b => w.heap.size + 1 ≤ b) (w := w2) (fun b hb hl => ⟨by omega, ?_⟩) (by unfold LaidV; exact ⟨_, _, [], [], rfl, ⟨rfl, .inl ⟨none, 0, rfl, rfl⟩⟩, ⟨rfl, .inl ⟨none, 0, rfl, rfl⟩⟩, by unfold LaidL; rfl, by unfold LaidF; rfl⟩)
        rw [Below.heap_setCell _ _ _ _ (by simp; omega), Below.heap_setCell _ _ _ _ (by simp; omega), Below.heap_setCell _ _ _ _ (by simp; omega), Below.heap_setCell _ _ _ _ (by simp; omega), Below.heap_setCell _ _ _ _ (by simp; omega), Below.heap_setCell _ _ _ _ (by simp; omega)]
      · exact (((((rd2.other _ (by simp; omega)).other _ (by simp; omega)).other _ (by simp; omega)).other _ (by simp; omega)).other _ (by simp; omega)).other _ (by simp; omega)
      · exact (((((((f0.trans (Fr.drewN _ _ _)).trans f2).setNew _ (by simp)).setNew _ (by simp)).setNew _ (by simp)).setNew _ (by simp)).setNew _ (by simp)).setNew _ (by simp)
  by_cases k34 : c = 34
  · have HV : Hid (N = match quotedS s bad p with | .error x => .error x | .ok (cs, q) => .ok (.mk 3 false 0 (txt cs) [] [], q)) := by show _ = _; rw [← hN, valC, if_neg (show ¬ nx s p = 110 by rw [hc]; exact k110), if_neg (show ¬ nx s p = 116 by rw [hc]; exact k116), if_neg (show ¬ nx s p = 102 by rw [hc]; exact k102), if_pos (show nx s p = 34 from hc.trans k34)]; try rfl
    clear hN
    have m110 : ((c : Int) == 110) = false := by simp; omega
    have m116 : ((c : Int) == 116) = false := by simp; omega
    have m102 : ((c : Int) == 102) = false := by simp; omega
    have m34 : ((c : Int) == 34) = true := by simp [k34]
    cases hx : quotedS s bad p with
    | error x =>
      have HE : Hid (N = .error (x.1, x.2)) := by show _ = _; rw [HV.out, hx]
      have HX : Hid (quotedS s bad p = .error (x.1, x.2)) := hx
      clear HV hx
      go_enter Tryz.func70, Tryz.ntmps70
      go_wp2_with (first
        | (go_at_call 99; refine (next_any _ _ _ _ _ _ (hr.alloc _) hp hs2).mono ?_; rintro e w1 ⟨rfl, n1, rfl⟩; rw [hc])
        | (go_at_call 101; refine (quoted_any _ rb s p bad dep ((hr.alloc _).drewN _) (hT.alloc _) hrb hp hs).mono ?_; intro e w2 ho; obtain ⟨⟨bk, rfl, hbk⟩, f2⟩ := Out.isNo HX.out ho; clear ho))
      exact panics0 (Out.no HE.out ⟨⟨_, rfl, hbk⟩, (f0.trans (Fr.drewN _ _ _)).trans f2⟩)
    | ok x =>
      have HE : Hid (N = .ok (.mk 3 false 0 (txt x.1) [] [], x.2)) := by show _ = _; rw [HV.out, hx]
      have HX : Hid (quotedS s bad p = .ok x) := hx
      clear HV hx
      go_enter Tryz.func70, Tryz.ntmps70
      go_wp2_with (first
        | (go_at_call 99; refine (next_any _ _ _ _ _ _ (hr.alloc _) hp hs2).mono ?_; rintro e w1 ⟨rfl, n1, rfl⟩; rw [hc])
        | (go_at_call 101; refine (quoted_any _ rb s p bad dep ((hr.alloc _).drewN _) (hT.alloc _) hrb hp hs).mono ?_; intro e w2 ho; obtain ⟨rfl, rd2, hq1, hq2, f2⟩ := Out.isOk HX.out ho; clear ho; have hz := hz0 _ f2; obtain ⟨y0, y1, y2, y3, y4, y5⟩ := box6 hz; have z0 := box_fz hz 0; have z1 := box_fz hz 1; have z2 := box_fz hz 2; have z3 := box_fz hz 3; have z4 := box_fz hz 4; have z5 := box_fz hz 5))
      refine bodyPost_ret (v := .agg #[.int .i64 3, .bool false, .int .i64 0, .string (txt x.1), .slice none 0 0, .slice none 0 0]) (by simp [results, Tryz.results70, go_sem, *]) rfl (Out.yes HE.out ⟨⟨_, _, _, _, _, _, _, _, _, _, rfl, ?_⟩, ?_, hq1, hq2, ?_⟩)
      · refine LaidV.conv (ok := fun b => w.heap.size + 1 ≤ b) (w := w2) (fun b hb hl => ⟨by omega, ?_⟩) (by unfold LaidV; exact ⟨_, _, [], [], rfl, ⟨rfl, .inl ⟨none, 0, rfl, rfl⟩⟩, ⟨rfl, .inl ⟨none, 0, rfl, rfl⟩⟩, by unfold LaidL; rfl, by unfold LaidF; rfl⟩)
        rw [Below.heap_setCell _ _ _ _ (by simp; omega), Below.heap_setCell _ _ _ _ (by simp; omega), Below.heap_setCell _ _ _ _ (by simp; omega), Below.heap_setCell _ _ _ _ (by simp; omega), Below.heap_setCell _ _ _ _ (by simp; omega), Below.heap_setCell _ _ _ _ (by simp; omega)]
      · exact (((((rd2.other _ (by simp; omega)).other _ (by simp; omega)).other _ (by simp; omega)).other _ (by simp; omega)).other _ (by simp; omega)).other _ (by simp; omega)
      · exact (((((((f0.trans (Fr.drewN _ _ _)).trans f2).setNew _ (by simp)).setNew _ (by simp)).setNew _ (by simp)).setNew _ (by simp)).setNew _ (by simp)).setNew _ (by simp)
  by_cases k91 : c = 91
  · have HV : Hid (N = lst p) := by show _ = _; rw [← hN, valC, if_neg (show ¬ nx s p = 110 by rw [hc]; exact k110), if_neg (show ¬ nx s p = 116 by rw [hc]; exact k116), if_neg (show ¬ nx s p = 102 by rw [hc]; exact k102), if_neg (show ¬ nx s p = 34 by rw [hc]; exact k34), if_pos (show nx s p = 91 from hc.trans k91)]; try rfl
    clear hN
    have m110 : ((c : Int) == 110) = false := by simp; omega
    have m116 : ((c : Int) == 116) = false := by simp; omega
    have m102 : ((c : Int) == 102) = false := by simp; omega
    have m34 : ((c : Int) == 34) = false := by simp; omega
    have m91 : ((c : Int) == 91) = true := by simp [k91]
    cases hx : lst p with
    | error x =>
      have HE : Hid (N = .error (x.1, x.2)) := by show _ = _; rw [HV.out, hx]
      have HX : Hid (lst p = .error (x.1, x.2)) := hx
      clear HV hx
      go_enter Tryz.func70, Tryz.ntmps70
      go_wp2_with (first
        | (go_at_call 99; refine (next_any _ _ _ _ _ _ (hr.alloc _) hp hs2).mono ?_; rintro e w1 ⟨rfl, n1, rfl⟩; rw [hc])
        | (go_at_call 102; refine (hlst _ p ((hr.alloc _).drewN _) (hT.alloc _) (lt_of_nx (by rw [hc]; omega))).mono ?_; intro e w2 ho; obtain ⟨⟨bk, rfl, hbk⟩, f2⟩ := Out.isNo HX.out ho; clear ho))
      exact panics0 (Out.no HE.out ⟨⟨_, rfl, hbk⟩, (f0.trans (Fr.drewN _ _ _)).trans f2⟩)
    | ok x =>
      have HE : Hid (N = .ok x) := by show _ = _; rw [HV.out, hx]
      have HX : Hid (lst p = .ok x) := hx
      clear HV hx
      go_enter Tryz.func70, Tryz.ntmps70
      go_wp2_with (first
        | (go_at_call 99; refine (next_any _ _ _ _ _ _ (hr.alloc _) hp hs2).mono ?_; rintro e w1 ⟨rfl, n1, rfl⟩; rw [hc])
        | (go_at_call 102; refine (hlst _ p ((hr.alloc _).drewN _) (hT.alloc _) (lt_of_nx (by rw [hc]; omega))).mono ?_; intro e w2 ho; obtain ⟨⟨k, b, n, t, a1, l1, c1, a2, l2, c2, rfl, hlaid⟩, rd2, hq1, hq2, f2⟩ := Out.isOk HX.out ho; clear ho; have hz := hz0 _ f2; obtain ⟨y0, y1, y2, y3, y4, y5⟩ := box6 hz; have z0 := box_fz hz 0; have z1 := box_fz hz 1; have z2 := box_fz hz 2; have z3 := box_fz hz 3; have z4 := box_fz hz 4; have z5 := box_fz hz 5))
      refine bodyPost_ret (v := .agg #[.int .i64 k, .bool b, .int .i64 n, .string t, .slice a1 l1 c1, .slice a2 l2 c2]) (by simp [results, Tryz.results70, go_sem, *]) rfl (Out.yes HE.out ⟨⟨_, _, _, _, _, _, _, _, _, _, rfl, ?_⟩, ?_, hq1, hq2, ?_⟩)
      · refine LaidV.conv (ok := fun b => w.heap.size + 1 ≤ b) (w := w2) (fun b hb hl => ⟨by omega, ?_⟩) (hlaid.conv (fun b hb hl => ⟨by simpa using hb, rfl⟩))
        rw [Below.heap_setCell _ _ _ _ (by simp; omega), Below.heap_setCell _ _ _ _ (by simp; omega), Below.heap_setCell _ _ _ _ (by simp; omega), Below.heap_setCell _ _ _ _ (by simp; omega), Below.heap_setCell _ _ _ _ (by simp; omega), Below.heap_setCell _ _ _ _ (by simp; omega)]
      · exact (((((rd2.other _ (by simp; omega)).other _ (by simp; omega)).other _ (by simp; omega)).other _ (by simp; omega)).other _ (by simp; omega)).other _ (by simp; omega)
      · exact (((((((f0.trans (Fr.drewN _ _ _)).trans f2).setNew _ (by simp)).setNew _ (by simp)).setNew _ (by simp)).setNew _ (by simp)).setNew _ (by simp)).setNew _ (by simp)
  by_cases k123 : c = 123
  · have HV : Hid (N = obj p) := by show _ = _; rw [← hN, valC, if_neg (show ¬ nx s p = 110 by rw [hc]; exact k110), if_neg (show ¬ nx s p = 116 by rw [hc]; exact k116), if_neg (show ¬ nx s p = 102 by rw [hc]; exact k102), if_neg (show ¬ nx s p = 34 by rw [hc]; exact k34), if_neg (show ¬ nx s p = 91 by rw [hc]; exact k91), if_pos (show nx s p = 123 from hc.trans k123)]; try rfl
    clear hN
    have m110 : ((c : Int) == 110) = false := by simp; omega
    have m116 : ((c : Int) == 116) = false := by simp; omega
    have m102 : ((c : Int) == 102) = false := by simp; omega
    have m34 : ((c : Int) == 34) = false := by simp; omega
    have m91 : ((c : Int) == 91) = false := by simp; omega
    have m123 : ((c : Int) == 123) = true := by simp [k123]
    cases hx : obj p with
    | error x =>
      have HE : Hid (N = .error (x.1, x.2)) := by show _ = _; rw [HV.out, hx]
      have HX : Hid (obj p = .error (x.1, x.2)) := hx
      clear HV hx
      go_enter Tryz.func70, Tryz.ntmps70
      go_wp2_with (first
        | (go_at_call 99; refine (next_any _ _ _ _ _ _ (hr.alloc _) hp hs2).mono ?_; rintro e w1 ⟨rfl, n1, rfl⟩; rw [hc])
        | (go_at_call 103; refine (hobj _ p ((hr.alloc _).drewN _) (hT.alloc _) (lt_of_nx (by rw [hc]; omega))).mono ?_; intro e w2 ho; obtain ⟨⟨bk, rfl, hbk⟩, f2⟩ := Out.isNo HX.out ho; clear ho))
      exact panics0 (Out.no HE.out ⟨⟨_, rfl, hbk⟩, (f0.trans (Fr.drewN _ _ _)).trans f2⟩)
    | ok x =>
      have HE : Hid (N = .ok x) := by show _ = _; rw [HV.out, hx]
      have HX : Hid (obj p = .ok x) := hx
      clear HV hx
      go_enter Tryz.func70, Tryz.ntmps70
      go_wp2_with (first
        | (go_at_call 99; refine (next_any _ _ _ _ _ _ (hr.alloc _) hp hs2).mono ?_; rintro e w1 ⟨rfl, n1, rfl⟩; rw [hc])
        | (go_at_call 103; refine (hobj _ p ((hr.alloc _).drewN _) (hT.alloc _) (lt_of_nx (by rw [hc]; omega))).mono ?_; intro e w2 ho; obtain ⟨⟨k, b, n, t, a1, l1, c1, a2, l2, c2, rfl, hlaid⟩, rd2, hq1, hq2, f2⟩ := Out.isOk HX.out ho; clear ho; have hz := hz0 _ f2; obtain ⟨y0, y1, y2, y3, y4, y5⟩ := box6 hz; have z0 := box_fz hz 0; have z1 := box_fz hz 1; have z2 := box_fz hz 2; have z3 := box_fz hz 3; have z4 := box_fz hz 4; have z5 := box_fz hz 5))
      refine bodyPost_ret (v := .agg #[.int .i64 k, .bool b, .int .i64 n, .string t, .slice a1 l1 c1, .slice a2 l2 c2]) (by simp [results, Tryz.results70, go_sem, *]) rfl (Out.yes HE.out ⟨⟨_, _, _, _, _, _, _, _, _, _, rfl, ?_⟩, ?_, hq1, hq2, ?_⟩)
      · refine LaidV.conv (ok := fun b => w.heap.size + 1 ≤ b) (w := w2) (fun b hb hl => ⟨by omega, ?_⟩) (hlaid.conv (fun b hb hl => ⟨by simpa using hb, rfl⟩))
        rw [Below.heap_setCell _ _ _ _ (by simp; omega), Below.heap_setCell _ _ _ _ (by simp; omega), Below.heap_setCell _ _ _ _ (by simp; omega), Below.heap_setCell _ _ _ _ (by simp; omega), Below.heap_setCell _ _ _ _ (by simp; omega), Below.heap_setCell _ _ _ _ (by simp; omega)]
      · exact (((((rd2.other _ (by simp; omega)).other _ (by simp; omega)).other _ (by simp; omega)).other _ (by simp; omega)).other _ (by simp; omega)).other _ (by simp; omega)
      · exact (((((((f0.trans (Fr.drewN _ _ _)).trans f2).setNew _ (by simp)).setNew _ (by simp)).setNew _ (by simp)).setNew _ (by simp)).setNew _ (by simp)).setNew _ (by simp)
  by_cases kd : c = 45
  · have HV : Hid (N = match numberS s p with | .error x => .error x | .ok (n, q) => .ok (.mk 2 false n ⟨#[]⟩ [] [], q)) := by show _ = _; rw [← hN, valC, if_neg (show ¬ nx s p = 110 by rw [hc]; exact k110), if_neg (show ¬ nx s p = 116 by rw [hc]; exact k116), if_neg (show ¬ nx s p = 102 by rw [hc]; exact k102), if_neg (show ¬ nx s p = 34 by rw [hc]; exact k34), if_neg (show ¬ nx s p = 91 by rw [hc]; exact k91), if_neg (show ¬ nx s p = 123 by rw [hc]; exact k123), if_pos (.inl (hc.trans kd))]; try rfl
    clear hN
    have m110 : ((c : Int) == 110) = false := by simp; omega
    have m116 : ((c : Int) == 116) = false := by simp; omega
    have m102 : ((c : Int) == 102) = false := by simp; omega
    have m34 : ((c : Int) == 34) = false := by simp; omega
    have m91 : ((c : Int) == 91) = false := by simp; omega
    have m123 : ((c : Int) == 123) = false := by simp; omega
    have m45 : ((c : Int) == 45) = true := by simp [kd]
    cases hx : numberS s p with
    | error x =>
      have HE : Hid (N = .error (x.1, x.2)) := by show _ = _; rw [HV.out, hx]
      have HX : Hid (numberS s p = .error (x.1, x.2)) := hx
      clear HV hx
      go_enter Tryz.func70, Tryz.ntmps70
      go_wp2_with (first
        | (go_at_call 99; refine (next_any _ _ _ _ _ _ (hr.alloc _) hp hs2).mono ?_; rintro e w1 ⟨rfl, n1, rfl⟩; rw [hc])
        | (go_at_call 105; refine (number_any _ rb s p bad dep ((hr.alloc _).drewN _) hp hs2).mono ?_; intro e w2 ho; obtain ⟨⟨bk, rfl, hbk⟩, f2⟩ := Out.isNo HX.out ho; clear ho))
      exact panics0 (Out.no HE.out ⟨⟨_, rfl, hbk⟩, (f0.trans (Fr.drewN _ _ _)).trans f2⟩)
    | ok x =>
      have HE : Hid (N = .ok (.mk 2 false x.1 ⟨#[]⟩ [] [], x.2)) := by show _ = _; rw [HV.out, hx]
      have HX : Hid (numberS s p = .ok x) := hx
      clear HV hx
      go_enter Tryz.func70, Tryz.ntmps70
      go_wp2_with (first
        | (go_at_call 99; refine (next_any _ _ _ _ _ _ (hr.alloc _) hp hs2).mono ?_; rintro e w1 ⟨rfl, n1, rfl⟩; rw [hc])
        | (go_at_call 105; refine (number_any _ rb s p bad dep ((hr.alloc _).drewN _) hp hs2).mono ?_; intro e w2 ho; obtain ⟨rfl, rd2, hq1, hq2, f2⟩ := Out.isOk HX.out ho; clear ho; have hz := hz0 _ f2; obtain ⟨y0, y1, y2, y3, y4, y5⟩ := box6 hz; have z0 := box_fz hz 0; have z1 := box_fz hz 1; have z2 := box_fz hz 2; have z3 := box_fz hz 3; have z4 := box_fz hz 4; have z5 := box_fz hz 5))
      refine bodyPost_ret (v := .agg #[.int .i64 2, .bool false, .int .i64 x.1, .string ⟨#[]⟩, .slice none 0 0, .slice none 0 0]) (by simp [results, Tryz.results70, go_sem, *]) rfl (Out.yes HE.out ⟨⟨_, _, _, _, _, _, _, _, _, _, rfl, ?_⟩, ?_, hq1, hq2, ?_⟩)
      · refine LaidV.conv (ok := fun b => w.heap.size + 1 ≤ b) (w := w2) (fun b hb hl => ⟨by omega, ?_⟩) (by unfold LaidV; exact ⟨_, _, [], [], rfl, ⟨rfl, .inl ⟨none, 0, rfl, rfl⟩⟩, ⟨rfl, .inl ⟨none, 0, rfl, rfl⟩⟩, by unfold LaidL; rfl, by unfold LaidF; rfl⟩)
        rw [Below.heap_setCell _ _ _ _ (by simp; omega), Below.heap_setCell _ _ _ _ (by simp; omega), Below.heap_setCell _ _ _ _ (by simp; omega), Below.heap_setCell _ _ _ _ (by simp; omega), Below.heap_setCell _ _ _ _ (by simp; omega), Below.heap_setCell _ _ _ _ (by simp; omega)]
      · exact (((((rd2.other _ (by simp; omega)).other _ (by simp; omega)).other _ (by simp; omega)).other _ (by simp; omega)).other _ (by simp; omega)).other _ (by simp; omega)
      · exact (((((((f0.trans (Fr.drewN _ _ _)).trans f2).setNew _ (by simp)).setNew _ (by simp)).setNew _ (by simp)).setNew _ (by simp)).setNew _ (by simp)).setNew _ (by simp)
  by_cases kg : isDg c = true
  · have HV : Hid (N = match numberS s p with | .error x => .error x | .ok (n, q) => .ok (.mk 2 false n ⟨#[]⟩ [] [], q)) := by show _ = _; rw [← hN, valC, if_neg (show ¬ nx s p = 110 by rw [hc]; exact k110), if_neg (show ¬ nx s p = 116 by rw [hc]; exact k116), if_neg (show ¬ nx s p = 102 by rw [hc]; exact k102), if_neg (show ¬ nx s p = 34 by rw [hc]; exact k34), if_neg (show ¬ nx s p = 91 by rw [hc]; exact k91), if_neg (show ¬ nx s p = 123 by rw [hc]; exact k123), if_pos (.inr (by rw [hc]; exact kg))]; try rfl
    clear hN
    have m110 : ((c : Int) == 110) = false := by simp; omega
    have m116 : ((c : Int) == 116) = false := by simp; omega
    have m102 : ((c : Int) == 102) = false := by simp; omega
    have m34 : ((c : Int) == 34) = false := by simp; omega
    have m91 : ((c : Int) == 91) = false := by simp; omega
    have m123 : ((c : Int) == 123) = false := by simp; omega
    have m45 : ((c : Int) == 45) = false := by simp; omega
    cases hx : numberS s p with
    | error x =>
      have HE : Hid (N = .error (x.1, x.2)) := by show _ = _; rw [HV.out, hx]
      have HX : Hid (numberS s p = .error (x.1, x.2)) := hx
      clear HV hx
      go_enter Tryz.func70, Tryz.ntmps70
      go_wp2_with (first
        | (go_at_call 99; refine (next_any _ _ _ _ _ _ (hr.alloc _) hp hs2).mono ?_; rintro e w1 ⟨rfl, n1, rfl⟩; rw [hc])
        | (go_at_call 104; refine (isDigit_any _ _).mono ?_; rintro e w3 ⟨rfl, rfl⟩)
        | (go_at_call 105; refine (number_any _ rb s p bad dep ((hr.alloc _).drewN _) hp hs2).mono ?_; intro e w2 ho; obtain ⟨⟨bk, rfl, hbk⟩, f2⟩ := Out.isNo HX.out ho; clear ho))
      exact panics0 (Out.no HE.out ⟨⟨_, rfl, hbk⟩, (f0.trans (Fr.drewN _ _ _)).trans f2⟩)
    | ok x =>
      have HE : Hid (N = .ok (.mk 2 false x.1 ⟨#[]⟩ [] [], x.2)) := by show _ = _; rw [HV.out, hx]
      have HX : Hid (numberS s p = .ok x) := hx
      clear HV hx
      go_enter Tryz.func70, Tryz.ntmps70
      go_wp2_with (first
        | (go_at_call 99; refine (next_any _ _ _ _ _ _ (hr.alloc _) hp hs2).mono ?_; rintro e w1 ⟨rfl, n1, rfl⟩; rw [hc])
        | (go_at_call 104; refine (isDigit_any _ _).mono ?_; rintro e w3 ⟨rfl, rfl⟩)
        | (go_at_call 105; refine (number_any _ rb s p bad dep ((hr.alloc _).drewN _) hp hs2).mono ?_; intro e w2 ho; obtain ⟨rfl, rd2, hq1, hq2, f2⟩ := Out.isOk HX.out ho; clear ho; have hz := hz0 _ f2; obtain ⟨y0, y1, y2, y3, y4, y5⟩ := box6 hz; have z0 := box_fz hz 0; have z1 := box_fz hz 1; have z2 := box_fz hz 2; have z3 := box_fz hz 3; have z4 := box_fz hz 4; have z5 := box_fz hz 5))
      refine bodyPost_ret (v := .agg #[.int .i64 2, .bool false, .int .i64 x.1, .string ⟨#[]⟩, .slice none 0 0, .slice none 0 0]) (by simp [results, Tryz.results70, go_sem, *]) rfl (Out.yes HE.out ⟨⟨_, _, _, _, _, _, _, _, _, _, rfl, ?_⟩, ?_, hq1, hq2, ?_⟩)
      · refine LaidV.conv (ok := fun b => w.heap.size + 1 ≤ b) (w := w2) (fun b hb hl => ⟨by omega, ?_⟩) (by unfold LaidV; exact ⟨_, _, [], [], rfl, ⟨rfl, .inl ⟨none, 0, rfl, rfl⟩⟩, ⟨rfl, .inl ⟨none, 0, rfl, rfl⟩⟩, by unfold LaidL; rfl, by unfold LaidF; rfl⟩)
        rw [Below.heap_setCell _ _ _ _ (by simp; omega), Below.heap_setCell _ _ _ _ (by simp; omega), Below.heap_setCell _ _ _ _ (by simp; omega), Below.heap_setCell _ _ _ _ (by simp; omega), Below.heap_setCell _ _ _ _ (by simp; omega), Below.heap_setCell _ _ _ _ (by simp; omega)]
      · exact (((((rd2.other _ (by simp; omega)).other _ (by simp; omega)).other _ (by simp; omega)).other _ (by simp; omega)).other _ (by simp; omega)).other _ (by simp; omega)
      · exact (((((((f0.trans (Fr.drewN _ _ _)).trans f2).setNew _ (by simp)).setNew _ (by simp)).setNew _ (by simp)).setNew _ (by simp)).setNew _ (by simp)).setNew _ (by simp)
  have HE : Hid (N = .error (p, 3)) := by show _ = _; rw [← hN, valC, if_neg (show ¬ nx s p = 110 by rw [hc]; exact k110), if_neg (show ¬ nx s p = 116 by rw [hc]; exact k116), if_neg (show ¬ nx s p = 102 by rw [hc]; exact k102), if_neg (show ¬ nx s p = 34 by rw [hc]; exact k34), if_neg (show ¬ nx s p = 91 by rw [hc]; exact k91), if_neg (show ¬ nx s p = 123 by rw [hc]; exact k123), if_neg (by rw [hc]; intro h; rcases h with h | h; exact kd h; exact kg h)]
  have m110 : ((c : Int) == 110) = false := by simp; omega
  have m116 : ((c : Int) == 116) = false := by simp; omega
  have m102 : ((c : Int) == 102) = false := by simp; omega
  have m34 : ((c : Int) == 34) = false := by simp; omega
  have m91 : ((c : Int) == 91) = false := by simp; omega
  have m123 : ((c : Int) == 123) = false := by simp; omega
  have m45 : ((c : Int) == 45) = false := by simp; omega
  have kg' : isDg c = false := by simpa using kg
  have c1 := (hr.alloc ZV).c1
  clear hN
  go_enter Tryz.func70, Tryz.ntmps70
  go_wp2_with (first
    | (go_at_call 99; refine (next_any _ _ _ _ _ _ (hr.alloc _) hp hs2).mono ?_; rintro e w1 ⟨rfl, n1, rfl⟩; rw [hc])
    | (go_at_call 104; refine (isDigit_any _ _).mono ?_; rintro e w3 ⟨rfl, rfl⟩)
    | (go_at_call 71; refine (amiss_any _ _ _).mono ?_; rintro e w4 ⟨rfl, rfl⟩))
  exact panics0 (Out.no HE.out ⟨⟨_, rfl, by simpa using heap_alloc_new ((w.alloc ZV).drewN n1) (.cells #[.int .i64 (p : Int), .iface 31 (.int .i64 3)] 130)⟩, f0.trans ((Fr.drewN _ _ _).trans (Fr.alloc _ _ _))⟩)
end Go.Proofs.YtiakidomcjpdhaaGreatDoor
