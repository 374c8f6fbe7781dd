/- The reference's calls, told by the model: Truncate, Remove, Rename, Cut, Append, Power, Read. -/
import Derived.Test.YtlnefgppenokkaaPd
namespace Go.Proofs.Ytlnefgppenokkaa
open Go.RowKit
namespace Rf
open Bw Rg Dk

section
variable {w w' : World} {r : Rs} {a : Ab}
theorem rgrew_of {r' : Rs} (hrb : r'.rb = r.rb) (hlv : ∀ k, r'.lv.ownBlock = some k → r.lv.ownBlock = some k ∨ w.heap.size ≤ k) (hfs : ∀ f' ∈ r'.fs, ∀ k, f'.v.ownBlock = some k → (∃ f ∈ r.fs, f.v.ownBlock = some k) ∨ w.heap.size ≤ k) : RGrew r r' w := fun k hk => by
  rcases mem_foot.1 hk with e | e | ⟨y, hy, e⟩
  · exact .inl (mem_foot.2 (.inl (e.trans hrb)))
  · exact (hlv k e).imp (fun h => mem_foot.2 (.inr (.inl h))) id
  · exact (hfs y hy k e).imp (fun h => mem_foot.2 (.inr (.inr h))) id
theorem swap_of {l1 l2 : List RF} {f f' : RF} {fs : List RF} {n : Nat} (e : fs = l1 ++ f :: l2) (hv : ∀ k, f'.v.ownBlock = some k → f.v.ownBlock = some k ∨ n ≤ k) : ∀ y ∈ l1 ++ f' :: l2, ∀ k, y.v.ownBlock = some k → (∃ f ∈ fs, f.v.ownBlock = some k) ∨ n ≤ k := fun y hy k hk => by
  rcases List.mem_append.1 hy with hy | hy
  · exact .inl ⟨y, by rw [e]; simp [hy], hk⟩
  · rcases List.mem_cons.1 hy with rfl | hy
    · exact (hv k hk).imp (fun h => ⟨f, by rw [e]; simp, h⟩) id
    · exact .inl ⟨y, by rw [e]; simp [hy], hk⟩
theorem rtruncP (h : RP w r a) (hg : Good a) (s : ByteArray) (n : Int) : Calls Try.prog 28 #[.pointer (some ⟨r.rb, 0, none⟩), .string s, .int .i64 n] w (ROut w r (truncM a s n)) := by
  have hl : r.fs.length ≤ 1099511627776 := by rw [h.len]; have := hg.few; omega
  refine at_ref h hg s _ _ 28 _ (fun i ho hf => rtrunc_off w r s i n h.at' ho hf) (fun ho hf => rtrunc_none w r s n h.at' ho hf) (fun l1 f l2 e1 e2 ho hf hp => ?_) (fun l1 f l2 r1 e1 e2 ho hf hp hst => ?_) (fun l1 f l2 b1 s1 e1 e2 n1 n2 ho hf hp hst => ?_)
  · rw [← e2]
    exact rtrunc_bad w r l1 l2 f n h.at' e1 ho hf hl (of_decide_eq_true hp)
  · have hp2 : ¬ (n < 0 ∨ (f.bs.length : Int) < n) := of_decide_eq_false hp
    obtain ⟨m, rfl⟩ : ∃ m : Nat, n = (m : Int) := ⟨n.toNat, by omega⟩
    rw [← e2]
    exact rtrunc_cut w r r1 l1 l2 f m h.at' e1 ho hf hl (by omega) hst
  · have hp2 : ¬ (n < 0 ∨ (f.bs.length : Int) < n) := of_decide_eq_false hp
    obtain ⟨m, rfl⟩ : ∃ m : Nat, n = (m : Int) := ⟨n.toNat, by omega⟩
    have hn := rab_nodup h hg
    rw [e1] at hn
    rw [← e2]
    refine (rtrunc_done w r b1 s1 l1 l2 f m h.at' e1 hl (by omega) ho hf hst).mono ?_
    rintro e w' ⟨v, rfl, h1, hv, h2⟩
    exact ⟨r.lv, _, rfl, h1, by rw [e1]; exact rab_upd (f' := { f with v := v, bs := f.bs.take m, sy := m }) (g := fun x => (x.1, x.2.1.take (m : Int).toNat, (m : Int).toNat)) hn rfl rfl, own_fr h2, rgrew_of rfl (fun k hk => .inl hk) (swap_of e1 (fun k hk => .inl (hv ▸ hk)))⟩
theorem rremoveP (h : RP w r a) (hg : Good a) (s : ByteArray) : Calls Try.prog 32 #[.pointer (some ⟨r.rb, 0, none⟩), .string s] w (ROut w r (removeM a s)) := by
  have hl : r.fs.length ≤ 1099511627776 := by rw [h.len]; have := hg.few; omega
  refine at_ref h hg s _ _ 32 _ (fun i ho hf => rremove_off w r s i h.at' ho hf) (fun ho hf => rremove_none w r s h.at' ho hf) (fun _ _ _ _ _ _ _ hp => by cases hp) (fun l1 f l2 r1 e1 e2 ho hf _ hst => ?_) (fun l1 f l2 b1 s1 e1 e2 n1 n2 ho hf _ hst => ?_)
  · rw [← e2]
    exact rremove_cut w r r1 f.nm l1.length h.at' ho hf hst
  · have hn := rab_nodup h hg
    rw [e1] at hn
    rw [← e2]
    refine (rremove_done w r b1 s1 l1 l2 f h.at' e1 hl ho hf hst).mono ?_
    rintro e w' ⟨lv, rfl, h1, hv, h2⟩
    exact ⟨lv, _, rfl, h1, by rw [e1]; exact rab_rm hn rfl, rb_fr h2, rgrew_of rfl (fun k hk => .inr (hv k hk)) (fun y hy k hk => .inl ⟨y, by rw [e1]; rcases List.mem_append.1 hy with hy | hy <;> simp [hy], hk⟩)⟩
theorem rrenameP (h : RP w r a) (hg : Good a) (s t : ByteArray) (ht : t.size ≤ 140737488355328) : Calls Try.prog 30 #[.pointer (some ⟨r.rb, 0, none⟩), .string s, .string t] w (ROut w r (renameM a s t)) := by
  have hl : r.fs.length ≤ 1099511627776 := by rw [h.len]; have := hg.few; omega
  by_cases hn : isNm t = true
  · have e : renameM a s t = atM a s (fun _ => false) (fun x L => ins (t, x.2.1, x.2.2) (rm t (rm s L))) := by simp [renameM, hn]
    rw [e]
    refine at_ref h hg s _ _ 30 _ (fun i ho hf => rrename_off w r s t i h.at' ht hn ho hf) (fun ho hf => rrename_none w r s t h.at' ht hn ho hf) (fun _ _ _ _ _ _ _ hp => by cases hp) (fun l1 f l2 r1 e1 e2 ho hf _ hst => ?_) (fun l1 f l2 b1 s1 e1 e2 n1 n2 ho hf _ hst => ?_)
    · rw [← e2]
      exact rrename_cut w r r1 f.nm t l1.length h.at' ht hn ho hf hst
    · have hnd := rab_nodup h hg
      rw [e1] at hnd
      have e3 := rab_rm hnd e2
      have hnd2 : (((l1 ++ l2).map RF.ab).map Prod.fst).Nodup := by
        rw [e3]
        exact List.Nodup.sublist (List.filter_sublist.map _) hnd
      have hsub : ∀ y ∈ l1 ++ l2, y ∈ r.fs := fun y hy => by rw [e1]; rcases List.mem_append.1 hy with hy | hy <;> simp [hy]
      have hfin : ∀ (lv : Value) (m : List RF), (∀ y ∈ m, y ∈ r.fs) → (∀ k, lv.ownBlock = some k → w.heap.size ≤ k) → RGrew r { r with bud := b1, st := s1, lv := lv, fs := layL { f with nm := t } m } w := fun lv m hm hv => rgrew_of rfl (fun k hk => .inr (hv k hk)) (fun y hy k hk => by
        rcases List.mem_cons.1 ((layL_perm _ _).mem_iff.1 hy) with rfl | hy
        · exact .inl ⟨f, by rw [e1]; simp, hk⟩
        · exact .inl ⟨y, hm y hy, hk⟩)
      rw [← e2]
      cases hf2 : findA t ((l1 ++ l2).map RF.ab) with
      | none =>
        have hno : ∀ g ∈ l1 ++ l2, g.nm ≠ t := fun g hg' => find_no hf2 g.ab (List.mem_map_of_mem hg')
        refine (rrename_free w r b1 s1 t l1 l2 f h.at' e1 hl ht hn ho hf hst hno).mono ?_
        rintro e w' ⟨lv, rfl, h1, hv, h2⟩
        refine ⟨lv, _, rfl, h1, ?_, rb_fr h2, hfin lv _ hsub hv⟩
        rw [lay_ins, e1, e2, ← e3, rm_none (find_no hf2)]
        rfl
      | some x =>
        obtain ⟨hx1, hx2⟩ := find_some hf2
        obtain ⟨o, ho1, hox⟩ := List.mem_map.1 hx1
        obtain ⟨m1, m2, em⟩ := List.append_of_mem ho1
        have hot : o.nm = t := by rw [← hx2, ← hox]; rfl
        have hnd3 := hnd2
        rw [em] at hnd3
        have e4 := rab_rm hnd3 hot
        rw [List.map_append, List.map_cons] at hnd3
        obtain ⟨k1, _⟩ := mid_ne hnd3
        refine (rrename_over w r b1 s1 t l1 l2 f h.at' e1 hl ht hn ho hf hst m1 m2 o em (fun g hg' => k1 g.ab (List.mem_map_of_mem hg')) hot).mono ?_
        rintro e w' ⟨lv, rfl, h1, hv, h2⟩
        refine ⟨lv, _, rfl, h1, ?_, rb_fr h2, hfin lv _ (fun y hy => hsub y (by rw [em]; rcases List.mem_append.1 hy with hy | hy <;> simp [hy])) hv⟩
        rw [lay_ins, e4, ← em, e3, e1, e2]
        rfl
  · have hn' : isNm t = false := by simpa using hn
    have e : renameM a s t = (1, a) := by simp [renameM, hn']
    obtain ⟨i, hi⟩ := h.finds hg s
    rw [e]
    refine (rrename_bad w r s t i ht hn' hi).mono ?_
    rintro e w' ⟨rfl, rfl⟩
    exact ROut.same h 1
theorem rcutP (h : RP w r a) (n : Int) : Calls Try.prog 33 #[.pointer (some ⟨r.rb, 0, none⟩), .int .i64 n] w (ROut w r (cutM a n)) := by
  by_cases hn : n < 0
  · have e : cutM a n = (1, a) := by simp [cutM, hn]
    rw [e]
    refine (rcut_neg w r n hn).mono ?_
    rintro e w' ⟨rfl, rfl⟩
    exact ROut.same h 1
  · have e : cutM a n = (0, { a with bud := if a.on then n else a.bud }) := by simp [cutM, hn]
    rw [e]
    refine (rcut_ok w r n h.at' (by omega)).mono ?_
    rintro e w' ⟨rfl, h1, h2⟩
    cases ho : a.on with
    | true =>
      have hr : r.off = false := by rw [h.off, ho]; rfl
      rw [if_neg (by simp [hr])] at h1
      exact ⟨{ r with has := true, bud := n }, rfl, rfl, ⟨h1, h.room, by rw [hr]; simp, .inr ⟨rfl, by simp, by simp; omega⟩, h.st, h.fs⟩, own_fr h2, fun k hk => .inl hk⟩
    | false =>
      have hr : r.off = true := by rw [h.off, ho]; rfl
      rw [if_pos hr] at h1
      exact ⟨r, rfl, rfl, ⟨h1, h.room, by rw [hr]; simp, by simpa using h.bud, h.st, h.fs⟩, own_fr h2, fun k hk => .inl hk⟩
theorem upd_ins {s : ByteArray} {p q : List UInt8 × Nat} : ∀ {L : List Fl}, (∀ y ∈ L, y.1 ≠ s) → upd s (fun _ => (s, q)) (ins (s, p) L) = ins (s, q) L
  | [], _ => by simp [ins, upd]
  | y :: L, h => by
    have h1 := h y (by simp)
    have h2 := upd_none (g := fun _ => (s, q)) (fun z hz => h z (List.mem_cons_of_mem _ hz))
    have h3 := upd_ins (p := p) (q := q) (fun z hz => h z (List.mem_cons_of_mem _ hz))
    unfold ins
    by_cases hl : lt s y.1 = true
    · rw [if_pos hl, if_pos hl]
      unfold upd at h2 ⊢
      rw [List.map_cons, List.map_cons, h2, if_pos rfl, if_neg h1]
    · rw [if_neg hl, if_neg hl]
      unfold upd at h3 ⊢
      rw [List.map_cons, h3, if_neg h1]
theorem rappendP (h : RP w r a) (hg : Good a) (s : ByteArray) (b : Value) (ns : List UInt8) (hs : s.size ≤ 140737488355328) (hb : SlM w b ns) (hap : ∀ x l c, b = .slice (some x) l c → 0 < l → x.block ∉ r.foot) (hbig : usedA a.L + ns.length ≤ 140737488355328) :
    Calls Try.prog 24 #[.pointer (some ⟨r.rb, 0, none⟩), .string s, b] w (ROut w r (appendM a s ns)) := by
  have hu := h.used
  have hl : r.fs.length ≤ 1099511627775 := by rw [h.len]; exact hg.few
  by_cases hn : isNm s = true
  · by_cases ho : a.on = true
    · have hr0 : r.off = false := by rw [h.off, ho]; rfl
      by_cases hr : a.room - (usedA a.L : Int) < (ns.length : Int)
      · have e : appendM a s ns = (12, a) := by simp [appendM, hn, ho, hr]
        rw [e]
        obtain ⟨sa, sc, hbv⟩ := hb.sl.form
        rw [hbv]
        refine (rappend_full w r s sa ns.length sc h.at' hs hn hr0 (by rw [hu, h.room]; exact hg.ok.full) (h.room ▸ hg.ok.room) (by omega) (by rw [hu, h.room]; exact hr)).mono ?_
        rintro e w' ⟨rfl, hb'⟩
        exact ⟨r, rfl, rfl, h.below hb', Fr.of_below hb', RGrew.refl _ _⟩
      · have e : appendM a s ns = ((stepA a).1, { (stepA a).2 with L := putM s ns a.L }) := by simp [appendM, hn, ho, hr]
        obtain ⟨b1, hb1, hst⟩ := rstep_any h hg ho
        have hcode : (if decide ((stepA a).1 = 0) = true then (0 : Int) else 11) = (stepA a).1 := by unfold stepA; split <;> rfl
        rw [e]
        have hfull : (rused r.fs : Int) ≤ r.room := by rw [hu, h.room]; exact hg.ok.full
        have hyes : (ns.length : Int) ≤ r.room - (rused r.fs : Int) := by rw [hu, h.room]; omega
        have hbig2 : rused r.fs + ns.length ≤ 140737488355328 := by rw [hu]; exact hbig
        cases hf : findA s a.L with
        | none =>
          refine (rappend_new w r _ _ b1 _ s b ns (h.none hf) h.at' hn hr0 hb hap hl hfull (h.room ▸ hg.ok.room) hyes hbig2 hst).mono ?_
          rintro e w' ⟨l1, l2, v, lv, e1, e2, rfl, h1, h2, h3, h4⟩
          rw [hcode]
          refine ⟨{ r with off := !(stepA a).2.on, bud := b1, st := (stepA a).2.st, lv := lv, fs := l1 ++ ⟨s, v, ns, 0⟩ :: l2 }, rfl, rfl, ⟨h1, h.room.trans (step_room a).symm, rfl, hb1, rfl, ?_⟩, own_fr h4, rgrew_of rfl (fun k hk => .inr (h3 k hk)) (fun y hy k hk => ?_)⟩
          · show _ = putM s ns a.L
            rw [putM_none hf, ← upd_ins (p := ([], 0)) (find_no hf), ← h.fs]
            have e3 := lay_ins ⟨s, .slice none 0 0, [], 0⟩ r.fs
            rw [e1] at e3
            have e4 : (ins (s, ([], 0)) (r.fs.map RF.ab)) = (l1 ++ ⟨s, .slice none 0 0, [], 0⟩ :: l2).map RF.ab := e3.symm
            rw [e4]
            have hnd : (((l1 ++ (⟨s, .slice none 0 0, [], 0⟩ : RF) :: l2).map RF.ab).map Prod.fst).Nodup := by
              rw [← e4]
              exact (ins_up (by rw [h.fs]; exact hg.up) (by rw [h.fs]; exact find_no hf)).nodup
            exact rab_upd (f' := ⟨s, v, ns, 0⟩) hnd rfl rfl
          · rcases List.mem_append.1 hy with hy | hy
            · exact .inl ⟨y, by rw [e2]; simp [hy], hk⟩
            · rcases List.mem_cons.1 hy with rfl | hy
              · exact .inr (h2 k hk)
              · exact .inl ⟨y, by rw [e2]; simp [hy], hk⟩
        | some x =>
          obtain ⟨l1, f, l2, e1, e2, e3, n1, n2⟩ := h.some hg hf
          refine (rappend_hit w r _ _ b1 _ s b ns l1 l2 f e1 n1 e2 h.at' hn hr0 hb hap hl hfull (h.room ▸ hg.ok.room) hyes hbig2 hst).mono ?_
          rintro e w' ⟨v, rfl, h1, h2, h3⟩
          rw [hcode]
          have hnd := rab_nodup h hg
          rw [e1] at hnd
          refine ⟨{ r with off := !(stepA a).2.on, bud := b1, st := (stepA a).2.st, fs := l1 ++ { f with v := v, bs := f.bs ++ ns } :: l2 }, rfl, rfl, ⟨h1, h.room.trans (step_room a).symm, rfl, hb1, rfl, ?_⟩, own_fr h3, rgrew_of rfl (fun k hk => .inl hk) (swap_of e1 (fun k hk => .inr (h2 k hk)))⟩
          show _ = putM s ns a.L
          rw [putM_some hf, ← h.fs, e1]
          exact rab_upd (f' := { f with v := v, bs := f.bs ++ ns }) (g := fun x => (x.1, x.2.1 ++ ns, x.2.2)) hnd e2 rfl
    · have ho' : a.on = false := by simpa using ho
      have e : appendM a s ns = (11, a) := by simp [appendM, hn, ho']
      rw [e]
      refine (rappend_off w r s b h.at' hs hn (by rw [h.off, ho']; rfl)).mono ?_
      rintro e w' ⟨rfl, rfl⟩
      exact ROut.same h 11
  · have hn' : isNm s = false := by simpa using hn
    have e : appendM a s ns = (1, a) := by simp [appendM, hn']
    rw [e]
    refine (rappend_bad w r s b hs hn').mono ?_
    rintro e w' ⟨rfl, rfl⟩
    exact ROut.same h 1
theorem rpowerP (h : RP w r a) (hg : Good a) (keep : Int) (hk2 : keep ≤ 9223372036854775807) :
    Calls Try.prog 34 #[.pointer (some ⟨r.rb, 0, none⟩), .int .i64 keep] w fun e w' => ∃ r', r'.rb = r.rb ∧ e = .returned (.tuple #[]) ∧ RP w' r' (powerA a keep) ∧ Fr (OfR r) w w' ∧ RGrew r r' w := by
  cases ho : a.on with
  | true =>
    have hr : r.off = false := by rw [h.off, ho]; rfl
    refine (rpower_on w r keep h.at' hr).mono ?_
    rintro e w' ⟨rfl, h1, h2⟩
    exact ⟨{ r with has := false }, rfl, rfl, ⟨h1, h.room, hr, .inl ⟨rfl, rfl⟩, h.st, by show _ = if a.on = true then _ else _; rw [if_pos ho]; exact h.fs⟩, own_fr h2, fun k hk => .inl hk⟩
  | false =>
    have hr : r.off = true := by rw [h.off, ho]; rfl
    have hbig : ∀ f ∈ r.fs, f.bs.length ≤ 140737488355328 := fun f hf => by
      have h1 := hg.ok.big
      obtain ⟨l1, l2, e⟩ := List.append_of_mem hf
      rw [← h.used, e] at h1
      simp [rused] at h1
      omega
    refine (rpower_off w r keep h.at' hr (by rw [h.len]; have := hg.few; omega) hbig hk2).mono ?_
    rintro e w' ⟨fs, rfl, h1, h2, h3, h4⟩
    refine ⟨{ r with off := false, has := false, fs := fs }, rfl, rfl, ⟨h1, h.room, rfl, .inl ⟨rfl, rfl⟩, h.st, by show _ = if a.on = true then _ else _; rw [if_neg (by simp [ho]), ← h.fs]; exact h2⟩, own_fr h4, rgrew_of rfl (fun k hk => .inl hk) (fun y hy k hk => .inl ?_)⟩
    have : some k ∈ fs.map fun f => f.v.ownBlock := List.mem_map.2 ⟨y, hy, hk⟩
    rw [h3] at this
    obtain ⟨f, hf, e⟩ := List.mem_map.1 this
    exact ⟨f, hf, e⟩
theorem rreadP (h : RP w r a) (hg : Good a) (s : ByteArray) :
    Calls Try.prog 35 #[.pointer (some ⟨r.rb, 0, none⟩), .string s] w fun e w' => ∃ v, e = .returned (.tuple #[v, .int .i64 (readM a s).2]) ∧ SlM w v (readM a s).1 ∧ (∀ x l c, v = .slice (some x) l c → 0 < l → x.block ∈ r.foot) ∧ w' = w := by
  have hl : r.fs.length ≤ 4611686018427387904 := by rw [h.len]; have := hg.few; omega
  cases ho : a.on with
  | false =>
    have e : readM a s = ([], 11) := by simp [readM, ho]
    obtain ⟨i, hi⟩ := h.finds hg s
    rw [e]
    refine (rread_off w r s i h.at' (by rw [h.off, ho]; rfl) hi).mono ?_
    rintro e w' ⟨rfl, rfl⟩
    exact ⟨_, rfl, (RowB.nil 0 _).slm, (fun x l c e => nomatch e), rfl⟩
  | true =>
    have hr : r.off = false := by rw [h.off, ho]; rfl
    cases hf : findA s a.L with
    | none =>
      have e : readM a s = ([], 9) := by simp [readM, ho, hf]
      rw [e]
      refine (rread_none w r s h.at' hr (rfind_none w r s h.at' (h.none hf) hl)).mono ?_
      rintro e w' ⟨rfl, rfl⟩
      exact ⟨_, rfl, (RowB.nil 0 _).slm, (fun x l c e => nomatch e), rfl⟩
    | some x =>
      obtain ⟨l1, f, l2, e1, e2, e3, n1, n2⟩ := h.some hg hf
      have e : readM a s = (f.bs, 0) := by simp only [readM, ho, hf]; rw [← e3]; rfl
      have hm : f ∈ r.fs := by rw [e1]; simp
      rw [e, ← e2]
      refine (rread_hit w r l1 l2 f h.at' e1 n1 hl hr).mono ?_
      rintro e w' ⟨rfl, rfl⟩
      refine ⟨f.v, rfl, (h.at'.files f hm).1.slm, fun x l c e hl0 => ?_, rfl⟩
      exact mem_foot.2 (.inr (.inr ⟨f, hm, by rw [e]; rfl⟩))
end
end Rf
end Go.Proofs.Ytlnefgppenokkaa
