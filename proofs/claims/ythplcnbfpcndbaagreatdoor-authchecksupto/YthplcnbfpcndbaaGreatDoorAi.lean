/- Do two events of a list stand for one pair? -/
import Derived.Test.YthplcnbfpcndbaaGreatDoorMk
namespace Go.Proofs.YthplcnbfpcndbaaGreatDoor
open Go.RowKit Go.Maps

theorem own_below {H : Type} {P : Program} {k : TypeId} {R : Value → Option (DataW H × List MemPlace)} {b n : Nat} {D : DataW H} {w w' : World} (h : w.ownsMap P k R b n D) (hb : Below w.heap.size w w') : w'.ownsMap P k R b n D :=
  h.kept (row := none) ⟨hb.os, hb.tape, hb.output, hb.size, fun i hi _ => hb.block i hi⟩ (by simp)
theorem Ctx.empty {w0 w : World} (h : Below w0.heap.size w0 w) : Ctx w0 w [] := ⟨h, List.nodup_nil, fun x h => by cases h⟩
/-- The pairs in a map are those of the list. -/
def Pairs (D : DataW Unit) (S : List Pr) : Prop := ∀ a b : ByteArray, a.size ≤ 1048576 → b.size ≤ 1048576 → Maps.has D (klit a b) = inP S a b
theorem Pairs.put {D : DataW Unit} {S : List Pr} (h : Pairs D S) (hD : IsMap D) {a b : ByteArray} (ha : a.size ≤ 1048576) (hb : b.size ≤ 1048576) (d : DataW Unit) : Pairs (D.put (klit a b) d) ((a, b) :: S) := by
  intro x y hx hy
  by_cases he : x = a ∧ y = b
  · obtain ⟨rfl, rfl⟩ := he
    rw [has_put_same hD (show WideAt.IsKeyLit (klit x y) from trivial)]
    simp [inP]
  · rw [has_put_other (fun e => he ((pair_inj hx hy ha hb e))), h x y hx hy]
    have : (decide (a = x) && decide (b = y)) = false := by
      rw [Bool.and_eq_false_iff]
      by_cases h1 : a = x
      · exact .inr (decide_eq_false fun h2 => he ⟨h1.symm, h2.symm⟩)
      · exact .inl (decide_eq_false h1)
    simp only [inP, List.any_cons, this, Bool.false_or]
theorem z78 (w : World) : (zeroValue 83).run Tryz.prog w = .ok (.agg #[]) w := by kernel_rfl
theorem n78 : (Tryz.prog.info? 83).map (·.size) = some (#[] : Array Value).size := by kernel_rfl
theorem z33 (w : World) : (zeroValue 53).run Tryz.prog w = .ok (.agg (eC ⟨#[]⟩ ⟨#[]⟩)) w := by kernel_rfl
theorem n33 (a b : ByteArray) : (Tryz.prog.info? 53).map (·.size) = some (eC a b).size := by
  show _ = some 3
  kernel_rfl
theorem eC_one (a b : ByteArray) : (eC a b).all (·.oneCell') = true := all_oneCell_toArray (cs := [.string a, .string b, .string ⟨#[]⟩]) (fun v hv => by
  simp only [List.mem_cons, List.mem_nil_iff, or_false] at hv
  rcases hv with rfl | rfl | rfl <;> rfl)

set_option maxRecDepth 100000 in
set_option maxHeartbeats 8000000 in
theorem hasTwo_any (l : List EV) (v : Value) (B w : World) (hB : Below B.heap.size B w) (hl : EvsAt B v l) :
    Calls Tryz.prog 33 #[v] w fun r w' => r = .returned (.bool (two [] l)) ∧ Below w.heap.size w w' := by
  obtain ⟨hlen, a, c, rfl, hev⟩ := hl
  have HEV : Hid (∀ (i : Nat) (h : i < l.length), ∃ b off C, a = some ⟨b, off, none⟩ ∧ EC B l[i] C ∧ B.rangeAt b (off + i * 22) C.toList) := hev
  clear hev
  have hmm := @run_makeMap Tryz.prog
  go_enter Tryz.func33, Tryz.ntmps33
  go_wp2
  go_loopw [12] (fun u w' => ∃ (i n : Nat) (D : DataW Unit) (S : List Pr), u = .int .i64 (i : Int) ∧ i ≤ l.length ∧ n ≤ i ∧ w'.ownsMap Tryz.prog 53 unitElem w.heap.size n D ∧ Hid (Pairs D S ∧ two [] l = two S (l.drop i)) ∧ Below w.heap.size w w') (fun u _ => l.length - numOf u)
  case atStart => exact ⟨0, 0, .map [], [], rfl, Nat.zero_le _, Nat.le_refl _, World.ownsMap_made _ _ _ _, ⟨fun _ _ _ _ => rfl, rfl⟩, (Below.refl _ _).alloc (Nat.le_refl _) _⟩
  case round =>
    obtain ⟨i, n, D, S, rfl, hil, hni, om, HG, hmb⟩ := hrel
    have hlt0 := om.lt
    have hc := Ctx.empty hmb
    clear hmm
    by_cases hlt : i < l.length
    · have hlt' : (i : Int) < (l.length : Int) := by omega
      obtain ⟨b, off, E, rfl, he, hrng⟩ := HEV.out i hlt
      have hdrop : Hid (l.drop i = l[i] :: l.drop (i + 1)) := List.drop_eq_getElem_cons hlt
      generalize l[i] = x at he hdrop
      have hE := he.sz
      have hE1 := he.one
      have e1 := he.i1
      have e4 := he.i4
      have e5 := he.i5
      have s1 := he.s1
      have s5 := he.s5
      clear he
      replace hrng := range_below (hB.trans (hmb.mono hB.size)) hrng
      have hwr : IntKind.i64.wrap ((i : Int) + 1) = ((i + 1 : Nat) : Int) := by rw [wrap_small _ (by omega) (by omega)]; omega
      cases hk : x.hk
      · have HE : Hid (Pairs D S ∧ two [] l = two S (l.drop (i + 1))) := ⟨HG.out.1, by rw [HG.out.2, hdrop.out, two, hk]; rfl⟩
        rw [hk] at e4
        clear HG hdrop hk
        go_wp2_with (first
          | (refine wpList_load_mid rfl 28 (.tmp 14) rfl b (off + i * 22) rfl E.toList _ hrng Tryz.underlying28 rfl (by simpa using sz28 hE) ?_)
          | (refine v_decl rfl rfl 28 rfl (.tmp 5) (.tmp 15) rfl zE E z28 (fun _ => rfl) (fun _ => rfl) (by rw [hE]; rfl) (sz28 hE) hE1 hc ?_; intro w3 N3 hc3 hb3; replace om := own_below om hb3; have c4 := hc3.cell 0 rfl 4 e4))
        go_roundw
        case rel => exact ⟨i + 1, n, D, S, by simp, hlt, by omega, om, HE, hc3.bel⟩
        case measure => simp [numOf]; omega
      · rw [hk] at e4
        have HI := HG.out.1 x.ty x.key s1 s5
        have hkey := key33 x.ty x.key s1 s5
        cases hI : inP S x.ty x.key
        · have HE : Hid (Pairs (D.put (klit x.ty x.key) (.agg [])) ((x.ty, x.key) :: S) ∧ two [] l = two ((x.ty, x.key) :: S) (l.drop (i + 1))) := ⟨HG.out.1.put om.isMap s1 s5 _, by rw [HG.out.2, hdrop.out, two, hk, hI]; rfl⟩
          rw [hI] at HI
          have HI' : Hid (Maps.has D (klit x.ty x.key) = false) := HI
          clear HG hdrop hk hI HI
          generalize x.ty = ty at *
          generalize x.key = ky at *
          go_wp2_with (first
            | (refine wpList_load_mid rfl 28 (.tmp 14) rfl b (off + i * 22) rfl E.toList _ hrng Tryz.underlying28 rfl (by simpa using sz28 hE) ?_)
            | (refine v_decl rfl rfl 28 rfl (.tmp 5) (.tmp 15) rfl zE E z28 (fun _ => rfl) (fun _ => rfl) (by rw [hE]; rfl) (sz28 hE) hE1 hc ?_; intro w3 N3 hc3 hb3; replace om := own_below om hb3; have c4 := hc3.cell 0 rfl 4 e4; have c1 := hc3.cell 0 rfl 1 e1; have c5 := hc3.cell 0 rfl 5 e5)
            | (refine v_decl rfl rfl 53 rfl (.tmp 6) (.tmp 23) rfl (eC ⟨#[]⟩ ⟨#[]⟩) (eC ty ky) z33 (fun _ => rfl) (fun _ => rfl) rfl (n33 _ _) (eC_one _ _) hc3 ?_; intro w4 N4 hc4 hb4; replace om := own_below om hb4; clear hc3 c4 c1 c5)
            | (refine v_load rfl 53 (.tmp 6) rfl 0 rfl hc4 rfl _ Tryz.underlying53 rfl (n33 _ _) ?_)
            | (at_lookup; refine wpList_lookup_own_unit _ rfl _ _ 82 rfl 53 83 law33 Tryz.underlying82 (z78 _) w.heap.size n D rfl om _ _ rfl hkey ?_; rw [HI'.out])
            | (refine v_load rfl 53 (.tmp 6) rfl 0 rfl (hc4.call ((Below.refl _ _).alloc (Nat.le_refl _) _)) rfl _ Tryz.underlying53 rfl (n33 _ _) ?_)
            | (at_mapUpdate; refine wpList_mapUpdate_own _ rfl _ _ _ 82 rfl 53 83 law33 Tryz.underlying82 unitElem w.heap.size n D rfl (om.alloc _) (by unfold maxLen; omega) _ _ _ rfl rfl hkey _ [] unitElem_mk ?_; intro w6 om6 hg6))
          go_roundw
          case rel => exact ⟨i + 1, n + 1, _, _, by simp, hlt, by omega, om6, HE, Below.grown (hc4.call ((Below.refl _ _).alloc (Nat.le_refl _) _)).bel hg6 (hc4.call ((Below.refl _ _).alloc (Nat.le_refl _) _)).bel.size (fun j hj => by cases hj; exact Nat.le_refl _)⟩
          case measure => simp [numOf]; omega
        · have HE : Hid (two [] l = true) := by show _ = _; rw [HG.out.2, hdrop.out, two, hk, hI]; rfl
          rw [hI] at HI
          have HI' : Hid (Maps.has D (klit x.ty x.key) = true) := HI
          clear HG hdrop hk hI HI
          generalize x.ty = ty at *
          generalize x.key = ky at *
          go_wp2_with (first
            | (refine wpList_load_mid rfl 28 (.tmp 14) rfl b (off + i * 22) rfl E.toList _ hrng Tryz.underlying28 rfl (by simpa using sz28 hE) ?_)
            | (refine v_decl rfl rfl 28 rfl (.tmp 5) (.tmp 15) rfl zE E z28 (fun _ => rfl) (fun _ => rfl) (by rw [hE]; rfl) (sz28 hE) hE1 hc ?_; intro w3 N3 hc3 hb3; replace om := own_below om hb3; have c4 := hc3.cell 0 rfl 4 e4; have c1 := hc3.cell 0 rfl 1 e1; have c5 := hc3.cell 0 rfl 5 e5)
            | (refine v_decl rfl rfl 53 rfl (.tmp 6) (.tmp 23) rfl (eC ⟨#[]⟩ ⟨#[]⟩) (eC ty ky) z33 (fun _ => rfl) (fun _ => rfl) rfl (n33 _ _) (eC_one _ _) hc3 ?_; intro w4 N4 hc4 hb4; replace om := own_below om hb4; clear hc3 c4 c1 c5)
            | (refine v_load rfl 53 (.tmp 6) rfl 0 rfl hc4 rfl _ Tryz.underlying53 rfl (n33 _ _) ?_)
            | (at_lookup; refine wpList_lookup_own_unit _ rfl _ _ 82 rfl 53 83 law33 Tryz.underlying82 (z78 _) w.heap.size n D rfl om _ _ rfl hkey ?_; rw [HI'.out]))
          go_ret
          exact ⟨by rw [HE.out]; rfl, (hc4.call ((Below.refl _ _).alloc (Nat.le_refl _) _)).bel⟩
    · have hlt' : ¬ (i : Int) < (l.length : Int) := by omega
      have HE : Hid (two [] l = false) := by show _ = _; rw [HG.out.2, List.drop_eq_nil_of_le (by omega)]; rfl
      clear HG
      go_wp2
      go_ret
      exact ⟨by rw [HE.out]; rfl, hmb⟩
end Go.Proofs.YthplcnbfpcndbaaGreatDoor
