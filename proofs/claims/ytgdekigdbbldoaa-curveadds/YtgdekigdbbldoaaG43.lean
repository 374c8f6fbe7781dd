/- The reference's sum of points: a contract, by walking its text. The reference's In and Nought: contracts, by walking their texts. -/
import Derived.Test.YtgdekigdbbldoaaG42
namespace Go.Proofs.Ytgdekigdbbldoaa
open Go.RowKit
namespace Dt
open Rg Go.Proofs.Ytgdekigdbbldoaa.Fd

/-- A block without numbers. -/
structure Bz (w : World) (b : Nat) : Prop where
  c : ∀ j x, w.cell? ⟨b, j, none⟩ ≠ some (.int .i64 x)
  l : b < w.heap.size
theorem Bz.below {w w' : World} {b : Nat} (h : Bz w b) (hb : Below w.heap.size w w') : Bz w' b := ⟨fun j x e => h.c j x ((hb.cell (p := ⟨b, j, none⟩) h.l).symm.trans e), Nat.lt_of_lt_of_le h.l hb.size⟩
/-- A number stays where a block without numbers is written. -/
theorem Num.setz {w : World} {v : Value} {x b : Nat} (h : Num w v x) (hz : Bz w b) (vs : List Value) : Num (w.setCells b 0 vs) v x := by
  obtain ⟨A, L, cap, rfl, h1, h2, h3⟩ := h
  refine ⟨A, L, cap, rfl, h1, ?_, h3⟩
  rcases h2 with h2 | ⟨c, o, rfl, hc, hr⟩
  · exact .inl h2
  · by_cases hL : L = []
    · exact .inl hL
    · refine .inr ⟨c, o, rfl, by rw [size_setCells]; exact hc, ?_⟩
      have hne : c ≠ b := by
        intro e
        subst e
        have h4 := cell_i hr 0 (List.length_pos_iff.2 hL)
        exact hz.c _ _ h4
      exact World.rangeAt_setCells_apart hr _ _ _ (.inl hne)
def z54 : Array Value := #[.slice none 0 0, .slice none 0 0, .slice none 0 0]
theorem info54 : (Try.prog.info? 54).map (·.size) = some 3 := by kernel_rfl
theorem zero54_info : (Try.prog.info? 54).map (·.zero) = some (some (.agg z54)) := by kernel_rfl
theorem zero54 (W : World) : (zeroValue 54).run Try.prog W = .ok (.agg z54) W := by
  have h := zero54_info
  cases hq : Try.prog.info? 54 with
  | none => rw [hq] at h; cases h
  | some i =>
    have hz : i.zero = some (.agg z54) := by simpa [hq] using h
    simp [zeroValue, typeInfo, hq, hz]
theorem there54 (w : World) : (w.alloc (.cells z54 54)).there w.heap.size 0 3 := there_new w z54 54 (m := 3) fun j hj => by
  match j, hj with
  | 0, _ => rfl
  | 1, _ => rfl
  | 2, _ => rfl
  | i + 3, h => exact absurd h (by omega)
theorem bz_new (w : World) : Bz (w.alloc (.cells z54 54)) w.heap.size := ⟨fun j x e => by
  match j with
  | 0 => rw [cell_new w z54 54 (i := 0) rfl] at e; cases e
  | 1 => rw [cell_new w z54 54 (i := 1) rfl] at e; cases e
  | 2 => rw [cell_new w z54 54 (i := 2) rfl] at e; cases e
  | i + 3 =>
    have : (w.alloc (.cells z54 54)).heap[w.heap.size]? = some (.cells z54 54 (0, 0)) := heap_alloc_new _ _
    unfold World.cell? at e
    rw [this] at e
    simp [z54] at e, by rw [size_alloc]; omega⟩
theorem build54 (A1 A2 A3 : Option Addr) (m1 m2 m3 c1 c2 c3 : Nat) : Try.prog.built 54 [(0, .slice A1 m1 c1), (1, .slice A2 m2 c2), (2, .slice A3 m3 c3)] = some [.slice A1 m1 c1, .slice A2 m2 c2, .slice A3 m3 c3].toArray := by kernel_rfl
theorem Num.sl {w : World} {v : Value} {x : Nat} (h : Num w v x) : ∃ A m c, v = .slice A m c := by
  obtain ⟨A, L, c, rfl, _⟩ := h
  exact ⟨_, _, _, rfl⟩
theorem one54 (A1 A2 A3 : Option Addr) (m1 m2 m3 c1 c2 c3 : Nat) : ([.slice A1 m1 c1, .slice A2 m2 c2, .slice A3 m3 c3] : List Value).toArray.all (·.oneCell') = true := by simp [Value.oneCell']
/-- Two boxes of three parts, and the answer's. -/
theorem start54 (w : World) (V V' : List Value) :
    let e := ((w.alloc (.cells V.toArray 54)).alloc (.cells V'.toArray 54)).alloc (.cells z54 54)
    Rp e w.heap.size 0 V ∧ Rp e (w.heap.size + 1) 0 V' ∧ Ao w.heap.size e (w.heap.size + 2) 3 ∧ Bz e (w.heap.size + 2) ∧ Below w.heap.size w e := by
  intro e
  have s2 : ((w.alloc (.cells V.toArray 54)).alloc (.cells V'.toArray 54)).heap.size = w.heap.size + 2 := by rw [size_alloc, size_alloc]
  have s3 : e.heap.size = w.heap.size + 3 := by show (World.alloc _ _).heap.size = _; rw [size_alloc, s2]
  have ht := there54 ((w.alloc (.cells V.toArray 54)).alloc (.cells V'.toArray 54))
  have hz := bz_new ((w.alloc (.cells V.toArray 54)).alloc (.cells V'.toArray 54))
  rw [s2] at ht hz
  exact ⟨⟨World.rangeAt_alloc (World.rangeAt_alloc (Rg.range_new w V 54) _) _, by omega⟩, ⟨World.rangeAt_alloc (range_new1 w _ V' 54) _, by omega⟩, ⟨by omega, by omega, ht⟩, hz, (((Below.refl _ _).alloc (Nat.le_refl _) _).alloc (by simp) _).alloc (by rw [s2]; omega) _⟩
/-- The sum of two fractions, as the reference reckons it. -/
def addR (a b : Frac) : Frac :=
  let zw := a.u * b.u % p
  let f := zw * zw % p
  let xu := a.x * b.x % p
  let yv := a.y * b.y % p
  let e := factor * (xu * yv % p) % p
  let cross := (a.x * b.y % p + b.x * a.y % p) % p
  let less := (f + p - e) % p
  let more := (f + e) % p
  ⟨zw * less % p * cross % p, zw * more % p * ((yv + xu) % p) % p, less * more % p⟩
def Frac.ltp (a : Frac) : Prop := a.x < p ∧ a.y < p ∧ a.u < p
theorem addR_lt (a b : Frac) : Frac.ltp (addR a b) := ⟨modp _, modp _, modp _⟩
set_option maxHeartbeats 4000000 in
set_option maxRecDepth 4000 in
theorem radd_any {ux uy uz tx ty tz vd : Value} {a b : Frac} {w : World} (npx : Num w ux a.x) (npy : Num w uy a.y) (npz : Num w uz a.u) (nqx : Num w tx b.x) (nqy : Num w ty b.y) (nqz : Num w tz b.u) (nd : Num w vd factor) (la : Frac.ltp a) (lb : Frac.ltp b) :
    Calls Try.prog 38 #[.agg #[ux, uy, uz], .agg #[tx, ty, tz], vd] w fun e w' => ∃ rx ry rz, e = .returned (.agg #[rx, ry, rz]) ∧ (Num w' rx (addR a b).x ∧ Num w' ry (addR a b).y ∧ Num w' rz (addR a b).u) ∧ Below w.heap.size w w' := by
  unfold addR
  obtain ⟨lpx, lpy, lpz⟩ := la
  obtain ⟨lqx, lqy, lqz⟩ := lb
  obtain ⟨px, py, pz⟩ := a
  obtain ⟨qx, qy, qz⟩ := b
  simp only at npx npy npz nqx nqy nqz lpx lpy lpz lqx lqy lqz ⊢
  have ld : factor < p := by decide
  obtain ⟨d, hdd⟩ : ∃ d, factor = d := ⟨_, rfl⟩
  rw [hdd] at nd ld ⊢
  clear hdd
  have Czw : Hid (∀ (W : World) (u v : Value), Num W u pz → Num W v qz → Calls Try.prog 21 #[u, v] W fun e w' => ∃ r, e = .returned r ∧ Num w' r (pz * qz % p) ∧ Below W.heap.size W w') := fun W u v h1 h2 => mul_num h1 h2 lpz lqz
  have lzw := modp (pz * qz)
  obtain ⟨zw, hzw⟩ : ∃ z, pz * qz % p = z := ⟨_, rfl⟩
  rw [hzw] at Czw lzw ⊢
  have Cf : Hid (∀ (W : World) (u v : Value), Num W u zw → Num W v zw → Calls Try.prog 21 #[u, v] W fun e w' => ∃ r, e = .returned r ∧ Num w' r (zw * zw % p) ∧ Below W.heap.size W w') := fun W u v h1 h2 => mul_num h1 h2 lzw lzw
  have lf := modp (zw * zw)
  obtain ⟨f, hf⟩ : ∃ z, zw * zw % p = z := ⟨_, rfl⟩
  rw [hf] at Cf lf ⊢
  have Cxu : Hid (∀ (W : World) (u v : Value), Num W u px → Num W v qx → Calls Try.prog 21 #[u, v] W fun e w' => ∃ r, e = .returned r ∧ Num w' r (px * qx % p) ∧ Below W.heap.size W w') := fun W u v h1 h2 => mul_num h1 h2 lpx lqx
  have lxu := modp (px * qx)
  obtain ⟨xu, hxu⟩ : ∃ z, px * qx % p = z := ⟨_, rfl⟩
  rw [hxu] at Cxu lxu ⊢
  have Cyv : Hid (∀ (W : World) (u v : Value), Num W u py → Num W v qy → Calls Try.prog 21 #[u, v] W fun e w' => ∃ r, e = .returned r ∧ Num w' r (py * qy % p) ∧ Below W.heap.size W w') := fun W u v h1 h2 => mul_num h1 h2 lpy lqy
  have lyv := modp (py * qy)
  obtain ⟨yv, hyv⟩ : ∃ z, py * qy % p = z := ⟨_, rfl⟩
  rw [hyv] at Cyv lyv ⊢
  have Cm : Hid (∀ (W : World) (u v : Value), Num W u xu → Num W v yv → Calls Try.prog 21 #[u, v] W fun e w' => ∃ r, e = .returned r ∧ Num w' r (xu * yv % p) ∧ Below W.heap.size W w') := fun W u v h1 h2 => mul_num h1 h2 lxu lyv
  have lm := modp (xu * yv)
  obtain ⟨m, hm⟩ : ∃ z, xu * yv % p = z := ⟨_, rfl⟩
  rw [hm] at Cm lm ⊢
  have Cee : Hid (∀ (W : World) (u v : Value), Num W u d → Num W v m → Calls Try.prog 21 #[u, v] W fun e w' => ∃ r, e = .returned r ∧ Num w' r (d * m % p) ∧ Below W.heap.size W w') := fun W u v h1 h2 => mul_num h1 h2 ld lm
  have lee := modp (d * m)
  obtain ⟨ee, hee⟩ : ∃ z, d * m % p = z := ⟨_, rfl⟩
  rw [hee] at Cee lee ⊢
  have Cs1 : Hid (∀ (W : World) (u v : Value), Num W u px → Num W v qy → Calls Try.prog 21 #[u, v] W fun e w' => ∃ r, e = .returned r ∧ Num w' r (px * qy % p) ∧ Below W.heap.size W w') := fun W u v h1 h2 => mul_num h1 h2 lpx lqy
  have ls1 := modp (px * qy)
  obtain ⟨s1, hs1⟩ : ∃ z, px * qy % p = z := ⟨_, rfl⟩
  rw [hs1] at Cs1 ls1 ⊢
  have Cs2 : Hid (∀ (W : World) (u v : Value), Num W u qx → Num W v py → Calls Try.prog 21 #[u, v] W fun e w' => ∃ r, e = .returned r ∧ Num w' r (qx * py % p) ∧ Below W.heap.size W w') := fun W u v h1 h2 => mul_num h1 h2 lqx lpy
  have ls2 := modp (qx * py)
  obtain ⟨s2, hs2⟩ : ∃ z, qx * py % p = z := ⟨_, rfl⟩
  rw [hs2] at Cs2 ls2 ⊢
  have Ccr : Hid (∀ (W : World) (u v : Value), Num W u s1 → Num W v s2 → Calls Try.prog 17 #[u, v] W fun e w' => ∃ r, e = .returned r ∧ Num w' r ((s1 + s2) % p) ∧ Below W.heap.size W w') := fun W u v h1 h2 => add_num h1 h2 ls1 ls2
  have lcr := modp (s1 + s2)
  obtain ⟨cr, hcr⟩ : ∃ z, (s1 + s2) % p = z := ⟨_, rfl⟩
  rw [hcr] at Ccr lcr ⊢
  have Cle : Hid (∀ (W : World) (u v : Value), Num W u f → Num W v ee → Calls Try.prog 19 #[u, v] W fun e w' => ∃ r, e = .returned r ∧ Num w' r ((f + p - ee) % p) ∧ Below W.heap.size W w') := fun W u v h1 h2 => sub_num h1 h2 lf lee
  have lle := modp (f + p - ee)
  obtain ⟨le, hle⟩ : ∃ z, (f + p - ee) % p = z := ⟨_, rfl⟩
  rw [hle] at Cle lle ⊢
  have Cmo : Hid (∀ (W : World) (u v : Value), Num W u f → Num W v ee → Calls Try.prog 17 #[u, v] W fun e w' => ∃ r, e = .returned r ∧ Num w' r ((f + ee) % p) ∧ Below W.heap.size W w') := fun W u v h1 h2 => add_num h1 h2 lf lee
  have lmo := modp (f + ee)
  obtain ⟨mo, hmo⟩ : ∃ z, (f + ee) % p = z := ⟨_, rfl⟩
  rw [hmo] at Cmo lmo ⊢
  have Ct1 : Hid (∀ (W : World) (u v : Value), Num W u zw → Num W v le → Calls Try.prog 21 #[u, v] W fun e w' => ∃ r, e = .returned r ∧ Num w' r (zw * le % p) ∧ Below W.heap.size W w') := fun W u v h1 h2 => mul_num h1 h2 lzw lle
  have lt1 := modp (zw * le)
  obtain ⟨t1, ht1⟩ : ∃ z, zw * le % p = z := ⟨_, rfl⟩
  rw [ht1] at Ct1 lt1 ⊢
  have CX : Hid (∀ (W : World) (u v : Value), Num W u t1 → Num W v cr → Calls Try.prog 21 #[u, v] W fun e w' => ∃ r, e = .returned r ∧ Num w' r (t1 * cr % p) ∧ Below W.heap.size W w') := fun W u v h1 h2 => mul_num h1 h2 lt1 lcr
  have lX := modp (t1 * cr)
  obtain ⟨X, hX⟩ : ∃ z, t1 * cr % p = z := ⟨_, rfl⟩
  rw [hX] at CX lX ⊢
  have Ct2 : Hid (∀ (W : World) (u v : Value), Num W u zw → Num W v mo → Calls Try.prog 21 #[u, v] W fun e w' => ∃ r, e = .returned r ∧ Num w' r (zw * mo % p) ∧ Below W.heap.size W w') := fun W u v h1 h2 => mul_num h1 h2 lzw lmo
  have lt2 := modp (zw * mo)
  obtain ⟨t2, ht2⟩ : ∃ z, zw * mo % p = z := ⟨_, rfl⟩
  rw [ht2] at Ct2 lt2 ⊢
  have Ct3 : Hid (∀ (W : World) (u v : Value), Num W u yv → Num W v xu → Calls Try.prog 17 #[u, v] W fun e w' => ∃ r, e = .returned r ∧ Num w' r ((yv + xu) % p) ∧ Below W.heap.size W w') := fun W u v h1 h2 => add_num h1 h2 lyv lxu
  have lt3 := modp (yv + xu)
  obtain ⟨t3, ht3⟩ : ∃ z, (yv + xu) % p = z := ⟨_, rfl⟩
  rw [ht3] at Ct3 lt3 ⊢
  have CY : Hid (∀ (W : World) (u v : Value), Num W u t2 → Num W v t3 → Calls Try.prog 21 #[u, v] W fun e w' => ∃ r, e = .returned r ∧ Num w' r (t2 * t3 % p) ∧ Below W.heap.size W w') := fun W u v h1 h2 => mul_num h1 h2 lt2 lt3
  have lY := modp (t2 * t3)
  obtain ⟨Y, hY⟩ : ∃ z, t2 * t3 % p = z := ⟨_, rfl⟩
  rw [hY] at CY lY ⊢
  have CZ : Hid (∀ (W : World) (u v : Value), Num W u le → Num W v mo → Calls Try.prog 21 #[u, v] W fun e w' => ∃ r, e = .returned r ∧ Num w' r (le * mo % p) ∧ Below W.heap.size W w') := fun W u v h1 h2 => mul_num h1 h2 lle lmo
  have lZ := modp (le * mo)
  obtain ⟨Z, hZ⟩ : ∃ z, le * mo % p = z := ⟨_, rfl⟩
  rw [hZ] at CZ lZ ⊢
  have HS := (show Hid _ from start54 w [ux, uy, uz] [tx, ty, tz])
  clear hzw hf hxu hyv hm hee hs1 hs2 hcr hle hmo ht1 hX ht2 ht3 hY hZ lzw lf lxu lyv lm lee ls1 ls2 lcr lle lmo lt1 lX lt2 lt3 lY lZ lpx lpy lpz lqx lqy lqz ld
  have hz2 := zero54
  obtain ⟨Z54, hZ2⟩ : ∃ Z, z54 = Z := ⟨_, rfl⟩
  rw [hZ2] at hz2 HS
  clear hZ2
  obtain ⟨n, hn⟩ : ∃ n, w.heap.size = n := ⟨_, rfl⟩
  have HN : Hid (w.heap.size = n) := hn
  obtain ⟨we, hwe⟩ : ∃ v, ((w.alloc (.cells #[ux, uy, uz] 54)).alloc (.cells #[tx, ty, tz] 54)).alloc (.cells Z54 54) = v := ⟨_, rfl⟩
  have BP : Hid (Rp we n 0 [ux, uy, uz]) := by have h := HS.out.1; rw [hwe, HN.out] at h; exact h
  have BQ : Hid (Rp we (n + 1) 0 [tx, ty, tz]) := by have h := HS.out.2.1; rw [hwe, HN.out] at h; exact h
  have AO : Hid (Ao w.heap.size we (n + 2) 3) := by have h := HS.out.2.2.1; rw [hwe] at h; show Ao _ _ _ _; rw [HN.out] at h ⊢; exact h
  have BZ : Hid (Bz we (n + 2)) := by have h := HS.out.2.2.2.1; rw [hwe, HN.out] at h; exact h
  have HBE : Hid (Below w.heap.size w we) := by have h := HS.out.2.2.2.2; rw [hwe] at h; exact h
  have NPX : Hid (Num we ux px) := npx.below HBE.out
  have NPY : Hid (Num we uy py) := npy.below HBE.out
  have NPZ : Hid (Num we uz pz) := npz.below HBE.out
  have NQX : Hid (Num we tx qx) := nqx.below HBE.out
  have NQY : Hid (Num we ty qy) := nqy.below HBE.out
  have NQZ : Hid (Num we tz qz) := nqz.below HBE.out
  have ND : Hid (Num we vd d) := nd.below HBE.out
  clear HS npx npy npz nqx nqy nqz nd
  have BP_0 := BP
  have BQ_0 := BQ
  have AO_0 := AO
  have BZ_0 := BZ
  have NPX_0 := NPX
  have NPY_0 := NPY
  have NPZ_0 := NPZ
  have NQX_0 := NQX
  have NQY_0 := NQY
  have NQZ_0 := NQZ
  have ND_0 := ND
  have HB_0 := (show Hid (Below we.heap.size we we) from Below.refl _ _)
  have TK_0 := (show Hid True from trivial)
  clear BP BQ AO BZ NPX NPY NPZ NQX NQY NQZ ND
  have pc0 := BP_0.out.c0
  have pc1 := BP_0.out.c1
  have pc2 := BP_0.out.c2
  have qc0 := BQ_0.out.c0
  have qc1 := BQ_0.out.c1
  have qc2 := BQ_0.out.c2
  go_enter Try.func38, Try.ntmps38
  go_wp2_with (first
    | (have hq := TK_0; go_at_call 21; refine (Czw.out _ _ _ (NPZ_0.out) (NQZ_0.out)).mono ?_; rintro e w1 ⟨vzw, rfl, hn1, hb⟩; have HB_1 := (show Hid (Below we.heap.size we w1) from HB_0.out.trans (hb.mono HB_0.out.size)); have BP_1 := (show Hid (Rp w1 n 0 [ux, uy, uz]) from BP_0.out.below hb); have BQ_1 := (show Hid (Rp w1 (n + 1) 0 [tx, ty, tz]) from BQ_0.out.below hb); have AO_1 := (show Hid (Ao w.heap.size w1 (n + 2) 3) from AO_0.out.below hb); have BZ_1 := (show Hid (Bz w1 (n + 2)) from BZ_0.out.below hb); have NPX_1 := (show Hid (Num w1 ux px) from NPX_0.out.below hb); have NPY_1 := (show Hid (Num w1 uy py) from NPY_0.out.below hb); have NPZ_1 := (show Hid (Num w1 uz pz) from NPZ_0.out.below hb); have NQX_1 := (show Hid (Num w1 tx qx) from NQX_0.out.below hb); have NQY_1 := (show Hid (Num w1 ty qy) from NQY_0.out.below hb); have NQZ_1 := (show Hid (Num w1 tz qz) from NQZ_0.out.below hb); have ND_1 := (show Hid (Num w1 vd d) from ND_0.out.below hb); have Nzw_1 := (show Hid (Num w1 vzw zw) from hn1); clear pc0 pc1 pc2 qc0 qc1 qc2; have pc0 := BP_1.out.c0; have pc1 := BP_1.out.c1; have pc2 := BP_1.out.c2; have qc0 := BQ_1.out.c0; have qc1 := BQ_1.out.c1; have qc2 := BQ_1.out.c2; have TK_1 := (show Hid True from trivial); clear hq TK_0 hb HB_0 BP_0 BQ_0 AO_0 BZ_0 NPX_0 NPY_0 NPZ_0 NQX_0 NQY_0 NQZ_0 ND_0 hn1)
    | (have hq := TK_1; go_at_call 21; refine (Cf.out _ _ _ (Nzw_1.out) (Nzw_1.out)).mono ?_; rintro e w2 ⟨vf, rfl, hn1, hb⟩; have HB_2 := (show Hid (Below we.heap.size we w2) from HB_1.out.trans (hb.mono HB_1.out.size)); have BP_2 := (show Hid (Rp w2 n 0 [ux, uy, uz]) from BP_1.out.below hb); have BQ_2 := (show Hid (Rp w2 (n + 1) 0 [tx, ty, tz]) from BQ_1.out.below hb); have AO_2 := (show Hid (Ao w.heap.size w2 (n + 2) 3) from AO_1.out.below hb); have BZ_2 := (show Hid (Bz w2 (n + 2)) from BZ_1.out.below hb); have NPX_2 := (show Hid (Num w2 ux px) from NPX_1.out.below hb); have NPY_2 := (show Hid (Num w2 uy py) from NPY_1.out.below hb); have NPZ_2 := (show Hid (Num w2 uz pz) from NPZ_1.out.below hb); have NQX_2 := (show Hid (Num w2 tx qx) from NQX_1.out.below hb); have NQY_2 := (show Hid (Num w2 ty qy) from NQY_1.out.below hb); have NQZ_2 := (show Hid (Num w2 tz qz) from NQZ_1.out.below hb); have ND_2 := (show Hid (Num w2 vd d) from ND_1.out.below hb); have Nzw_2 := (show Hid (Num w2 vzw zw) from Nzw_1.out.below hb); have Nf_2 := (show Hid (Num w2 vf f) from hn1); clear pc0 pc1 pc2 qc0 qc1 qc2; have pc0 := BP_2.out.c0; have pc1 := BP_2.out.c1; have pc2 := BP_2.out.c2; have qc0 := BQ_2.out.c0; have qc1 := BQ_2.out.c1; have qc2 := BQ_2.out.c2; have TK_2 := (show Hid True from trivial); clear hq TK_1 hb HB_1 BP_1 BQ_1 AO_1 BZ_1 NPX_1 NPY_1 NPZ_1 NQX_1 NQY_1 NQZ_1 ND_1 Nzw_1 hn1)
    | (have hq := TK_2; go_at_call 21; refine (Cxu.out _ _ _ (NPX_2.out) (NQX_2.out)).mono ?_; rintro e w3 ⟨vxu, rfl, hn1, hb⟩; have HB_3 := (show Hid (Below we.heap.size we w3) from HB_2.out.trans (hb.mono HB_2.out.size)); have BP_3 := (show Hid (Rp w3 n 0 [ux, uy, uz]) from BP_2.out.below hb); have BQ_3 := (show Hid (Rp w3 (n + 1) 0 [tx, ty, tz]) from BQ_2.out.below hb); have AO_3 := (show Hid (Ao w.heap.size w3 (n + 2) 3) from AO_2.out.below hb); have BZ_3 := (show Hid (Bz w3 (n + 2)) from BZ_2.out.below hb); have NPX_3 := (show Hid (Num w3 ux px) from NPX_2.out.below hb); have NPY_3 := (show Hid (Num w3 uy py) from NPY_2.out.below hb); have NPZ_3 := (show Hid (Num w3 uz pz) from NPZ_2.out.below hb); have NQX_3 := (show Hid (Num w3 tx qx) from NQX_2.out.below hb); have NQY_3 := (show Hid (Num w3 ty qy) from NQY_2.out.below hb); have NQZ_3 := (show Hid (Num w3 tz qz) from NQZ_2.out.below hb); have ND_3 := (show Hid (Num w3 vd d) from ND_2.out.below hb); have Nzw_3 := (show Hid (Num w3 vzw zw) from Nzw_2.out.below hb); have Nf_3 := (show Hid (Num w3 vf f) from Nf_2.out.below hb); have Nxu_3 := (show Hid (Num w3 vxu xu) from hn1); clear pc0 pc1 pc2 qc0 qc1 qc2; have pc0 := BP_3.out.c0; have pc1 := BP_3.out.c1; have pc2 := BP_3.out.c2; have qc0 := BQ_3.out.c0; have qc1 := BQ_3.out.c1; have qc2 := BQ_3.out.c2; have TK_3 := (show Hid True from trivial); clear hq TK_2 hb HB_2 BP_2 BQ_2 AO_2 BZ_2 NPX_2 NPY_2 NPZ_2 NQX_2 NQY_2 NQZ_2 ND_2 Nzw_2 Nf_2 hn1)
    | (have hq := TK_3; go_at_call 21; refine (Cyv.out _ _ _ (NPY_3.out) (NQY_3.out)).mono ?_; rintro e w4 ⟨vyv, rfl, hn1, hb⟩; have HB_4 := (show Hid (Below we.heap.size we w4) from HB_3.out.trans (hb.mono HB_3.out.size)); have BP_4 := (show Hid (Rp w4 n 0 [ux, uy, uz]) from BP_3.out.below hb); have BQ_4 := (show Hid (Rp w4 (n + 1) 0 [tx, ty, tz]) from BQ_3.out.below hb); have AO_4 := (show Hid (Ao w.heap.size w4 (n + 2) 3) from AO_3.out.below hb); have BZ_4 := (show Hid (Bz w4 (n + 2)) from BZ_3.out.below hb); have NPX_4 := (show Hid (Num w4 ux px) from NPX_3.out.below hb); have NPY_4 := (show Hid (Num w4 uy py) from NPY_3.out.below hb); have NPZ_4 := (show Hid (Num w4 uz pz) from NPZ_3.out.below hb); have NQX_4 := (show Hid (Num w4 tx qx) from NQX_3.out.below hb); have NQY_4 := (show Hid (Num w4 ty qy) from NQY_3.out.below hb); have NQZ_4 := (show Hid (Num w4 tz qz) from NQZ_3.out.below hb); have ND_4 := (show Hid (Num w4 vd d) from ND_3.out.below hb); have Nzw_4 := (show Hid (Num w4 vzw zw) from Nzw_3.out.below hb); have Nf_4 := (show Hid (Num w4 vf f) from Nf_3.out.below hb); have Nxu_4 := (show Hid (Num w4 vxu xu) from Nxu_3.out.below hb); have Nyv_4 := (show Hid (Num w4 vyv yv) from hn1); clear pc0 pc1 pc2 qc0 qc1 qc2; have pc0 := BP_4.out.c0; have pc1 := BP_4.out.c1; have pc2 := BP_4.out.c2; have qc0 := BQ_4.out.c0; have qc1 := BQ_4.out.c1; have qc2 := BQ_4.out.c2; have TK_4 := (show Hid True from trivial); clear hq TK_3 hb HB_3 BP_3 BQ_3 AO_3 BZ_3 NPX_3 NPY_3 NPZ_3 NQX_3 NQY_3 NQZ_3 ND_3 Nzw_3 Nf_3 Nxu_3 hn1)
    | (have hq := TK_4; go_at_call 21; refine (Cm.out _ _ _ (Nxu_4.out) (Nyv_4.out)).mono ?_; rintro e w5 ⟨vm, rfl, hn1, hb⟩; have HB_5 := (show Hid (Below we.heap.size we w5) from HB_4.out.trans (hb.mono HB_4.out.size)); have BP_5 := (show Hid (Rp w5 n 0 [ux, uy, uz]) from BP_4.out.below hb); have BQ_5 := (show Hid (Rp w5 (n + 1) 0 [tx, ty, tz]) from BQ_4.out.below hb); have AO_5 := (show Hid (Ao w.heap.size w5 (n + 2) 3) from AO_4.out.below hb); have BZ_5 := (show Hid (Bz w5 (n + 2)) from BZ_4.out.below hb); have NPX_5 := (show Hid (Num w5 ux px) from NPX_4.out.below hb); have NPY_5 := (show Hid (Num w5 uy py) from NPY_4.out.below hb); have NPZ_5 := (show Hid (Num w5 uz pz) from NPZ_4.out.below hb); have NQX_5 := (show Hid (Num w5 tx qx) from NQX_4.out.below hb); have NQY_5 := (show Hid (Num w5 ty qy) from NQY_4.out.below hb); have NQZ_5 := (show Hid (Num w5 tz qz) from NQZ_4.out.below hb); have ND_5 := (show Hid (Num w5 vd d) from ND_4.out.below hb); have Nzw_5 := (show Hid (Num w5 vzw zw) from Nzw_4.out.below hb); have Nf_5 := (show Hid (Num w5 vf f) from Nf_4.out.below hb); have Nxu_5 := (show Hid (Num w5 vxu xu) from Nxu_4.out.below hb); have Nyv_5 := (show Hid (Num w5 vyv yv) from Nyv_4.out.below hb); have Nm_5 := (show Hid (Num w5 vm m) from hn1); clear pc0 pc1 pc2 qc0 qc1 qc2; have pc0 := BP_5.out.c0; have pc1 := BP_5.out.c1; have pc2 := BP_5.out.c2; have qc0 := BQ_5.out.c0; have qc1 := BQ_5.out.c1; have qc2 := BQ_5.out.c2; have TK_5 := (show Hid True from trivial); clear hq TK_4 hb HB_4 BP_4 BQ_4 AO_4 BZ_4 NPX_4 NPY_4 NPZ_4 NQX_4 NQY_4 NQZ_4 ND_4 Nzw_4 Nf_4 Nxu_4 Nyv_4 hn1)
    | (have hq := TK_5; go_at_call 21; refine (Cee.out _ _ _ (ND_5.out) (Nm_5.out)).mono ?_; rintro e w6 ⟨vee, rfl, hn1, hb⟩; have HB_6 := (show Hid (Below we.heap.size we w6) from HB_5.out.trans (hb.mono HB_5.out.size)); have BP_6 := (show Hid (Rp w6 n 0 [ux, uy, uz]) from BP_5.out.below hb); have BQ_6 := (show Hid (Rp w6 (n + 1) 0 [tx, ty, tz]) from BQ_5.out.below hb); have AO_6 := (show Hid (Ao w.heap.size w6 (n + 2) 3) from AO_5.out.below hb); have BZ_6 := (show Hid (Bz w6 (n + 2)) from BZ_5.out.below hb); have NPX_6 := (show Hid (Num w6 ux px) from NPX_5.out.below hb); have NPY_6 := (show Hid (Num w6 uy py) from NPY_5.out.below hb); have NPZ_6 := (show Hid (Num w6 uz pz) from NPZ_5.out.below hb); have NQX_6 := (show Hid (Num w6 tx qx) from NQX_5.out.below hb); have NQY_6 := (show Hid (Num w6 ty qy) from NQY_5.out.below hb); have NQZ_6 := (show Hid (Num w6 tz qz) from NQZ_5.out.below hb); have ND_6 := (show Hid (Num w6 vd d) from ND_5.out.below hb); have Nzw_6 := (show Hid (Num w6 vzw zw) from Nzw_5.out.below hb); have Nf_6 := (show Hid (Num w6 vf f) from Nf_5.out.below hb); have Nxu_6 := (show Hid (Num w6 vxu xu) from Nxu_5.out.below hb); have Nyv_6 := (show Hid (Num w6 vyv yv) from Nyv_5.out.below hb); have Nm_6 := (show Hid (Num w6 vm m) from Nm_5.out.below hb); have Nee_6 := (show Hid (Num w6 vee ee) from hn1); clear pc0 pc1 pc2 qc0 qc1 qc2; have pc0 := BP_6.out.c0; have pc1 := BP_6.out.c1; have pc2 := BP_6.out.c2; have qc0 := BQ_6.out.c0; have qc1 := BQ_6.out.c1; have qc2 := BQ_6.out.c2; have TK_6 := (show Hid True from trivial); clear hq TK_5 hb HB_5 BP_5 BQ_5 AO_5 BZ_5 NPX_5 NPY_5 NPZ_5 NQX_5 NQY_5 NQZ_5 ND_5 Nzw_5 Nf_5 Nxu_5 Nyv_5 Nm_5 hn1))
  have HB2 := (show Hid (Below w.heap.size w w6) from HBE.out.trans (HB_6.out.mono HBE.out.size))
  clear HBE HB_6 hwe pc0 pc1 pc2 qc0 qc1 qc2
  have BP := BP_6
  have BQ := BQ_6
  have AO := AO_6
  have BZ := BZ_6
  have NPX := NPX_6
  have NPY := NPY_6
  have NPZ := NPZ_6
  have NQX := NQX_6
  have NQY := NQY_6
  have NQZ := NQZ_6
  have ND := ND_6
  have Nzw := Nzw_6
  have Nf := Nf_6
  have Nxu := Nxu_6
  have Nyv := Nyv_6
  have Nm := Nm_6
  have Nee := Nee_6
  clear BP_6 BQ_6 AO_6 BZ_6 NPX_6 NPY_6 NPZ_6 NQX_6 NQY_6 NQZ_6 ND_6 Nzw_6 Nf_6 Nxu_6 Nyv_6 Nm_6 Nee_6
  refine wp_region_held_drew (S := fun w' => Below w6.heap.size w6 w') (by kernel_rfl) (drewB w6) (fun hS => ?_)
  refine wpAnyH_take (i := 0) (v := .pointer (some ⟨n, 0, none⟩)) rfl (by kernel_rfl) (by kernel_rfl) (by kernel_rfl) (fun _ _ _ h => h) (Or.inl ⟨by kernel_rfl, fun wq hS => by go_simp⟩) hS ?_
  try simp only [Act.put, List.setIfInBounds_toArray, List.set_cons_zero, List.set_cons_succ, List.getElem_toArray, List.getElem_cons_zero]
  refine wpAnyH_take (i := 1) (v := ux) rfl (by kernel_rfl) (by kernel_rfl) (by kernel_rfl) (fun _ _ _ h => h) (Or.inl ⟨by kernel_rfl, fun wq hq => by have g := (BP.out.below hq).c0; clear hq hS; go_simp⟩) hS ?_
  try simp only [Act.put, List.setIfInBounds_toArray, List.set_cons_zero, List.set_cons_succ, List.getElem_toArray, List.getElem_cons_succ, List.getElem_cons_zero]
  refine wpAnyH_take (i := 2) (v := .pointer (some ⟨n + 1, 1, none⟩)) rfl (by kernel_rfl) (by kernel_rfl) (by kernel_rfl) (fun _ _ _ h => h) (Or.inl ⟨by kernel_rfl, fun wq hS => by go_simp⟩) hS ?_
  try simp only [Act.put, List.setIfInBounds_toArray, List.set_cons_zero, List.set_cons_succ, List.getElem_toArray, List.getElem_cons_succ, List.getElem_cons_zero]
  refine wpAnyH_take (i := 3) (v := ty) rfl (by kernel_rfl) (by kernel_rfl) (by kernel_rfl) (fun _ _ _ h => h) (Or.inl ⟨by kernel_rfl, fun wq hq => by have g := (BQ.out.below hq).c1; clear hq hS; go_simp⟩) hS ?_
  try simp only [Act.put, List.setIfInBounds_toArray, List.set_cons_zero, List.set_cons_succ, List.getElem_toArray, List.getElem_cons_succ, List.getElem_cons_zero]
  refine wpAnyH_take (i := 5) (v := .pointer (some ⟨n + 1, 0, none⟩)) rfl (by kernel_rfl) (by kernel_rfl) (by kernel_rfl) (fun _ _ _ h => h) (Or.inl ⟨by kernel_rfl, fun wq hS => by go_simp⟩) hS ?_
  try simp only [Act.put, List.setIfInBounds_toArray, List.set_cons_zero, List.set_cons_succ, List.getElem_toArray, List.getElem_cons_succ, List.getElem_cons_zero]
  refine wpAnyH_take (i := 6) (v := tx) rfl (by kernel_rfl) (by kernel_rfl) (by kernel_rfl) (fun _ _ _ h => h) (Or.inl ⟨by kernel_rfl, fun wq hq => by have g := (BQ.out.below hq).c0; clear hq hS; go_simp⟩) hS ?_
  try simp only [Act.put, List.setIfInBounds_toArray, List.set_cons_zero, List.set_cons_succ, List.getElem_toArray, List.getElem_cons_succ, List.getElem_cons_zero]
  refine wpAnyH_take (i := 7) (v := .pointer (some ⟨n, 1, none⟩)) rfl (by kernel_rfl) (by kernel_rfl) (by kernel_rfl) (fun _ _ _ h => h) (Or.inl ⟨by kernel_rfl, fun wq hS => by go_simp⟩) hS ?_
  try simp only [Act.put, List.setIfInBounds_toArray, List.set_cons_zero, List.set_cons_succ, List.getElem_toArray, List.getElem_cons_succ, List.getElem_cons_zero]
  refine wpAnyH_take (i := 8) (v := uy) rfl (by kernel_rfl) (by kernel_rfl) (by kernel_rfl) (fun _ _ _ h => h) (Or.inl ⟨by kernel_rfl, fun wq hq => by have g := (BP.out.below hq).c1; clear hq hS; go_simp⟩) hS ?_
  try simp only [Act.put, List.setIfInBounds_toArray, List.set_cons_zero, List.set_cons_succ, List.getElem_toArray, List.getElem_cons_succ, List.getElem_cons_zero]
  refine wpAnyH_ready (rs := [4]) (by kernel_rfl) (by simp) ?_
  refine AllReadyH.cons rfl (fun K hK => ?_) AllReadyH.nil
  go_simp
  refine (Cs1.out _ _ _ (NPX.out.below hS) (NQY.out.below hS)).mono ?_
  rintro e wh1 ⟨vs1, rfl, hn1, hb⟩
  have Ns1_1 := (show Hid (Num wh1 vs1 s1) from hn1)
  have hS2 : Below w6.heap.size w6 wh1 := hS.trans (hb.mono hS.size)
  refine hK.out _ _ hS2 (fun hS => ?_)
  clear hK K hb hS2  hn1
  try simp only [Act.put, List.setIfInBounds_toArray, List.set_cons_zero, List.set_cons_succ, List.getElem_toArray, List.getElem_cons_succ, List.getElem_cons_zero]
  refine wpAnyH_ready (rs := [9]) (by kernel_rfl) (by simp) ?_
  refine AllReadyH.cons rfl (fun K hK => ?_) AllReadyH.nil
  go_simp
  refine (Cs2.out _ _ _ (NQX.out.below hS) (NPY.out.below hS)).mono ?_
  rintro e wh2 ⟨vs2, rfl, hn1, hb⟩
  have Ns1_2 := (show Hid (Num wh2 vs1 s1) from Ns1_1.out.below hb)
  have Ns2_2 := (show Hid (Num wh2 vs2 s2) from hn1)
  have hS2 : Below w6.heap.size w6 wh2 := hS.trans (hb.mono hS.size)
  refine hK.out _ _ hS2 (fun hS => ?_)
  clear hK K hb hS2 Ns1_1 hn1
  try simp only [Act.put, List.setIfInBounds_toArray, List.set_cons_zero, List.set_cons_succ, List.getElem_toArray, List.getElem_cons_succ, List.getElem_cons_zero]
  refine wpAnyH_ready (rs := [10]) (by kernel_rfl) (by simp) ?_
  refine AllReadyH.cons rfl (fun K hK => ?_) AllReadyH.nil
  go_simp
  refine (Ccr.out _ _ _ (Ns1_2.out) (Ns2_2.out)).mono ?_
  rintro e wh3 ⟨vcr, rfl, hn1, hb⟩
  have Ns1_3 := (show Hid (Num wh3 vs1 s1) from Ns1_2.out.below hb)
  have Ns2_3 := (show Hid (Num wh3 vs2 s2) from Ns2_2.out.below hb)
  have Ncr_3 := (show Hid (Num wh3 vcr cr) from hn1)
  have hS2 : Below w6.heap.size w6 wh3 := hS.trans (hb.mono hS.size)
  refine hK.out _ _ hS2 (fun hS => ?_)
  clear hK K hb hS2 Ns1_2 Ns2_2 hn1
  try simp only [Act.put, List.setIfInBounds_toArray, List.set_cons_zero, List.set_cons_succ, List.getElem_toArray, List.getElem_cons_succ, List.getElem_cons_zero]
  refine wpAnyH_ready (rs := [11]) (by kernel_rfl) (by simp) ?_
  refine AllReadyH.cons rfl (fun K hK => ?_) AllReadyH.nil
  go_simp
  refine hK.out _ _ hS (fun hS => ?_)
  clear hK K
  try simp only [Act.put, List.setIfInBounds_toArray, List.set_cons_zero, List.set_cons_succ, List.getElem_toArray, List.getElem_cons_succ, List.getElem_cons_zero]
  refine wpAnyH_done (by kernel_rfl) ?_ _
  have HBF := (show Hid _ from HB2.out.trans (hS.mono HB2.out.size))
  have AOq := (show Hid (Ao w.heap.size wh3 (n + 2) 3) from AO.out.below hS)
  have BZq := (show Hid (Bz wh3 (n + 2)) from BZ.out.below hS)
  have Nzwq := (show Hid (Num wh3 vzw zw) from Nzw.out.below hS)
  have Nfq := (show Hid (Num wh3 vf f) from Nf.out.below hS)
  have Nxuq := (show Hid (Num wh3 vxu xu) from Nxu.out.below hS)
  have Nyvq := (show Hid (Num wh3 vyv yv) from Nyv.out.below hS)
  have Neeq := (show Hid (Num wh3 vee ee) from Nee.out.below hS)
  have Ncrq := Ncr_3
  clear BP BQ AO BZ NPX NPY NPZ NQX NQY NQZ ND Nzw Nf Nxu Nyv Nm Nee Ns1_3 Ns2_3 Ncr_3 hS HB2
  have AOq_z0 := AOq
  have BZq_z0 := BZq
  have Nzwq_z0 := Nzwq
  have Nfq_z0 := Nfq
  have Nxuq_z0 := Nxuq
  have Nyvq_z0 := Nyvq
  have Neeq_z0 := Neeq
  have Ncrq_z0 := Ncrq
  have HB_z0 := (show Hid (Below wh3.heap.size wh3 wh3) from Below.refl _ _)
  have TK_z0 := (show Hid True from trivial)
  clear AOq BZq Nzwq Nfq Nxuq Nyvq Neeq Ncrq
  go_wp2_with (first
    | (have hq := TK_z0; go_at_call 19; refine (Cle.out _ _ _ (Nfq_z0.out) (Neeq_z0.out)).mono ?_; rintro e zw1 ⟨vle, rfl, hn1, hb⟩; have HB_z1 := (show Hid (Below wh3.heap.size wh3 zw1) from HB_z0.out.trans (hb.mono HB_z0.out.size)); have AOq_z1 := (show Hid (Ao w.heap.size zw1 (n + 2) 3) from AOq_z0.out.below hb); have BZq_z1 := (show Hid (Bz zw1 (n + 2)) from BZq_z0.out.below hb); have Nzwq_z1 := (show Hid (Num zw1 vzw zw) from Nzwq_z0.out.below hb); have Nfq_z1 := (show Hid (Num zw1 vf f) from Nfq_z0.out.below hb); have Nxuq_z1 := (show Hid (Num zw1 vxu xu) from Nxuq_z0.out.below hb); have Nyvq_z1 := (show Hid (Num zw1 vyv yv) from Nyvq_z0.out.below hb); have Neeq_z1 := (show Hid (Num zw1 vee ee) from Neeq_z0.out.below hb); have Ncrq_z1 := (show Hid (Num zw1 vcr cr) from Ncrq_z0.out.below hb); have Nle_z1 := (show Hid (Num zw1 vle le) from hn1); have TK_z1 := (show Hid True from trivial); clear hq TK_z0 hb HB_z0 AOq_z0 BZq_z0 Nzwq_z0 Nfq_z0 Nxuq_z0 Nyvq_z0 Neeq_z0 Ncrq_z0 hn1)
    | (have hq := TK_z1; go_at_call 17; refine (Cmo.out _ _ _ (Nfq_z1.out) (Neeq_z1.out)).mono ?_; rintro e zw2 ⟨vmo, rfl, hn1, hb⟩; have HB_z2 := (show Hid (Below wh3.heap.size wh3 zw2) from HB_z1.out.trans (hb.mono HB_z1.out.size)); have AOq_z2 := (show Hid (Ao w.heap.size zw2 (n + 2) 3) from AOq_z1.out.below hb); have BZq_z2 := (show Hid (Bz zw2 (n + 2)) from BZq_z1.out.below hb); have Nzwq_z2 := (show Hid (Num zw2 vzw zw) from Nzwq_z1.out.below hb); have Nfq_z2 := (show Hid (Num zw2 vf f) from Nfq_z1.out.below hb); have Nxuq_z2 := (show Hid (Num zw2 vxu xu) from Nxuq_z1.out.below hb); have Nyvq_z2 := (show Hid (Num zw2 vyv yv) from Nyvq_z1.out.below hb); have Neeq_z2 := (show Hid (Num zw2 vee ee) from Neeq_z1.out.below hb); have Ncrq_z2 := (show Hid (Num zw2 vcr cr) from Ncrq_z1.out.below hb); have Nle_z2 := (show Hid (Num zw2 vle le) from Nle_z1.out.below hb); have Nmo_z2 := (show Hid (Num zw2 vmo mo) from hn1); have TK_z2 := (show Hid True from trivial); clear hq TK_z1 hb HB_z1 AOq_z1 BZq_z1 Nzwq_z1 Nfq_z1 Nxuq_z1 Nyvq_z1 Neeq_z1 Ncrq_z1 Nle_z1 hn1)
    | (have hq := TK_z2; go_at_call 21; refine (Ct1.out _ _ _ (Nzwq_z2.out) (Nle_z2.out)).mono ?_; rintro e zw3 ⟨vt1, rfl, hn1, hb⟩; have HB_z3 := (show Hid (Below wh3.heap.size wh3 zw3) from HB_z2.out.trans (hb.mono HB_z2.out.size)); have AOq_z3 := (show Hid (Ao w.heap.size zw3 (n + 2) 3) from AOq_z2.out.below hb); have BZq_z3 := (show Hid (Bz zw3 (n + 2)) from BZq_z2.out.below hb); have Nzwq_z3 := (show Hid (Num zw3 vzw zw) from Nzwq_z2.out.below hb); have Nfq_z3 := (show Hid (Num zw3 vf f) from Nfq_z2.out.below hb); have Nxuq_z3 := (show Hid (Num zw3 vxu xu) from Nxuq_z2.out.below hb); have Nyvq_z3 := (show Hid (Num zw3 vyv yv) from Nyvq_z2.out.below hb); have Neeq_z3 := (show Hid (Num zw3 vee ee) from Neeq_z2.out.below hb); have Ncrq_z3 := (show Hid (Num zw3 vcr cr) from Ncrq_z2.out.below hb); have Nle_z3 := (show Hid (Num zw3 vle le) from Nle_z2.out.below hb); have Nmo_z3 := (show Hid (Num zw3 vmo mo) from Nmo_z2.out.below hb); have Nt1_z3 := (show Hid (Num zw3 vt1 t1) from hn1); have TK_z3 := (show Hid True from trivial); clear hq TK_z2 hb HB_z2 AOq_z2 BZq_z2 Nzwq_z2 Nfq_z2 Nxuq_z2 Nyvq_z2 Neeq_z2 Ncrq_z2 Nle_z2 Nmo_z2 hn1)
    | (have hq := TK_z3; go_at_call 21; refine (CX.out _ _ _ (Nt1_z3.out) (Ncrq_z3.out)).mono ?_; rintro e zw4 ⟨vX, rfl, hn1, hb⟩; have HB_z4 := (show Hid (Below wh3.heap.size wh3 zw4) from HB_z3.out.trans (hb.mono HB_z3.out.size)); have AOq_z4 := (show Hid (Ao w.heap.size zw4 (n + 2) 3) from AOq_z3.out.below hb); have BZq_z4 := (show Hid (Bz zw4 (n + 2)) from BZq_z3.out.below hb); have Nzwq_z4 := (show Hid (Num zw4 vzw zw) from Nzwq_z3.out.below hb); have Nfq_z4 := (show Hid (Num zw4 vf f) from Nfq_z3.out.below hb); have Nxuq_z4 := (show Hid (Num zw4 vxu xu) from Nxuq_z3.out.below hb); have Nyvq_z4 := (show Hid (Num zw4 vyv yv) from Nyvq_z3.out.below hb); have Neeq_z4 := (show Hid (Num zw4 vee ee) from Neeq_z3.out.below hb); have Ncrq_z4 := (show Hid (Num zw4 vcr cr) from Ncrq_z3.out.below hb); have Nle_z4 := (show Hid (Num zw4 vle le) from Nle_z3.out.below hb); have Nmo_z4 := (show Hid (Num zw4 vmo mo) from Nmo_z3.out.below hb); have Nt1_z4 := (show Hid (Num zw4 vt1 t1) from Nt1_z3.out.below hb); have NX_z4 := (show Hid (Num zw4 vX X) from hn1); have TK_z4 := (show Hid True from trivial); clear hq TK_z3 hb HB_z3 AOq_z3 BZq_z3 Nzwq_z3 Nfq_z3 Nxuq_z3 Nyvq_z3 Neeq_z3 Ncrq_z3 Nle_z3 Nmo_z3 Nt1_z3 hn1)
    | (have hq := TK_z4; go_at_call 21; refine (Ct2.out _ _ _ (Nzwq_z4.out) (Nmo_z4.out)).mono ?_; rintro e zw5 ⟨vt2, rfl, hn1, hb⟩; have HB_z5 := (show Hid (Below wh3.heap.size wh3 zw5) from HB_z4.out.trans (hb.mono HB_z4.out.size)); have AOq_z5 := (show Hid (Ao w.heap.size zw5 (n + 2) 3) from AOq_z4.out.below hb); have BZq_z5 := (show Hid (Bz zw5 (n + 2)) from BZq_z4.out.below hb); have Nzwq_z5 := (show Hid (Num zw5 vzw zw) from Nzwq_z4.out.below hb); have Nfq_z5 := (show Hid (Num zw5 vf f) from Nfq_z4.out.below hb); have Nxuq_z5 := (show Hid (Num zw5 vxu xu) from Nxuq_z4.out.below hb); have Nyvq_z5 := (show Hid (Num zw5 vyv yv) from Nyvq_z4.out.below hb); have Neeq_z5 := (show Hid (Num zw5 vee ee) from Neeq_z4.out.below hb); have Ncrq_z5 := (show Hid (Num zw5 vcr cr) from Ncrq_z4.out.below hb); have Nle_z5 := (show Hid (Num zw5 vle le) from Nle_z4.out.below hb); have Nmo_z5 := (show Hid (Num zw5 vmo mo) from Nmo_z4.out.below hb); have Nt1_z5 := (show Hid (Num zw5 vt1 t1) from Nt1_z4.out.below hb); have NX_z5 := (show Hid (Num zw5 vX X) from NX_z4.out.below hb); have Nt2_z5 := (show Hid (Num zw5 vt2 t2) from hn1); have TK_z5 := (show Hid True from trivial); clear hq TK_z4 hb HB_z4 AOq_z4 BZq_z4 Nzwq_z4 Nfq_z4 Nxuq_z4 Nyvq_z4 Neeq_z4 Ncrq_z4 Nle_z4 Nmo_z4 Nt1_z4 NX_z4 hn1)
    | (have hq := TK_z5; go_at_call 17; refine (Ct3.out _ _ _ (Nyvq_z5.out) (Nxuq_z5.out)).mono ?_; rintro e zw6 ⟨vt3, rfl, hn1, hb⟩; have HB_z6 := (show Hid (Below wh3.heap.size wh3 zw6) from HB_z5.out.trans (hb.mono HB_z5.out.size)); have AOq_z6 := (show Hid (Ao w.heap.size zw6 (n + 2) 3) from AOq_z5.out.below hb); have BZq_z6 := (show Hid (Bz zw6 (n + 2)) from BZq_z5.out.below hb); have Nzwq_z6 := (show Hid (Num zw6 vzw zw) from Nzwq_z5.out.below hb); have Nfq_z6 := (show Hid (Num zw6 vf f) from Nfq_z5.out.below hb); have Nxuq_z6 := (show Hid (Num zw6 vxu xu) from Nxuq_z5.out.below hb); have Nyvq_z6 := (show Hid (Num zw6 vyv yv) from Nyvq_z5.out.below hb); have Neeq_z6 := (show Hid (Num zw6 vee ee) from Neeq_z5.out.below hb); have Ncrq_z6 := (show Hid (Num zw6 vcr cr) from Ncrq_z5.out.below hb); have Nle_z6 := (show Hid (Num zw6 vle le) from Nle_z5.out.below hb); have Nmo_z6 := (show Hid (Num zw6 vmo mo) from Nmo_z5.out.below hb); have Nt1_z6 := (show Hid (Num zw6 vt1 t1) from Nt1_z5.out.below hb); have NX_z6 := (show Hid (Num zw6 vX X) from NX_z5.out.below hb); have Nt2_z6 := (show Hid (Num zw6 vt2 t2) from Nt2_z5.out.below hb); have Nt3_z6 := (show Hid (Num zw6 vt3 t3) from hn1); have TK_z6 := (show Hid True from trivial); clear hq TK_z5 hb HB_z5 AOq_z5 BZq_z5 Nzwq_z5 Nfq_z5 Nxuq_z5 Nyvq_z5 Neeq_z5 Ncrq_z5 Nle_z5 Nmo_z5 Nt1_z5 NX_z5 Nt2_z5 hn1)
    | (have hq := TK_z6; go_at_call 21; refine (CY.out _ _ _ (Nt2_z6.out) (Nt3_z6.out)).mono ?_; rintro e zw7 ⟨vY, rfl, hn1, hb⟩; have HB_z7 := (show Hid (Below wh3.heap.size wh3 zw7) from HB_z6.out.trans (hb.mono HB_z6.out.size)); have AOq_z7 := (show Hid (Ao w.heap.size zw7 (n + 2) 3) from AOq_z6.out.below hb); have BZq_z7 := (show Hid (Bz zw7 (n + 2)) from BZq_z6.out.below hb); have Nzwq_z7 := (show Hid (Num zw7 vzw zw) from Nzwq_z6.out.below hb); have Nfq_z7 := (show Hid (Num zw7 vf f) from Nfq_z6.out.below hb); have Nxuq_z7 := (show Hid (Num zw7 vxu xu) from Nxuq_z6.out.below hb); have Nyvq_z7 := (show Hid (Num zw7 vyv yv) from Nyvq_z6.out.below hb); have Neeq_z7 := (show Hid (Num zw7 vee ee) from Neeq_z6.out.below hb); have Ncrq_z7 := (show Hid (Num zw7 vcr cr) from Ncrq_z6.out.below hb); have Nle_z7 := (show Hid (Num zw7 vle le) from Nle_z6.out.below hb); have Nmo_z7 := (show Hid (Num zw7 vmo mo) from Nmo_z6.out.below hb); have Nt1_z7 := (show Hid (Num zw7 vt1 t1) from Nt1_z6.out.below hb); have NX_z7 := (show Hid (Num zw7 vX X) from NX_z6.out.below hb); have Nt2_z7 := (show Hid (Num zw7 vt2 t2) from Nt2_z6.out.below hb); have Nt3_z7 := (show Hid (Num zw7 vt3 t3) from Nt3_z6.out.below hb); have NY_z7 := (show Hid (Num zw7 vY Y) from hn1); have TK_z7 := (show Hid True from trivial); clear hq TK_z6 hb HB_z6 AOq_z6 BZq_z6 Nzwq_z6 Nfq_z6 Nxuq_z6 Nyvq_z6 Neeq_z6 Ncrq_z6 Nle_z6 Nmo_z6 Nt1_z6 NX_z6 Nt2_z6 Nt3_z6 hn1)
    | (have hq := TK_z7; go_at_call 21; refine (CZ.out _ _ _ (Nle_z7.out) (Nmo_z7.out)).mono ?_; rintro e zw8 ⟨vZ, rfl, hn1, hb⟩; have HB_z8 := (show Hid (Below wh3.heap.size wh3 zw8) from HB_z7.out.trans (hb.mono HB_z7.out.size)); have AOq_z8 := (show Hid (Ao w.heap.size zw8 (n + 2) 3) from AOq_z7.out.below hb); have BZq_z8 := (show Hid (Bz zw8 (n + 2)) from BZq_z7.out.below hb); have Nzwq_z8 := (show Hid (Num zw8 vzw zw) from Nzwq_z7.out.below hb); have Nfq_z8 := (show Hid (Num zw8 vf f) from Nfq_z7.out.below hb); have Nxuq_z8 := (show Hid (Num zw8 vxu xu) from Nxuq_z7.out.below hb); have Nyvq_z8 := (show Hid (Num zw8 vyv yv) from Nyvq_z7.out.below hb); have Neeq_z8 := (show Hid (Num zw8 vee ee) from Neeq_z7.out.below hb); have Ncrq_z8 := (show Hid (Num zw8 vcr cr) from Ncrq_z7.out.below hb); have Nle_z8 := (show Hid (Num zw8 vle le) from Nle_z7.out.below hb); have Nmo_z8 := (show Hid (Num zw8 vmo mo) from Nmo_z7.out.below hb); have Nt1_z8 := (show Hid (Num zw8 vt1 t1) from Nt1_z7.out.below hb); have NX_z8 := (show Hid (Num zw8 vX X) from NX_z7.out.below hb); have Nt2_z8 := (show Hid (Num zw8 vt2 t2) from Nt2_z7.out.below hb); have Nt3_z8 := (show Hid (Num zw8 vt3 t3) from Nt3_z7.out.below hb); have NY_z8 := (show Hid (Num zw8 vY Y) from NY_z7.out.below hb); have NZ_z8 := (show Hid (Num zw8 vZ Z) from hn1); have TK_z8 := (show Hid True from trivial); clear hq TK_z7 hb HB_z7 AOq_z7 BZq_z7 Nzwq_z7 Nfq_z7 Nxuq_z7 Nyvq_z7 Neeq_z7 Ncrq_z7 Nle_z7 Nmo_z7 Nt1_z7 NX_z7 Nt2_z7 Nt3_z7 NY_z7 hn1; obtain ⟨AX, mX, cX, eX⟩ := NX_z8.out.sl; obtain ⟨AY, mY, cY, eY⟩ := NY_z8.out.sl; obtain ⟨AZ, mZ, cZ, eZ⟩ := NZ_z8.out.sl; subst eX; subst eY; subst eZ)
    | (refine build_to rfl 54 _ rfl (some 74) rfl [(0, .slice AX mX cX), (1, .slice AY mY cY), (2, .slice AZ mZ cZ)] (by kernel_rfl) [.slice AX mX cX, .slice AY mY cY, .slice AZ mZ cZ] (build54 ..) ?_; simp only [Act.put, List.setIfInBounds_toArray, List.set_cons_zero, List.set_cons_succ])
    | (refine wpList_store_mid rfl 54 (.tmp 6) (.tmp 74) rfl (n + 2) 0 ([.slice AX mX cX, .slice AY mY cY, .slice AZ mZ cZ] : List Value).toArray rfl rfl AOq_z8.out.2.2 info54 (one54 ..) ?_; simp only))
  exact bodyPost_ret (results_cell Try.results38 rfl (run_loadVar_mid (P := Try.prog) _ (n + 2) 0 54 [.slice AX mX cX, .slice AY mY cY, .slice AZ mZ cZ] _ (World.rangeAt_setCells_same _ _ _ _ AOq_z8.out.2.2) Try.underlying54 rfl info54)) rfl ⟨_, _, _, rfl, ⟨NX_z8.out.setz BZq_z8.out _, NY_z8.out.setz BZq_z8.out _, NZ_z8.out.setz BZq_z8.out _⟩, below_setCells (HBF.out.trans (HB_z8.out.mono HBF.out.size)) AOq_z8.out.1⟩
end Dt
end Go.Proofs.Ytgdekigdbbldoaa

namespace Go.Proofs.Ytgdekigdbbldoaa
open Go.RowKit
namespace Dt
open Rg Go.Proofs.Ytgdekigdbbldoaa.Fd

theorem Bz.sets {w : World} {b : Nat} (h : Bz w b) (A1 A2 A3 : Option Addr) (m1 m2 m3 c1 c2 c3 : Nat) (ht : w.there b 0 3) : Bz (w.setCells b 0 [.slice A1 m1 c1, .slice A2 m2 c2, .slice A3 m3 c3]) b := by
  have hr := World.rangeAt_setCells_same w b 0 [.slice A1 m1 c1, .slice A2 m2 c2, .slice A3 m3 c3] ht
  refine ⟨fun j x e => ?_, by rw [size_setCells]; exact h.l⟩
  match j with
  | 0 => have h2 := hr 0 _ rfl; rw [Nat.zero_add] at h2; rw [h2] at e; cases e
  | 1 => have h2 := hr 1 _ rfl; rw [Nat.zero_add] at h2; rw [h2] at e; cases e
  | 2 => have h2 := hr 2 _ rfl; rw [Nat.zero_add] at h2; rw [h2] at e; cases e
  | i + 3 =>
    rw [cell_setCells_out _ _ _ (.inr (by simp))] at e
    exact h.c _ _ e
/-- A box of a point, and the answer's, of three parts. -/
theorem startp54 (w : World) (X Y : List Value) (hX : X.length = 32) :
    let e := (w.alloc (.cells (X ++ Y).toArray 43)).alloc (.cells z54 54)
    Rp e w.heap.size 0 X ∧ Rp e w.heap.size 32 Y ∧ Ao w.heap.size e (w.heap.size + 1) 3 ∧ Bz e (w.heap.size + 1) ∧ Below w.heap.size w e := by
  intro e
  have s1 : (w.alloc (.cells (X ++ Y).toArray 43)).heap.size = w.heap.size + 1 := size_alloc _ _
  have s2 : e.heap.size = w.heap.size + 2 := by show (World.alloc _ _).heap.size = _; rw [size_alloc, s1]
  have ht := there54 (w.alloc (.cells (X ++ Y).toArray 43))
  have hz := bz_new (w.alloc (.cells (X ++ Y).toArray 43))
  rw [s1] at ht hz
  have r1 : e.rangeAt w.heap.size 0 (X ++ Y) := World.rangeAt_alloc (Rg.range_new w (X ++ Y) 43) _
  have r2 := range_right (m := 32) r1 hX
  rw [Nat.zero_add] at r2
  exact ⟨⟨range_left r1, by omega⟩, ⟨r2, by omega⟩, ⟨by omega, by omega, ht⟩, hz, ((Below.refl _ _).alloc (Nat.le_refl _) _).alloc (by simp) _⟩
set_option maxHeartbeats 1000000 in
set_option maxRecDepth 4000 in
theorem rin_any (x y : Nat) (w : World) (hx : x < 115792089237316195423570985008687907853269984665640564039457584007913129639936) (hy : y < 115792089237316195423570985008687907853269984665640564039457584007913129639936) :
    Calls Try.prog 39 #[pv x y] w fun e w' => ∃ rx ry rz, e = .returned (.agg #[rx, ry, rz]) ∧ (Num w' rx (x % p) ∧ Num w' ry (y % p) ∧ Num w' rz 1) ∧ Below w.heap.size w w' := by
  have CX : Hid (∀ W : World, Calls Try.prog 14 #[.agg (bvc x).toArray] W fun e w' => ∃ A m c, e = .returned (.slice A m c) ∧ Num w' (.slice A m c) (x % p) ∧ Below W.heap.size W w') := fun W => (in_any x W (two256' hx)).mono fun e w' ⟨r, h1, h2, h3⟩ => by
    obtain ⟨A, m, c, rfl⟩ := h2.sl
    exact ⟨A, m, c, h1, h2, h3⟩
  have CY : Hid (∀ W : World, Calls Try.prog 14 #[.agg (bvc y).toArray] W fun e w' => ∃ A m c, e = .returned (.slice A m c) ∧ Num w' (.slice A m c) (y % p) ∧ Below W.heap.size W w') := fun W => (in_any y W (two256' hy)).mono fun e w' ⟨r, h1, h2, h3⟩ => by
    obtain ⟨A, m, c, rfl⟩ := h2.sl
    exact ⟨A, m, c, h1, h2, h3⟩
  unfold pv
  have LX : Hid (L32 (bvc x)) := l32 x
  have LY : Hid (L32 (bvc y)) := l32 y
  have HS := (show Hid _ from startp54 w (bvc x) (bvc y) (bvc_len x))
  obtain ⟨V, hV⟩ : ∃ Z, bvc x ++ bvc y = Z := ⟨_, rfl⟩
  rw [hV] at HS ⊢
  obtain ⟨X, hX⟩ : ∃ Z, bvc x = Z := ⟨_, rfl⟩
  rw [hX] at CX LX HS
  obtain ⟨Y, hY⟩ : ∃ Z, bvc y = Z := ⟨_, rfl⟩
  rw [hY] at CY LY HS
  obtain ⟨a, ha⟩ : ∃ a, x % p = a := ⟨_, rfl⟩
  obtain ⟨c, hc⟩ : ∃ a, y % p = a := ⟨_, rfl⟩
  rw [ha] at CX ⊢
  rw [hc] at CY ⊢
  clear hV hX hY ha hc hx hy x y
  have hz2 := zero54
  obtain ⟨Z54, hZ2⟩ : ∃ Z, z54 = Z := ⟨_, rfl⟩
  rw [hZ2] at hz2 HS
  clear hZ2
  obtain ⟨n, hn⟩ : ∃ n, w.heap.size = n := ⟨_, rfl⟩
  have HN : Hid (w.heap.size = n) := hn
  obtain ⟨we, hwe⟩ : ∃ v, (w.alloc (.cells V.toArray 43)).alloc (.cells Z54 54) = v := ⟨_, rfl⟩
  have BX : Hid (Rp we n 0 X) := by have h := HS.out.1; rw [hwe, HN.out] at h; exact h
  have BY : Hid (Rp we n 32 Y) := by have h := HS.out.2.1; rw [hwe, HN.out] at h; exact h
  have AO : Hid (Ao w.heap.size we (n + 1) 3) := by have h := HS.out.2.2.1; rw [hwe] at h; show Ao _ _ _ _; rw [HN.out] at h ⊢; exact h
  have BZ : Hid (Bz we (n + 1)) := by have h := HS.out.2.2.2.1; rw [hwe, HN.out] at h; exact h
  have HBE : Hid (Below w.heap.size w we) := by have h := HS.out.2.2.2.2; rw [hwe] at h; exact h
  clear HS
  go_enter Try.func39, Try.ntmps39
  go_wp2
  clear hwe
  refine wp_region_held_drew (S := fun w' => Below w.heap.size w w' ∧ Rp w' n 0 X ∧ Rp w' n 32 Y ∧ Ao w.heap.size w' (n + 1) 3 ∧ Bz w' (n + 1)) (by kernel_rfl) ⟨HBE.out.trans ((drewB we).mono HBE.out.size), BX.out.below (drewB we), BY.out.below (drewB we), AO.out.below (drewB we), BZ.out.below (drewB we)⟩ (fun hS => ?_)
  obtain ⟨wd, hwd⟩ : ∃ v, World.drew we = v := ⟨_, rfl⟩
  rw [hwd] at hS  ⊢
  clear hwd
  refine wpAnyH_take (i := 0) (v := .pointer (some ⟨n, 0, none⟩)) rfl (by kernel_rfl) (by kernel_rfl) (by kernel_rfl) (fun _ _ _ h => h) (Or.inl ⟨by kernel_rfl, fun wq hS => by go_simp⟩) hS ?_
  try simp only [Act.put, List.setIfInBounds_toArray, List.set_cons_zero, List.set_cons_succ, List.getElem_toArray, List.getElem_cons_zero]
  refine wpAnyH_take (i := 1) (v := .agg X.toArray) rfl (by kernel_rfl) (by kernel_rfl) (by kernel_rfl) (fun _ _ _ h => h) (yieldsIf_load_mid (by kernel_rfl) 22 (.tmp 3) rfl n 0 rfl X _ (fun wq hq => hq.2.1.1) Try.underlying22 rfl LX.out.i) hS ?_
  try simp only [Act.put, List.setIfInBounds_toArray, List.set_cons_zero, List.set_cons_succ, List.getElem_toArray, List.getElem_cons_succ, List.getElem_cons_zero]
  refine wpAnyH_take (i := 3) (v := .pointer (some ⟨n, 32, none⟩)) rfl (by kernel_rfl) (by kernel_rfl) (by kernel_rfl) (fun _ _ _ h => h) (Or.inl ⟨by kernel_rfl, fun wq hS => by go_simp⟩) hS ?_
  try simp only [Act.put, List.setIfInBounds_toArray, List.set_cons_zero, List.set_cons_succ, List.getElem_toArray, List.getElem_cons_succ, List.getElem_cons_zero]
  refine wpAnyH_take (i := 4) (v := .agg Y.toArray) rfl (by kernel_rfl) (by kernel_rfl) (by kernel_rfl) (fun _ _ _ h => h) (yieldsIf_load_mid (by kernel_rfl) 22 (.tmp 6) rfl n 32 rfl Y _ (fun wq hq => hq.2.2.1.1) Try.underlying22 rfl LY.out.i) hS ?_
  try simp only [Act.put, List.setIfInBounds_toArray, List.set_cons_zero, List.set_cons_succ, List.getElem_toArray, List.getElem_cons_succ, List.getElem_cons_zero]
  refine wpAnyH_ready (rs := [2, 6]) (by kernel_rfl) (by simp) ?_
  refine AllReadyH.cons rfl (fun K hK => ?_) (AllReadyH.cons rfl (fun K hK => ?_) AllReadyH.nil)
  · go_simp
    refine (CX.out _).mono ?_
    rintro e wh1 ⟨xa, xm, xc, rfl, hn1, hb⟩
    have NX_1 := (show Hid (Num wh1 (.slice xa xm xc) a) from hn1)
    refine hK.out _ _ ⟨hS.1.trans (hb.mono hS.1.size), hS.2.1.below hb, hS.2.2.1.below hb, hS.2.2.2.1.below hb, hS.2.2.2.2.below hb⟩ (fun hS => ?_)
    clear hK K hb  hn1
    try simp only [Act.put, List.setIfInBounds_toArray, List.set_cons_zero, List.set_cons_succ, List.getElem_toArray, List.getElem_cons_succ, List.getElem_cons_zero]
    refine wpAnyH_ready (rs := [5, 6]) (by kernel_rfl) (by simp) ?_
    refine AllReadyH.cons rfl (fun K hK => ?_) (AllReadyH.cons rfl (fun K hK => ?_) AllReadyH.nil)
    · go_simp
      refine (CY.out _).mono ?_
      rintro e wh2 ⟨ya, ym, yc, rfl, hn1, hb⟩
      have NX_2 := (show Hid (Num wh2 (.slice xa xm xc) a) from NX_1.out.below hb)
      have NY_2 := (show Hid (Num wh2 (.slice ya ym yc) c) from hn1)
      refine hK.out _ _ ⟨hS.1.trans (hb.mono hS.1.size), hS.2.1.below hb, hS.2.2.1.below hb, hS.2.2.2.1.below hb, hS.2.2.2.2.below hb⟩ (fun hS => ?_)
      clear hK K hb NX_1 hn1
      try simp only [Act.put, List.setIfInBounds_toArray, List.set_cons_zero, List.set_cons_succ, List.getElem_toArray, List.getElem_cons_succ, List.getElem_cons_zero]
      refine wpAnyH_ready (rs := [6]) (by kernel_rfl) (by simp) ?_
      refine AllReadyH.cons rfl (fun K hK => ?_) AllReadyH.nil
      go_simp
      have NL_3 := (show Hid (Num (wh2.alloc (.cells #[.int .i64 1] 3)) (.slice (some ⟨wh2.heap.size, 0, none⟩) 1 1) 1) from lit_num wh2 1 (by decide) (by decide))
      have hb : Below wh2.heap.size wh2 (wh2.alloc (.cells #[.int .i64 1] 3)) := (Below.refl _ _).alloc (Nat.le_refl _) _
      have NX_3 := (show Hid (Num (wh2.alloc (.cells #[.int .i64 1] 3)) (.slice xa xm xc) a) from NX_2.out.below hb)
      have NY_3 := (show Hid (Num (wh2.alloc (.cells #[.int .i64 1] 3)) (.slice ya ym yc) c) from NY_2.out.below hb)
      refine hK.out _ _ ⟨hS.1.trans (hb.mono hS.1.size), hS.2.1.below hb, hS.2.2.1.below hb, hS.2.2.2.1.below hb, hS.2.2.2.2.below hb⟩ (fun hS => ?_)
      clear hK K hb NX_2 NY_2
      try simp only [Act.put, List.setIfInBounds_toArray, List.set_cons_zero, List.set_cons_succ, List.getElem_toArray, List.getElem_cons_succ, List.getElem_cons_zero]
      obtain ⟨wh3, hwh3⟩ : ∃ v, wh2.alloc (.cells #[.int .i64 1] 3) = v := ⟨_, rfl⟩
      rw [hwh3] at NX_3 NY_3 NL_3 hS ⊢
      obtain ⟨blNL, hblNL⟩ : ∃ b, wh2.heap.size = b := ⟨_, rfl⟩
      rw [hblNL] at NL_3 ⊢
      clear hblNL hwh3
      refine wpAnyH_take (i := 7) (v := .agg ([.slice xa xm xc, .slice ya ym yc, .slice (some ⟨blNL, 0, none⟩) 1 1] : List Value).toArray) rfl (by kernel_rfl) (by kernel_rfl) (by kernel_rfl) (fun _ _ _ h => h) (yieldsIf_build (by kernel_rfl) 54 _ rfl [(0, .slice xa xm xc), (1, .slice ya ym yc), (2, .slice (some ⟨blNL, 0, none⟩) 1 1)] (by kernel_rfl) [.slice xa xm xc, .slice ya ym yc, .slice (some ⟨blNL, 0, none⟩) 1 1] (build54 ..)) hS ?_
      try simp only [Act.put, List.setIfInBounds_toArray, List.set_cons_zero, List.set_cons_succ, List.getElem_toArray, List.getElem_cons_succ, List.getElem_cons_zero]
      refine wpAnyH_ready (rs := [8]) (by kernel_rfl) (by simp) ?_
      refine AllReadyH.cons rfl (fun K hK => ?_) AllReadyH.nil
      refine want_it (by kernel_rfl) ?_
      have AOF := (show Hid (Ao w.heap.size wh3 (n + 1) 3) from hS.2.2.2.1)
      have BZF := (show Hid (Bz wh3 (n + 1)) from hS.2.2.2.2)
      have HBF := (show Hid _ from hS.1)
      refine wp_store_mid 54 (.tmp 2) (.tmp 10) rfl (n + 1) 0 ([.slice xa xm xc, .slice ya ym yc, .slice (some ⟨blNL, 0, none⟩) 1 1] : List Value).toArray rfl rfl AOF.out.2.2 info54 (one54 ..) ?_
      simp only
      refine hK.out _ _ ⟨below_setCells hS.1 AOF.out.1, Rp.sets hS.2.1 (by omega) _ _, Rp.sets hS.2.2.1 (by omega) _ _, AOF.out.sets _ _ _, BZF.out.sets _ _ _ _ _ _ _ _ _ AOF.out.2.2⟩ (fun hS => ?_)
      clear hK K
      try simp only [Act.put, List.getElem_toArray, List.getElem_cons_succ, List.getElem_cons_zero]
      refine wpAnyH_done (by kernel_rfl) ?_ _
      go_wp2
      exact bodyPost_ret (results_cell Try.results39 rfl (run_loadVar_mid (P := Try.prog) _ (n + 1) 0 54 [.slice xa xm xc, .slice ya ym yc, .slice (some ⟨blNL, 0, none⟩) 1 1] _ (World.rangeAt_setCells_same _ _ _ _ AOF.out.2.2) Try.underlying54 rfl info54)) rfl ⟨_, _, _, rfl, ⟨NX_3.out.setz BZF.out _, NY_3.out.setz BZF.out _, NL_3.out.setz BZF.out _⟩, below_setCells HBF.out AOF.out.1⟩
    · go_simp
      have NL_2 := (show Hid (Num (wh1.alloc (.cells #[.int .i64 1] 3)) (.slice (some ⟨wh1.heap.size, 0, none⟩) 1 1) 1) from lit_num wh1 1 (by decide) (by decide))
      have hb : Below wh1.heap.size wh1 (wh1.alloc (.cells #[.int .i64 1] 3)) := (Below.refl _ _).alloc (Nat.le_refl _) _
      have NX_2 := (show Hid (Num (wh1.alloc (.cells #[.int .i64 1] 3)) (.slice xa xm xc) a) from NX_1.out.below hb)
      refine hK.out _ _ ⟨hS.1.trans (hb.mono hS.1.size), hS.2.1.below hb, hS.2.2.1.below hb, hS.2.2.2.1.below hb, hS.2.2.2.2.below hb⟩ (fun hS => ?_)
      clear hK K hb NX_1
      try simp only [Act.put, List.setIfInBounds_toArray, List.set_cons_zero, List.set_cons_succ, List.getElem_toArray, List.getElem_cons_succ, List.getElem_cons_zero]
      obtain ⟨wh2, hwh2⟩ : ∃ v, wh1.alloc (.cells #[.int .i64 1] 3) = v := ⟨_, rfl⟩
      rw [hwh2] at NX_2 NL_2 hS ⊢
      obtain ⟨blNL, hblNL⟩ : ∃ b, wh1.heap.size = b := ⟨_, rfl⟩
      rw [hblNL] at NL_2 ⊢
      clear hblNL hwh2
      refine wpAnyH_ready (rs := [5]) (by kernel_rfl) (by simp) ?_
      refine AllReadyH.cons rfl (fun K hK => ?_) AllReadyH.nil
      go_simp
      refine (CY.out _).mono ?_
      rintro e wh3 ⟨ya, ym, yc, rfl, hn1, hb⟩
      have NX_3 := (show Hid (Num wh3 (.slice xa xm xc) a) from NX_2.out.below hb)
      have NL_3 := (show Hid (Num wh3 (.slice (some ⟨blNL, 0, none⟩) 1 1) 1) from NL_2.out.below hb)
      have NY_3 := (show Hid (Num wh3 (.slice ya ym yc) c) from hn1)
      refine hK.out _ _ ⟨hS.1.trans (hb.mono hS.1.size), hS.2.1.below hb, hS.2.2.1.below hb, hS.2.2.2.1.below hb, hS.2.2.2.2.below hb⟩ (fun hS => ?_)
      clear hK K hb NX_2 NL_2 hn1
      try simp only [Act.put, List.setIfInBounds_toArray, List.set_cons_zero, List.set_cons_succ, List.getElem_toArray, List.getElem_cons_succ, List.getElem_cons_zero]
      refine wpAnyH_take (i := 7) (v := .agg ([.slice xa xm xc, .slice ya ym yc, .slice (some ⟨blNL, 0, none⟩) 1 1] : List Value).toArray) rfl (by kernel_rfl) (by kernel_rfl) (by kernel_rfl) (fun _ _ _ h => h) (yieldsIf_build (by kernel_rfl) 54 _ rfl [(0, .slice xa xm xc), (1, .slice ya ym yc), (2, .slice (some ⟨blNL, 0, none⟩) 1 1)] (by kernel_rfl) [.slice xa xm xc, .slice ya ym yc, .slice (some ⟨blNL, 0, none⟩) 1 1] (build54 ..)) hS ?_
      try simp only [Act.put, List.setIfInBounds_toArray, List.set_cons_zero, List.set_cons_succ, List.getElem_toArray, List.getElem_cons_succ, List.getElem_cons_zero]
      refine wpAnyH_ready (rs := [8]) (by kernel_rfl) (by simp) ?_
      refine AllReadyH.cons rfl (fun K hK => ?_) AllReadyH.nil
      refine want_it (by kernel_rfl) ?_
      have AOF := (show Hid (Ao w.heap.size wh3 (n + 1) 3) from hS.2.2.2.1)
      have BZF := (show Hid (Bz wh3 (n + 1)) from hS.2.2.2.2)
      have HBF := (show Hid _ from hS.1)
      refine wp_store_mid 54 (.tmp 2) (.tmp 10) rfl (n + 1) 0 ([.slice xa xm xc, .slice ya ym yc, .slice (some ⟨blNL, 0, none⟩) 1 1] : List Value).toArray rfl rfl AOF.out.2.2 info54 (one54 ..) ?_
      simp only
      refine hK.out _ _ ⟨below_setCells hS.1 AOF.out.1, Rp.sets hS.2.1 (by omega) _ _, Rp.sets hS.2.2.1 (by omega) _ _, AOF.out.sets _ _ _, BZF.out.sets _ _ _ _ _ _ _ _ _ AOF.out.2.2⟩ (fun hS => ?_)
      clear hK K
      try simp only [Act.put, List.getElem_toArray, List.getElem_cons_succ, List.getElem_cons_zero]
      refine wpAnyH_done (by kernel_rfl) ?_ _
      go_wp2
      exact bodyPost_ret (results_cell Try.results39 rfl (run_loadVar_mid (P := Try.prog) _ (n + 1) 0 54 [.slice xa xm xc, .slice ya ym yc, .slice (some ⟨blNL, 0, none⟩) 1 1] _ (World.rangeAt_setCells_same _ _ _ _ AOF.out.2.2) Try.underlying54 rfl info54)) rfl ⟨_, _, _, rfl, ⟨NX_3.out.setz BZF.out _, NY_3.out.setz BZF.out _, NL_3.out.setz BZF.out _⟩, below_setCells HBF.out AOF.out.1⟩
  · go_simp
    have NL_1 := (show Hid (Num (wd.alloc (.cells #[.int .i64 1] 3)) (.slice (some ⟨wd.heap.size, 0, none⟩) 1 1) 1) from lit_num wd 1 (by decide) (by decide))
    have hb : Below wd.heap.size wd (wd.alloc (.cells #[.int .i64 1] 3)) := (Below.refl _ _).alloc (Nat.le_refl _) _
    refine hK.out _ _ ⟨hS.1.trans (hb.mono hS.1.size), hS.2.1.below hb, hS.2.2.1.below hb, hS.2.2.2.1.below hb, hS.2.2.2.2.below hb⟩ (fun hS => ?_)
    clear hK K hb 
    try simp only [Act.put, List.setIfInBounds_toArray, List.set_cons_zero, List.set_cons_succ, List.getElem_toArray, List.getElem_cons_succ, List.getElem_cons_zero]
    obtain ⟨wh1, hwh1⟩ : ∃ v, wd.alloc (.cells #[.int .i64 1] 3) = v := ⟨_, rfl⟩
    rw [hwh1] at NL_1 hS ⊢
    obtain ⟨blNL, hblNL⟩ : ∃ b, wd.heap.size = b := ⟨_, rfl⟩
    rw [hblNL] at NL_1 ⊢
    clear hblNL hwh1
    refine wpAnyH_ready (rs := [2]) (by kernel_rfl) (by simp) ?_
    refine AllReadyH.cons rfl (fun K hK => ?_) AllReadyH.nil
    go_simp
    refine (CX.out _).mono ?_
    rintro e wh2 ⟨xa, xm, xc, rfl, hn1, hb⟩
    have NL_2 := (show Hid (Num wh2 (.slice (some ⟨blNL, 0, none⟩) 1 1) 1) from NL_1.out.below hb)
    have NX_2 := (show Hid (Num wh2 (.slice xa xm xc) a) from hn1)
    refine hK.out _ _ ⟨hS.1.trans (hb.mono hS.1.size), hS.2.1.below hb, hS.2.2.1.below hb, hS.2.2.2.1.below hb, hS.2.2.2.2.below hb⟩ (fun hS => ?_)
    clear hK K hb NL_1 hn1
    try simp only [Act.put, List.setIfInBounds_toArray, List.set_cons_zero, List.set_cons_succ, List.getElem_toArray, List.getElem_cons_succ, List.getElem_cons_zero]
    refine wpAnyH_ready (rs := [5]) (by kernel_rfl) (by simp) ?_
    refine AllReadyH.cons rfl (fun K hK => ?_) AllReadyH.nil
    go_simp
    refine (CY.out _).mono ?_
    rintro e wh3 ⟨ya, ym, yc, rfl, hn1, hb⟩
    have NL_3 := (show Hid (Num wh3 (.slice (some ⟨blNL, 0, none⟩) 1 1) 1) from NL_2.out.below hb)
    have NX_3 := (show Hid (Num wh3 (.slice xa xm xc) a) from NX_2.out.below hb)
    have NY_3 := (show Hid (Num wh3 (.slice ya ym yc) c) from hn1)
    refine hK.out _ _ ⟨hS.1.trans (hb.mono hS.1.size), hS.2.1.below hb, hS.2.2.1.below hb, hS.2.2.2.1.below hb, hS.2.2.2.2.below hb⟩ (fun hS => ?_)
    clear hK K hb NL_2 NX_2 hn1
    try simp only [Act.put, List.setIfInBounds_toArray, List.set_cons_zero, List.set_cons_succ, List.getElem_toArray, List.getElem_cons_succ, List.getElem_cons_zero]
    refine wpAnyH_take (i := 7) (v := .agg ([.slice xa xm xc, .slice ya ym yc, .slice (some ⟨blNL, 0, none⟩) 1 1] : List Value).toArray) rfl (by kernel_rfl) (by kernel_rfl) (by kernel_rfl) (fun _ _ _ h => h) (yieldsIf_build (by kernel_rfl) 54 _ rfl [(0, .slice xa xm xc), (1, .slice ya ym yc), (2, .slice (some ⟨blNL, 0, none⟩) 1 1)] (by kernel_rfl) [.slice xa xm xc, .slice ya ym yc, .slice (some ⟨blNL, 0, none⟩) 1 1] (build54 ..)) hS ?_
    try simp only [Act.put, List.setIfInBounds_toArray, List.set_cons_zero, List.set_cons_succ, List.getElem_toArray, List.getElem_cons_succ, List.getElem_cons_zero]
    refine wpAnyH_ready (rs := [8]) (by kernel_rfl) (by simp) ?_
    refine AllReadyH.cons rfl (fun K hK => ?_) AllReadyH.nil
    refine want_it (by kernel_rfl) ?_
    have AOF := (show Hid (Ao w.heap.size wh3 (n + 1) 3) from hS.2.2.2.1)
    have BZF := (show Hid (Bz wh3 (n + 1)) from hS.2.2.2.2)
    have HBF := (show Hid _ from hS.1)
    refine wp_store_mid 54 (.tmp 2) (.tmp 10) rfl (n + 1) 0 ([.slice xa xm xc, .slice ya ym yc, .slice (some ⟨blNL, 0, none⟩) 1 1] : List Value).toArray rfl rfl AOF.out.2.2 info54 (one54 ..) ?_
    simp only
    refine hK.out _ _ ⟨below_setCells hS.1 AOF.out.1, Rp.sets hS.2.1 (by omega) _ _, Rp.sets hS.2.2.1 (by omega) _ _, AOF.out.sets _ _ _, BZF.out.sets _ _ _ _ _ _ _ _ _ AOF.out.2.2⟩ (fun hS => ?_)
    clear hK K
    try simp only [Act.put, List.getElem_toArray, List.getElem_cons_succ, List.getElem_cons_zero]
    refine wpAnyH_done (by kernel_rfl) ?_ _
    go_wp2
    exact bodyPost_ret (results_cell Try.results39 rfl (run_loadVar_mid (P := Try.prog) _ (n + 1) 0 54 [.slice xa xm xc, .slice ya ym yc, .slice (some ⟨blNL, 0, none⟩) 1 1] _ (World.rangeAt_setCells_same _ _ _ _ AOF.out.2.2) Try.underlying54 rfl info54)) rfl ⟨_, _, _, rfl, ⟨NX_3.out.setz BZF.out _, NY_3.out.setz BZF.out _, NL_3.out.setz BZF.out _⟩, below_setCells HBF.out AOF.out.1⟩
end Dt
end Go.Proofs.Ytgdekigdbbldoaa
