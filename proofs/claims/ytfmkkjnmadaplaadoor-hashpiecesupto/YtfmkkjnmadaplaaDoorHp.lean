/- The two digests in plain mathematics, on words that are natural numbers. Nothing of the program. -/
import Derived.KernelRfl
import Derived.Laws.BitsAllLaws
namespace Go.Proofs.YtfmkkjnmadaplaaDoor
namespace Hs

/-- What the two digests don't share. -/
structure Kd where
  W : Nat
  sz : Nat
  rounds : Nat
  s0 : Nat × Nat × Nat
  s1 : Nat × Nat × Nat
  g0 : Nat × Nat × Nat
  g1 : Nat × Nat × Nat
def kn : Kd := ⟨32, 4, 64, (7, 18, 3), (17, 19, 10), (2, 13, 22), (6, 11, 25)⟩
def kw : Kd := ⟨64, 8, 80, (1, 8, 7), (19, 61, 6), (28, 34, 39), (14, 18, 41)⟩
def cube : List Nat := [4794697086780616226, 8158064640168781261, 13096744586834688815, 16840607885511220156, 4131703408338449720, 6480981068601479193, 10538285296894168987, 12329834152419229976, 15566598209576043074, 1334009975649890238, 2608012711638119052, 6128411473006802146, 8268148722764581231, 9286055187155687089, 11230858885718282805, 13951009754708518548, 16472876342353939154, 17275323862435702243, 1135362057144423861, 2597628984639134821, 3308224258029322869, 5365058923640841347, 6679025012923562964, 8573033837759648693, 10970295158949994411, 12119686244451234320, 12683024718118986047, 13788192230050041572, 14330467153632333762, 15395433587784984357, 489312712824947311, 1452737877330783856, 2861767655752347644, 3322285676063803686, 5560940570517711597, 5996557281743188959, 7280758554555802590, 8532644243296465576, 9350256976987008742, 10552545826968843579, 11727347734174303076, 12113106623233404929, 14000437183269869457, 14369950271660146224, 15101387698204529176, 15463397548674623760, 17586052441742319658, 1182934255886127544, 1847814050463011016, 2177327727835720531, 2830643537854262169, 3796741975233480872, 4115178125766777443, 5681478168544905931, 6601373596472566643, 7507060721942968483, 8399075790359081724, 8693463985226723168, 9568029438360202098, 10144078919501101548, 10430055236837252648, 11840083180663258601, 13761210420658862357, 14299343276471374635, 14566680578165727644, 15097957966210449927, 16922976911328602910, 17689382322260857208, 500013540394364858, 748580250866718886, 1242879168328830382, 1977374033974150939, 2944078676154940804, 3659926193048069267, 4368137639120453308, 4836135668995329356, 5532061633213252278, 6448918945643986474, 6902733635092675308, 7801388544844847127]
def square : List Nat := [7640891576956012808, 13503953896175478587, 4354685564936845355, 11912009170470909681, 5840696475078001361, 11170449401992604703, 2270897969802886507, 6620516959819538809]
def kc (K : Kd) (i : Nat) : Nat := cube.getD i 0 / 2 ^ (64 - K.W)
def h0 (K : Kd) : List Nat := square.map fun x => x / 2 ^ (64 - K.W)

def rot (W x n : Nat) : Nat := x / 2 ^ n ||| x * 2 ^ (W - n) % 2 ^ W
def gr (W x : Nat) (p : Nat × Nat × Nat) : Nat := rot W x p.1 ^^^ rot W x p.2.1 ^^^ rot W x p.2.2
def sm (W x : Nat) (p : Nat × Nat × Nat) : Nat := rot W x p.1 ^^^ rot W x p.2.1 ^^^ x / 2 ^ p.2.2
def chc (W e f g : Nat) : Nat := e &&& f ||| (2 ^ W - 1 - e) &&& g
def maj (a b c : Nat) : Nat := a &&& b ||| a &&& c ||| b &&& c

theorem rot_lt {W x n : Nat} (h : x < 2 ^ W) : rot W x n < 2 ^ W := by
  unfold rot
  exact Nat.or_lt_two_pow (Nat.lt_of_le_of_lt (Nat.div_le_self _ _) h) (Nat.mod_lt _ (Nat.two_pow_pos W))
theorem gr_lt {W x : Nat} {p : Nat × Nat × Nat} (h : x < 2 ^ W) : gr W x p < 2 ^ W := by
  unfold gr
  exact Nat.xor_lt_two_pow (Nat.xor_lt_two_pow (rot_lt h) (rot_lt h)) (rot_lt h)
theorem sm_lt {W x : Nat} {p : Nat × Nat × Nat} (h : x < 2 ^ W) : sm W x p < 2 ^ W := by
  unfold sm
  exact Nat.xor_lt_two_pow (Nat.xor_lt_two_pow (rot_lt h) (rot_lt h)) (Nat.lt_of_le_of_lt (Nat.div_le_self _ _) h)

theorem cube_lt (k : Nat) : cube.getD k 0 < 18446744073709551616 := by
  have h : ∀ x ∈ cube, x < 18446744073709551616 := by decide
  rw [List.getD_eq_getElem?_getD]
  rcases Nat.lt_or_ge k cube.length with hk | hk
  · rw [List.getElem?_eq_getElem hk]
    exact h _ (List.getElem_mem _)
  · rw [List.getElem?_eq_none hk]
    decide
theorem square_lt (k : Nat) : square.getD k 0 < 18446744073709551616 := by
  have h : ∀ x ∈ square, x < 18446744073709551616 := by decide
  rw [List.getD_eq_getElem?_getD]
  rcases Nat.lt_or_ge k square.length with hk | hk
  · rw [List.getElem?_eq_getElem hk]
    exact h _ (List.getElem_mem _)
  · rw [List.getElem?_eq_none hk]
    decide

/-! Bytes and words. -/
def be (bs : List UInt8) : Nat := bs.foldl (fun x b => x * 256 + b.toNat) 0
theorem be_snoc (bs : List UInt8) (b : UInt8) : be (bs ++ [b]) = be bs * 256 + b.toNat := by simp [be]
theorem foldl_lt : ∀ (bs : List UInt8) (x : Nat), bs.foldl (fun x b => x * 256 + b.toNat) x < (x + 1) * 256 ^ bs.length
  | [], x => by simp
  | b :: bs, x => by
    have h := foldl_lt bs (x * 256 + b.toNat)
    have hb := b.toNat_lt
    have h2 : (x * 256 + b.toNat + 1) * 256 ^ bs.length ≤ (x + 1) * 256 * 256 ^ bs.length := Nat.mul_le_mul_right _ (by omega)
    rw [List.foldl_cons, List.length_cons, Nat.pow_succ, Nat.mul_comm (256 ^ bs.length) 256, ← Nat.mul_assoc]
    exact Nat.lt_of_lt_of_le h h2
theorem be_lt (bs : List UInt8) : be bs < 256 ^ bs.length := by
  have := foldl_lt bs 0
  simpa [be] using this
def wordAt (K : Kd) (b : List UInt8) (i : Nat) : Nat := be ((b.drop (i * K.sz)).take K.sz)
def words (K : Kd) (b : List UInt8) (n : Nat) : List Nat := (List.range n).map (wordAt K b)
theorem words_len (K : Kd) (b : List UInt8) (n : Nat) : (words K b n).length = n := by simp [words]
theorem words_succ (K : Kd) (b : List UInt8) (n : Nat) : words K b (n + 1) = words K b n ++ [wordAt K b n] := by simp [words, List.range_succ]

/-! What is made of a block's words. -/
def nextW (K : Kd) (L : List Nat) : Nat :=
  (sm K.W (L.getD (L.length - 2) 0) K.s1 + L.getD (L.length - 7) 0 + sm K.W (L.getD (L.length - 15) 0) K.s0 + L.getD (L.length - 16) 0) % 2 ^ K.W
def grow (K : Kd) (L : List Nat) : List Nat := L ++ [nextW K L]
def sch (K : Kd) : Nat → List Nat → List Nat
  | 0, L => L
  | n + 1, L => sch K n (grow K L)
theorem sch_succ (K : Kd) : ∀ (n : Nat) (L : List Nat), sch K (n + 1) L = grow K (sch K n L)
  | 0, _ => rfl
  | n + 1, L => by
    show sch K (n + 1) (grow K L) = grow K (sch K n (grow K L))
    exact sch_succ K n (grow K L)
theorem sch_len (K : Kd) : ∀ (n : Nat) (L : List Nat), (sch K n L).length = L.length + n
  | 0, _ => rfl
  | n + 1, L => by
    show (sch K n (grow K L)).length = _
    rw [sch_len K n, grow, List.length_append]
    simp
    omega
def Small (W : Nat) (L : List Nat) : Prop := ∀ x ∈ L, x < 2 ^ W
theorem Small.getD {W : Nat} {L : List Nat} (h : Small W L) (i : Nat) : L.getD i 0 < 2 ^ W := by
  rw [List.getD_eq_getElem?_getD]
  rcases Nat.lt_or_ge i L.length with hi | hi
  · rw [List.getElem?_eq_getElem hi]
    exact h _ (List.getElem_mem _)
  · rw [List.getElem?_eq_none hi]
    exact Nat.two_pow_pos W
theorem grow_small {K : Kd} {L : List Nat} (h : Small K.W L) : Small K.W (grow K L) := by
  intro x hx
  rcases List.mem_append.1 hx with h1 | h1
  · exact h x h1
  · rw [List.mem_singleton.1 h1]
    exact Nat.mod_lt _ (Nat.two_pow_pos _)
theorem sch_small {K : Kd} : ∀ (n : Nat) {L : List Nat}, Small K.W L → Small K.W (sch K n L)
  | 0, _, h => h
  | n + 1, _, h => sch_small n (grow_small h)

/-- The eight words of a round. -/
structure St where
  a : Nat
  b : Nat
  c : Nat
  d : Nat
  e : Nat
  f : Nat
  g : Nat
  h : Nat
def St.lt (s : St) (W : Nat) : Prop := s.a < 2 ^ W ∧ s.b < 2 ^ W ∧ s.c < 2 ^ W ∧ s.d < 2 ^ W ∧ s.e < 2 ^ W ∧ s.f < 2 ^ W ∧ s.g < 2 ^ W ∧ s.h < 2 ^ W
def rT (K : Kd) (k x : Nat) (s : St) : Nat := (s.h + gr K.W s.e K.g1 + chc K.W s.e s.f s.g + k + x) % 2 ^ K.W
def rU (K : Kd) (s : St) : Nat := (gr K.W s.a K.g0 + maj s.a s.b s.c) % 2 ^ K.W
def round (K : Kd) (k x : Nat) (s : St) : St := ⟨(rT K k x s + rU K s) % 2 ^ K.W, s.a, s.b, s.c, (s.d + rT K k x s) % 2 ^ K.W, s.e, s.f, s.g⟩
theorem round_lt {K : Kd} {k x : Nat} {s : St} (h : s.lt K.W) : (round K k x s).lt K.W := by
  obtain ⟨h1, h2, h3, h4, h5, h6, h7, h8⟩ := h
  exact ⟨Nat.mod_lt _ (Nat.two_pow_pos _), h1, h2, h3, Nat.mod_lt _ (Nat.two_pow_pos _), h5, h6, h7⟩
def rnds (K : Kd) (L : List Nat) : Nat → St → St
  | 0, s => s
  | n + 1, s => round K (kc K n) (L.getD n 0) (rnds K L n s)
theorem rnds_lt {K : Kd} {L : List Nat} : ∀ (n : Nat) {s : St}, s.lt K.W → (rnds K L n s).lt K.W
  | 0, _, h => h
  | n + 1, _, h => round_lt (rnds_lt n h)
/-- Eight words. -/
structure H8 where
  a : Nat
  b : Nat
  c : Nat
  d : Nat
  e : Nat
  f : Nat
  g : Nat
  h : Nat
def H8.l (x : H8) : List Nat := [x.a, x.b, x.c, x.d, x.e, x.f, x.g, x.h]
def H8.st (x : H8) : St := ⟨x.a, x.b, x.c, x.d, x.e, x.f, x.g, x.h⟩
def H8.lt (x : H8) (W : Nat) : Prop := x.st.lt W
def H8.add (x : H8) (s : St) (W : Nat) : H8 := ⟨(x.a + s.a) % 2 ^ W, (x.b + s.b) % 2 ^ W, (x.c + s.c) % 2 ^ W, (x.d + s.d) % 2 ^ W, (x.e + s.e) % 2 ^ W, (x.f + s.f) % 2 ^ W, (x.g + s.g) % 2 ^ W, (x.h + s.h) % 2 ^ W⟩
theorem H8.add_lt (x : H8) (s : St) (W : Nat) : (x.add s W).lt W :=
  ⟨Nat.mod_lt _ (Nat.two_pow_pos _), Nat.mod_lt _ (Nat.two_pow_pos _), Nat.mod_lt _ (Nat.two_pow_pos _), Nat.mod_lt _ (Nat.two_pow_pos _), Nat.mod_lt _ (Nat.two_pow_pos _), Nat.mod_lt _ (Nat.two_pow_pos _), Nat.mod_lt _ (Nat.two_pow_pos _), Nat.mod_lt _ (Nat.two_pow_pos _)⟩
def first (K : Kd) : H8 :=
  ⟨square.getD 0 0 / 2 ^ (64 - K.W), square.getD 1 0 / 2 ^ (64 - K.W), square.getD 2 0 / 2 ^ (64 - K.W), square.getD 3 0 / 2 ^ (64 - K.W), square.getD 4 0 / 2 ^ (64 - K.W), square.getD 5 0 / 2 ^ (64 - K.W), square.getD 6 0 / 2 ^ (64 - K.W), square.getD 7 0 / 2 ^ (64 - K.W)⟩
/-- The words of all rounds. -/
def spread (K : Kd) (b : List UInt8) : List Nat := sch K (K.rounds - 16) (words K b 16)
def blk (K : Kd) (H : H8) (b : List UInt8) : H8 := H.add (rnds K (spread K b) K.rounds H.st) K.W
theorem blk_lt (K : Kd) (H : H8) (b : List UInt8) : (blk K H b).lt K.W := H8.add_lt _ _ _
/-- How many bytes a block has. -/
def B (K : Kd) : Nat := 16 * K.sz
def blks (K : Kd) : Nat → H8 → List UInt8 → H8
  | 0, H, _ => H
  | n + 1, H, bs => blks K n (blk K H (bs.take (B K))) (bs.drop (B K))
theorem blks_lt {K : Kd} : ∀ (n : Nat) {H : H8} {bs : List UInt8}, H.lt K.W → (blks K n H bs).lt K.W
  | 0, _, _, h => h
  | n + 1, _, _, _ => blks_lt n (blk_lt _ _ _)
theorem blks_add (K : Kd) : ∀ (n m : Nat) (H : H8) (bs : List UInt8), blks K (n + m) H bs = blks K m (blks K n H bs) (bs.drop (n * B K))
  | 0, m, H, bs => by simp [blks]
  | n + 1, m, H, bs => by
    rw [Nat.add_right_comm]
    show blks K (n + m) _ _ = blks K m (blks K n _ _) _
    rw [blks_add K n m, List.drop_drop, Nat.succ_mul, Nat.add_comm]
theorem blks_app (K : Kd) : ∀ (n : Nat) (H : H8) (bs cs : List UInt8), n * B K ≤ bs.length → blks K n H (bs ++ cs) = blks K n H bs
  | 0, _, _, _, _ => rfl
  | n + 1, H, bs, cs, h => by
    rw [Nat.succ_mul] at h
    show blks K n _ _ = blks K n _ _
    rw [List.take_append_of_le_length (by omega), List.drop_append_of_le_length (by omega), blks_app K n _ _ _ (by rw [List.length_drop]; omega)]
theorem blks_take (K : Kd) (n : Nat) (H : H8) (bs : List UInt8) (m : Nat) (h : n * B K ≤ m) (h2 : m ≤ bs.length) : blks K n H (bs.take m) = blks K n H bs := by
  have := blks_app K n H (bs.take m) (bs.drop m) (by rw [List.length_take]; omega)
  rw [List.take_append_drop] at this
  exact this.symm

/-! What is filled up, and the digest. -/
def beB (n x : Nat) : List UInt8 := (List.range n).map fun i => (x / 2 ^ (8 * (n - 1 - i)) % 256).toUInt8
theorem beB_len (n x : Nat) : (beB n x).length = n := by simp [beB]
def zs (K : Kd) (n : Nat) : Nat := (2 * B K - 2 * K.sz - 1 - n % B K) % B K
def filled (K : Kd) (r : List UInt8) (len : Nat) : List UInt8 := r ++ 128 :: List.replicate (zs K r.length) 0 ++ beB (2 * K.sz) (8 * len)
def out (K : Kd) (H : H8) : List UInt8 := H.l.flatMap (beB K.sz)
def ending (K : Kd) (H : H8) (r : List UInt8) (len : Nat) : List UInt8 := out K (blks K ((filled K r len).length / B K) H (filled K r len))
def digest (K : Kd) (H : H8) (bs : List UInt8) (len : Nat) : List UInt8 := ending K (blks K (bs.length / B K) H bs) (bs.drop (bs.length / B K * B K)) len
def sum (K : Kd) (bs : List UInt8) : List UInt8 := digest K (first K) bs bs.length
theorem out_len (K : Kd) (H : H8) : (out K H).length = 8 * K.sz := by simp [out, H8.l, beB_len]; omega
theorem sum_len (K : Kd) (bs : List UInt8) : (sum K bs).length = 8 * K.sz := out_len _ _
/-- What a hasher that took a text keeps. -/
theorem sum_rest (K : Kd) (bs : List UInt8) (hB : 0 < B K) : digest K (blks K (bs.length / B K) (first K) bs) (bs.drop (bs.length / B K * B K)) bs.length = sum K bs := by
  have h : (bs.drop (bs.length / B K * B K)).length / B K = 0 := by
    rw [List.length_drop]
    apply Nat.div_eq_of_lt
    have := Nat.mod_lt bs.length hB
    have := Nat.div_add_mod bs.length (B K)
    rw [Nat.mul_comm] at this
    omega
  unfold sum digest
  rw [h]
  simp [blks]
end Hs
end Go.Proofs.YtfmkkjnmadaplaaDoor
