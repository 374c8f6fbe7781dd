/- Plain numbers: p is a prime (2 is a root of order p - 1), so every number below p but 0 has its inverse, just the even powers of 2 have a square root, and of a number and its double just one has. -/
import Derived.Test.YtgdekigdbbldoaaFl
namespace Go.Proofs.Ytgdekigdbbldoaa
namespace Fd
namespace Pratt
/-- A number that only 1 and itself divide. -/
def Prime (n : Nat) : Prop := 2 ≤ n ∧ ∀ d, d ∣ n → d = 1 ∨ d = n

theorem dvd_part : ∀ (l : List Nat), (∀ q ∈ l, Prime q) → ∀ d, d ∣ l.prod → d ≠ l.prod → ∃ q ∈ l, d ∣ l.prod / q
  | [], _, d, hd, hn => absurd (Nat.dvd_one.1 (by simpa using hd)) (by simpa using hn)
  | q :: l, hp, d, hd, hn => by
    have hq := hp q (by simp)
    have hq0 : 0 < q := by have := hq.1; omega
    rw [List.prod_cons] at hd hn ⊢
    rcases hq.2 (Nat.gcd d q) (Nat.gcd_dvd_right d q) with hg | hg
    · refine ⟨q, by simp, ?_⟩
      rw [Nat.mul_div_cancel_left _ hq0]
      exact Nat.Coprime.dvd_of_dvd_mul_left hg hd
    · obtain ⟨e, he⟩ : q ∣ d := by rw [← hg]; exact Nat.gcd_dvd_left d q
      have h1 : e ∣ l.prod := Nat.dvd_of_mul_dvd_mul_left hq0 (by rw [← he]; exact hd)
      have h2 : e ≠ l.prod := fun h => hn (by rw [he, h])
      obtain ⟨r, hr, hrd⟩ := dvd_part l (fun x hx => hp x (by simp [hx])) e h1 h2
      refine ⟨r, by simp [hr], ?_⟩
      have hrl : r ∣ l.prod := by
        clear hrd h1 h2 hd hn hp hq hg
        induction l with
        | nil => simp at hr
        | cons x l ih =>
          rw [List.prod_cons]
          rcases List.mem_cons.1 hr with h | h
          · rw [h]; exact Nat.dvd_mul_right _ _
          · exact Nat.dvd_trans (ih h) (Nat.dvd_mul_left _ _)
      rw [he, Nat.mul_div_assoc _ hrl]
      exact Nat.mul_dvd_mul_left q hrd

theorem pigeon : ∀ (n : Nat) (f : Nat → Nat), (∀ i, i < n → f i < n) → (∀ i, i < n → ∀ j, j < n → f i = f j → i = j) → ∀ v, v < n → ∃ i, i < n ∧ f i = v
  | 0, _, _, _, v, hv => absurd hv (Nat.not_lt_zero v)
  | n + 1, f, hr, hi, v, hv => by
    have IH := pigeon n (fun i => if f i = n then f n else f i)
      (fun i h => by
        have h1 := hr i (by omega)
        have h2 := hr n (by omega)
        have h3 : f i ≠ f n := fun e => by have := hi i (by omega) n (by omega) e; omega
        show (if f i = n then f n else f i) < n
        split <;> omega)
      (fun i h j hj e => by
        have e' : (if f i = n then f n else f i) = (if f j = n then f n else f j) := e
        have hin : f i ≠ f n := fun e => by have := hi i (by omega) n (by omega) e; omega
        have hjn : f j ≠ f n := fun e => by have := hi j (by omega) n (by omega) e; omega
        apply hi i (by omega) j (by omega)
        split at e' <;> split at e' <;> omega)
    by_cases h1 : v = f n
    · exact ⟨n, by omega, h1.symm⟩
    · by_cases h2 : v = n
      · have hm : f n < n := by have := hr n (by omega); omega
        obtain ⟨i, hl, he⟩ := IH (f n) hm
        have he' : (if f i = n then f n else f i) = f n := he
        refine ⟨i, by omega, ?_⟩
        split at he'
        · omega
        · have := hi i (by omega) n (by omega) he'; omega
      · obtain ⟨i, hl, he⟩ := IH v (by omega)
        have he' : (if f i = n then f n else f i) = v := he
        refine ⟨i, by omega, ?_⟩
        split at he'
        · omega
        · exact he'

theorem pow_one {N g m : Nat} (h2 : 2 ≤ N) (h : g ^ m % N = 1) (k : Nat) : g ^ (m * k) % N = 1 := by
  rw [Nat.pow_mul, Nat.pow_mod, h, Nat.one_pow]
  exact Nat.mod_eq_of_lt (by omega)
theorem pow_add_one {N g m : Nat} (h : g ^ m % N = 1) (k : Nat) : g ^ (m + k) % N = g ^ k % N := by
  rw [Nat.pow_add, Nat.mul_mod, h, Nat.one_mul, Nat.mod_mod]
theorem pow_gcd {N g : Nat} (h2 : 2 ≤ N) (m n : Nat) : g ^ m % N = 1 → g ^ n % N = 1 → g ^ (Nat.gcd m n) % N = 1 := by
  induction m, n using Nat.gcd.induction with
  | H0 n => intro _ h; rw [Nat.gcd_zero_left]; exact h
  | H1 m n hm ih =>
    intro h1 h3
    rw [Nat.gcd_rec]
    refine ih ?_ h1
    have e := Nat.div_add_mod n m
    rw [← e, pow_add_one (pow_one h2 h1 (n / m))] at h3
    exact h3

/-- Where g's order is N - 1, each number below N but 0 is one of its powers. -/
theorem gen {N g n : Nat} (hN : n + 1 = N) (h2 : 2 ≤ N) (h1 : g ^ n % N = 1) (ho : ∀ m, 0 < m → m < n → g ^ m % N ≠ 1) (a : Nat) (h0 : 0 < a) (ha : a < N) : ∃ k, k < n ∧ g ^ k % N = a := by
  have hpos : ∀ i, i < n → 0 < g ^ i % N := fun i hi => by
    rcases Nat.eq_zero_or_pos (g ^ i % N) with h | h
    · have e : i + (n - i) = n := by omega
      rw [← e, Nat.pow_add, Nat.mul_mod, h, Nat.zero_mul, Nat.zero_mod] at h1
      omega
    · exact h
  have hlt : ∀ i, g ^ i % N < N := fun i => Nat.mod_lt _ (by omega)
  have hinj : ∀ i j, i < j → j < n → g ^ i % N ≠ g ^ j % N := fun i j hij hj he => by
    refine ho (j - i) (by omega) (by omega) ?_
    have e1 : n + (j - i) = (n - i) + j := by omega
    have e2 : n = (n - i) + i := by omega
    rw [← pow_add_one h1 (j - i), e1, Nat.pow_add, Nat.mul_mod, ← he, ← Nat.mul_mod, ← Nat.pow_add, ← e2, h1]
  obtain ⟨k, hk, he⟩ := pigeon n (fun i => g ^ i % N - 1) (fun i hi => by have := hpos i hi; have := hlt i; show g ^ i % N - 1 < n; omega)
    (fun i hi j hj e => by
      have e' : g ^ i % N - 1 = g ^ j % N - 1 := e
      have h3 := hpos i hi
      have h4 := hpos j hj
      rcases Nat.lt_trichotomy i j with h | h | h
      · exact absurd (by omega) (hinj i j h hj)
      · exact h
      · exact absurd (by omega) (hinj j i h hi))
    (a - 1) (by omega)
  have he' : g ^ k % N - 1 = a - 1 := he
  have := hpos k hk
  exact ⟨k, hk, by omega⟩
theorem order {N g : Nat} (l : List Nat) (h2 : 2 ≤ N) (hl : ∀ q ∈ l, Prime q) (h1 : g ^ l.prod % N = 1) (hq : ∀ q ∈ l, g ^ (l.prod / q) % N ≠ 1) (m : Nat) (h0 : 0 < m) (hm : m < l.prod) : g ^ m % N ≠ 1 := by
  intro h
  have hg := pow_gcd h2 _ _ h h1
  have hle := Nat.gcd_le_left l.prod h0
  obtain ⟨q, hql, c, hc⟩ := dvd_part l hl (Nat.gcd m l.prod) (Nat.gcd_dvd_right _ _) (by omega)
  exact hq q hql (by rw [hc]; exact pow_one h2 hg c)
theorem prime_of {N g n : Nat} (hN : n + 1 = N) (h2 : 2 ≤ N) (h1 : g ^ n % N = 1) (ho : ∀ m, 0 < m → m < n → g ^ m % N ≠ 1) : Prime N := by
  refine ⟨h2, fun d hd => ?_⟩
  have hd0 : 0 < d := Nat.pos_of_dvd_of_pos hd (by omega)
  have hle := Nat.le_of_dvd (by omega) hd
  rcases Nat.lt_or_ge d N with h | h
  · left
    obtain ⟨k, hk, he⟩ := gen hN h2 h1 ho d hd0 h
    have e : k + (n - k) = n := by omega
    rw [← e, Nat.pow_add, Nat.mul_mod, he] at h1
    have h3 : d ∣ d * (g ^ (n - k) % N) := Nat.dvd_mul_right _ _
    rw [← Nat.div_add_mod (d * (g ^ (n - k) % N)) N, h1] at h3
    exact Nat.dvd_one.1 ((Nat.dvd_add_right (Nat.dvd_trans hd (Nat.dvd_mul_right _ _))).1 h3)
  · right; omega

/-- A power modulo N, by squares. -/
def pm (N : Nat) : Nat → Nat → Nat → Nat
  | 0, _, _ => 1 % N
  | f + 1, b, e => match Nat.beq (e % 2) 1 with
    | true => b * pm N f (b * b % N) (e / 2) % N
    | false => pm N f (b * b % N) (e / 2)
theorem pm_eq (N : Nat) : ∀ (f b e : Nat), e < 2 ^ f → pm N f b e = b ^ e % N
  | 0, b, e, h => by
    have : e = 0 := by simpa using h
    rw [this, Nat.pow_zero]; rfl
  | f + 1, b, e, h => by
    have ih := pm_eq N f (b * b % N) (e / 2) (by rw [Nat.pow_succ] at h; omega)
    have h1 : (b * b % N) ^ (e / 2) % N = (b * b) ^ (e / 2) % N := (Nat.pow_mod _ _ _).symm
    have h2 : (b * b) ^ (e / 2) = b ^ (2 * (e / 2)) := by rw [Nat.pow_mul, Nat.pow_two]
    rw [h1, h2] at ih
    show (match Nat.beq (e % 2) 1 with | true => b * pm N f (b * b % N) (e / 2) % N | false => pm N f (b * b % N) (e / 2)) = _
    rcases Nat.mod_two_eq_zero_or_one e with h0 | h0
    · rw [h0]
      show pm N f (b * b % N) (e / 2) = _
      rw [ih]
      have : 2 * (e / 2) = e := by omega
      rw [this]
    · rw [h0]
      show b * pm N f (b * b % N) (e / 2) % N = _
      rw [ih, Nat.mul_mod, Nat.mod_mod, ← Nat.mul_mod]
      have : b * b ^ (2 * (e / 2)) = b ^ e := by rw [Nat.mul_comm, ← Nat.pow_succ]; congr 1; omega
      rw [this]
/-- What must be reckoned of a number, a root and the primes of the number less 1. -/
def certB (N g : Nat) (l : List Nat) : Bool := Nat.beq (l.prod + 1) N && Nat.ble 2 N && Nat.ble (l.prod + 1) (2 ^ 256) && Nat.beq (pm N 256 g l.prod) 1 && l.all fun q => !Nat.beq (pm N 256 g (l.prod / q)) 1
theorem cert_ord {N g : Nat} {l : List Nat} (h : certB N g l = true) (hl : ∀ q ∈ l, Prime q) : l.prod + 1 = N ∧ 2 ≤ N ∧ g ^ l.prod % N = 1 ∧ ∀ m, 0 < m → m < l.prod → g ^ m % N ≠ 1 := by
  unfold certB at h
  simp only [Bool.and_eq_true, List.all_eq_true] at h
  obtain ⟨⟨⟨⟨h1, h2⟩, h3⟩, h4⟩, h5⟩ := h
  have h3' : l.prod < 2 ^ 256 := Nat.le_of_ble_eq_true h3
  have h1 := Nat.eq_of_beq_eq_true h1
  have h2 := Nat.le_of_ble_eq_true h2
  have h4 := Nat.eq_of_beq_eq_true h4
  rw [pm_eq _ _ _ _ h3'] at h4
  refine ⟨h1, h2, h4, order l h2 hl h4 fun q hq hc => ?_⟩
  have h6 := h5 q hq
  rw [pm_eq _ _ _ _ (Nat.lt_of_le_of_lt (Nat.div_le_self _ _) h3'), hc] at h6
  exact absurd h6 (by decide)
theorem cert_prime {N g : Nat} {l : List Nat} (h : certB N g l = true) (hl : ∀ q ∈ l, Prime q) : Prime N := by
  obtain ⟨h1, h2, h3, h4⟩ := cert_ord h hl
  exact prime_of h1 h2 h3 h4
/-- No number from k on, so many of them, divides n. -/
def noDiv (n : Nat) : Nat → Nat → Bool
  | 0, _ => true
  | f + 1, k => !Nat.beq (n % k) 0 && noDiv n f (k + 1)
theorem noDiv_out (n : Nat) : ∀ (f k : Nat), noDiv n f k = true → ∀ d, k ≤ d → d < k + f → ¬ d ∣ n
  | 0, k, _, d, h1, h2 => by omega
  | f + 1, k, h, d, h1, h2 => by
    have h' : (!Nat.beq (n % k) 0 && noDiv n f (k + 1)) = true := h
    rw [Bool.and_eq_true] at h'
    rcases Nat.eq_or_lt_of_le h1 with e | e
    · intro hd
      rw [← e] at hd
      rw [Nat.mod_eq_zero_of_dvd hd] at h'
      exact absurd h'.1 (by decide)
    · exact noDiv_out n f (k + 1) h'.2 d (by omega) (by omega)
theorem small_prime {n f : Nat} (h2 : 2 ≤ n) (h : noDiv n f 2 = true) (hs : n < (f + 2) * (f + 2)) : Prime n := by
  refine ⟨h2, fun d hd => ?_⟩
  have hd0 : 0 < d := Nat.pos_of_dvd_of_pos hd (by omega)
  obtain ⟨e, he⟩ := hd
  have hout := noDiv_out n f 2 h
  rcases Nat.lt_or_ge d 2 with h3 | h3
  · left; omega
  · right
    rcases Nat.lt_or_ge d (f + 2) with h4 | h4
    · exact absurd ⟨e, he⟩ (hout d h3 (by omega))
    · rcases Nat.lt_or_ge e 2 with h5 | h5
      · have : e = 1 := by
          rcases Nat.eq_zero_or_pos e with h6 | h6
          · rw [h6, Nat.mul_zero] at he; omega
          · omega
        rw [he, this, Nat.mul_one]
      · rcases Nat.lt_or_ge e (f + 2) with h6 | h6
        · exact absurd ⟨d, by rw [he, Nat.mul_comm]⟩ (hout e h5 (by omega))
        · have := Nat.mul_le_mul h4 h6
          omega
theorem all_nil {P : Nat → Prop} : ∀ q ∈ ([] : List Nat), P q := fun _ h => absurd h (by simp)
theorem all_cons {P : Nat → Prop} {x : Nat} {l : List Nat} (h : P x) (hl : ∀ q ∈ l, P q) : ∀ q ∈ x :: l, P q := fun q hq => by
  rcases List.mem_cons.1 hq with e | e
  · rw [e]; exact h
  · exact hl q e
theorem pr0 : Prime 2 := small_prime (f := 0) (by decide) (by decide +kernel) (by decide)
theorem pr1 : Prime 3 := small_prime (f := 0) (by decide) (by decide +kernel) (by decide)
theorem pr2 : Prime 5 := small_prime (f := 1) (by decide) (by decide +kernel) (by decide)
theorem pr3 : Prime 7 := small_prime (f := 1) (by decide) (by decide +kernel) (by decide)
theorem pr4 : Prime 13 := small_prime (f := 2) (by decide) (by decide +kernel) (by decide)
theorem pr5 : Prime 19 := small_prime (f := 3) (by decide) (by decide +kernel) (by decide)
theorem pr6 : Prime 31 := small_prime (f := 4) (by decide) (by decide +kernel) (by decide)
theorem pr7 : Prime 43 := small_prime (f := 5) (by decide) (by decide +kernel) (by decide)
theorem pr8 : Prime 47 := small_prime (f := 5) (by decide) (by decide +kernel) (by decide)
theorem pr9 : Prime 103 := small_prime (f := 9) (by decide) (by decide +kernel) (by decide)
theorem pr10 : Prime 107 := small_prime (f := 9) (by decide) (by decide +kernel) (by decide)
theorem pr11 : Prime 127 := small_prime (f := 10) (by decide) (by decide +kernel) (by decide)
theorem pr12 : Prime 223 := small_prime (f := 13) (by decide) (by decide +kernel) (by decide)
theorem pr13 : Prime 353 := small_prime (f := 17) (by decide) (by decide +kernel) (by decide)
theorem pr14 : Prime 991 := small_prime (f := 30) (by decide) (by decide +kernel) (by decide)
theorem pr15 : Prime 2437 := small_prime (f := 48) (by decide) (by decide +kernel) (by decide)
theorem pr16 : Prime 3727 := small_prime (f := 60) (by decide) (by decide +kernel) (by decide)
theorem pr17 : Prime 4153 := small_prime (f := 63) (by decide) (by decide +kernel) (by decide)
theorem pr18 : Prime 57467 := small_prime (f := 238) (by decide) (by decide +kernel) (by decide)
theorem pr19 : Prime 65147 := small_prime (f := 254) (by decide) (by decide +kernel) (by decide)
theorem pr20 : Prime 75707 := small_prime (f := 274) (by decide) (by decide +kernel) (by decide)
theorem pr21 : Prime 132049 := small_prime (f := 362) (by decide) (by decide +kernel) (by decide)
theorem pr22 : Prime 430751 := small_prime (f := 655) (by decide) (by decide +kernel) (by decide)
theorem pr23 : Prime 569003 := small_prime (f := 753) (by decide) (by decide +kernel) (by decide)
theorem pr24_cert : certB 1923133 2 [2, 2, 3, 43, 3727] = true := by decide +kernel
theorem pr24 : Prime 1923133 := cert_prime pr24_cert (all_cons pr0 (all_cons pr0 (all_cons pr1 (all_cons pr7 (all_cons pr16 all_nil)))))
theorem pr25_cert : certB 8574133 2 [2, 2, 3, 7, 103, 991] = true := by decide +kernel
theorem pr25 : Prime 8574133 := cert_prime pr25_cert (all_cons pr0 (all_cons pr0 (all_cons pr1 (all_cons pr3 (all_cons pr9 (all_cons pr14 all_nil))))))
theorem pr26_cert : certB 2773320623 5 [2, 2437, 569003] = true := by decide +kernel
theorem pr26 : Prime 2773320623 := cert_prime pr26_cert (all_cons pr0 (all_cons pr15 (all_cons pr23 all_nil)))
theorem pr27_cert : certB 72106336199 7 [2, 13, 2773320623] = true := by decide +kernel
theorem pr27 : Prime 72106336199 := cert_prime pr27_cert (all_cons pr0 (all_cons pr4 (all_cons pr26 all_nil)))
theorem pr28_cert : certB 1919519569386763 2 [2, 3, 7, 19, 47, 47, 127, 8574133] = true := by decide +kernel
theorem pr28 : Prime 1919519569386763 := cert_prime pr28_cert (all_cons pr0 (all_cons pr1 (all_cons pr3 (all_cons pr5 (all_cons pr8 (all_cons pr8 (all_cons pr11 (all_cons pr25 all_nil))))))))
theorem pr29_cert : certB 31757755568855353 10 [2, 2, 2, 3, 31, 107, 223, 4153, 430751] = true := by decide +kernel
theorem pr29 : Prime 31757755568855353 := cert_prime pr29_cert (all_cons pr0 (all_cons pr0 (all_cons pr0 (all_cons pr1 (all_cons pr6 (all_cons pr10 (all_cons pr12 (all_cons pr17 (all_cons pr22 all_nil)))))))))
theorem pr30_cert : certB 75445702479781427272750846543864801 7 [2, 2, 2, 2, 2, 3, 3, 5, 5, 75707, 72106336199, 1919519569386763] = true := by decide +kernel
theorem pr30 : Prime 75445702479781427272750846543864801 := cert_prime pr30_cert (all_cons pr0 (all_cons pr0 (all_cons pr0 (all_cons pr0 (all_cons pr0 (all_cons pr1 (all_cons pr1 (all_cons pr2 (all_cons pr2 (all_cons pr20 (all_cons pr27 (all_cons pr28 all_nil))))))))))))
theorem pr31_cert : certB 74058212732561358302231226437062788676166966415465897661863160754340907 2 [2, 3, 353, 57467, 132049, 1923133, 31757755568855353, 75445702479781427272750846543864801] = true := by decide +kernel
theorem pr31 : Prime 74058212732561358302231226437062788676166966415465897661863160754340907 := cert_prime pr31_cert (all_cons pr0 (all_cons pr1 (all_cons pr13 (all_cons pr18 (all_cons pr21 (all_cons pr24 (all_cons pr29 (all_cons pr30 all_nil))))))))
theorem prP_cert : certB 57896044618658097711785492504343953926634992332820282019728792003956564819949 2 [2, 2, 3, 65147, 74058212732561358302231226437062788676166966415465897661863160754340907] = true := by decide +kernel
theorem fermat_of {N g n : Nat} {l : List Nat} (h : certB N g l = true) (hl : ∀ q ∈ l, Prime q) (hn : n + 1 = N) : g ^ n % N = 1 := by
  obtain ⟨h1, _, h3, _⟩ := cert_ord h hl
  have e : l.prod = n := by omega
  rw [← e]
  exact h3
theorem order_of {N g n : Nat} {l : List Nat} (h : certB N g l = true) (hl : ∀ q ∈ l, Prime q) (hn : n + 1 = N) : ∀ m, 0 < m → m < n → g ^ m % N ≠ 1 := by
  obtain ⟨h1, _, _, h4⟩ := cert_ord h hl
  have e : l.prod = n := by omega
  rw [← e]
  exact h4
theorem p_cert : certB p 2 [2, 2, 3, 65147, 74058212732561358302231226437062788676166966415465897661863160754340907] = true := prP_cert
theorem p_pred : (p - 1) + 1 = p := by decide
/-- 2 is a root of the prime's: its order is p - 1. -/
theorem p_order : ∀ m, 0 < m → m < p - 1 → 2 ^ m % p ≠ 1 := order_of p_cert (all_cons pr0 (all_cons pr0 (all_cons pr1 (all_cons pr19 (all_cons pr31 all_nil))))) p_pred
theorem p_fermat : 2 ^ (p - 1) % p = 1 := fermat_of p_cert (all_cons pr0 (all_cons pr0 (all_cons pr1 (all_cons pr19 (all_cons pr31 all_nil))))) p_pred
/-- Each number below p but 0 is a power of 2. -/
theorem p_gen (a : Nat) (h0 : 0 < a) (ha : a < p) : ∃ k, k < p - 1 ∧ 2 ^ k % p = a := gen p_pred (by decide) p_fermat p_order a h0 ha
/-! What is needed of the field's numbers beside that. -/
theorem p_prime : Prime p := prime_of p_pred (by decide) p_fermat p_order
theorem p_pow2 (m k : Nat) : 2 ^ ((p - 1) * m + k) % p = 2 ^ k % p := pow_add_one (pow_one (by decide) p_fermat m) k
theorem coprime (a : Nat) (h0 : 0 < a) (ha : a < p) : Nat.Coprime p a := by
  rcases p_prime.2 (Nat.gcd p a) (Nat.gcd_dvd_left _ _) with h | h
  · exact h
  · have h1 : p ∣ a := by have := Nat.gcd_dvd_right p a; rwa [h] at this
    have := Nat.le_of_dvd h0 h1
    omega
theorem dvd_cancel {a b : Nat} (h0 : 0 < a) (ha : a < p) (h : p ∣ a * b) : p ∣ b := (coprime a h0 ha).dvd_of_dvd_mul_left h
/-- Each number below p but 0, to the p - 1, is 1. -/
theorem fermat (a : Nat) (h0 : 0 < a) (ha : a < p) : a ^ (p - 1) % p = 1 := by
  obtain ⟨k, _, hk⟩ := p_gen a h0 ha
  rw [← hk, ← Nat.pow_mod, ← Nat.pow_mul, Nat.mul_comm]
  exact pow_one (by decide) p_fermat k
theorem inv_mul (a : Nat) (h0 : 0 < a) (ha : a < p) : a * (a ^ (p - 2) % p) % p = 1 := by
  rw [Nat.mul_mod, Nat.mod_mod, ← Nat.mul_mod, Nat.mul_comm, ← Nat.pow_succ]
  exact fermat a h0 ha
theorem mul_cancel {a b c : Nat} (h0 : 0 < a) (ha : a < p) (h : a * b % p = a * c % p) : b % p = c % p := by
  have e : ∀ x, (a ^ (p - 2) % p) * (a * x % p) % p = x % p := fun x => by
    rw [Nat.mul_mod_mod, ← Nat.mul_assoc, Nat.mul_comm _ a, ← Nat.mod_mul_mod, inv_mul a h0 ha, Nat.one_mul]
  rw [← e b, ← e c, h]

/-- The root of -1 that the program has. -/
theorem i_pow : 2 ^ ((p - 1) / 4) % p = rootOfMinusOne := by
  rw [← pm_eq p 256 2 ((p - 1) / 4) (by decide)]
  decide +kernel
theorem i_two : rootOfMinusOne * rootOfMinusOne % p = p - 1 := by decide +kernel
/-- What the power that is taken as a root has for a square: the number times a power of that root of -1. -/
theorem sq_pow (k : Nat) : (((2 ^ k % p) ^ ((p + 3) / 8) % p) * ((2 ^ k % p) ^ ((p + 3) / 8) % p)) % p = (2 ^ k % p) * (rootOfMinusOne ^ k % p) % p := by
  rw [← Nat.mul_mod, ← Nat.pow_add, show (p + 3) / 8 + (p + 3) / 8 = (p - 1) / 4 + 1 by decide, Nat.pow_succ, Nat.mul_comm, ← i_pow, ← Nat.pow_mod, ← Nat.pow_mul, Nat.mul_mod, ← Nat.pow_mod (2 ^ k), ← Nat.pow_mul, Nat.mul_comm k, ← Nat.mul_mod, Nat.mod_mul_mod, Nat.mod_mul_mod, Nat.mul_mod_mod]
theorem i_mod4 (k : Nat) : rootOfMinusOne ^ k % p = rootOfMinusOne ^ (k % 4) % p := by
  have h4 : rootOfMinusOne ^ 4 % p = 1 := by decide +kernel
  have e := Nat.div_add_mod k 4
  rw [← e, pow_add_one (pow_one (by decide) h4 (k / 4)), e]
/-- The power that is a root of a number or of its negative, where one of them is a square. -/
def r0 (x : Nat) : Nat := x ^ rootExponent % p
/-- The root that is tried last. -/
def rt (x : Nat) : Nat := if r0 x * r0 x % p = x then r0 x else r0 x * rootOfMinusOne % p
theorem r0_lt (x : Nat) : r0 x < p := Nat.mod_lt _ (by decide)
theorem rt_lt (x : Nat) : rt x < p := by
  unfold rt
  split
  · exact r0_lt x
  · exact Nat.mod_lt _ (by decide)
theorem r0_sq (k : Nat) : r0 (2 ^ k % p) * r0 (2 ^ k % p) % p = (2 ^ k % p) * (rootOfMinusOne ^ (k % 4) % p) % p := by
  have h := sq_pow k
  rw [i_mod4 k] at h
  have e : rootExponent = (p + 3) / 8 := by decide +kernel
  unfold r0
  rw [e]
  exact h
theorem pos2 (k : Nat) : 0 < 2 ^ k % p := by
  rcases Nat.eq_zero_or_pos (2 ^ k % p) with h | h
  · have hd := Nat.dvd_of_mod_eq_zero h
    exfalso
    clear h
    induction k with
    | zero => exact absurd (Nat.le_of_dvd (by decide) hd) (by decide)
    | succ k ih =>
      rw [Nat.pow_succ, Nat.mul_comm] at hd
      exact ih (dvd_cancel (by decide) (by decide) hd)
  · exact h
theorem eq_one {x c : Nat} (h0 : 0 < x) (hx : x < p) (hc : c < p) (h : x * c % p = x) : c = 1 := by
  have h1 : x * c % p = x * 1 % p := by rw [h, Nat.mul_one, Nat.mod_eq_of_lt hx]
  have h2 := mul_cancel h0 hx h1
  rwa [Nat.mod_eq_of_lt hc] at h2
theorem sq_mul (a b : Nat) : (a * b % p) * (a * b % p) % p = (a * a % p) * (b * b % p) % p := by
  rw [← Nat.mul_mod, ← Nat.mul_mod]
  congr 1
  rw [Nat.mul_assoc, Nat.mul_assoc, Nat.mul_left_comm b]
/-- Just the even powers of 2 have a root. -/
theorem rt_ok (k : Nat) : (rt (2 ^ k % p) * rt (2 ^ k % p) % p = 2 ^ k % p) ↔ k % 2 = 0 := by
  have h0 := pos2 k
  have hx : 2 ^ k % p < p := Nat.mod_lt _ (by decide)
  have hs := r0_sq k
  have hp : 0 < p := by decide
  have hm : (r0 (2 ^ k % p) * rootOfMinusOne % p) * (r0 (2 ^ k % p) * rootOfMinusOne % p) % p = (2 ^ k % p) * ((rootOfMinusOne ^ (k % 4) % p) * (p - 1) % p) % p := by
    rw [sq_mul, hs, i_two, Nat.mod_mul_mod, Nat.mul_assoc, Nat.mul_mod_mod]
  unfold rt
  obtain ⟨x, ex⟩ : ∃ x, 2 ^ k % p = x := ⟨_, rfl⟩
  rw [ex] at h0 hx hs hm ⊢
  obtain ⟨r, er⟩ : ∃ r, r0 x = r := ⟨_, rfl⟩
  rw [er] at hs hm ⊢
  have hk : k % 4 = 0 ∨ k % 4 = 1 ∨ k % 4 = 2 ∨ k % 4 = 3 := by omega
  rcases hk with hk | hk | hk | hk
  · have hc : rootOfMinusOne ^ 0 % p = 1 := by decide +kernel
    rw [hk, hc, Nat.mul_one, Nat.mod_eq_of_lt hx] at hs
    rw [if_pos hs]
    exact ⟨fun _ => by omega, fun _ => hs⟩
  · rw [hk] at hs hm
    have h1 : r * r % p ≠ x := fun h => absurd (eq_one h0 hx (Nat.mod_lt _ hp) (hs.symm.trans h)) (by decide +kernel)
    rw [if_neg h1]
    exact ⟨fun h => absurd (eq_one h0 hx (Nat.mod_lt _ hp) (hm.symm.trans h)) (by decide +kernel), fun h => by omega⟩
  · rw [hk] at hs hm
    have h1 : r * r % p ≠ x := fun h => absurd (eq_one h0 hx (Nat.mod_lt _ hp) (hs.symm.trans h)) (by decide +kernel)
    have hc : rootOfMinusOne ^ 2 % p * (p - 1) % p = 1 := by decide +kernel
    rw [hc, Nat.mul_one, Nat.mod_eq_of_lt hx] at hm
    rw [if_neg h1]
    exact ⟨fun _ => by omega, fun _ => hm⟩
  · rw [hk] at hs hm
    have h1 : r * r % p ≠ x := fun h => absurd (eq_one h0 hx (Nat.mod_lt _ hp) (hs.symm.trans h)) (by decide +kernel)
    rw [if_neg h1]
    exact ⟨fun h => absurd (eq_one h0 hx (Nat.mod_lt _ hp) (hm.symm.trans h)) (by decide +kernel), fun h => by omega⟩
/-- Of a number and its double just one has a root. -/
theorem one_root (x : Nat) (h0 : 0 < x) (hx : x < p) : (rt x * rt x % p = x) ↔ ¬ (rt ((x + x) % p) * rt ((x + x) % p) % p = (x + x) % p) := by
  obtain ⟨k, _, rfl⟩ := p_gen x h0 hx
  have e : (2 ^ k % p + 2 ^ k % p) % p = 2 ^ (k + 1) % p := by
    rw [← Nat.add_mod, Nat.pow_succ, Nat.mul_two]
  rw [e, rt_ok, rt_ok]
  omega
theorem two_roots {r y : Nat} (hr : r < p) (hy : y < p) (h : r * r % p = y * y % p) : r = y ∨ (r + y) % p = 0 := by
  rcases Nat.lt_trichotomy r y with hl | hl | hl
  · right
    have hd : p ∣ (y - r) * (y + r) := by
      have e : (y - r) * (y + r) = y * y - r * r := by rw [Nat.mul_comm, ← Nat.mul_self_sub_mul_self_eq]
      rw [e]
      exact Nat.dvd_of_mod_eq_zero (Nat.sub_mod_eq_zero_of_mod_eq h.symm)
    rw [Nat.add_comm]
    exact Nat.mod_eq_zero_of_dvd (dvd_cancel (by omega) (by omega) hd)
  · exact .inl hl
  · right
    have hd : p ∣ (r - y) * (r + y) := by
      have e : (r - y) * (r + y) = r * r - y * y := by rw [Nat.mul_comm, ← Nat.mul_self_sub_mul_self_eq]
      rw [e]
      exact Nat.dvd_of_mod_eq_zero (Nat.sub_mod_eq_zero_of_mod_eq h)
    exact Nat.mod_eq_zero_of_dvd (dvd_cancel (by omega) (by omega) hd)
theorem zp (x e : Nat) (hx : x = 0) (he : 0 < e) : x ^ e % p = 0 := by
  rw [hx, Nat.zero_pow he]
  rfl
theorem r0_z (x : Nat) (hx : x = 0) : r0 x = 0 := zp x rootExponent hx (by decide)
theorem rt_z (x : Nat) (hx : x = 0) : rt x = 0 := by
  unfold rt
  rw [r0_z x hx, if_pos (by rw [hx]; rfl)]
/-- A square has a root, and that is the number or its negative. -/
theorem root_sq (y : Nat) (hy : y < p) : rt (y * y % p) * rt (y * y % p) % p = y * y % p := by
  rcases Nat.eq_zero_or_pos y with h0 | h0
  · have e : y * y % p = 0 := by rw [h0]; rfl
    obtain ⟨z, hz⟩ : ∃ z, y * y % p = z := ⟨_, rfl⟩
    rw [hz] at e ⊢
    rw [rt_z z e, e]
    rfl
  · obtain ⟨k, _, rfl⟩ := p_gen y h0 hy
    rw [← Nat.mul_mod, ← Nat.pow_add]
    exact (rt_ok (k + k)).2 (by omega)
end Pratt
end Fd
end Go.Proofs.Ytgdekigdbbldoaa
