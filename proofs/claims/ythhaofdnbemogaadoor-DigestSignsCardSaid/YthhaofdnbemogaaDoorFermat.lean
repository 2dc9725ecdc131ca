/-
  Plain numbers: 1152921504606845789 is prime; each number below 2305843009213691579 but 0 is a power of 2's generator; Fermat; the order of 4.
-/
import Derived.KernelRfl
set_option linter.unusedVariables false
namespace Go.Proofs.YthhaofdnbemogaaDoor

/-- A map of the numbers below n into themselves that is one to one meets each of them. -/
theorem onto_of_inj : ∀ (n : Nat) (f : Nat → Nat), (∀ i, i < n → f i < n) → (∀ i j, i < n → j < n → f i = f j → i = j) → ∀ y, y < n → ∃ i, i < n ∧ f i = y := by
  intro n
  induction n with
  | zero => intro f _ _ y hy; omega
  | succ n ih =>
    intro f hf hi y hy
    have hv := hf n (by omega)
    have hg1 : ∀ i, i < n → (if f i = n then f n else f i) < n := by
      intro i hin
      have h1 := hf i (by omega)
      by_cases h : f i = n
      · rw [if_pos h]
        have : f n ≠ n := by
          intro h2
          have := hi i n (by omega) (by omega) (by omega)
          omega
        omega
      · rw [if_neg h]; omega
    have hg2 : ∀ i j, i < n → j < n → (if f i = n then f n else f i) = (if f j = n then f n else f j) → i = j := by
      intro i j hin hjn h
      by_cases h1 : f i = n <;> by_cases h2 : f j = n
      · exact hi i j (by omega) (by omega) (by omega)
      · rw [if_pos h1, if_neg h2] at h
        have := hi n j (by omega) (by omega) h
        omega
      · rw [if_neg h1, if_pos h2] at h
        have := hi i n (by omega) (by omega) h
        omega
      · rw [if_neg h1, if_neg h2] at h
        exact hi i j (by omega) (by omega) h
    have S := ih (fun i => if f i = n then f n else f i) hg1 hg2
    by_cases hyn : y = n
    · by_cases hvn : f n = n
      · exact ⟨n, by omega, by omega⟩
      · obtain ⟨i, hin, hfi⟩ := S (f n) (by omega)
        have hfi : (if f i = n then f n else f i) = f n := hfi
        by_cases h : f i = n
        · exact ⟨i, by omega, by omega⟩
        · rw [if_neg h] at hfi
          have := hi i n (by omega) (by omega) hfi
          omega
    · obtain ⟨i, hin, hfi⟩ := S y (by omega)
      have hfi : (if f i = n then f n else f i) = y := hfi
      by_cases h : f i = n
      · rw [if_pos h] at hfi; exact ⟨n, by omega, hfi⟩
      · rw [if_neg h] at hfi; exact ⟨i, by omega, hfi⟩

/-- Too many places for a map that is one to one. -/
theorem no_inj (n m : Nat) (h : m < n) (f : Nat → Nat) (hf : ∀ i, i < n → f i < m) (hi : ∀ i j, i < n → j < n → f i = f j → i = j) : False := by
  obtain ⟨i, hin, hfi⟩ := onto_of_inj n f (fun i hin => Nat.lt_trans (hf i hin) h) hi m h
  have := hf i hin
  omega

def IsP (p : Nat) : Prop := 2 ≤ p ∧ ∀ d, d ∣ p → d = 1 ∨ d = p

theorem gcd_prime {p k : Nat} (hp : IsP p) (h0 : 0 < k) (h : k < p) : Nat.gcd k p = 1 := by
  rcases hp.2 _ (Nat.gcd_dvd_right k p) with e | e
  · exact e
  · have := Nat.le_of_dvd h0 (Nat.gcd_dvd_left k p)
    omega

theorem pow_mod_one {b n k : Nat} (h : b ^ k % n = 1 % n) (m : Nat) : b ^ (k * m) % n = 1 % n := by
  rw [Nat.pow_mul, Nat.pow_mod, h]
  rw [← Nat.pow_mod, Nat.one_pow]

/-- Where two powers are 1, so is that of their greatest common divisor. -/
theorem pow_gcd {b n : Nat} : ∀ (k m : Nat), b ^ k % n = 1 % n → b ^ m % n = 1 % n → b ^ Nat.gcd k m % n = 1 % n := by
  intro k
  induction k using Nat.strongRecOn with
  | _ k ih =>
    intro m hk hm
    by_cases h0 : k = 0
    · subst h0; rw [Nat.gcd_zero_left]; exact hm
    · rw [Nat.gcd_rec]
      have hlt : m % k < k := Nat.mod_lt _ (by omega)
      refine ih (m % k) hlt k ?_ hk
      have e : b ^ m = b ^ (k * (m / k)) * b ^ (m % k) := by rw [← Nat.pow_add, Nat.div_add_mod]
      rw [e, Nat.mul_mod, pow_mod_one hk, ← Nat.mul_mod, Nat.one_mul] at hm
      exact hm

/-- Where b to the p is 1 modulo s (p prime) and b is not, the first p powers differ. -/
theorem powers_differ {b s p : Nat} (hp : IsP p) (h1 : b ^ p % s = 1 % s) (hb : b % s ≠ 1 % s) (i j : Nat) (hi : i < p) (hj : j < p) (h : b ^ i % s = b ^ j % s) : i = j := by
  have key : ∀ i j, i < j → j < p → b ^ i % s = b ^ j % s → False := by
    intro i j hij hj h
    have e : b ^ (j + (p - i)) % s = 1 % s * (b ^ (j - i) % s) % s := by
      have : j + (p - i) = p + (j - i) := by omega
      rw [this, Nat.pow_add, Nat.mul_mod, h1]
    have e2 : b ^ (j + (p - i)) % s = 1 % s := by
      rw [Nat.pow_add, Nat.mul_mod, ← h, ← Nat.mul_mod, ← Nat.pow_add, show i + (p - i) = p by omega, h1]
    have e3 : b ^ (j - i) % s = 1 % s := by
      rw [e2] at e
      rw [← Nat.mul_mod, Nat.one_mul] at e
      exact e.symm
    have g := pow_gcd _ _ e3 h1
    rw [gcd_prime hp (by omega) (by omega), Nat.pow_one] at g
    exact hb g
  rcases Nat.lt_trichotomy i j with l | l | l
  · exact (key i j l hj h).elim
  · exact l
  · exact (key j i l hi h.symm).elim

/-- Pocklington's step. -/
theorem prime_step {p n b : Nat} (hp : IsP p) (hn : 2 ≤ n) (hb1 : b ^ p % n = 1) (hg : Nat.gcd (b - 1) n = 1) (hb0 : 1 ≤ b) (hpn : n < p * p) : IsP n := by
  refine ⟨hn, fun d hd => ?_⟩
  obtain ⟨c, hc⟩ := hd
  have small : ∀ s, 2 ≤ s → s ∣ n → p ≤ s := by
    intro s hs hsn
    apply Nat.le_of_not_lt
    intro hlt
    have h1 : b ^ p % s = 1 % s := by
      have : b ^ p % n % s = 1 % s := by rw [hb1]
      rwa [Nat.mod_mod_of_dvd _ hsn] at this
    have h2 : b % s ≠ 1 % s := by
      intro h
      have hd : s ∣ b - 1 := Nat.dvd_of_mod_eq_zero (Nat.sub_mod_eq_zero_of_mod_eq h)
      have := Nat.dvd_gcd hd hsn
      rw [hg] at this
      have := Nat.le_of_dvd (by omega) this
      omega
    exact no_inj p s hlt (fun i => b ^ i % s) (fun i _ => Nat.mod_lt _ (by omega)) (fun i j hi hj h => powers_differ hp h1 h2 i j hi hj h)
  rcases Nat.lt_or_ge d 2 with hd2 | hd2
  · left
    rcases Nat.lt_or_ge d 1 with h | h
    · obtain rfl : d = 0 := by omega
      rw [Nat.zero_mul] at hc; omega
    · omega
  · right
    rcases Nat.lt_or_ge c 2 with hc2 | hc2
    · rcases Nat.lt_or_ge c 1 with h | h
      · obtain rfl : c = 0 := by omega
        rw [Nat.mul_zero] at hc; omega
      · obtain rfl : c = 1 := by omega
        omega
    · have a := small d hd2 ⟨c, hc⟩
      have b := small c hc2 ⟨d, by rw [Nat.mul_comm]; exact hc⟩
      have := Nat.mul_le_mul a b
      omega

/-- A power modulo n by squares: what the kernel reckons. -/
def pwm (n : Nat) : Nat → Nat → Nat → Nat → Nat
  | 0, _, _, acc => acc
  | k + 1, b, e, acc => pwm n k (b * b % n) (e / 2) (if e % 2 = 1 then acc * b % n else acc)

theorem pwm_eq (n : Nat) : ∀ k b e acc, e < 2 ^ k → pwm n k b e acc % n = acc * b ^ e % n := by
  intro k
  induction k with
  | zero => 
    intro b e acc h
    have h0 : e = 0 := by rw [Nat.pow_zero] at h; omega
    subst h0
    show acc % n = acc * b ^ 0 % n
    rw [Nat.pow_zero, Nat.mul_one]
  | succ k ih =>
    intro b e acc h
    unfold pwm
    rw [ih _ _ _ (by rw [Nat.pow_succ] at h; omega)]
    have e1 : (b * b % n) ^ (e / 2) % n = b ^ (2 * (e / 2)) % n := by
      rw [← Nat.pow_mod, Nat.pow_mul]
      congr 2
      rw [Nat.pow_two]
    by_cases ho : e % 2 = 1
    · rw [if_pos ho, Nat.mul_mod, e1, ← Nat.mul_mod]
      have : b ^ e = b * b ^ (2 * (e / 2)) := by rw [← Nat.pow_succ']; congr 1; omega
      rw [this, ← Nat.mul_assoc, Nat.mul_mod (acc * b % n), Nat.mod_mod, ← Nat.mul_mod]
    · rw [if_neg ho, Nat.mul_mod, e1, ← Nat.mul_mod]
      have : 2 * (e / 2) = e := by omega
      rw [this]

theorem pow_of_pwm {n b e v : Nat} (h : pwm n 64 b e 1 % n = v) (he : e < 2 ^ 64) : b ^ e % n = v := by
  rw [← h, pwm_eq n 64 b e 1 he, Nat.one_mul]

theorem prime_step2 {p n b : Nat} (hp : IsP p) (hn : 2 ≤ n) (hb1 : pwm n 64 b p 1 % n = 1) (he : p < 2 ^ 64) (hg : Nat.gcd (b - 1) n = 1) (hb0 : 1 ≤ b) (hpn : n < p * p) : IsP n :=
  prime_step hp hn (pow_of_pwm hb1 he) hg hb0 hpn

/-- Trial of all divisors below k. -/
def tri (n : Nat) : Nat → Bool
  | 0 => true
  | k + 1 => (decide (n % (k + 2) ≠ 0)) && tri n k
theorem tri_spec (n : Nat) : ∀ k, tri n k = true → ∀ d, 2 ≤ d → d < k + 2 → ¬ d ∣ n := by
  intro k
  induction k with
  | zero => intro _ d h1 h2; omega
  | succ k ih =>
    intro h d h1 h2 hd
    simp only [tri, Bool.and_eq_true, decide_eq_true_eq] at h
    by_cases e : d = k + 2
    · subst e; exact h.1 (Nat.mod_eq_zero_of_dvd hd)
    · exact ih h.2 d h1 (by omega) hd
theorem prime_tri {n k : Nat} (hn : 2 ≤ n) (h : tri n k = true) (hk : n < (k + 2) * (k + 2)) : IsP n := by
  refine ⟨hn, fun d hd => ?_⟩
  have S := tri_spec n k h
  obtain ⟨c, hc⟩ := hd
  rcases Nat.lt_or_ge d 2 with hd2 | hd2
  · left
    rcases Nat.lt_or_ge d 1 with h | h
    · obtain rfl : d = 0 := by omega
      rw [Nat.zero_mul] at hc; omega
    · omega
  · right
    rcases Nat.lt_or_ge c 2 with hc2 | hc2
    · rcases Nat.lt_or_ge c 1 with h | h
      · obtain rfl : c = 0 := by omega
        rw [Nat.mul_zero] at hc; omega
      · obtain rfl : c = 1 := by omega
        omega
    · have a : k + 2 ≤ d := Nat.le_of_not_lt fun l => S d hd2 l ⟨c, hc⟩
      have b : k + 2 ≤ c := Nat.le_of_not_lt fun l => S c hc2 l ⟨d, by rw [Nat.mul_comm]; exact hc⟩
      have := Nat.mul_le_mul a b
      omega

def qD : Nat := 1152921504606845789
def pD : Nat := 2305843009213691579
theorem pD_q : pD = 2 * qD + 1 := by decide +kernel

theorem prime_95189 : IsP 95189 := prime_tri (k := 320) (by decide) (by decide +kernel) (by decide)
theorem prime_u : IsP 2835870689 := prime_step2 (b := 2427300015) prime_95189 (by decide) (by decide +kernel) (by decide +kernel) (by decide +kernel) (by decide) (by decide)
theorem prime_t : IsP 5671741379 := prime_step2 (b := 4) prime_u (by decide) (by decide +kernel) (by decide +kernel) (by decide +kernel) (by decide) (by decide)
theorem prime_r : IsP 288230376151711447 := prime_step2 (b := 269194018563725675) prime_t (by decide) (by decide +kernel) (by decide +kernel) (by decide +kernel) (by decide) (by decide)
theorem prime_q : IsP qD := prime_step2 (b := 16) prime_r (by decide +kernel) (by decide +kernel) (by decide +kernel) (by decide +kernel) (by decide) (by decide +kernel)

theorem two_q : 2 ^ qD % pD ≠ 1 := by
  have h : 2 ^ qD % pD = pD - 1 := pow_of_pwm (by decide +kernel) (by decide +kernel)
  rw [h]; decide +kernel
theorem two_all : 2 ^ (2 * qD) % pD = 1 := pow_of_pwm (by decide +kernel) (by decide +kernel)
theorem four_q : 4 ^ qD % pD = 1 := pow_of_pwm (by decide +kernel) (by decide +kernel)

theorem qD_pos : 2 < qD := by decide +kernel
theorem one_mod : 1 % pD = 1 := by decide +kernel

/-- 2 is a generator. -/
theorem two_order (k : Nat) (h0 : 0 < k) (h : k < 2 * qD) : 2 ^ k % pD ≠ 1 := by
  intro hk
  have g := pow_gcd (b := 2) (n := pD) k (2 * qD) (by rw [hk, one_mod]) (by rw [two_all, one_mod])
  rw [one_mod] at g
  obtain ⟨d, hd⟩ : ∃ d, d = Nat.gcd k (2 * qD) := ⟨_, rfl⟩
  rw [← hd] at g
  have hdk : d ∣ k := hd ▸ Nat.gcd_dvd_left _ _
  have hdq : d ∣ 2 * qD := hd ▸ Nat.gcd_dvd_right _ _
  have hdl : d ≤ k := Nat.le_of_dvd h0 hdk
  have hcase : d ∣ 2 ∨ d ∣ qD := by
    rcases prime_q.2 _ (Nat.gcd_dvd_right d qD) with e | e
    · left
      exact Nat.Coprime.dvd_of_dvd_mul_right (show Nat.gcd d qD = 1 from e) hdq
    · right
      have hq : qD ∣ d := by
        have h2 := Nat.gcd_dvd_left d qD
        rw [e] at h2
        exact h2
      obtain ⟨c, hc⟩ := hq
      have hc2 : c < 2 := by
        apply Nat.lt_of_not_le
        intro h2
        have : 2 * qD ≤ d := by rw [hc, Nat.mul_comm]; exact Nat.mul_le_mul_left _ h2
        omega
      have : c ≠ 0 := by
        intro h0; rw [h0, Nat.mul_zero] at hc
        rw [hc] at hdk
        have := Nat.eq_zero_of_zero_dvd hdk
        omega
      have hc1 : c = 1 := by omega
      rw [hc, hc1, Nat.mul_one]
      exact Nat.dvd_refl _
  rcases hcase with ⟨c, hc⟩ | ⟨c, hc⟩
  · have : 2 ^ 2 % pD = 1 := by
      have := pow_mod_one (b := 2) (n := pD) (k := d) (by rw [g, one_mod]) c
      rw [← hc, one_mod] at this
      exact this
    exact absurd this (by decide +kernel)
  · have := pow_mod_one (b := 2) (n := pD) (k := d) (by rw [g, one_mod]) c
    rw [← hc, one_mod] at this
    exact two_q this

theorem pD_pos : 0 < pD := by decide +kernel

/-- Each number of the field but 0 is a power of 2. -/
theorem is_power (a : Nat) (h0 : 0 < a) (h : a < pD) : ∃ i, 2 ^ i % pD = a := by
  have nz : ∀ i, 0 < 2 ^ i % pD := by
    intro i
    apply Nat.pos_of_ne_zero
    intro hz
    have e : 2 ^ (i * (2 * qD)) % pD = 1 := by
      have := pow_mod_one (b := 2) (n := pD) (k := 2 * qD) (by rw [two_all, one_mod]) i
      rw [Nat.mul_comm, one_mod] at this
      exact this
    by_cases hi : i = 0
    · subst hi; rw [Nat.pow_zero, one_mod] at hz; omega
    · obtain ⟨m, hm⟩ : ∃ m, i * (2 * qD) = i + m := ⟨i * (2 * qD) - i, by have : i * 1 ≤ i * (2 * qD) := Nat.mul_le_mul_left _ (by have := qD_pos; omega); omega⟩
      rw [hm, Nat.pow_add, Nat.mul_mod, hz, Nat.zero_mul, Nat.zero_mod] at e
      omega
  have lt : ∀ i, 2 ^ i % pD < pD := fun i => Nat.mod_lt _ pD_pos
  have hp := pD_q
  have S := onto_of_inj (2 * qD) (fun i => 2 ^ i % pD - 1) (fun i _ => by have := lt i; have := nz i; show 2 ^ i % pD - 1 < _; omega) (fun i j hi hj hij => by
    have a1 := nz i
    have a2 := nz j
    have hij' : 2 ^ i % pD = 2 ^ j % pD := by
      have : 2 ^ i % pD - 1 = 2 ^ j % pD - 1 := hij
      omega
    have key : ∀ i j, i < j → j < 2 * qD → 2 ^ i % pD = 2 ^ j % pD → False := by
      intro i j l hj h
      apply two_order (j - i) (by omega) (by omega)
      have e : 2 ^ (j + (2 * qD - i)) % pD = 2 ^ (j - i) % pD := by
        have : j + (2 * qD - i) = 2 * qD + (j - i) := by omega
        rw [this, Nat.pow_add, Nat.mul_mod, two_all, Nat.one_mul, Nat.mod_mod]
      have e2 : 2 ^ (j + (2 * qD - i)) % pD = 1 := by
        rw [Nat.pow_add, Nat.mul_mod, ← h, ← Nat.mul_mod, ← Nat.pow_add, show i + (2 * qD - i) = 2 * qD by omega, two_all]
      rw [← e, e2]
    rcases Nat.lt_trichotomy i j with l | l | l
    · exact (key i j l hj hij').elim
    · exact l
    · exact (key j i l hi hij'.symm).elim) (a - 1) (by omega)
  obtain ⟨i, _, hi⟩ := S
  have := nz i
  exact ⟨i, by have : 2 ^ i % pD - 1 = a - 1 := hi; omega⟩

theorem fermat (a : Nat) (h0 : 0 < a) (h : a < pD) : a ^ (pD - 1) % pD = 1 := by
  obtain ⟨i, hi⟩ := is_power a h0 h
  rw [← hi, ← Nat.pow_mod, ← Nat.pow_mul, Nat.mul_comm, show pD - 1 = 2 * qD by have := pD_q; omega]
  have := pow_mod_one (b := 2) (n := pD) (k := 2 * qD) (by rw [two_all, one_mod]) i
  rw [one_mod] at this
  exact this

/-- A power of 4 below the order is not 1. -/
theorem four_order (k : Nat) (h0 : 0 < k) (h : k < qD) : 4 ^ k % pD ≠ 1 := by
  intro hk
  have g := pow_gcd (b := 4) (n := pD) k qD (by rw [hk, one_mod]) (by rw [four_q, one_mod])
  rw [gcd_prime prime_q h0 h] at g
  exact absurd g (by decide +kernel)
end Go.Proofs.YthhaofdnbemogaaDoor
