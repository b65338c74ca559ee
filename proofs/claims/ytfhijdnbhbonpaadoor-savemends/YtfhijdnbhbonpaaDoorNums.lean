/- Plain numbers, no program: what a count of bits is, that adding neighbouring fields leaves it, and how it goes with exclusive or, or, and, the complement. -/
import Derived.WalkKit
namespace Go.Proofs.YtfhijdnbhbonpaaDoor.Num

/-- the sum of the lowest k digits of n, in base q -/
def fs (q : Nat) : Nat → Nat → Nat
  | 0, _ => 0
  | k + 1, n => n % q + fs q k (n / q)
/-- every second digit of n, in base q, k of them -/
def pick (q : Nat) : Nat → Nat → Nat
  | 0, _ => 0
  | k + 1, n => n % q + q * q * pick q k (n / (q * q))
/-- the mask of every second digit -/
def mask (q : Nat) : Nat → Nat
  | 0 => 0
  | k + 1 => (q - 1) + q * q * mask q k
/-- neighbouring digits added -/
def st (q : Nat) : Nat → Nat → Nat
  | 0, _ => 0
  | k + 1, n => (n % q + n / q % q) + q * q * st q k (n / (q * q))

theorem and_split (s a b : Nat) : a &&& b = (a % 2 ^ s &&& b % 2 ^ s) + 2 ^ s * (a / 2 ^ s &&& b / 2 ^ s) := by
  have h := Nat.mod_add_div (a &&& b) (2 ^ s)
  rw [Nat.and_mod_two_pow, Nat.and_div_two_pow] at h
  exact h.symm

theorem and_mask (s : Nat) : ∀ k n, n &&& mask (2 ^ s) k = pick (2 ^ s) k n
  | 0, n => by simp [mask, pick]
  | k + 1, n => by
    have hq : 0 < 2 ^ s := Nat.two_pow_pos s
    have hp : 2 ^ s * 2 ^ s = 2 ^ (s + s) := by rw [Nat.pow_add]
    have hle : 2 ^ s ≤ 2 ^ s * 2 ^ s := Nat.le_mul_of_pos_left _ hq
    have e1 : mask (2 ^ s) (k + 1) % 2 ^ (s + s) = 2 ^ s - 1 := by
      rw [← hp]; simp only [mask]; rw [Nat.add_mul_mod_self_left]; exact Nat.mod_eq_of_lt (by omega)
    have e2 : mask (2 ^ s) (k + 1) / 2 ^ (s + s) = mask (2 ^ s) k := by
      rw [← hp]; simp only [mask]; rw [Nat.add_mul_div_left _ _ (by omega), Nat.div_eq_of_lt (by omega)]; omega
    rw [and_split (s + s), e1, e2, and_mask s k, Nat.and_two_pow_sub_one_eq_mod, ← hp]
    simp only [pick]
    rw [Nat.mod_mod_of_dvd _ (Nat.dvd_mul_right _ _)]

theorem pick_add (q : Nat) : ∀ k n, pick q k n + pick q k (n / q) = st q k n
  | 0, n => rfl
  | k + 1, n => by
    have e : n / q / (q * q) = n / (q * q) / q := by rw [Nat.div_div_eq_div_mul, Nat.div_div_eq_div_mul, Nat.mul_comm]
    have h := pick_add q k (n / (q * q))
    simp only [pick, st]
    rw [e, ← h, Nat.mul_add]
    omega

theorem two_lt (q : Nat) (hq : 2 ≤ q) (n : Nat) : n % q + n / q % q < q * q := by
  have a : n % q < q := Nat.mod_lt _ (by omega)
  have b : n / q % q < q := Nat.mod_lt _ (by omega)
  have c : 2 * q ≤ q * q := Nat.mul_le_mul_right q hq
  omega

theorem st_lt (q : Nat) (hq : 2 ≤ q) : ∀ k n, st q k n < (q * q) ^ k
  | 0, n => by simp [st]
  | k + 1, n => by
    have h := st_lt q hq k (n / (q * q))
    have a := two_lt q hq n
    have b : q * q * (st q k (n / (q * q)) + 1) ≤ q * q * (q * q) ^ k := Nat.mul_le_mul_left _ h
    simp only [st]
    rw [Nat.pow_succ, Nat.mul_comm ((q * q) ^ k)]
    rw [Nat.mul_add] at b
    omega

theorem fs_st (q : Nat) (hq : 2 ≤ q) : ∀ k n, fs (q * q) k (st q k n) = fs q (2 * k) n
  | 0, n => rfl
  | k + 1, n => by
    have a := two_lt q hq n
    have h := fs_st q hq k (n / (q * q))
    have e : 2 * (k + 1) = 2 * k + 1 + 1 := by omega
    rw [e]
    simp only [fs, st]
    rw [Nat.add_mul_mod_self_left, Nat.mod_eq_of_lt a, Nat.add_mul_div_left _ _ (by omega), Nat.div_eq_of_lt a, Nat.zero_add, h, Nat.div_div_eq_div_mul]
    omega

theorem fs_add (q j : Nat) : ∀ n k, fs q (j + k) n = fs q j n + fs q k (n / q ^ j) := by
  induction j with
  | zero => intro n k; simp [fs]
  | succ j ih =>
    intro n k
    have e : j + 1 + k = (j + k) + 1 := by omega
    rw [e]
    simp only [fs]
    rw [ih, Nat.div_div_eq_div_mul, Nat.pow_succ, Nat.mul_comm q]
    omega

theorem fs_mod (q : Nat) : ∀ k n, fs q k (n % q ^ k) = fs q k n
  | 0, n => rfl
  | k + 1, n => by
    simp only [fs]
    rw [Nat.pow_succ, Nat.mul_comm, Nat.mod_mul_right_div_self, fs_mod q k, Nat.mod_mul_right_mod]

theorem fs_zero (q : Nat) : ∀ k, fs q k 0 = 0
  | 0 => rfl
  | k + 1 => by simp [fs, fs_zero q k]

theorem fs_le : ∀ k n, fs 2 k n ≤ k
  | 0, _ => Nat.le_refl _
  | k + 1, n => by have := fs_le k (n / 2); simp only [fs]; omega

theorem bit_xor (a b : Nat) : (a ^^^ b) % 2 = (a + b) % 2 := by
  have h : (a ^^^ b) % 2 ^ 1 = a % 2 ^ 1 ^^^ b % 2 ^ 1 := Nat.xor_mod_two_pow
  have ha : a % 2 = 0 ∨ a % 2 = 1 := by omega
  have hb : b % 2 = 0 ∨ b % 2 = 1 := by omega
  simp only [Nat.pow_one] at h
  rw [h, Nat.add_mod]
  rcases ha with ha | ha <;> rcases hb with hb | hb <;> rw [ha, hb] <;> rfl

theorem fs_xor : ∀ k a b, fs 2 k (a ^^^ b) % 2 = (fs 2 k a + fs 2 k b) % 2
  | 0, _, _ => rfl
  | k + 1, a, b => by
    have h := fs_xor k (a / 2) (b / 2)
    have e : (a ^^^ b) / 2 = a / 2 ^^^ b / 2 := Nat.xor_div_two
    have m := bit_xor a b
    simp only [fs]
    rw [e]
    omega

theorem bit_and (a b : Nat) : (a &&& b) % 2 = (a % 2) * (b % 2) := by
  have h : (a &&& b) % 2 ^ 1 = a % 2 ^ 1 &&& b % 2 ^ 1 := Nat.and_mod_two_pow
  have ha : a % 2 = 0 ∨ a % 2 = 1 := by omega
  have hb : b % 2 = 0 ∨ b % 2 = 1 := by omega
  simp only [Nat.pow_one] at h
  rw [h]
  rcases ha with ha | ha <;> rcases hb with hb | hb <;> rw [ha, hb] <;> rfl

theorem bit_or (a b : Nat) : (a ||| b) % 2 + (a % 2) * (b % 2) = a % 2 + b % 2 := by
  have h : (a ||| b) % 2 ^ 1 = a % 2 ^ 1 ||| b % 2 ^ 1 := Nat.or_mod_two_pow
  have ha : a % 2 = 0 ∨ a % 2 = 1 := by omega
  have hb : b % 2 = 0 ∨ b % 2 = 1 := by omega
  simp only [Nat.pow_one] at h
  rw [h]
  rcases ha with ha | ha <;> rcases hb with hb | hb <;> rw [ha, hb] <;> rfl

theorem fs_or : ∀ k a b, fs 2 k (a ||| b) + fs 2 k (a &&& b) = fs 2 k a + fs 2 k b
  | 0, _, _ => rfl
  | k + 1, a, b => by
    have h := fs_or k (a / 2) (b / 2)
    have e1 : (a ||| b) / 2 = a / 2 ||| b / 2 := Nat.or_div_two
    have e2 : (a &&& b) / 2 = a / 2 &&& b / 2 := Nat.and_div_two
    have m1 := bit_and a b
    have m2 := bit_or a b
    simp only [fs]
    rw [e1, e2]
    omega

theorem fs_not : ∀ k n, n < 2 ^ k → fs 2 k n + fs 2 k (2 ^ k - 1 - n) = k
  | 0, _, _ => rfl
  | k + 1, n, hn => by
    rw [Nat.pow_succ] at hn
    have hp : 0 < 2 ^ k := Nat.two_pow_pos k
    have h := fs_not k (n / 2) (by omega)
    have e : (2 ^ (k + 1) - 1 - n) / 2 = 2 ^ k - 1 - n / 2 := by rw [Nat.pow_succ]; omega
    have m : n % 2 + (2 ^ (k + 1) - 1 - n) % 2 = 1 := by rw [Nat.pow_succ]; omega
    simp only [fs]
    rw [e]
    omega

theorem xor_all (k n : Nat) (h : n < 2 ^ k) : n ^^^ (2 ^ k - 1) = 2 ^ k - 1 - n := by
  have hp : 0 < 2 ^ k := Nat.two_pow_pos k
  apply Nat.eq_of_testBit_eq
  intro i
  rw [Nat.testBit_xor, Nat.testBit_two_pow_sub_one]
  have e : 2 ^ k - 1 - n = 2 ^ k - (n + 1) := by omega
  rw [e, Nat.testBit_two_pow_sub_succ h]
  by_cases hi : i < k
  · simp [hi]
  · have : n.testBit i = false := Nat.testBit_lt_two_pow (Nat.lt_of_lt_of_le h (Nat.pow_le_pow_right (by decide) (by omega)))
    simp [hi, this]

theorem fs_bit : ∀ k i, i < k → fs 2 k (2 ^ i) = 1
  | 0, _, h => absurd h (Nat.not_lt_zero _)
  | k + 1, 0, _ => by simp [fs, fs_zero]
  | k + 1, i + 1, h => by
    have := fs_bit k i (by omega)
    simp only [fs]
    rw [Nat.pow_succ, Nat.mul_mod_left, Nat.mul_div_left _ (by decide), this]

/-- how many of the lowest 64 bits are 1 -/
def cnt (n : Nat) : Nat := fs 2 64 n
/-- whether that is odd -/
def par (n : Nat) : Nat := cnt n % 2

theorem cnt_le (n : Nat) : cnt n ≤ 64 := fs_le 64 n
theorem par_lt (n : Nat) : par n < 2 := Nat.mod_lt _ (by decide)
theorem par_xor (a b : Nat) : par (a ^^^ b) = (par a + par b) % 2 := by
  have := fs_xor 64 a b; unfold par cnt; omega
theorem cnt_or (a b : Nat) : cnt (a ||| b) + cnt (a &&& b) = cnt a + cnt b := fs_or 64 a b
theorem par_bit (i : Nat) (h : i < 64) : par (2 ^ i) = 1 := by unfold par cnt; rw [fs_bit 64 i h]
theorem cnt_not (n : Nat) (h : n < 18446744073709551616) : cnt n + cnt (18446744073709551615 - n) = 64 := fs_not 64 n h
theorem fs_low (k n : Nat) (hk : k ≤ 64) (h : n < 2 ^ k) : cnt n = fs 2 k n := by
  have e : cnt n = fs 2 (k + (64 - k)) n := by rw [Nat.add_sub_cancel' hk]; rfl
  rw [e, fs_add, Nat.div_eq_of_lt h, fs_zero, Nat.add_zero]
theorem cnt_halves (n : Nat) (h : n < 18446744073709551616) : cnt n = cnt (n / 4294967296) + cnt (n % 4294967296) := by
  rw [fs_low 32 (n / 4294967296) (by decide) (by omega), fs_low 32 (n % 4294967296) (by decide) (by omega)]
  have e : cnt n = fs 2 (32 + 32) n := rfl
  rw [e, fs_add]
  have a := fs_mod 2 32 n
  have a' : fs 2 32 (n % 4294967296) = fs 2 32 n := a
  have b' : fs 2 32 (n / 2 ^ 32) = fs 2 32 (n / 4294967296) := rfl
  omega

theorem xor_small (p q : Nat) (hp : p < 2) (hq : q < 2) : p ^^^ q = (p + q) % 2 := by
  have h1 : p = 0 ∨ p = 1 := by omega
  have h2 : q = 0 ∨ q = 1 := by omega
  rcases h1 with rfl | rfl <;> rcases h2 with rfl | rfl <;> rfl
theorem xor_high (i b a : Nat) (h : b < 2 ^ i) : 2 ^ i * a ^^^ b = b + 2 ^ i * a := by
  have e := Nat.mod_add_div (2 ^ i * a ^^^ b) (2 ^ i)
  rw [Nat.xor_mod_two_pow, Nat.xor_div_two_pow, Nat.mul_mod_right, Nat.mod_eq_of_lt h, Nat.mul_div_cancel_left _ (Nat.two_pow_pos i), Nat.div_eq_of_lt h, Nat.zero_xor, Nat.xor_zero] at e
  exact e.symm
/-- with its parity above it a number has an even count -/
theorem par_put (n : Nat) (h : n < 4294967296) : par (n + 4294967296 * par n) = 0 := by
  have e : n + 4294967296 * par n = 2 ^ 32 * par n ^^^ n := by rw [xor_high 32 n (par n) h]
  have hp := par_lt n
  have h1 : par n = 0 ∨ par n = 1 := by omega
  rw [e, par_xor]
  rcases h1 with h1 | h1 <;> rw [h1]
  · rfl
  · rw [Nat.mul_one, par_bit 32 (by decide)]
/-- two bits of 33 that are turned leave the lowest 32 bits only where they are one -/
theorem two_turns (c i k : Nat) (hi : i < 33) (hk : k < 33) : ((c ^^^ 2 ^ i ^^^ 2 ^ k) % 4294967296 = c % 4294967296) ↔ i = k := by
  constructor
  · intro h
    have t : ∀ j, j < 32 → (c ^^^ 2 ^ i ^^^ 2 ^ k).testBit j = c.testBit j := by
      intro j hj
      have := congrArg (fun x => Nat.testBit x j) h
      have e1 : ((c ^^^ 2 ^ i ^^^ 2 ^ k) % 2 ^ 32).testBit j = (c % 2 ^ 32).testBit j := this
      rw [Nat.testBit_mod_two_pow, Nat.testBit_mod_two_pow] at e1
      simpa [hj] using e1
    have u : ∀ j, j < 32 → (decide (i = j) == decide (k = j)) = true := by
      intro j hj
      have := t j hj
      rw [Nat.testBit_xor, Nat.testBit_xor, Nat.testBit_two_pow, Nat.testBit_two_pow] at this
      revert this
      cases c.testBit j <;> cases decide (i = j) <;> cases decide (k = j) <;> simp
    by_cases h1 : i < 32
    · have := u i h1; simp at this; omega
    · by_cases h2 : k < 32
      · have := u k h2; simp at this; omega
      · omega
  · rintro rfl
    rw [Nat.xor_assoc, Nat.xor_self, Nat.xor_zero]

/-- six times neighbouring fields added: the count -/
theorem cnt_steps (n : Nat) : st 4294967296 1 (st 65536 2 (st 256 4 (st 16 8 (st 4 16 (st 2 32 n))))) = cnt n := by
  have h6 := fs_st 4294967296 (by decide) 1 (st 65536 2 (st 256 4 (st 16 8 (st 4 16 (st 2 32 n)))))
  have h5 := fs_st 65536 (by decide) 2 (st 256 4 (st 16 8 (st 4 16 (st 2 32 n))))
  have h4 := fs_st 256 (by decide) 4 (st 16 8 (st 4 16 (st 2 32 n)))
  have h3 := fs_st 16 (by decide) 8 (st 4 16 (st 2 32 n))
  have h2 := fs_st 4 (by decide) 16 (st 2 32 n)
  have h1 := fs_st 2 (by decide) 32 n
  have b := st_lt 4294967296 (by decide) 1 (st 65536 2 (st 256 4 (st 16 8 (st 4 16 (st 2 32 n)))))
  have e1 : fs 2 (2 * 32) n = cnt n := rfl
  rw [e1] at h1
  rw [h1] at h2
  rw [h2] at h3
  rw [h3] at h4
  rw [h4] at h5
  rw [h5] at h6
  rw [← h6]
  generalize st 4294967296 1 _ = x at b
  simp only [fs]
  rw [Nat.mod_eq_of_lt (by omega)]
  omega
end Go.Proofs.YtfhijdnbhbonpaaDoor.Num
