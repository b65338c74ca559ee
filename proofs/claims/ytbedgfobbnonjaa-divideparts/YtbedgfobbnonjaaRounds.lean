/- Numbers: rounds of a multiplication and of a division, bit by bit, and what they come to. -/
namespace Go.Proofs.Ytbedgfobbnonjaa.Num
/-- one round of a multiplication by y, of a division by y -/
def mS (p y : Nat) : Nat := p / 2 + p % 2 * (y * 2147483648)
def dS (p y : Nat) : Nat := if y ≤ p / 2147483648 then (p / 2147483648 - y) * 4294967296 + (p % 2147483648 * 2 + 1) else p / 2147483648 * 4294967296 + p % 2147483648 * 2
def rd (m : Bool) (y p : Nat) : Nat := if m then mS p y else dS p y
def rds (m : Bool) (y : Nat) : Nat → Nat → Nat
  | 0, p => p
  | n + 1, p => rd m y (rds m y n p)
theorem mS_lt {p y : Nat} (h : p < 18446744073709551616) (hy : y < 4294967296) : mS p y < 18446744073709551616 := by
  unfold mS
  rcases Nat.mod_two_eq_zero_or_one p with e | e <;> rw [e] <;> omega
theorem pow_split {n k s : Nat} (h : n + k = s) : 2 ^ n * 2 ^ k = 2 ^ s := by rw [← Nat.pow_add, h]
theorem mul_as (a y : Nat) : ∀ n, n ≤ 32 → rds true y n a = a / 2 ^ n + a % 2 ^ n * (y * 2 ^ (32 - n))
  | 0, _ => by simp [rds, Nat.mod_one]
  | n + 1, h => by
    have ih := mul_as a y n (by omega)
    have e : 32 - n = (32 - (n + 1)) + 1 := by omega
    have f : 2 ^ n * 2 ^ (32 - (n + 1)) = 2147483648 := pow_split (s := 31) (by omega)
    have d : a / 2 ^ (n + 1) = a / 2 ^ n / 2 := by rw [Nat.pow_succ, Nat.div_div_eq_div_mul]
    have m : a % 2 ^ (n + 1) = a % 2 ^ n + 2 ^ n * (a / 2 ^ n % 2) := Nat.mod_pow_succ
    show rd true y (rds true y n a) = _
    rw [ih, rd, if_pos rfl, mS, d, m, e, Nat.pow_succ]
    generalize a / 2 ^ n = A
    generalize a % 2 ^ n = R
    generalize 2 ^ (32 - (n + 1)) = K at f ⊢
    generalize 2 ^ n = N at f ⊢
    have g : R * (y * (K * 2)) = 2 * (R * (y * K)) := by rw [← Nat.mul_assoc y, ← Nat.mul_assoc R, Nat.mul_comm]
    rw [g]
    have q1 : (A + 2 * (R * (y * K))) / 2 = A / 2 + R * (y * K) := by omega
    have q2 : (A + 2 * (R * (y * K))) % 2 = A % 2 := by omega
    rw [q1, q2, Nat.add_mul, Nat.mul_comm N, Nat.mul_assoc (A % 2), Nat.mul_left_comm N, f]
    omega
theorem mul_lt (a y : Nat) (ha : a < 4294967296) (hy : y < 4294967296) : ∀ n, rds true y n a < 18446744073709551616
  | 0 => by simp only [rds]; omega
  | n + 1 => mS_lt (mul_lt a y ha hy n) hy
theorem mul_end (a y : Nat) (ha : a < 4294967296) : rds true y 32 a = a * y := by
  rw [mul_as a y 32 (Nat.le_refl _), Nat.sub_self, Nat.pow_zero, Nat.mul_one, Nat.mod_eq_of_lt (by omega), Nat.div_eq_of_lt (by omega), Nat.zero_add]
/-- what is in the pair of a division behind n rounds; q: the quotient as far -/
def dP (a r q n : Nat) : Nat := r * 4294967296 + (a % 2 ^ (32 - n) * 2 ^ n + q)
theorem dP_step (a r q n : Nat) (h : n < 32) (hq : q < 2 ^ n) :
    dP a r q n / 2147483648 = 2 * r + a / 2 ^ (31 - n) % 2 ∧ dP a r q n % 2147483648 = a % 2 ^ (31 - n) * 2 ^ n + q := by
  have e : 32 - n = (31 - n) + 1 := by omega
  have f : 2 ^ (31 - n) * 2 ^ n = 2147483648 := pow_split (s := 31) (by omega)
  have m : a % 2 ^ ((31 - n) + 1) = a % 2 ^ (31 - n) + 2 ^ (31 - n) * (a / 2 ^ (31 - n) % 2) := Nat.mod_pow_succ
  have l : a % 2 ^ (31 - n) < 2 ^ (31 - n) := Nat.mod_lt _ (Nat.two_pow_pos _)
  have l' : (a % 2 ^ (31 - n) + 1) * 2 ^ n ≤ 2 ^ (31 - n) * 2 ^ n := Nat.mul_le_mul_right _ l
  rw [Nat.add_mul, Nat.one_mul, f] at l'
  unfold dP
  rw [e, m, Nat.add_mul, Nat.mul_right_comm, f]
  generalize a % 2 ^ (31 - n) * 2 ^ n = L at l' ⊢
  generalize a / 2 ^ (31 - n) = X
  generalize 2 ^ n = N at hq l'
  omega
theorem dS_yes {p y r l : Nat} (h1 : p / 2147483648 = r) (h2 : p % 2147483648 = l) (h : y ≤ r) : dS p y = (r - y) * 4294967296 + (l * 2 + 1) := by
  unfold dS; rw [h1, h2, if_pos h]
theorem dS_no {p y r l : Nat} (h1 : p / 2147483648 = r) (h2 : p % 2147483648 = l) (h : ¬ y ≤ r) : dS p y = r * 4294967296 + l * 2 := by
  unfold dS; rw [h1, h2, if_neg h]
theorem top_lt (a n : Nat) (ha : a < 4294967296) (h : n ≤ 32) : a / 2 ^ (32 - n) < 2 ^ n := by
  rw [Nat.div_lt_iff_lt_mul (Nat.two_pow_pos _), pow_split (s := 32) (by omega)]
  exact ha
theorem top_step (a n : Nat) (h : n < 32) : a / 2 ^ (31 - n) = 2 * (a / 2 ^ (32 - n)) + a / 2 ^ (31 - n) % 2 := by
  have e : 32 - n = (31 - n) + 1 := by omega
  rw [e, Nat.pow_succ, ← Nat.div_div_eq_div_mul]
  omega
theorem div_as (a y : Nat) (ha : a < 4294967296) (hy : 0 < y) : ∀ n, n ≤ 32 → rds false y n a = dP a (a / 2 ^ (32 - n) % y) (a / 2 ^ (32 - n) / y) n
  | 0, _ => by
    have z : a / 2 ^ (32 - 0) = 0 := Nat.div_eq_of_lt (by simpa using ha)
    rw [z, Nat.zero_mod, Nat.zero_div]
    show a = _
    unfold dP
    have m : a % 2 ^ (32 - 0) = a := Nat.mod_eq_of_lt (by simpa using ha)
    rw [m]; simp
  | n + 1, h => by
    have ih := div_as a y ha hy n (by omega)
    have t := top_lt a n ha (by omega)
    have q : a / 2 ^ (32 - n) / y < 2 ^ n := Nat.lt_of_le_of_lt (Nat.div_le_self _ _) t
    obtain ⟨p1, p2⟩ := dP_step a (a / 2 ^ (32 - n) % y) _ n (by omega) q
    have s := top_step a n (by omega)
    have e : 32 - (n + 1) = 31 - n := by omega
    show rd false y (rds false y n a) = _
    rw [ih, rd, if_neg (by decide), e]
    unfold dP at p1 p2
    have w : a % 2 ^ (32 - (n + 1)) * 2 ^ (n + 1) = 2 * (a % 2 ^ (31 - n) * 2 ^ n) := by rw [e, Nat.pow_succ, ← Nat.mul_assoc, Nat.mul_comm]
    have r := Nat.mod_lt (a / 2 ^ (32 - n)) hy
    have v := Nat.div_add_mod (a / 2 ^ (32 - n)) y
    have u := Nat.mod_two_eq_zero_or_one (a / 2 ^ (31 - n))
    generalize a / 2 ^ (32 - n) % y = R at *
    generalize a / 2 ^ (32 - n) / y = Q at *
    generalize a / 2 ^ (32 - n) = X at *
    generalize a / 2 ^ (31 - n) % 2 = b at *
    generalize a / 2 ^ (31 - n) = Z at *
    have z : Z = (2 * R + b) + y * (2 * Q) := by rw [s, ← v, Nat.mul_add, Nat.mul_left_comm]; omega
    by_cases c : y ≤ 2 * R + b
    · have z2 : Z = (2 * R + b - y) + y * (2 * Q + 1) := by rw [z, Nat.mul_add, Nat.mul_one]; omega
      have zm : Z % y = 2 * R + b - y := by rw [z2, Nat.add_mul_mod_self_left]; exact Nat.mod_eq_of_lt (by omega)
      have zd : Z / y = 2 * Q + 1 := by rw [z2, Nat.add_mul_div_left _ _ hy, Nat.div_eq_of_lt (by omega)]; omega
      rw [dP, dS_yes p1 p2 c, dP, zm, zd, w]; omega
    · have zm : Z % y = 2 * R + b := by rw [z, Nat.add_mul_mod_self_left]; exact Nat.mod_eq_of_lt (by omega)
      have zd : Z / y = 2 * Q := by rw [z, Nat.add_mul_div_left _ _ hy, Nat.div_eq_of_lt (by omega)]; omega
      rw [dP, dS_no p1 p2 c, dP, zm, zd, w]; omega
theorem div_nil (a : Nat) (ha : a < 4294967296) : ∀ n, n ≤ 32 → rds false 0 n a = dP a (a / 2 ^ (32 - n)) (2 ^ n - 1) n
  | 0, _ => by
    have z : a / 2 ^ (32 - 0) = 0 := Nat.div_eq_of_lt (by simpa using ha)
    rw [z]
    show a = _
    unfold dP
    have m : a % 2 ^ (32 - 0) = a := Nat.mod_eq_of_lt (by simpa using ha)
    rw [m]; simp
  | n + 1, h => by
    have ih := div_nil a ha n (by omega)
    have k := Nat.two_pow_pos n
    obtain ⟨p1, p2⟩ := dP_step a (a / 2 ^ (32 - n)) (2 ^ n - 1) n (by omega) (by omega)
    have s := top_step a n (by omega)
    have e : 32 - (n + 1) = 31 - n := by omega
    have w : a % 2 ^ (32 - (n + 1)) * 2 ^ (n + 1) = 2 * (a % 2 ^ (31 - n) * 2 ^ n) := by rw [e, Nat.pow_succ, ← Nat.mul_assoc, Nat.mul_comm]
    show rd false 0 (rds false 0 n a) = _
    rw [ih, rd, if_neg (by decide), dS_yes p1 p2 (Nat.zero_le _), dP, w, e, ← s, Nat.sub_zero, Nat.pow_succ]
    generalize a % 2 ^ (31 - n) * 2 ^ n = L
    generalize a / 2 ^ (31 - n) = Z
    clear p1 p2 ih s e w
    generalize 2 ^ n = N at k ⊢
    omega
theorem div_end (a y : Nat) (ha : a < 4294967296) (hy : 0 < y) : rds false y 32 a = a % y * 4294967296 + a / y := by
  rw [div_as a y ha hy 32 (Nat.le_refl _), Nat.sub_self, Nat.pow_zero, Nat.div_one, dP, Nat.sub_self, Nat.pow_zero, Nat.mod_one]
  all_goals omega
theorem div_end0 (a : Nat) (ha : a < 4294967296) : rds false 0 32 a = a * 4294967296 + 4294967295 := by
  rw [div_nil a ha 32 (Nat.le_refl _), Nat.sub_self, Nat.pow_zero, Nat.div_one, dP, Nat.sub_self, Nat.pow_zero, Nat.mod_one]
  all_goals omega
/-- the next round's sums go into 64 bits -/
theorem div_fit (a y : Nat) (ha : a < 4294967296) (hy : y < 4294967296) (n : Nat) (h : n < 32) : rds false y n a / 2147483648 < y + 4294967296 := by
  rcases Nat.eq_zero_or_pos y with rfl | p
  · have k := Nat.two_pow_pos n
    rw [div_nil a ha n (by omega), (dP_step a _ (2 ^ n - 1) n h (by omega)).1, ← top_step a n h]
    have := Nat.div_le_self a (2 ^ (31 - n))
    omega
  · have t := top_lt a n ha (by omega)
    have q : a / 2 ^ (32 - n) / y < 2 ^ n := Nat.lt_of_le_of_lt (Nat.div_le_self _ _) t
    rw [div_as a y ha p n (by omega), (dP_step a _ _ n h q).1]
    have r := Nat.mod_lt (a / 2 ^ (32 - n)) p
    have u := Nat.mod_two_eq_zero_or_one (a / 2 ^ (31 - n))
    omega
theorem dS_lt {p y : Nat} (h : p / 2147483648 < y + 4294967296) (hy : y < 4294967296) : dS p y < 18446744073709551616 := by
  unfold dS
  split <;> omega
theorem div_lt (a y : Nat) (ha : a < 4294967296) (hy : y < 4294967296) : ∀ n, n ≤ 32 → rds false y n a < 18446744073709551616
  | 0, _ => by simp only [rds]; omega
  | n + 1, h => dS_lt (div_fit a y ha hy n h) hy
end Go.Proofs.Ytbedgfobbnonjaa.Num
