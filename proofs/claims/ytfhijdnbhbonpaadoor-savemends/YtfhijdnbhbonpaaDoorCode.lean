/- Plain numbers, no program: the code of 39 bits: syndromes, columns, what mending answers. -/
import Derived.Test.YtfhijdnbhbonpaaDoorNums
namespace Go.Proofs.YtfhijdnbhbonpaaDoor.Num

/-- row k of the code -/
def row : Nat → Nat
  | 0 => 5447429303
  | 1 => 10893808987
  | 2 => 17488452205
  | 3 => 34955912078
  | 4 => 69727093744
  | 5 => 140661226496
  | 6 => 279171825664
  | _ => 0
/-- the lowest k bits of the syndrome -/
def synK : Nat → Nat → Nat
  | 0, _ => 0
  | k + 1, w => synK k w + 2 ^ k * par (w &&& row k)
def syn (w : Nat) : Nat := synK 7 w
/-- the columns, written out -/
def colL : List Nat := [7, 11, 13, 14, 19, 21, 22, 25, 26, 28, 35, 37, 38, 41, 42, 44, 49, 50, 52, 56, 67, 69, 70, 73, 74, 76, 81, 82, 84, 88, 97, 98, 1, 2, 4, 8, 16, 32, 64]
def col (b : Nat) : Nat := colL.getD b 0
/-- the bit whose column it is -/
def plc (s : Nat) : Option Nat := (List.range 39).find? fun b => col b == s
def enc (n : Nat) : Nat := n + 4294967296 * syn n
def mendW (w : Nat) : Nat := if syn (w % 549755813888) = 0 then w % 549755813888 else match plc (syn (w % 549755813888)) with | some b => w % 549755813888 ^^^ 2 ^ b | none => w % 549755813888
def mendS (w : Nat) : Nat := if syn (w % 549755813888) = 0 then 0 else match plc (syn (w % 549755813888)) with | some _ => 1 | none => 2

theorem synK_lt : ∀ k w, synK k w < 2 ^ k
  | 0, _ => by simp [synK]
  | k + 1, w => by
    have h := synK_lt k w
    have p := par_lt (w &&& row k)
    have q : 2 ^ k * par (w &&& row k) ≤ 2 ^ k * 1 := Nat.mul_le_mul_left _ (by omega)
    simp only [synK]
    rw [Nat.pow_succ]
    omega
theorem syn_lt (w : Nat) : syn w < 128 := synK_lt 7 w
theorem row_lt (k : Nat) : row k < 549755813888 := by
  match k with
  | 0 | 1 | 2 | 3 | 4 | 5 | 6 => decide
  | _ + 7 => simp [row]
theorem mul_xor (k p q : Nat) : 2 ^ k * p ^^^ 2 ^ k * q = 2 ^ k * (p ^^^ q) := by
  have h := @Nat.shiftLeft_xor_distrib k p q
  simp only [Nat.shiftLeft_eq] at h
  rw [Nat.mul_comm _ p, Nat.mul_comm _ q, Nat.mul_comm _ (p ^^^ q)]
  exact h.symm
theorem xor_parts (k x y p q : Nat) (hx : x < 2 ^ k) (hy : y < 2 ^ k) : (x + 2 ^ k * p) ^^^ (y + 2 ^ k * q) = (x ^^^ y) + 2 ^ k * (p ^^^ q) := by
  rw [← xor_high k x p hx, ← xor_high k y q hy, ← xor_high k (x ^^^ y) (p ^^^ q) (Nat.xor_lt_two_pow hx hy), ← mul_xor]
  ac_rfl
theorem synK_xor : ∀ k a b, synK k (a ^^^ b) = synK k a ^^^ synK k b
  | 0, _, _ => by simp [synK]
  | k + 1, a, b => by
    have h := synK_xor k a b
    have e : (a ^^^ b) &&& row k = (a &&& row k) ^^^ (b &&& row k) := Nat.and_xor_distrib_right
    have p : par ((a ^^^ b) &&& row k) = par (a &&& row k) ^^^ par (b &&& row k) := by
      rw [e, par_xor, xor_small _ _ (par_lt _) (par_lt _)]
    simp only [synK]
    rw [xor_parts k _ _ _ _ (synK_lt k a) (synK_lt k b), h, p]
theorem syn_xor (a b : Nat) : syn (a ^^^ b) = syn a ^^^ syn b := synK_xor 7 a b
theorem syn_zero : syn 0 = 0 := by decide +kernel
theorem syn_col : ∀ i, i < 39 → syn (2 ^ i) = col i := by decide +kernel
theorem syn_checks : ∀ s, s < 128 → syn (4294967296 * s) = s := by decide +kernel
theorem col_lt : ∀ i, i < 39 → col i < 128 := by decide +kernel
theorem col_par : ∀ i, i < 39 → par (col i) = 1 := by decide +kernel
theorem col_pos : ∀ i, i < 39 → col i ≠ 0 := by decide +kernel
theorem col_cnt : ∀ i, i < 39 → cnt (col i) = if i < 32 then 3 else 1 := by decide +kernel
theorem plc_col : ∀ i, i < 39 → plc (col i) = some i := by decide +kernel
theorem col_inj (i k : Nat) (hi : i < 39) (hk : k < 39) : col i = col k ↔ i = k := by
  constructor
  · intro h
    have a := plc_col i hi
    rw [h, plc_col k hk] at a
    exact (Option.some.inj a).symm
  · rintro rfl; rfl
theorem col_bits : ∀ b, b < 39 → ∀ j, j < 7 → row j / 2 ^ b % 2 = col b / 2 ^ j % 2 := by decide +kernel
theorem plc_some {s b : Nat} (h : plc s = some b) : b < 39 ∧ col b = s := by
  have h1 := List.mem_of_find?_eq_some h
  have h2 := List.find?_some h
  exact ⟨List.mem_range.1 h1, by simpa using h2⟩
theorem plc_none {s : Nat} : plc s = none ↔ ∀ b, b < 39 → col b ≠ s := by
  unfold plc
  rw [List.find?_eq_none]
  constructor
  · intro h b hb e
    exact h b (List.mem_range.2 hb) (by simp [e])
  · intro h b hb e
    exact h b (List.mem_range.1 hb) (by simpa using e)
theorem plc_hit {s b : Nat} (hb : b < 39) (h : col b = s) : plc s = some b := by rw [← h]; exact plc_col b hb
/-- seven bits that agree -/
theorem bits7 (a b : Nat) (ha : a < 128) (hb : b < 128) (h : ∀ j, j < 7 → a / 2 ^ j % 2 = b / 2 ^ j % 2) : a = b := by
  have h0 := h 0 (by decide)
  have h1 := h 1 (by decide)
  have h2 := h 2 (by decide)
  have h3 := h 3 (by decide)
  have h4 := h 4 (by decide)
  have h5 := h 5 (by decide)
  have h6 := h 6 (by decide)
  simp only [Nat.reducePow] at h0 h1 h2 h3 h4 h5 h6
  omega
theorem enc_lt (n : Nat) (h : n < 4294967296) : enc n < 549755813888 := by have := syn_lt n; unfold enc; omega
theorem enc_xor (n : Nat) (h : n < 4294967296) : enc n = n ^^^ 4294967296 * syn n := by
  have := xor_high 32 n (syn n) h
  unfold enc
  rw [Nat.xor_comm]
  exact this.symm
theorem syn_enc (n : Nat) (h : n < 4294967296) : syn (enc n) = 0 := by
  rw [enc_xor n h, syn_xor, syn_checks _ (syn_lt n), Nat.xor_self]
theorem enc_mod (n : Nat) (h : n < 4294967296) : enc n % 4294967296 = n := by unfold enc; omega
theorem bit_lt (i : Nat) (h : i < 39) : 2 ^ i < 549755813888 := by
  have : 2 ^ i < 2 ^ 39 := Nat.pow_lt_pow_right (by decide) h
  omega
theorem xor39 {a b : Nat} (ha : a < 549755813888) (hb : b < 549755813888) : a ^^^ b < 549755813888 := by
  have : a ^^^ b < 2 ^ 39 := Nat.xor_lt_two_pow (by omega) (by omega)
  omega
theorem mend_good (w : Nat) (h : w < 549755813888) (hs : syn w = 0) : mendW w = w ∧ mendS w = 0 := by
  unfold mendW mendS
  rw [Nat.mod_eq_of_lt h, hs]
  exact ⟨rfl, rfl⟩
theorem mend_hit (w b : Nat) (h : w < 549755813888) (hb : b < 39) (hs : syn w = col b) : mendW w = w ^^^ 2 ^ b ∧ mendS w = 1 := by
  unfold mendW mendS
  rw [Nat.mod_eq_of_lt h, hs, if_neg (col_pos b hb), if_neg (col_pos b hb), plc_col b hb]
  exact ⟨rfl, rfl⟩
theorem xor_zero_eq {a b : Nat} (h : a ^^^ b = 0) : a = b := by
  have e : a ^^^ b ^^^ b = b := by rw [h, Nat.zero_xor]
  rw [Nat.xor_assoc, Nat.xor_self, Nat.xor_zero] at e
  exact e
theorem syn_one (n i : Nat) (h : n < 4294967296) (hi : i < 39) : syn (enc n ^^^ 2 ^ i) = col i := by
  rw [syn_xor, syn_enc n h, syn_col i hi, Nat.zero_xor]
/-- one bit turned: the word as it was, Fixed -/
theorem mend_one (n i : Nat) (h : n < 4294967296) (hi : i < 39) : mendW (enc n ^^^ 2 ^ i) = enc n ∧ mendS (enc n ^^^ 2 ^ i) = 1 := by
  have := mend_hit (enc n ^^^ 2 ^ i) i (xor39 (enc_lt n h) (bit_lt i hi)) hi (syn_one n i h hi)
  rw [Nat.xor_assoc, Nat.xor_self, Nat.xor_zero] at this
  exact this
/-- two bits turned: Bad -/
theorem mend_two (n i k : Nat) (h : n < 4294967296) (hi : i < 39) (hk : k < 39) (hik : i ≠ k) : mendS (enc n ^^^ 2 ^ i ^^^ 2 ^ k) = 2 := by
  have s : syn (enc n ^^^ 2 ^ i ^^^ 2 ^ k) = col i ^^^ col k := by rw [syn_xor, syn_one n i h hi, syn_col k hk]
  have z : col i ^^^ col k ≠ 0 := fun e => hik ((col_inj i k hi hk).1 (xor_zero_eq e))
  have p : plc (col i ^^^ col k) = none := by
    rw [plc_none]
    intro b hb e
    have := col_par b hb
    rw [e, par_xor, col_par i hi, col_par k hk] at this
    exact absurd this (by decide)
  unfold mendS
  rw [Nat.mod_eq_of_lt (xor39 (xor39 (enc_lt n h) (bit_lt i hi)) (bit_lt k hk)), s, if_neg z, p]
theorem mend_same (n i : Nat) (h : n < 4294967296) : mendS (enc n ^^^ 2 ^ i ^^^ 2 ^ i) = 0 := by
  rw [Nat.xor_assoc, Nat.xor_self, Nat.xor_zero]
  exact (mend_good _ (enc_lt n h) (syn_enc n h)).2
theorem enc_add (n m : Nat) (hn : n < 4294967296) (hm : m < 4294967296) : enc n ^^^ enc m = enc (n ^^^ m) := by
  have h : n ^^^ m < 4294967296 := by
    have : n ^^^ m < 2 ^ 32 := Nat.xor_lt_two_pow (by omega) (by omega)
    omega
  rw [enc_xor n hn, enc_xor m hm, enc_xor _ h, syn_xor]
  have := mul_xor 32 (syn n) (syn m)
  simp only [Nat.reducePow] at this
  rw [← this]
  generalize 4294967296 * syn n = x
  generalize 4294967296 * syn m = y
  ac_rfl
end Go.Proofs.YtfhijdnbhbonpaaDoor.Num
