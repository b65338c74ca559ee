/- Numbers: bits that are cleared; small masks of numbers with a sign. -/
import Derived.Test.YtlnliiihcajboaaDoorImms
namespace Go.Proofs.YtlnliiihcajboaaDoor.Num
open Go.ChangeShapes Go.WideShapes Go.ChangeAt Go.RowKit
/-- n bits from bit s on are cleared -/
theorem clear (x s n t : Nat) (h : s + n + t = 32) (hx : x < 4294967296) : x &&& (2 ^ (s + n) * (2 ^ t - 1) + (2 ^ s - 1)) = 2 ^ (s + n) * (x / 2 ^ (s + n)) + x % 2 ^ s := by
  have p : 2 ^ s ≤ 2 ^ (s + n) := Nat.pow_le_pow_right (by decide) (by omega)
  have p0 : 0 < 2 ^ s := Nat.two_pow_pos s
  have b1 : 2 ^ s - 1 < 2 ^ (s + n) := by omega
  have b2 : x % 2 ^ s < 2 ^ (s + n) := Nat.lt_of_lt_of_le (Nat.mod_lt _ p0) p
  apply Nat.eq_of_testBit_eq
  intro i
  rw [Nat.testBit_and, Nat.testBit_two_pow_mul_add _ b1, Nat.testBit_two_pow_mul_add _ b2]
  split
  · rw [Nat.testBit_two_pow_sub_one, Nat.testBit_mod_two_pow, Bool.and_comm]
  · rename_i hi
    rw [Nat.testBit_two_pow_sub_one, Nat.testBit_div_two_pow, show i - (s + n) + (s + n) = i by omega]
    by_cases hl : i < 32
    · rw [decide_eq_true (by omega), Bool.and_true]
    · have q : (2 : Nat) ^ 32 ≤ 2 ^ i := Nat.pow_le_pow_right (by decide) (by omega)
      have z : x.testBit i = false := Nat.testBit_lt_two_pow (Nat.lt_of_lt_of_le hx q)
      rw [z, Bool.false_and]
/-- the same of the machine's words: m is the mask, p and q are where it ends and begins -/
theorem clear_as (x m p q : Int) (s n t : Nat) (h : s + n + t = 32) (x0 : 0 ≤ x) (x1 : x ≤ 4294967295) (m0 : 0 ≤ m) (m1 : m ≤ 4294967295)
    (hm : 4294967295 - m.toNat = 2 ^ (s + n) * (2 ^ t - 1) + (2 ^ s - 1)) (hp : ((2 ^ (s + n) : Nat) : Int) = p) (hq : ((2 ^ s : Nat) : Int) = q) :
    bits .andNot .u32 x m = p * (x / p) + x % q := by
  subst hp hq
  obtain ⟨a, rfl⟩ := Int.eq_ofNat_of_zero_le x0
  rw [u32_andNot _ _ (by omega) (by omega) (by omega) (by omega), hm, Int.toNat_natCast, clear a s n t h (by omega)]
  simp
theorem and_small (k n : Int) (m : Nat) (hk : ((2 ^ m - 1 : Nat) : Int) = k) (hm : m ≤ 5) : ∃ c : Int, bits .and .i64 n k = c ∧ 0 ≤ c ∧ c ≤ k := by
  subst hk
  have p : (2 : Nat) ^ m ≤ 2 ^ 5 := Nat.pow_le_pow_right (by decide) hm
  have h : (BitVec.ofInt 64 n &&& BitVec.ofInt 64 ((2 ^ m - 1 : Nat) : Int)).toNat ≤ 2 ^ m - 1 := by
    rw [BitVec.toNat_and]
    refine Nat.le_trans Nat.and_le_right ?_
    rw [ofInt_u64 _ (by omega)]
    exact Nat.le_refl _
  refine ⟨((BitVec.ofInt 64 n &&& BitVec.ofInt 64 ((2 ^ m - 1 : Nat) : Int)).toNat : Int), ?_, by omega, by omega⟩
  show IntKind.i64.wrap ((BitVec.ofInt 64 n &&& BitVec.ofInt 64 ((2 ^ m - 1 : Nat) : Int)).toNat : Int) = _
  rw [IntKind.wrap_i64]
  omega
theorem and_zero (b k : Int) (m : Nat) (hk : ((2 ^ m - 1 : Nat) : Int) = k) (hm : m ≤ 31) (hb : b % ((2 ^ m : Nat) : Int) = 0) : bits .and .i32 b k = 0 := by
  subst hk
  have p : (2 : Nat) ^ m ≤ 2 ^ 31 := Nat.pow_le_pow_right (by decide) hm
  have p0 : 0 < 2 ^ m := Nat.two_pow_pos m
  have h : (BitVec.ofInt 32 b &&& BitVec.ofInt 32 ((2 ^ m - 1 : Nat) : Int)).toNat = 0 := by
    rw [BitVec.toNat_and, ofInt_u32 (2 ^ m - 1) (by omega), Nat.and_two_pow_sub_one_eq_mod, BitVec.toNat_ofInt]
    have d : ((2 ^ m : Nat) : Int) ∣ ((2 ^ 32 : Nat) : Int) := by
      refine Int.natCast_dvd_natCast.mpr (Nat.pow_dvd_pow 2 (by omega))
    have e : b % ((2 ^ 32 : Nat) : Int) % ((2 ^ m : Nat) : Int) = 0 := by rw [Int.emod_emod_of_dvd b d, hb]
    have f : 0 ≤ b % ((2 ^ 32 : Nat) : Int) := Int.emod_nonneg _ (by decide)
    obtain ⟨c, hc⟩ := Int.eq_ofNat_of_zero_le f
    rw [hc] at e ⊢
    rw [Int.toNat_natCast]
    exact_mod_cast e
  show IntKind.i32.wrap ((BitVec.ofInt 32 b &&& BitVec.ofInt 32 ((2 ^ m - 1 : Nat) : Int)).toNat : Int) = 0
  rw [h]
  rfl
end Go.Proofs.YtlnliiihcajboaaDoor.Num
