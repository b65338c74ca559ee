/- Numbers: what an op makes of two numbers of 32 bits, and which branches are taken. -/
import Derived.Test.YtbedgfobbnonjaaRows
import Derived.WalkKit
import Derived.ProofKit
import Derived.OpenShut
import Derived.WalkSpells
namespace Go.Proofs.Ytbedgfobbnonjaa.Num
open Go.ChangeShapes Go.WideShapes Go.ChangeAt Go.RowKit
def one (c : Bool) : Int := if c then 1 else 0
def dv (a b : Int) : Int := if b = 0 then 4294967295 else (wrap32 a).tdiv (wrap32 b) % 4294967296
def du (a b : Int) : Int := if b = 0 then 4294967295 else a / b
def rm (a b : Int) : Int := if b = 0 then a else (wrap32 a).tmod (wrap32 b) % 4294967296
def ru (a b : Int) : Int := if b = 0 then a else a % b
/-- what op makes of a and b -/
def ad (op a b : Int) : Int :=
  if op = 28 then (a + b) % 4294967296 else if op = 19 then (a + b) % 4294967296 else if op = 29 then (a - b) % 4294967296
  else if op = 30 then a * 2 ^ (b % 32).toNat % 4294967296 else if op = 25 then a * 2 ^ (b % 32).toNat % 4294967296
  else if op = 31 then one (decide (wrap32 a < wrap32 b)) else if op = 20 then one (decide (wrap32 a < wrap32 b))
  else if op = 32 then one (decide (a < b)) else if op = 21 then one (decide (a < b))
  else if op = 33 then bits .xor .u32 a b else if op = 22 then bits .xor .u32 a b
  else if op = 34 then a / 2 ^ (b % 32).toNat else if op = 26 then a / 2 ^ (b % 32).toNat
  else if op = 35 then wrap32 a / 2 ^ (b % 32).toNat % 4294967296 else if op = 27 then wrap32 a / 2 ^ (b % 32).toNat % 4294967296
  else if op = 36 then bits .or .u32 a b else if op = 23 then bits .or .u32 a b
  else if op = 37 then bits .and .u32 a b else if op = 24 then bits .and .u32 a b
  else if op = 38 then a * b % 4294967296 else if op = 39 then wrap32 a * wrap32 b / 4294967296 % 4294967296
  else if op = 40 then wrap32 a * b / 4294967296 % 4294967296 else if op = 41 then a * b / 4294967296 % 4294967296
  else if op = 42 then dv a b else if op = 43 then du a b else if op = 44 then rm a b else if op = 45 then ru a b else 0
/-- is the branch op taken on a and b -/
def tk (op a b : Int) : Bool :=
  if op = 5 then a == b else if op = 6 then a != b else if op = 7 then decide (wrap32 a < wrap32 b) else if op = 8 then !decide (wrap32 a < wrap32 b)
  else if op = 9 then decide (a < b) else if op = 10 then !decide (a < b) else false
theorem low5 (b : Int) (h0 : 0 ≤ b) (h1 : b ≤ 4294967295) : bits .and .u32 b 31 = b % 32 := by
  obtain ⟨x, rfl⟩ := Int.eq_ofNat_of_zero_le h0
  rw [show (31 : Int) = ((31 : Nat) : Int) from rfl, u32_and_nat _ _ (by omega) (by decide), show (31 : Nat) = 2 ^ 5 - 1 from rfl, Nat.and_two_pow_sub_one_eq_mod]
  simp
theorem w32_in (a : Int) : -2147483648 ≤ wrap32 a ∧ wrap32 a ≤ 2147483647 := by unfold wrap32; omega
theorem w64_w32 (a : Int) : wrap64 (wrap32 a) = wrap32 a := by unfold wrap64 wrap32; omega
theorem w32_zero (b : Int) (h0 : 0 ≤ b) (h1 : b ≤ 4294967295) (h : b ≠ 0) : wrap32 b ≠ 0 := by unfold wrap32; omega
theorem w64_of {n : Int} (h : -9223372036854775808 ≤ n ∧ n ≤ 9223372036854775807) : wrap64 n = n := by unfold wrap64; omega
/-- a product of two numbers of 32 bits with their signs -/
theorem mul_in (x y : Int) (x0 : -2147483648 ≤ x) (x1 : x ≤ 2147483647) (y0 : -2147483648 ≤ y) (y1 : y ≤ 4294967295) :
    -9223372036854775808 ≤ x * y ∧ x * y ≤ 9223372036854775807 := by
  have h : (x * y).natAbs ≤ 2147483648 * 4294967295 := by
    rw [Int.natAbs_mul]
    exact Nat.mul_le_mul (by omega) (by omega)
  omega
theorem tdiv_in (x y : Int) (x0 : -2147483648 ≤ x) (x1 : x ≤ 2147483647) : -2147483648 ≤ x.tdiv y ∧ x.tdiv y ≤ 2147483648 := by
  have h : (x.tdiv y).natAbs ≤ x.natAbs := by rw [Int.natAbs_tdiv]; exact Nat.div_le_self _ _
  omega
theorem tmod_in (x y : Int) (x0 : -2147483648 ≤ x) (x1 : x ≤ 2147483647) : -2147483648 ≤ x.tmod y ∧ x.tmod y ≤ 2147483648 := by
  have h : (x.tmod y).natAbs ≤ x.natAbs := by rw [Int.natAbs_tmod]; exact Nat.mod_le _ _
  omega
theorem udiv_in (a b : Int) (a0 : 0 ≤ a) (a1 : a ≤ 4294967295) (b0 : 0 ≤ b) : 0 ≤ a / b ∧ a / b ≤ 4294967295 := by
  obtain ⟨x, rfl⟩ := Int.eq_ofNat_of_zero_le a0
  obtain ⟨y, rfl⟩ := Int.eq_ofNat_of_zero_le b0
  have h : x / y ≤ x := Nat.div_le_self _ _
  rw [show (x : Int) / (y : Int) = ((x / y : Nat) : Int) by simp]
  generalize x / y = z at h ⊢
  omega
end Go.Proofs.Ytbedgfobbnonjaa.Num
