/- Numbers: runs of bits and numbers with a sign, as remainders. -/
import Derived.Test.YtlnliiihcajboaaDoorRows
import Derived.WalkKit
import Derived.ProofKit
import Derived.OpenShut
import Derived.WalkSpells
namespace Go.Proofs.YtlnliiihcajboaaDoor.Num
open Go.ChangeShapes Go.WideShapes Go.ChangeAt Go.RowKit
/-- the number v's remainder behind h bits and its sign: from -h up to h, h not among them -/
def sg (h v : Int) : Int := (v + h) % (2 * h) - h
/-- n bits of v from bit a on -/
def bt (v a n : Int) : Int := if 0 ≤ a ∧ a ≤ 31 ∧ 1 ≤ n ∧ n ≤ 32 then v / 2 ^ a.toNat % 2 ^ n.toNat else 0
/-- the lowest n bits of v, with a sign -/
def sn (v n : Int) : Int := if 1 ≤ n ∧ n ≤ 32 then sg (2 ^ (n.toNat - 1)) v else 0
theorem shift_mod (x : Int) (r n : Nat) (h : r + n = 32) : x * 2 ^ r % 4294967296 = x % 2 ^ n * 2 ^ r := by
  have e : (4294967296 : Int) = 2 ^ r * 2 ^ n := by rw [← Int.pow_add, h]; rfl
  rw [e, Int.mul_comm x, Int.mul_emod_mul_of_pos _ _ (Int.pow_pos (by decide)), Int.mul_comm]
theorem up_down (x : Int) (r n : Nat) (h : r + n = 32) : x * 2 ^ r % 4294967296 / 2 ^ r = x % 2 ^ n := by
  rw [shift_mod x r n h, Int.mul_ediv_cancel _ (Int.ne_of_gt (Int.pow_pos (by decide)))]
theorem wrap32_as (x : Int) : wrap32 x = (x + 2147483648) % 4294967296 - 2147483648 := by
  unfold wrap32; omega
theorem sign_up_down (x : Int) (r n : Nat) (h : r + (n + 1) = 32) : wrap32 (x * 2 ^ r % 4294967296) / 2 ^ r = sg (2 ^ n) x := by
  have e : (2147483648 : Int) = 2 ^ n * 2 ^ r := by rw [← Int.pow_add, show n + r = 31 by omega]; rfl
  have p : (2 : Int) ^ r ≠ 0 := Int.ne_of_gt (Int.pow_pos (by decide))
  have q : (x * 2 ^ r % 4294967296 + 2147483648) % 4294967296 = (x + 2 ^ n) * 2 ^ r % 4294967296 := by
    rw [Int.add_mul, ← e, Int.emod_add_emod]
  rw [wrap32_as, q, shift_mod _ r (n + 1) h, e, ← Int.sub_mul, Int.mul_ediv_cancel _ p, sg, Int.pow_succ, Int.mul_comm 2]
theorem bt_as (v a n : Int) (a0 : 0 ≤ a) (a1 : a ≤ 31) (n0 : 1 ≤ n) (n1 : n ≤ 32) : v / 2 ^ a.toNat * 2 ^ (32 - n).toNat % 4294967296 / 2 ^ (32 - n).toNat = bt v a n := by
  rw [up_down _ _ n.toNat (by omega), bt, if_pos ⟨a0, a1, n0, n1⟩]
theorem bt_off (v a n : Int) (h : a < 0 ∨ 31 < a ∨ n < 1 ∨ 32 < n) : bt v a n = 0 := by
  rw [bt, if_neg (by omega)]
theorem sn_as (v n : Int) (n0 : 1 ≤ n) (n1 : n ≤ 32) : wrap32 (v * 2 ^ (32 - n).toNat % 4294967296) / 2 ^ (32 - n).toNat = sn v n := by
  rw [sign_up_down _ _ (n.toNat - 1) (by omega), sn, if_pos ⟨n0, n1⟩]
theorem sn_off (v n : Int) (h : n < 1 ∨ 32 < n) : sn v n = 0 := by
  rw [sn, if_neg (by omega)]
/-- one bit more -/
theorem join_bit (x i : Nat) : x % 2 ^ i ||| x / 2 ^ i % 2 * 2 ^ i = x % 2 ^ (i + 1) := by
  rw [Nat.or_comm, nat_join i _ _ (Nat.mul_mod_left _ _) (Nat.mod_lt _ (Nat.two_pow_pos i)), Nat.pow_succ, Nat.mod_mul]
  rw [Nat.mul_comm, Nat.add_comm]
/-- behind the word's last bit there is no other one -/
theorem mod_end (v a k n : Nat) (hv : v < 4294967296) (h : a + k = 32) (hn : k ≤ n) : v / 2 ^ a % 2 ^ k = v / 2 ^ a % 2 ^ n := by
  have l : v / 2 ^ a < 2 ^ k := by
    rw [Nat.div_lt_iff_lt_mul (Nat.two_pow_pos a), ← Nat.pow_add, Nat.add_comm, h]; exact hv
  rw [Nat.mod_eq_of_lt l, Nat.mod_eq_of_lt (Nat.lt_of_lt_of_le l (Nat.pow_le_pow_right (by decide) hn))]
end Go.Proofs.YtlnliiihcajboaaDoor.Num
