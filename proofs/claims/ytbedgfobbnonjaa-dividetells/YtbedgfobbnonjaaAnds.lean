/- Numbers: the lowest bits of a number. -/
import Derived.Test.YtbedgfobbnonjaaNums
namespace Go.Proofs.Ytbedgfobbnonjaa.Num
open Go.ChangeShapes Go.WideShapes Go.ChangeAt Go.RowKit
theorem and_small (k n : Int) (m : Nat) (hk : ((2 ^ m - 1 : Nat) : Int) = k) (hm : m ≤ 5) : ∃ c : Int, bits .and .i64 n k = c ∧ 0 ≤ c ∧ c ≤ k := by
  subst hk
  have p : (2 : Nat) ^ m ≤ 2 ^ 5 := Nat.pow_le_pow_right (by decide) hm
  have h : (BitVec.ofInt 64 n &&& BitVec.ofInt 64 ((2 ^ m - 1 : Nat) : Int)).toNat ≤ 2 ^ m - 1 := by
    rw [BitVec.toNat_and]
    refine Nat.le_trans Nat.and_le_right ?_
    rw [ofInt_u64 _ (by omega)]
    exact Nat.le_refl _
  refine ⟨((BitVec.ofInt 64 n &&& BitVec.ofInt 64 ((2 ^ m - 1 : Nat) : Int)).toNat : Int), ?_, by omega, by omega⟩
  show IntKind.i64.wrap ((BitVec.ofInt 64 n &&& BitVec.ofInt 64 ((2 ^ m - 1 : Nat) : Int)).toNat : Int) = _
  rw [IntKind.wrap_i64]
  omega
theorem and15 (x : Int) (h0 : 0 ≤ x) (h1 : x ≤ 4294967295) : bits .and .u32 x 15 = x % 16 := by
  obtain ⟨n, rfl⟩ := Int.eq_ofNat_of_zero_le h0
  rw [show (15 : Int) = ((15 : Nat) : Int) from rfl, u32_and_nat _ _ (by omega) (by decide), show (15 : Nat) = 2 ^ 4 - 1 from rfl, Nat.and_two_pow_sub_one_eq_mod]
  simp
end Go.Proofs.Ytbedgfobbnonjaa.Num
