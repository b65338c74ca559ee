/- Numbers: small masks. -/
import Derived.Test.YtbkhemgkhlonhaaSame
namespace Go.Proofs.Ytbkhemgkhlonhaa.Num
open Go.ChangeShapes Go.WideShapes Go.ChangeAt Go.RowKit
theorem and_small (k n : Int) (m : Nat) (hk : ((2 ^ m - 1 : Nat) : Int) = k) (hm : m ≤ 5) : ∃ c : Int, bits .and .i64 n k = c ∧ 0 ≤ c ∧ c ≤ k := by
  subst hk
  have p : (2 : Nat) ^ m ≤ 2 ^ 5 := Nat.pow_le_pow_right (by decide) hm
  have h : (BitVec.ofInt 64 n &&& BitVec.ofInt 64 ((2 ^ m - 1 : Nat) : Int)).toNat ≤ 2 ^ m - 1 := by
    rw [BitVec.toNat_and]
    refine Nat.le_trans Nat.and_le_right ?_
    rw [ofInt_u64 _ (by omega)]
    exact Nat.le_refl _
  refine ⟨((BitVec.ofInt 64 n &&& BitVec.ofInt 64 ((2 ^ m - 1 : Nat) : Int)).toNat : Int), ?_, by omega, by omega⟩
  show IntKind.i64.wrap ((BitVec.ofInt 64 n &&& BitVec.ofInt 64 ((2 ^ m - 1 : Nat) : Int)).toNat : Int) = _
  rw [IntKind.wrap_i64]
  omega
/-- a word and a mask: no more than the mask -/
theorem and_word (x : Int) (k : Nat) (x0 : 0 ≤ x) (x1 : x ≤ 4294967295) (hk : k ≤ 65535) : ∃ c : Int, bits .and .u32 x (k : Int) = c ∧ 0 ≤ c ∧ c ≤ k := by
  obtain ⟨n, rfl⟩ := Int.eq_ofNat_of_zero_le x0
  have l : n &&& k ≤ k := Nat.and_le_right
  exact ⟨((n &&& k : Nat) : Int), u32_and_nat n k (by omega) (by omega), by omega, by omega⟩
theorem and_four (x : Int) (x0 : 0 ≤ x) (x1 : x ≤ 4294967295) : ∃ c : Int, bits .and .u32 x 4 = c ∧ (c = 0 ∨ c = 4) := by
  obtain ⟨n, rfl⟩ := Int.eq_ofNat_of_zero_le x0
  have d : (n &&& 4) % 4 = 0 := by
    have := Nat.and_mod_two_pow (a := n) (b := 4) (n := 2)
    simpa using this
  have l : n &&& 4 ≤ 4 := Nat.and_le_right
  exact ⟨((n &&& 4 : Nat) : Int), u32_and_nat n 4 (by omega) (by decide), by omega⟩
theorem low_clear (x : Int) (h0 : 0 ≤ x) (h1 : x ≤ 4294967295) : ∃ b : Int, bits .andNot .u32 x 3 = b ∧ 0 ≤ b ∧ b ≤ x ∧ b % 4 = 0 := by
  obtain ⟨n, rfl⟩ := Int.eq_ofNat_of_zero_le h0
  have d : (n &&& 4294967292) % 4 = 0 := by
    have := Nat.and_mod_two_pow (a := n) (b := 4294967292) (n := 2)
    simpa using this
  have l : n &&& 4294967292 ≤ n := Nat.and_le_left
  exact ⟨((n &&& 4294967292 : Nat) : Int), u32_andNot_nat n 3 (by omega) (by decide), by omega, by omega, by omega⟩
end Go.Proofs.Ytbkhemgkhlonhaa.Num
