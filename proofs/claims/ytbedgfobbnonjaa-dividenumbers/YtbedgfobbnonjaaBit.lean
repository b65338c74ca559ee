/- Contracts of multiplyBit and divideBit. -/
import Derived.Test.YtbedgfobbnonjaaBasic
import Derived.Test.YtbedgfobbnonjaaRounds
namespace Go.Proofs.Ytbedgfobbnonjaa.Walks
open Go.ChangeShapes Go.WideShapes Go.ChangeAt Go.RowKit
set_option linter.unusedVariables false
theorem mul_one (p y l r : Int) (y0 : 0 ≤ y) (y1 : y ≤ 4294967295) (H : bits .and .u64 p 1 = 1) (L : bits .and .u64 p 4294967295 = l)
    (R : bits .or .u64 (IntKind.u64.wrap (IntKind.u64.wrap (p / 4294967296 + y) * 2147483648)) (l / 2) = r) (w : World) :
    Calls Try.prog 20 #[.int .u64 p, .int .u32 y] w fun e w' => e = .returned (.int .u64 r) ∧ w' = w := by
  go_enter Try.func20, Try.ntmps20
  go_wp2_with fail
  go_ret
  exact ⟨rfl, rfl⟩
theorem mul_nil (p y l r : Int) (y0 : 0 ≤ y) (y1 : y ≤ 4294967295) (H : bits .and .u64 p 1 = 0) (L : bits .and .u64 p 4294967295 = l)
    (R : bits .or .u64 (IntKind.u64.wrap (p / 4294967296 * 2147483648)) (l / 2) = r) (w : World) :
    Calls Try.prog 20 #[.int .u64 p, .int .u32 y] w fun e w' => e = .returned (.int .u64 r) ∧ w' = w := by
  go_enter Try.func20, Try.ntmps20
  go_wp2_with fail
  go_ret
  exact ⟨rfl, rfl⟩
theorem div_yes (p y l r : Int) (y0 : 0 ≤ y) (y1 : y ≤ 4294967295) (H : y ≤ p / 2147483648) (L : bits .or .u64 (bits .and .u64 (IntKind.u64.wrap (p * 2)) 4294967295) 1 = l)
    (R : bits .or .u64 (IntKind.u64.wrap (IntKind.u64.wrap (p / 2147483648 - y) * 4294967296)) l = r) (w : World) :
    Calls Try.prog 21 #[.int .u64 p, .int .u32 y] w fun e w' => e = .returned (.int .u64 r) ∧ w' = w := by
  go_enter Try.func21, Try.ntmps21
  go_wp2_with fail
  go_ret
  exact ⟨rfl, rfl⟩
theorem div_no (p y l r : Int) (y0 : 0 ≤ y) (y1 : y ≤ 4294967295) (H : p / 2147483648 < y) (L : bits .and .u64 (IntKind.u64.wrap (p * 2)) 4294967295 = l)
    (R : bits .or .u64 (IntKind.u64.wrap (p / 2147483648 * 4294967296)) l = r) (w : World) :
    Calls Try.prog 21 #[.int .u64 p, .int .u32 y] w fun e w' => e = .returned (.int .u64 r) ∧ w' = w := by
  go_enter Try.func21, Try.ntmps21
  go_wp2_with fail
  go_ret
  exact ⟨rfl, rfl⟩
theorem and_low (p s m : Nat) (hm : m = 2 ^ s - 1) (h : p < 18446744073709551616) (hs : m < 18446744073709551616) : bits .and .u64 (p : Int) (m : Int) = ((p % 2 ^ s : Nat) : Int) := by
  rw [u64_and_nat _ _ h hs, hm, Nat.and_two_pow_sub_one_eq_mod]
theorem or_sum (h l s : Nat) (hl : l < 2 ^ s) (hh : h * 2 ^ s < 18446744073709551616) (h2 : l < 18446744073709551616) : bits .or .u64 ((h * 2 ^ s : Nat) : Int) (l : Int) = ((h * 2 ^ s + l : Nat) : Int) := by
  rw [u64_or_nat _ _ hh h2, ← Nat.shiftLeft_eq, ← Nat.shiftLeft_add_eq_or_of_lt hl]
theorem wrap_nat (n : Int) (m : Nat) (h : n = (m : Int)) (hm : m < 18446744073709551616) : IntKind.u64.wrap n = (m : Int) := by
  rw [h]; exact IntWalk.u64_in _ (by omega)
theorem mulBit_as (p y : Nat) (hp : p < 18446744073709551616) (hy : y < 4294967296) (w : World) :
    Calls Try.prog 20 #[.int .u64 (p : Nat), .int .u32 (y : Nat)] w fun e w' => e = .returned (.int .u64 (Num.mS p y : Nat)) ∧ w' = w := by
  have L : bits .and .u64 (p : Int) 4294967295 = ((p % 4294967296 : Nat) : Int) := and_low p 32 4294967295 (by decide) hp (by decide)
  have O : bits .and .u64 (p : Int) 1 = ((p % 2 : Nat) : Int) := and_low p 1 1 (by decide) hp (by decide)
  have d : ((p % 4294967296 : Nat) : Int) / 2 = ((p % 4294967296 / 2 : Nat) : Int) := by omega
  rcases Nat.mod_two_eq_zero_or_one p with e | e
  · refine mul_nil p y _ _ (by omega) (by omega) (by rw [O, e]; rfl) L ?_ w
    rw [d, wrap_nat _ (p / 4294967296 * 2 ^ 31) (by omega) (by omega), or_sum _ _ 31 (by omega) (by omega) (by omega)]
    unfold Num.mS
    rw [e]
    omega
  · refine mul_one p y _ _ (by omega) (by omega) (by rw [O, e]; rfl) L ?_ w
    rw [d, wrap_nat ((p : Int) / 4294967296 + y) (p / 4294967296 + y) (by omega) (by omega), wrap_nat _ ((p / 4294967296 + y) * 2 ^ 31) (by omega) (by omega), or_sum _ _ 31 (by omega) (by omega) (by omega)]
    unfold Num.mS
    rw [e]
    omega
theorem divBit_as (p y : Nat) (hp : p < 18446744073709551616) (hy : y < 4294967296) (hf : p / 2147483648 < y + 4294967296) (w : World) :
    Calls Try.prog 21 #[.int .u64 (p : Nat), .int .u32 (y : Nat)] w fun e w' => e = .returned (.int .u64 (Num.dS p y : Nat)) ∧ w' = w := by
  have m : IntKind.u64.wrap ((p : Int) * 2) = ((p * 2 % 18446744073709551616 : Nat) : Int) := by
    rw [show IntKind.u64.wrap ((p : Int) * 2) = ((p : Int) * 2) % 18446744073709551616 from rfl]; omega
  have L : bits .and .u64 (IntKind.u64.wrap ((p : Int) * 2)) 4294967295 = ((p % 2147483648 * 2 : Nat) : Int) := by
    rw [m, show (4294967295 : Int) = ((4294967295 : Nat) : Int) from rfl, and_low _ 32 4294967295 (by decide) (Nat.mod_lt _ (by decide)) (by decide)]
    omega
  unfold Num.dS
  by_cases c : y ≤ p / 2147483648
  · rw [if_pos c]
    refine div_yes p y _ _ (by omega) (by omega) (by omega) rfl ?_ w
    rw [L, show ((p % 2147483648 * 2 : Nat) : Int) = ((p % 2147483648 * 2 ^ 1 : Nat) : Int) from rfl, show (1 : Int) = ((1 : Nat) : Int) from rfl, or_sum _ _ 1 (by decide) (by omega) (by decide),
      wrap_nat ((p : Int) / 2147483648 - y) (p / 2147483648 - y) (by omega) (by omega), wrap_nat _ ((p / 2147483648 - y) * 2 ^ 32) (by omega) (by omega), or_sum _ _ 32 (by omega) (by omega) (by omega)]
  · rw [if_neg c]
    refine div_no p y _ _ (by omega) (by omega) (by omega) L ?_ w
    rw [wrap_nat _ (p / 2147483648 * 2 ^ 32) (by omega) (by omega), or_sum _ _ 32 (by omega) (by omega) (by omega)]
end Go.Proofs.Ytbedgfobbnonjaa.Walks
