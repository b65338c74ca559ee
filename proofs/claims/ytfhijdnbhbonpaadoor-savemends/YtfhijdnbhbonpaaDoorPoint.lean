/- Contracts of markOf, of the document's mark, and of pointOf. -/
import Derived.Test.YtfhijdnbhbonpaaDoorSFr
import Derived.Deep.RegionLaw
namespace Go.Proofs.YtfhijdnbhbonpaaDoor.Walks
open Go.ChangeShapes Go.WideShapes Go.ChangeAt Go.RowKit
set_option linter.unusedVariables false
theorem low16 (z : Nat) (hz : z < 4294967296) : bits .and .u32 (z : Int) 65535 = ((z % 65536 : Nat) : Int) := by
  rw [show (65535 : Int) = ((65535 : Nat) : Int) from rfl, u32_and_nat _ _ hz (by decide), show (65535 : Nat) = 2 ^ 16 - 1 from rfl, Nat.and_two_pow_sub_one_eq_mod]
theorem mark_or (z : Nat) : bits .or .u32 1526595584 ((z % 65536 : Nat) : Int) = ((mk z : Nat) : Int) := by
  have h : z % 65536 < 2 ^ 16 := Nat.mod_lt _ (by decide)
  rw [show (1526595584 : Int) = ((1526595584 : Nat) : Int) from rfl, u32_or_nat _ _ (by decide) (by omega), show (1526595584 : Nat) = 23294 <<< 16 by decide, ← Nat.shiftLeft_add_eq_or_of_lt h]
  rfl
theorem mark_as (z : Nat) (m : Int) (M : Hid (((mk z : Nat) : Int) = m)) (hz : Hid (z < 4294967296)) (w : World) : Calls Tryd.prog 39 #[.int .u32 z] w fun e w' => e = .returned (.int .u32 m) ∧ w' = w := by
  have H1 := low16 z hz.out
  have H2 := mark_or z
  rw [M.out] at H2
  generalize ((z % 65536 : Nat) : Int) = a at H1 H2
  clear M hz
  go_enter Tryd.func39, Tryd.ntmps39
  go_wp2_with fail
  go_ret
  exact ⟨rfl, rfl⟩
theorem rmark_as (z : Nat) (m : Int) (M : Hid (((mk z : Nat) : Int) = m)) (hz : Hid (z < 4294967296)) (w : World) : Calls Tryd.prog 42 #[.int .u32 z] w fun e w' => e = .returned (.int .u32 m) ∧ w' = w := by
  have H1 := low16 z hz.out
  have H2 := mark_or z
  rw [M.out] at H2
  generalize ((z % 65536 : Nat) : Int) = a at H1 H2
  clear M hz
  go_enter Tryd.func42, Tryd.ntmps42
  go_wp2_with fail
  go_ret
  exact ⟨rfl, rfl⟩
end Go.Proofs.YtfhijdnbhbonpaaDoor.Walks
