/- Contracts of the laws' inner functions same and known: both return true. -/
import Derived.Test.YtbkhemgkhlonhaaIndex
namespace Go.Proofs.Ytbkhemgkhlonhaa.Walks
open Go.ChangeShapes Go.WideShapes Go.ChangeAt Go.RowKit
set_option maxHeartbeats 1000000 in
theorem same_core (op x y p c m n : Int) (z i f l s g k d b : Bool) (x0 : 0 ≤ x) (Z : Hid ((x % 4 == 0) = z)) (I : Hid (Num.ins x = i)) (C : Hid (Num.fc z i = c)) (F : Hid (Num.fb z i = f)) (P : Hid (x % 4 = p)) (G : Hid (Num.ft op p = g))
    (L : Hid (Num.isl op = l)) (S : Hid (Num.iss op = s)) (K : Hid ((op == 18) = k)) (D : Hid (Num.dev x = d)) (M : Hid (Num.ac l s k g i d = m)) (B : Hid (Num.ab l s k g i d = b)) (X : Hid (Num.ix y = n)) (w : World) :
    Calls Try.prog 6 #[.int .i64 op, .int .u32 x, .int .i64 y] w fun e w' => e = .returned (.bool true) ∧ Fr w w' := by
  go_enter Try.func6, Try.ntmps6
  go_wp2_with fail
  refine (fetch_as _ x0 _ _ _ _ Z I C F _).mono ?_; rintro e w ⟨rfl, rfl⟩
  go_wp2_with fail
  refine (rfetch_as _ x0 _ _ _ _ Z I C F _).mono ?_; rintro e w ⟨rfl, rfl⟩
  go_wp2_with fail
  refine (access_as _ _ _ _ _ _ _ _ _ _ _ x0 P G I L S K D M B _).mono ?_; rintro e w ⟨rfl, rfl⟩
  go_wp2_with fail
  refine (raccess_as _ _ _ _ _ _ _ _ _ _ _ x0 P G I L S K D M B _).mono ?_; rintro e w ⟨rfl, rfl⟩
  go_wp2_with fail
  refine (inside_as _ _ I _).mono ?_; rintro e w ⟨rfl, rfl⟩
  go_wp2_with fail
  refine (rinside_as _ _ I _).mono ?_; rintro e w ⟨rfl, rfl⟩
  go_wp2_with fail
  refine (device_as _ _ D _).mono ?_; rintro e w ⟨rfl, rfl⟩
  go_wp2_with fail
  refine (rdevice_as _ _ D _).mono ?_; rintro e w ⟨rfl, rfl⟩
  go_wp2_with fail
  refine (index_as _ _ X _).mono ?_; rintro e w ⟨rfl, rfl⟩
  go_wp2_with fail
  refine (rindex_as _ _ X _).mono ?_; rintro e w1 ⟨rfl, ha⟩
  have HA : Hid (Fr w w1) := ha
  clear ha
  go_wp2_with fail
  go_ret
  exact ⟨rfl, HA.out⟩
theorem same_as (op x y : Int) (x0 : 0 ≤ x) (w : World) :
    Calls Try.prog 6 #[.int .i64 op, .int .u32 x, .int .i64 y] w fun e w' => e = .returned (.bool true) ∧ Fr w w' :=
  same_core op x y _ _ _ _ _ _ _ _ _ _ _ _ _ x0 rfl rfl rfl rfl rfl rfl rfl rfl rfl rfl rfl rfl rfl w
set_option maxHeartbeats 1000000 in
theorem known (w : World) : Calls Try.prog 9 #[] w fun e w' => e = .returned (.bool true) ∧ w' = w := by
  have Z2 : Hid (((2 : Int) % 4 == 0) = false) := by unfold Hid; decide
  have I2 : Hid (Num.ins 2 = true) := by unfold Hid; decide
  have I0 : Hid (Num.ins 0 = true) := by unfold Hid; decide
  have I4 : Hid (Num.ins 4096 = false) := by unfold Hid; decide
  have IP : Hid (Num.ins 268435456 = false) := by unfold Hid; decide +kernel
  have IH : Hid (Num.ins 268435460 = false) := by unfold Hid; decide +kernel
  have DP : Hid (Num.dev 268435456 = true) := by unfold Hid; decide +kernel
  have DH : Hid (Num.dev 268435460 = true) := by unfold Hid; decide +kernel
  have PP : Hid ((268435456 : Int) % 4 = 0) := by unfold Hid; decide +kernel
  have PH : Hid ((268435460 : Int) % 4 = 0) := by unfold Hid; decide +kernel
  have X2 : Hid (Num.ix 833 = 2) := by unfold Hid; decide +kernel
  have X0 : Hid (Num.ix 0 = -1) := by unfold Hid; decide +kernel
  go_enter Try.func9, Try.ntmps9
  go_wp2_with fail
  refine (fetch_as _ (by decide) _ _ _ _ Z2 I2 rfl rfl _).mono ?_; rintro e w ⟨rfl, rfl⟩
  go_wp2_with fail
  refine (access_as 13 _ _ true false true _ false _ 5 true (by decide) PP rfl IP rfl rfl rfl DP rfl rfl _).mono ?_; rintro e w ⟨rfl, rfl⟩
  go_wp2_with fail
  refine (access_as 16 _ _ false true true _ false _ 7 true (by decide) PP rfl IP rfl rfl rfl DP rfl rfl _).mono ?_; rintro e w ⟨rfl, rfl⟩
  go_wp2_with fail
  refine (access_as 18 _ _ false true true _ true _ 0 false (by decide) PH rfl IH rfl rfl rfl DH rfl rfl _).mono ?_; rintro e w ⟨rfl, rfl⟩
  go_wp2_with fail
  refine (inside_as _ _ I0 _).mono ?_; rintro e w ⟨rfl, rfl⟩
  go_wp2_with fail
  refine (inside_as _ _ I4 _).mono ?_; rintro e w ⟨rfl, rfl⟩
  go_wp2_with fail
  refine (index_as _ _ X2 _).mono ?_; rintro e w ⟨rfl, rfl⟩
  go_wp2_with fail
  refine (index_as _ _ X0 _).mono ?_; rintro e w ⟨rfl, rfl⟩
  go_wp2_with fail
  go_ret
  exact ⟨rfl, rfl⟩
end Go.Proofs.Ytbkhemgkhlonhaa.Walks
