/- The program's Load, op by op, place by place. -/
import Derived.Test.YtgfoclpcfgfnbaaFits
namespace Go.Proofs.Ytgfoclpcfgfnbaa.Walks
open Go.ChangeShapes Go.WideShapes Go.ChangeAt Go.RowKit
set_option linter.unusedVariables false
set_option maxHeartbeats 1000000 in
theorem load11_0 (a x : Int) (a0 : 0 ≤ a) (x0 : 0 ≤ x) (x1 : x ≤ 4294967295) (P : Hid (a % 4 = 0)) (w : World) : Calls Try.prog 13 #[.int .i64 11, .int .u32 a, .int .u32 x] w fun e w' => e = .returned (.int .u32 (Num.s8 (x) % 4294967296)) ∧ w' = w := by
  have F : Hid (Num.ft 11 0 = true) := rfl
  have L : Hid (Num.isl 11 = true) := rfl
  have S : Hid (Num.sz 11 = 1) := rfl
  go_enter Try.func13, Try.ntmps13
  go_wp2_with fail
  refine (loads_as _ _ L _).mono ?_; rintro e w ⟨rfl, rfl⟩
  go_wp2_with fail
  refine (fits_as _ _ _ _ a0 P F _).mono ?_; rintro e w ⟨rfl, rfl⟩
  go_wp2_with fail
  refine (place_as _ _ P.out ((Num.tmod4 a a0).trans P.out) _).mono ?_; rintro e w ⟨rfl, rfl⟩
  go_wp2_with fail
  refine (signed_as _ true rfl rfl _).mono ?_; rintro e w ⟨rfl, rfl⟩
  go_wp2_with fail
  refine (size_as _ _ S _).mono ?_; rintro e w ⟨rfl, rfl⟩
  go_wp2_with fail
  refine (slowest1 _ _).mono ?_; rintro e w ⟨rfl, rfl⟩
  go_wp2_with fail
  go_ret
  exact ⟨rfl, rfl⟩
set_option maxHeartbeats 1000000 in
theorem load11_1 (a x : Int) (a0 : 0 ≤ a) (x0 : 0 ≤ x) (x1 : x ≤ 4294967295) (P : Hid (a % 4 = 1)) (w : World) : Calls Try.prog 13 #[.int .i64 11, .int .u32 a, .int .u32 x] w fun e w' => e = .returned (.int .u32 (Num.s8 (x / 256) % 4294967296)) ∧ w' = w := by
  have F : Hid (Num.ft 11 1 = true) := rfl
  have L : Hid (Num.isl 11 = true) := rfl
  have S : Hid (Num.sz 11 = 1) := rfl
  go_enter Try.func13, Try.ntmps13
  go_wp2_with fail
  refine (loads_as _ _ L _).mono ?_; rintro e w ⟨rfl, rfl⟩
  go_wp2_with fail
  refine (fits_as _ _ _ _ a0 P F _).mono ?_; rintro e w ⟨rfl, rfl⟩
  go_wp2_with fail
  refine (place_as _ _ P.out ((Num.tmod4 a a0).trans P.out) _).mono ?_; rintro e w ⟨rfl, rfl⟩
  go_wp2_with fail
  refine (signed_as _ true rfl rfl _).mono ?_; rintro e w ⟨rfl, rfl⟩
  go_wp2_with fail
  refine (size_as _ _ S _).mono ?_; rintro e w ⟨rfl, rfl⟩
  go_wp2_with fail
  refine (slowest1 _ _).mono ?_; rintro e w ⟨rfl, rfl⟩
  go_wp2_with fail
  go_ret
  exact ⟨rfl, rfl⟩
set_option maxHeartbeats 1000000 in
theorem load11_2 (a x : Int) (a0 : 0 ≤ a) (x0 : 0 ≤ x) (x1 : x ≤ 4294967295) (P : Hid (a % 4 = 2)) (w : World) : Calls Try.prog 13 #[.int .i64 11, .int .u32 a, .int .u32 x] w fun e w' => e = .returned (.int .u32 (Num.s8 (x / 65536) % 4294967296)) ∧ w' = w := by
  have F : Hid (Num.ft 11 2 = true) := rfl
  have L : Hid (Num.isl 11 = true) := rfl
  have S : Hid (Num.sz 11 = 1) := rfl
  go_enter Try.func13, Try.ntmps13
  go_wp2_with fail
  refine (loads_as _ _ L _).mono ?_; rintro e w ⟨rfl, rfl⟩
  go_wp2_with fail
  refine (fits_as _ _ _ _ a0 P F _).mono ?_; rintro e w ⟨rfl, rfl⟩
  go_wp2_with fail
  refine (place_as _ _ P.out ((Num.tmod4 a a0).trans P.out) _).mono ?_; rintro e w ⟨rfl, rfl⟩
  go_wp2_with fail
  refine (signed_as _ true rfl rfl _).mono ?_; rintro e w ⟨rfl, rfl⟩
  go_wp2_with fail
  refine (size_as _ _ S _).mono ?_; rintro e w ⟨rfl, rfl⟩
  go_wp2_with fail
  refine (slowest1 _ _).mono ?_; rintro e w ⟨rfl, rfl⟩
  go_wp2_with fail
  go_ret
  exact ⟨rfl, rfl⟩
set_option maxHeartbeats 1000000 in
theorem load11_3 (a x : Int) (a0 : 0 ≤ a) (x0 : 0 ≤ x) (x1 : x ≤ 4294967295) (P : Hid (a % 4 = 3)) (w : World) : Calls Try.prog 13 #[.int .i64 11, .int .u32 a, .int .u32 x] w fun e w' => e = .returned (.int .u32 (Num.s8 (x / 16777216) % 4294967296)) ∧ w' = w := by
  have F : Hid (Num.ft 11 3 = true) := rfl
  have L : Hid (Num.isl 11 = true) := rfl
  have S : Hid (Num.sz 11 = 1) := rfl
  go_enter Try.func13, Try.ntmps13
  go_wp2_with fail
  refine (loads_as _ _ L _).mono ?_; rintro e w ⟨rfl, rfl⟩
  go_wp2_with fail
  refine (fits_as _ _ _ _ a0 P F _).mono ?_; rintro e w ⟨rfl, rfl⟩
  go_wp2_with fail
  refine (place_as _ _ P.out ((Num.tmod4 a a0).trans P.out) _).mono ?_; rintro e w ⟨rfl, rfl⟩
  go_wp2_with fail
  refine (signed_as _ true rfl rfl _).mono ?_; rintro e w ⟨rfl, rfl⟩
  go_wp2_with fail
  refine (size_as _ _ S _).mono ?_; rintro e w ⟨rfl, rfl⟩
  go_wp2_with fail
  refine (slowest1 _ _).mono ?_; rintro e w ⟨rfl, rfl⟩
  go_wp2_with fail
  go_ret
  exact ⟨rfl, rfl⟩
theorem load11 (a x p : Int) (a0 : 0 ≤ a) (x0 : 0 ≤ x) (x1 : x ≤ 4294967295) (P : a % 4 = p) (w : World) : Calls Try.prog 13 #[.int .i64 11, .int .u32 a, .int .u32 x] w fun e w' => e = .returned (.int .u32 (Num.ld 11 p x)) ∧ w' = w := by
  subst P
  rcases Num.quarter a with h | h | h | h <;> rw [h]
  · exact load11_0 a x a0 x0 x1 h w
  · exact load11_1 a x a0 x0 x1 h w
  · exact load11_2 a x a0 x0 x1 h w
  · exact load11_3 a x a0 x0 x1 h w
set_option maxHeartbeats 1000000 in
theorem load12_0 (a x : Int) (a0 : 0 ≤ a) (x0 : 0 ≤ x) (x1 : x ≤ 4294967295) (P : Hid (a % 4 = 0)) (w : World) : Calls Try.prog 13 #[.int .i64 12, .int .u32 a, .int .u32 x] w fun e w' => e = .returned (.int .u32 (Num.s16 (x) % 4294967296)) ∧ w' = w := by
  have F : Hid (Num.ft 12 0 = true) := rfl
  have L : Hid (Num.isl 12 = true) := rfl
  have S : Hid (Num.sz 12 = 2) := rfl
  go_enter Try.func13, Try.ntmps13
  go_wp2_with fail
  refine (loads_as _ _ L _).mono ?_; rintro e w ⟨rfl, rfl⟩
  go_wp2_with fail
  refine (fits_as _ _ _ _ a0 P F _).mono ?_; rintro e w ⟨rfl, rfl⟩
  go_wp2_with fail
  refine (place_as _ _ P.out ((Num.tmod4 a a0).trans P.out) _).mono ?_; rintro e w ⟨rfl, rfl⟩
  go_wp2_with fail
  refine (signed12 _).mono ?_; rintro e w ⟨rfl, rfl⟩
  go_wp2_with fail
  refine (size_as _ _ S _).mono ?_; rintro e w ⟨rfl, rfl⟩
  go_wp2_with fail
  refine (slowest2 _ _).mono ?_; rintro e w ⟨rfl, rfl⟩
  go_wp2_with fail
  go_ret
  exact ⟨rfl, rfl⟩
set_option maxHeartbeats 1000000 in
theorem load12_1 (a x : Int) (a0 : 0 ≤ a) (x0 : 0 ≤ x) (x1 : x ≤ 4294967295) (P : Hid (a % 4 = 1)) (w : World) : Calls Try.prog 13 #[.int .i64 12, .int .u32 a, .int .u32 x] w fun e w' => e = .returned (.int .u32 0) ∧ w' = w := by
  have F : Hid (Num.ft 12 1 = false) := rfl
  have L : Hid (Num.isl 12 = true) := rfl
  have S : Hid (Num.sz 12 = 2) := rfl
  go_enter Try.func13, Try.ntmps13
  go_wp2_with fail
  refine (loads_as _ _ L _).mono ?_; rintro e w ⟨rfl, rfl⟩
  go_wp2_with fail
  refine (fits_as _ _ _ _ a0 P F _).mono ?_; rintro e w ⟨rfl, rfl⟩
  go_wp2_with fail
  go_ret
  exact ⟨rfl, rfl⟩
set_option maxHeartbeats 1000000 in
theorem load12_2 (a x : Int) (a0 : 0 ≤ a) (x0 : 0 ≤ x) (x1 : x ≤ 4294967295) (P : Hid (a % 4 = 2)) (w : World) : Calls Try.prog 13 #[.int .i64 12, .int .u32 a, .int .u32 x] w fun e w' => e = .returned (.int .u32 (Num.s16 (x / 65536) % 4294967296)) ∧ w' = w := by
  have F : Hid (Num.ft 12 2 = true) := rfl
  have L : Hid (Num.isl 12 = true) := rfl
  have S : Hid (Num.sz 12 = 2) := rfl
  go_enter Try.func13, Try.ntmps13
  go_wp2_with fail
  refine (loads_as _ _ L _).mono ?_; rintro e w ⟨rfl, rfl⟩
  go_wp2_with fail
  refine (fits_as _ _ _ _ a0 P F _).mono ?_; rintro e w ⟨rfl, rfl⟩
  go_wp2_with fail
  refine (place_as _ _ P.out ((Num.tmod4 a a0).trans P.out) _).mono ?_; rintro e w ⟨rfl, rfl⟩
  go_wp2_with fail
  refine (signed12 _).mono ?_; rintro e w ⟨rfl, rfl⟩
  go_wp2_with fail
  refine (size_as _ _ S _).mono ?_; rintro e w ⟨rfl, rfl⟩
  go_wp2_with fail
  refine (slowest2 _ _).mono ?_; rintro e w ⟨rfl, rfl⟩
  go_wp2_with fail
  go_ret
  exact ⟨rfl, rfl⟩
set_option maxHeartbeats 1000000 in
theorem load12_3 (a x : Int) (a0 : 0 ≤ a) (x0 : 0 ≤ x) (x1 : x ≤ 4294967295) (P : Hid (a % 4 = 3)) (w : World) : Calls Try.prog 13 #[.int .i64 12, .int .u32 a, .int .u32 x] w fun e w' => e = .returned (.int .u32 0) ∧ w' = w := by
  have F : Hid (Num.ft 12 3 = false) := rfl
  have L : Hid (Num.isl 12 = true) := rfl
  have S : Hid (Num.sz 12 = 2) := rfl
  go_enter Try.func13, Try.ntmps13
  go_wp2_with fail
  refine (loads_as _ _ L _).mono ?_; rintro e w ⟨rfl, rfl⟩
  go_wp2_with fail
  refine (fits_as _ _ _ _ a0 P F _).mono ?_; rintro e w ⟨rfl, rfl⟩
  go_wp2_with fail
  go_ret
  exact ⟨rfl, rfl⟩
theorem load12 (a x p : Int) (a0 : 0 ≤ a) (x0 : 0 ≤ x) (x1 : x ≤ 4294967295) (P : a % 4 = p) (w : World) : Calls Try.prog 13 #[.int .i64 12, .int .u32 a, .int .u32 x] w fun e w' => e = .returned (.int .u32 (Num.ld 12 p x)) ∧ w' = w := by
  subst P
  rcases Num.quarter a with h | h | h | h <;> rw [h]
  · exact load12_0 a x a0 x0 x1 h w
  · exact load12_1 a x a0 x0 x1 h w
  · exact load12_2 a x a0 x0 x1 h w
  · exact load12_3 a x a0 x0 x1 h w
set_option maxHeartbeats 1000000 in
theorem load13_0 (a x : Int) (a0 : 0 ≤ a) (x0 : 0 ≤ x) (x1 : x ≤ 4294967295) (P : Hid (a % 4 = 0)) (w : World) : Calls Try.prog 13 #[.int .i64 13, .int .u32 a, .int .u32 x] w fun e w' => e = .returned (.int .u32 (x)) ∧ w' = w := by
  have F : Hid (Num.ft 13 0 = true) := rfl
  have L : Hid (Num.isl 13 = true) := rfl
  have S : Hid (Num.sz 13 = 4) := rfl
  go_enter Try.func13, Try.ntmps13
  go_wp2_with fail
  refine (loads_as _ _ L _).mono ?_; rintro e w ⟨rfl, rfl⟩
  go_wp2_with fail
  refine (fits_as _ _ _ _ a0 P F _).mono ?_; rintro e w ⟨rfl, rfl⟩
  go_wp2_with fail
  refine (place_as _ _ P.out ((Num.tmod4 a a0).trans P.out) _).mono ?_; rintro e w ⟨rfl, rfl⟩
  go_wp2_with fail
  refine (signed_as _ false rfl rfl _).mono ?_; rintro e w ⟨rfl, rfl⟩
  go_wp2_with fail
  refine (size_as _ _ S _).mono ?_; rintro e w ⟨rfl, rfl⟩
  go_wp2_with fail
  refine (lowest4 _ x0 x1 _).mono ?_; rintro e w ⟨rfl, rfl⟩
  go_wp2_with fail
  go_ret
  exact ⟨rfl, rfl⟩
set_option maxHeartbeats 1000000 in
theorem load13_1 (a x : Int) (a0 : 0 ≤ a) (x0 : 0 ≤ x) (x1 : x ≤ 4294967295) (P : Hid (a % 4 = 1)) (w : World) : Calls Try.prog 13 #[.int .i64 13, .int .u32 a, .int .u32 x] w fun e w' => e = .returned (.int .u32 0) ∧ w' = w := by
  have F : Hid (Num.ft 13 1 = false) := rfl
  have L : Hid (Num.isl 13 = true) := rfl
  have S : Hid (Num.sz 13 = 4) := rfl
  go_enter Try.func13, Try.ntmps13
  go_wp2_with fail
  refine (loads_as _ _ L _).mono ?_; rintro e w ⟨rfl, rfl⟩
  go_wp2_with fail
  refine (fits_as _ _ _ _ a0 P F _).mono ?_; rintro e w ⟨rfl, rfl⟩
  go_wp2_with fail
  go_ret
  exact ⟨rfl, rfl⟩
set_option maxHeartbeats 1000000 in
theorem load13_2 (a x : Int) (a0 : 0 ≤ a) (x0 : 0 ≤ x) (x1 : x ≤ 4294967295) (P : Hid (a % 4 = 2)) (w : World) : Calls Try.prog 13 #[.int .i64 13, .int .u32 a, .int .u32 x] w fun e w' => e = .returned (.int .u32 0) ∧ w' = w := by
  have F : Hid (Num.ft 13 2 = false) := rfl
  have L : Hid (Num.isl 13 = true) := rfl
  have S : Hid (Num.sz 13 = 4) := rfl
  go_enter Try.func13, Try.ntmps13
  go_wp2_with fail
  refine (loads_as _ _ L _).mono ?_; rintro e w ⟨rfl, rfl⟩
  go_wp2_with fail
  refine (fits_as _ _ _ _ a0 P F _).mono ?_; rintro e w ⟨rfl, rfl⟩
  go_wp2_with fail
  go_ret
  exact ⟨rfl, rfl⟩
set_option maxHeartbeats 1000000 in
theorem load13_3 (a x : Int) (a0 : 0 ≤ a) (x0 : 0 ≤ x) (x1 : x ≤ 4294967295) (P : Hid (a % 4 = 3)) (w : World) : Calls Try.prog 13 #[.int .i64 13, .int .u32 a, .int .u32 x] w fun e w' => e = .returned (.int .u32 0) ∧ w' = w := by
  have F : Hid (Num.ft 13 3 = false) := rfl
  have L : Hid (Num.isl 13 = true) := rfl
  have S : Hid (Num.sz 13 = 4) := rfl
  go_enter Try.func13, Try.ntmps13
  go_wp2_with fail
  refine (loads_as _ _ L _).mono ?_; rintro e w ⟨rfl, rfl⟩
  go_wp2_with fail
  refine (fits_as _ _ _ _ a0 P F _).mono ?_; rintro e w ⟨rfl, rfl⟩
  go_wp2_with fail
  go_ret
  exact ⟨rfl, rfl⟩
theorem load13 (a x p : Int) (a0 : 0 ≤ a) (x0 : 0 ≤ x) (x1 : x ≤ 4294967295) (P : a % 4 = p) (w : World) : Calls Try.prog 13 #[.int .i64 13, .int .u32 a, .int .u32 x] w fun e w' => e = .returned (.int .u32 (Num.ld 13 p x)) ∧ w' = w := by
  subst P
  rcases Num.quarter a with h | h | h | h <;> rw [h]
  · exact load13_0 a x a0 x0 x1 h w
  · exact load13_1 a x a0 x0 x1 h w
  · exact load13_2 a x a0 x0 x1 h w
  · exact load13_3 a x a0 x0 x1 h w
set_option maxHeartbeats 1000000 in
theorem load14_0 (a x : Int) (a0 : 0 ≤ a) (x0 : 0 ≤ x) (x1 : x ≤ 4294967295) (P : Hid (a % 4 = 0)) (w : World) : Calls Try.prog 13 #[.int .i64 14, .int .u32 a, .int .u32 x] w fun e w' => e = .returned (.int .u32 ((x) % 256)) ∧ w' = w := by
  have F : Hid (Num.ft 14 0 = true) := rfl
  have L : Hid (Num.isl 14 = true) := rfl
  have S : Hid (Num.sz 14 = 1) := rfl
  go_enter Try.func13, Try.ntmps13
  go_wp2_with fail
  refine (loads_as _ _ L _).mono ?_; rintro e w ⟨rfl, rfl⟩
  go_wp2_with fail
  refine (fits_as _ _ _ _ a0 P F _).mono ?_; rintro e w ⟨rfl, rfl⟩
  go_wp2_with fail
  refine (place_as _ _ P.out ((Num.tmod4 a a0).trans P.out) _).mono ?_; rintro e w ⟨rfl, rfl⟩
  go_wp2_with fail
  refine (signed_as _ false rfl rfl _).mono ?_; rintro e w ⟨rfl, rfl⟩
  go_wp2_with fail
  refine (size_as _ _ S _).mono ?_; rintro e w ⟨rfl, rfl⟩
  go_wp2_with fail
  refine (lowest1 _ _).mono ?_; rintro e w ⟨rfl, rfl⟩
  go_wp2_with fail
  go_ret
  exact ⟨rfl, rfl⟩
set_option maxHeartbeats 1000000 in
theorem load14_1 (a x : Int) (a0 : 0 ≤ a) (x0 : 0 ≤ x) (x1 : x ≤ 4294967295) (P : Hid (a % 4 = 1)) (w : World) : Calls Try.prog 13 #[.int .i64 14, .int .u32 a, .int .u32 x] w fun e w' => e = .returned (.int .u32 ((x / 256) % 256)) ∧ w' = w := by
  have F : Hid (Num.ft 14 1 = true) := rfl
  have L : Hid (Num.isl 14 = true) := rfl
  have S : Hid (Num.sz 14 = 1) := rfl
  go_enter Try.func13, Try.ntmps13
  go_wp2_with fail
  refine (loads_as _ _ L _).mono ?_; rintro e w ⟨rfl, rfl⟩
  go_wp2_with fail
  refine (fits_as _ _ _ _ a0 P F _).mono ?_; rintro e w ⟨rfl, rfl⟩
  go_wp2_with fail
  refine (place_as _ _ P.out ((Num.tmod4 a a0).trans P.out) _).mono ?_; rintro e w ⟨rfl, rfl⟩
  go_wp2_with fail
  refine (signed_as _ false rfl rfl _).mono ?_; rintro e w ⟨rfl, rfl⟩
  go_wp2_with fail
  refine (size_as _ _ S _).mono ?_; rintro e w ⟨rfl, rfl⟩
  go_wp2_with fail
  refine (lowest1 _ _).mono ?_; rintro e w ⟨rfl, rfl⟩
  go_wp2_with fail
  go_ret
  exact ⟨rfl, rfl⟩
set_option maxHeartbeats 1000000 in
theorem load14_2 (a x : Int) (a0 : 0 ≤ a) (x0 : 0 ≤ x) (x1 : x ≤ 4294967295) (P : Hid (a % 4 = 2)) (w : World) : Calls Try.prog 13 #[.int .i64 14, .int .u32 a, .int .u32 x] w fun e w' => e = .returned (.int .u32 ((x / 65536) % 256)) ∧ w' = w := by
  have F : Hid (Num.ft 14 2 = true) := rfl
  have L : Hid (Num.isl 14 = true) := rfl
  have S : Hid (Num.sz 14 = 1) := rfl
  go_enter Try.func13, Try.ntmps13
  go_wp2_with fail
  refine (loads_as _ _ L _).mono ?_; rintro e w ⟨rfl, rfl⟩
  go_wp2_with fail
  refine (fits_as _ _ _ _ a0 P F _).mono ?_; rintro e w ⟨rfl, rfl⟩
  go_wp2_with fail
  refine (place_as _ _ P.out ((Num.tmod4 a a0).trans P.out) _).mono ?_; rintro e w ⟨rfl, rfl⟩
  go_wp2_with fail
  refine (signed_as _ false rfl rfl _).mono ?_; rintro e w ⟨rfl, rfl⟩
  go_wp2_with fail
  refine (size_as _ _ S _).mono ?_; rintro e w ⟨rfl, rfl⟩
  go_wp2_with fail
  refine (lowest1 _ _).mono ?_; rintro e w ⟨rfl, rfl⟩
  go_wp2_with fail
  go_ret
  exact ⟨rfl, rfl⟩
set_option maxHeartbeats 1000000 in
theorem load14_3 (a x : Int) (a0 : 0 ≤ a) (x0 : 0 ≤ x) (x1 : x ≤ 4294967295) (P : Hid (a % 4 = 3)) (w : World) : Calls Try.prog 13 #[.int .i64 14, .int .u32 a, .int .u32 x] w fun e w' => e = .returned (.int .u32 ((x / 16777216) % 256)) ∧ w' = w := by
  have F : Hid (Num.ft 14 3 = true) := rfl
  have L : Hid (Num.isl 14 = true) := rfl
  have S : Hid (Num.sz 14 = 1) := rfl
  go_enter Try.func13, Try.ntmps13
  go_wp2_with fail
  refine (loads_as _ _ L _).mono ?_; rintro e w ⟨rfl, rfl⟩
  go_wp2_with fail
  refine (fits_as _ _ _ _ a0 P F _).mono ?_; rintro e w ⟨rfl, rfl⟩
  go_wp2_with fail
  refine (place_as _ _ P.out ((Num.tmod4 a a0).trans P.out) _).mono ?_; rintro e w ⟨rfl, rfl⟩
  go_wp2_with fail
  refine (signed_as _ false rfl rfl _).mono ?_; rintro e w ⟨rfl, rfl⟩
  go_wp2_with fail
  refine (size_as _ _ S _).mono ?_; rintro e w ⟨rfl, rfl⟩
  go_wp2_with fail
  refine (lowest1 _ _).mono ?_; rintro e w ⟨rfl, rfl⟩
  go_wp2_with fail
  go_ret
  exact ⟨rfl, rfl⟩
theorem load14 (a x p : Int) (a0 : 0 ≤ a) (x0 : 0 ≤ x) (x1 : x ≤ 4294967295) (P : a % 4 = p) (w : World) : Calls Try.prog 13 #[.int .i64 14, .int .u32 a, .int .u32 x] w fun e w' => e = .returned (.int .u32 (Num.ld 14 p x)) ∧ w' = w := by
  subst P
  rcases Num.quarter a with h | h | h | h <;> rw [h]
  · exact load14_0 a x a0 x0 x1 h w
  · exact load14_1 a x a0 x0 x1 h w
  · exact load14_2 a x a0 x0 x1 h w
  · exact load14_3 a x a0 x0 x1 h w
set_option maxHeartbeats 1000000 in
theorem load15_0 (a x : Int) (a0 : 0 ≤ a) (x0 : 0 ≤ x) (x1 : x ≤ 4294967295) (P : Hid (a % 4 = 0)) (w : World) : Calls Try.prog 13 #[.int .i64 15, .int .u32 a, .int .u32 x] w fun e w' => e = .returned (.int .u32 ((x) % 65536)) ∧ w' = w := by
  have F : Hid (Num.ft 15 0 = true) := rfl
  have L : Hid (Num.isl 15 = true) := rfl
  have S : Hid (Num.sz 15 = 2) := rfl
  go_enter Try.func13, Try.ntmps13
  go_wp2_with fail
  refine (loads_as _ _ L _).mono ?_; rintro e w ⟨rfl, rfl⟩
  go_wp2_with fail
  refine (fits_as _ _ _ _ a0 P F _).mono ?_; rintro e w ⟨rfl, rfl⟩
  go_wp2_with fail
  refine (place_as _ _ P.out ((Num.tmod4 a a0).trans P.out) _).mono ?_; rintro e w ⟨rfl, rfl⟩
  go_wp2_with fail
  refine (signed_as _ false rfl rfl _).mono ?_; rintro e w ⟨rfl, rfl⟩
  go_wp2_with fail
  refine (size_as _ _ S _).mono ?_; rintro e w ⟨rfl, rfl⟩
  go_wp2_with fail
  refine (lowest2 _ _).mono ?_; rintro e w ⟨rfl, rfl⟩
  go_wp2_with fail
  go_ret
  exact ⟨rfl, rfl⟩
set_option maxHeartbeats 1000000 in
theorem load15_1 (a x : Int) (a0 : 0 ≤ a) (x0 : 0 ≤ x) (x1 : x ≤ 4294967295) (P : Hid (a % 4 = 1)) (w : World) : Calls Try.prog 13 #[.int .i64 15, .int .u32 a, .int .u32 x] w fun e w' => e = .returned (.int .u32 0) ∧ w' = w := by
  have F : Hid (Num.ft 15 1 = false) := rfl
  have L : Hid (Num.isl 15 = true) := rfl
  have S : Hid (Num.sz 15 = 2) := rfl
  go_enter Try.func13, Try.ntmps13
  go_wp2_with fail
  refine (loads_as _ _ L _).mono ?_; rintro e w ⟨rfl, rfl⟩
  go_wp2_with fail
  refine (fits_as _ _ _ _ a0 P F _).mono ?_; rintro e w ⟨rfl, rfl⟩
  go_wp2_with fail
  go_ret
  exact ⟨rfl, rfl⟩
set_option maxHeartbeats 1000000 in
theorem load15_2 (a x : Int) (a0 : 0 ≤ a) (x0 : 0 ≤ x) (x1 : x ≤ 4294967295) (P : Hid (a % 4 = 2)) (w : World) : Calls Try.prog 13 #[.int .i64 15, .int .u32 a, .int .u32 x] w fun e w' => e = .returned (.int .u32 ((x / 65536) % 65536)) ∧ w' = w := by
  have F : Hid (Num.ft 15 2 = true) := rfl
  have L : Hid (Num.isl 15 = true) := rfl
  have S : Hid (Num.sz 15 = 2) := rfl
  go_enter Try.func13, Try.ntmps13
  go_wp2_with fail
  refine (loads_as _ _ L _).mono ?_; rintro e w ⟨rfl, rfl⟩
  go_wp2_with fail
  refine (fits_as _ _ _ _ a0 P F _).mono ?_; rintro e w ⟨rfl, rfl⟩
  go_wp2_with fail
  refine (place_as _ _ P.out ((Num.tmod4 a a0).trans P.out) _).mono ?_; rintro e w ⟨rfl, rfl⟩
  go_wp2_with fail
  refine (signed_as _ false rfl rfl _).mono ?_; rintro e w ⟨rfl, rfl⟩
  go_wp2_with fail
  refine (size_as _ _ S _).mono ?_; rintro e w ⟨rfl, rfl⟩
  go_wp2_with fail
  refine (lowest2 _ _).mono ?_; rintro e w ⟨rfl, rfl⟩
  go_wp2_with fail
  go_ret
  exact ⟨rfl, rfl⟩
set_option maxHeartbeats 1000000 in
theorem load15_3 (a x : Int) (a0 : 0 ≤ a) (x0 : 0 ≤ x) (x1 : x ≤ 4294967295) (P : Hid (a % 4 = 3)) (w : World) : Calls Try.prog 13 #[.int .i64 15, .int .u32 a, .int .u32 x] w fun e w' => e = .returned (.int .u32 0) ∧ w' = w := by
  have F : Hid (Num.ft 15 3 = false) := rfl
  have L : Hid (Num.isl 15 = true) := rfl
  have S : Hid (Num.sz 15 = 2) := rfl
  go_enter Try.func13, Try.ntmps13
  go_wp2_with fail
  refine (loads_as _ _ L _).mono ?_; rintro e w ⟨rfl, rfl⟩
  go_wp2_with fail
  refine (fits_as _ _ _ _ a0 P F _).mono ?_; rintro e w ⟨rfl, rfl⟩
  go_wp2_with fail
  go_ret
  exact ⟨rfl, rfl⟩
theorem load15 (a x p : Int) (a0 : 0 ≤ a) (x0 : 0 ≤ x) (x1 : x ≤ 4294967295) (P : a % 4 = p) (w : World) : Calls Try.prog 13 #[.int .i64 15, .int .u32 a, .int .u32 x] w fun e w' => e = .returned (.int .u32 (Num.ld 15 p x)) ∧ w' = w := by
  subst P
  rcases Num.quarter a with h | h | h | h <;> rw [h]
  · exact load15_0 a x a0 x0 x1 h w
  · exact load15_1 a x a0 x0 x1 h w
  · exact load15_2 a x a0 x0 x1 h w
  · exact load15_3 a x a0 x0 x1 h w
theorem loadNo (op a x : Int) (L : Hid (Num.isl op = false)) (w : World) : Calls Try.prog 13 #[.int .i64 op, .int .u32 a, .int .u32 x] w fun e w' => e = .returned (.int .u32 0) ∧ w' = w := by
  go_enter Try.func13, Try.ntmps13
  go_wp2_with fail
  refine (loads_as _ _ L _).mono ?_; rintro e w ⟨rfl, rfl⟩
  go_wp2_with fail
  go_ret
  exact ⟨rfl, rfl⟩
theorem load_as (op a x p : Int) (a0 : 0 ≤ a) (x0 : 0 ≤ x) (x1 : x ≤ 4294967295) (P : Hid (a % 4 = p)) (c : Int) (C : Hid (Num.ld op p x = c)) (w : World) : Calls Try.prog 13 #[.int .i64 op, .int .u32 a, .int .u32 x] w fun e w' => e = .returned (.int .u32 c) ∧ w' = w := by
  obtain rfl : Num.ld op p x = c := C
  by_cases h11 : op = 11
  · subst h11; exact load11 a x p a0 x0 x1 P w
  by_cases h12 : op = 12
  · subst h12; exact load12 a x p a0 x0 x1 P w
  by_cases h13 : op = 13
  · subst h13; exact load13 a x p a0 x0 x1 P w
  by_cases h14 : op = 14
  · subst h14; exact load14 a x p a0 x0 x1 P w
  by_cases h15 : op = 15
  · subst h15; exact load15 a x p a0 x0 x1 P w
  have z : Num.ld op p x = 0 := by unfold Num.ld; simp only [h11, h12, h13, h14, h15, if_false]
  rw [z]
  exact loadNo op a x (show Num.isl op = false by unfold Num.isl; simp only [h11, h12, h13, h14, h15, if_false]) w
end Go.Proofs.Ytgfoclpcfgfnbaa.Walks
