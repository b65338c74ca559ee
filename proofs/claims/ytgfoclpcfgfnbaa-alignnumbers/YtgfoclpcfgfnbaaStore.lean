/- Store, the program's, op by op, place by place. -/
import Derived.Test.YtgfoclpcfgfnbaaFits
import Derived.BigQuiet
import Derived.Deep.QuietTactic
namespace Go.Proofs.Ytgfoclpcfgfnbaa.Walks
open Go.ChangeShapes Go.WideShapes Go.ChangeAt Go.RowKit
set_option linter.unusedVariables false
theorem ret_two {a b c d : Int} (h : a = b) (k : c = d) : Ending.returned (.tuple #[.int .u32 a, .int .i64 c]) = .returned (.tuple #[.int .u32 b, .int .i64 d]) := by rw [h, k]
set_option maxHeartbeats 1000000 in
theorem store16_0 (a x : Int) (a0 : 0 ≤ a) (x0 : 0 ≤ x) (x1 : x ≤ 4294967295) (P : Hid (a % 4 = 0)) (w : World) : Calls Try.prog 9 #[.int .i64 16, .int .u32 a, .int .u32 x] w fun e w' => e = .returned (.tuple #[.int .u32 (x % 256), .int .i64 (1)]) ∧ w'.Alike w := by
  have F : Hid (Num.ft 16 0 = true) := rfl
  have L : Hid (Num.iss 16 = true) := rfl
  have S : Hid (Num.sz 16 = 1) := rfl
  go_enter Try.func9, Try.ntmps9
  go_wp2_with fail
  refine (stores_as _ _ L _).mono ?_; rintro e w ⟨rfl, rfl⟩
  go_wp2_with fail
  refine (fits_as _ _ _ _ a0 P F _).mono ?_; rintro e w ⟨rfl, rfl⟩
  go_wp2_with fail
  refine (size_as _ _ S _).mono ?_; rintro e w ⟨rfl, rfl⟩
  go_wp2_with fail
  refine (lowest1 _ _).mono ?_; rintro e w ⟨rfl, rfl⟩
  go_wp2_with fail
  refine (place_as _ _ P.out ((Num.tmod4 a a0).trans P.out) _).mono ?_; rintro e w ⟨rfl, rfl⟩
  go_wp2_with fail
  go_quiet ((first | (go_at_call 12; exact Calls.quiet_of_same (size_as _ _ S _)) | (go_at_call 21; exact Calls.quiet_of_same (place_as _ _ P.out ((Num.tmod4 a a0).trans P.out) _))))
  go_wp2_with fail
  go_ret2
  first
    | exact ⟨rfl, rfl, rfl, rfl⟩
    | exact ⟨ret_two (by omega) rfl, rfl, rfl, rfl⟩
set_option maxHeartbeats 1000000 in
theorem store16_1 (a x : Int) (a0 : 0 ≤ a) (x0 : 0 ≤ x) (x1 : x ≤ 4294967295) (P : Hid (a % 4 = 1)) (w : World) : Calls Try.prog 9 #[.int .i64 16, .int .u32 a, .int .u32 x] w fun e w' => e = .returned (.tuple #[.int .u32 (x % 256 * 256), .int .i64 (2)]) ∧ w'.Alike w := by
  have F : Hid (Num.ft 16 1 = true) := rfl
  have L : Hid (Num.iss 16 = true) := rfl
  have S : Hid (Num.sz 16 = 1) := rfl
  go_enter Try.func9, Try.ntmps9
  go_wp2_with fail
  refine (stores_as _ _ L _).mono ?_; rintro e w ⟨rfl, rfl⟩
  go_wp2_with fail
  refine (fits_as _ _ _ _ a0 P F _).mono ?_; rintro e w ⟨rfl, rfl⟩
  go_wp2_with fail
  refine (size_as _ _ S _).mono ?_; rintro e w ⟨rfl, rfl⟩
  go_wp2_with fail
  refine (lowest1 _ _).mono ?_; rintro e w ⟨rfl, rfl⟩
  go_wp2_with fail
  refine (place_as _ _ P.out ((Num.tmod4 a a0).trans P.out) _).mono ?_; rintro e w ⟨rfl, rfl⟩
  go_wp2_with fail
  go_quiet ((first | (go_at_call 12; exact Calls.quiet_of_same (size_as _ _ S _)) | (go_at_call 21; exact Calls.quiet_of_same (place_as _ _ P.out ((Num.tmod4 a a0).trans P.out) _))))
  go_wp2_with fail
  go_ret2
  first
    | exact ⟨rfl, rfl, rfl, rfl⟩
    | exact ⟨ret_two (by omega) rfl, rfl, rfl, rfl⟩
set_option maxHeartbeats 1000000 in
theorem store16_2 (a x : Int) (a0 : 0 ≤ a) (x0 : 0 ≤ x) (x1 : x ≤ 4294967295) (P : Hid (a % 4 = 2)) (w : World) : Calls Try.prog 9 #[.int .i64 16, .int .u32 a, .int .u32 x] w fun e w' => e = .returned (.tuple #[.int .u32 (x % 256 * 65536), .int .i64 (4)]) ∧ w'.Alike w := by
  have F : Hid (Num.ft 16 2 = true) := rfl
  have L : Hid (Num.iss 16 = true) := rfl
  have S : Hid (Num.sz 16 = 1) := rfl
  go_enter Try.func9, Try.ntmps9
  go_wp2_with fail
  refine (stores_as _ _ L _).mono ?_; rintro e w ⟨rfl, rfl⟩
  go_wp2_with fail
  refine (fits_as _ _ _ _ a0 P F _).mono ?_; rintro e w ⟨rfl, rfl⟩
  go_wp2_with fail
  refine (size_as _ _ S _).mono ?_; rintro e w ⟨rfl, rfl⟩
  go_wp2_with fail
  refine (lowest1 _ _).mono ?_; rintro e w ⟨rfl, rfl⟩
  go_wp2_with fail
  refine (place_as _ _ P.out ((Num.tmod4 a a0).trans P.out) _).mono ?_; rintro e w ⟨rfl, rfl⟩
  go_wp2_with fail
  go_quiet ((first | (go_at_call 12; exact Calls.quiet_of_same (size_as _ _ S _)) | (go_at_call 21; exact Calls.quiet_of_same (place_as _ _ P.out ((Num.tmod4 a a0).trans P.out) _))))
  go_wp2_with fail
  go_ret2
  first
    | exact ⟨rfl, rfl, rfl, rfl⟩
    | exact ⟨ret_two (by omega) rfl, rfl, rfl, rfl⟩
set_option maxHeartbeats 1000000 in
theorem store16_3 (a x : Int) (a0 : 0 ≤ a) (x0 : 0 ≤ x) (x1 : x ≤ 4294967295) (P : Hid (a % 4 = 3)) (w : World) : Calls Try.prog 9 #[.int .i64 16, .int .u32 a, .int .u32 x] w fun e w' => e = .returned (.tuple #[.int .u32 (x % 256 * 16777216), .int .i64 (8)]) ∧ w'.Alike w := by
  have F : Hid (Num.ft 16 3 = true) := rfl
  have L : Hid (Num.iss 16 = true) := rfl
  have S : Hid (Num.sz 16 = 1) := rfl
  go_enter Try.func9, Try.ntmps9
  go_wp2_with fail
  refine (stores_as _ _ L _).mono ?_; rintro e w ⟨rfl, rfl⟩
  go_wp2_with fail
  refine (fits_as _ _ _ _ a0 P F _).mono ?_; rintro e w ⟨rfl, rfl⟩
  go_wp2_with fail
  refine (size_as _ _ S _).mono ?_; rintro e w ⟨rfl, rfl⟩
  go_wp2_with fail
  refine (lowest1 _ _).mono ?_; rintro e w ⟨rfl, rfl⟩
  go_wp2_with fail
  refine (place_as _ _ P.out ((Num.tmod4 a a0).trans P.out) _).mono ?_; rintro e w ⟨rfl, rfl⟩
  go_wp2_with fail
  go_quiet ((first | (go_at_call 12; exact Calls.quiet_of_same (size_as _ _ S _)) | (go_at_call 21; exact Calls.quiet_of_same (place_as _ _ P.out ((Num.tmod4 a a0).trans P.out) _))))
  go_wp2_with fail
  go_ret2
  first
    | exact ⟨rfl, rfl, rfl, rfl⟩
    | exact ⟨ret_two (by omega) rfl, rfl, rfl, rfl⟩
theorem store16 (a x p : Int) (a0 : 0 ≤ a) (a1 : a ≤ 4294967295) (x0 : 0 ≤ x) (x1 : x ≤ 4294967295) (P : a % 4 = p) (w : World) : Calls Try.prog 9 #[.int .i64 16, .int .u32 a, .int .u32 x] w fun e w' => e = .returned (.tuple #[.int .u32 (Num.st 16 p x), .int .i64 (Num.sm 16 p)]) ∧ w'.Alike w := by
  subst P
  have A := Num.and3 a a0 a1
  rcases Num.quarter a with h | h | h | h <;> rw [h] at A ⊢
  · rw [show Num.st 16 0 x = x % 256 from Int.mul_one _]
    exact store16_0 a x a0 x0 x1 h w
  · exact store16_1 a x a0 x0 x1 h w
  · exact store16_2 a x a0 x0 x1 h w
  · exact store16_3 a x a0 x0 x1 h w
set_option maxHeartbeats 1000000 in
theorem store17_0 (a x : Int) (a0 : 0 ≤ a) (x0 : 0 ≤ x) (x1 : x ≤ 4294967295) (P : Hid (a % 4 = 0)) (w : World) : Calls Try.prog 9 #[.int .i64 17, .int .u32 a, .int .u32 x] w fun e w' => e = .returned (.tuple #[.int .u32 (x % 65536), .int .i64 (3)]) ∧ w'.Alike w := by
  have F : Hid (Num.ft 17 0 = true) := rfl
  have L : Hid (Num.iss 17 = true) := rfl
  have S : Hid (Num.sz 17 = 2) := rfl
  go_enter Try.func9, Try.ntmps9
  go_wp2_with fail
  refine (stores_as _ _ L _).mono ?_; rintro e w ⟨rfl, rfl⟩
  go_wp2_with fail
  refine (fits_as _ _ _ _ a0 P F _).mono ?_; rintro e w ⟨rfl, rfl⟩
  go_wp2_with fail
  refine (size_as _ _ S _).mono ?_; rintro e w ⟨rfl, rfl⟩
  go_wp2_with fail
  refine (lowest2 _ _).mono ?_; rintro e w ⟨rfl, rfl⟩
  go_wp2_with fail
  refine (place_as _ _ P.out ((Num.tmod4 a a0).trans P.out) _).mono ?_; rintro e w ⟨rfl, rfl⟩
  go_wp2_with fail
  go_quiet ((first | (go_at_call 12; exact Calls.quiet_of_same (size_as _ _ S _)) | (go_at_call 21; exact Calls.quiet_of_same (place_as _ _ P.out ((Num.tmod4 a a0).trans P.out) _))))
  go_wp2_with fail
  go_ret2
  first
    | exact ⟨rfl, rfl, rfl, rfl⟩
    | exact ⟨ret_two (by omega) rfl, rfl, rfl, rfl⟩
set_option maxHeartbeats 1000000 in
theorem store17_1 (a x : Int) (a0 : 0 ≤ a) (x0 : 0 ≤ x) (x1 : x ≤ 4294967295) (P : Hid (a % 4 = 1)) (w : World) : Calls Try.prog 9 #[.int .i64 17, .int .u32 a, .int .u32 x] w fun e w' => e = .returned (.tuple #[.int .u32 (0), .int .i64 (0)]) ∧ w'.Alike w := by
  have F : Hid (Num.ft 17 1 = false) := rfl
  have L : Hid (Num.iss 17 = true) := rfl
  have S : Hid (Num.sz 17 = 2) := rfl
  go_enter Try.func9, Try.ntmps9
  go_wp2_with fail
  refine (stores_as _ _ L _).mono ?_; rintro e w ⟨rfl, rfl⟩
  go_wp2_with fail
  refine (fits_as _ _ _ _ a0 P F _).mono ?_; rintro e w ⟨rfl, rfl⟩
  go_wp2_with fail
  go_ret2
  first
    | exact ⟨rfl, rfl, rfl, rfl⟩
    | exact ⟨ret_two (by omega) rfl, rfl, rfl, rfl⟩
set_option maxHeartbeats 1000000 in
theorem store17_2 (a x : Int) (a0 : 0 ≤ a) (x0 : 0 ≤ x) (x1 : x ≤ 4294967295) (P : Hid (a % 4 = 2)) (w : World) : Calls Try.prog 9 #[.int .i64 17, .int .u32 a, .int .u32 x] w fun e w' => e = .returned (.tuple #[.int .u32 (x % 65536 * 65536), .int .i64 (12)]) ∧ w'.Alike w := by
  have F : Hid (Num.ft 17 2 = true) := rfl
  have L : Hid (Num.iss 17 = true) := rfl
  have S : Hid (Num.sz 17 = 2) := rfl
  go_enter Try.func9, Try.ntmps9
  go_wp2_with fail
  refine (stores_as _ _ L _).mono ?_; rintro e w ⟨rfl, rfl⟩
  go_wp2_with fail
  refine (fits_as _ _ _ _ a0 P F _).mono ?_; rintro e w ⟨rfl, rfl⟩
  go_wp2_with fail
  refine (size_as _ _ S _).mono ?_; rintro e w ⟨rfl, rfl⟩
  go_wp2_with fail
  refine (lowest2 _ _).mono ?_; rintro e w ⟨rfl, rfl⟩
  go_wp2_with fail
  refine (place_as _ _ P.out ((Num.tmod4 a a0).trans P.out) _).mono ?_; rintro e w ⟨rfl, rfl⟩
  go_wp2_with fail
  go_quiet ((first | (go_at_call 12; exact Calls.quiet_of_same (size_as _ _ S _)) | (go_at_call 21; exact Calls.quiet_of_same (place_as _ _ P.out ((Num.tmod4 a a0).trans P.out) _))))
  go_wp2_with fail
  go_ret2
  first
    | exact ⟨rfl, rfl, rfl, rfl⟩
    | exact ⟨ret_two (by omega) rfl, rfl, rfl, rfl⟩
set_option maxHeartbeats 1000000 in
theorem store17_3 (a x : Int) (a0 : 0 ≤ a) (x0 : 0 ≤ x) (x1 : x ≤ 4294967295) (P : Hid (a % 4 = 3)) (w : World) : Calls Try.prog 9 #[.int .i64 17, .int .u32 a, .int .u32 x] w fun e w' => e = .returned (.tuple #[.int .u32 (0), .int .i64 (0)]) ∧ w'.Alike w := by
  have F : Hid (Num.ft 17 3 = false) := rfl
  have L : Hid (Num.iss 17 = true) := rfl
  have S : Hid (Num.sz 17 = 2) := rfl
  go_enter Try.func9, Try.ntmps9
  go_wp2_with fail
  refine (stores_as _ _ L _).mono ?_; rintro e w ⟨rfl, rfl⟩
  go_wp2_with fail
  refine (fits_as _ _ _ _ a0 P F _).mono ?_; rintro e w ⟨rfl, rfl⟩
  go_wp2_with fail
  go_ret2
  first
    | exact ⟨rfl, rfl, rfl, rfl⟩
    | exact ⟨ret_two (by omega) rfl, rfl, rfl, rfl⟩
theorem store17 (a x p : Int) (a0 : 0 ≤ a) (a1 : a ≤ 4294967295) (x0 : 0 ≤ x) (x1 : x ≤ 4294967295) (P : a % 4 = p) (w : World) : Calls Try.prog 9 #[.int .i64 17, .int .u32 a, .int .u32 x] w fun e w' => e = .returned (.tuple #[.int .u32 (Num.st 17 p x), .int .i64 (Num.sm 17 p)]) ∧ w'.Alike w := by
  subst P
  have A := Num.and3 a a0 a1
  rcases Num.quarter a with h | h | h | h <;> rw [h] at A ⊢
  · rw [show Num.st 17 0 x = x % 65536 from Int.mul_one _]
    exact store17_0 a x a0 x0 x1 h w
  · exact store17_1 a x a0 x0 x1 h w
  · exact store17_2 a x a0 x0 x1 h w
  · exact store17_3 a x a0 x0 x1 h w
set_option maxHeartbeats 1000000 in
theorem store18_0 (a x : Int) (a0 : 0 ≤ a) (x0 : 0 ≤ x) (x1 : x ≤ 4294967295) (P : Hid (a % 4 = 0)) (w : World) : Calls Try.prog 9 #[.int .i64 18, .int .u32 a, .int .u32 x] w fun e w' => e = .returned (.tuple #[.int .u32 (x), .int .i64 (15)]) ∧ w'.Alike w := by
  have F : Hid (Num.ft 18 0 = true) := rfl
  have L : Hid (Num.iss 18 = true) := rfl
  have S : Hid (Num.sz 18 = 4) := rfl
  go_enter Try.func9, Try.ntmps9
  go_wp2_with fail
  refine (stores_as _ _ L _).mono ?_; rintro e w ⟨rfl, rfl⟩
  go_wp2_with fail
  refine (fits_as _ _ _ _ a0 P F _).mono ?_; rintro e w ⟨rfl, rfl⟩
  go_wp2_with fail
  refine (size_as _ _ S _).mono ?_; rintro e w ⟨rfl, rfl⟩
  go_wp2_with fail
  refine (lowest4 _ x0 x1 _).mono ?_; rintro e w ⟨rfl, rfl⟩
  go_wp2_with fail
  refine (place_as _ _ P.out ((Num.tmod4 a a0).trans P.out) _).mono ?_; rintro e w ⟨rfl, rfl⟩
  go_wp2_with fail
  go_quiet ((first | (go_at_call 12; exact Calls.quiet_of_same (size_as _ _ S _)) | (go_at_call 21; exact Calls.quiet_of_same (place_as _ _ P.out ((Num.tmod4 a a0).trans P.out) _))))
  go_wp2_with fail
  go_ret2
  first
    | exact ⟨rfl, rfl, rfl, rfl⟩
    | exact ⟨ret_two (by omega) rfl, rfl, rfl, rfl⟩
set_option maxHeartbeats 1000000 in
theorem store18_1 (a x : Int) (a0 : 0 ≤ a) (x0 : 0 ≤ x) (x1 : x ≤ 4294967295) (P : Hid (a % 4 = 1)) (w : World) : Calls Try.prog 9 #[.int .i64 18, .int .u32 a, .int .u32 x] w fun e w' => e = .returned (.tuple #[.int .u32 (0), .int .i64 (0)]) ∧ w'.Alike w := by
  have F : Hid (Num.ft 18 1 = false) := rfl
  have L : Hid (Num.iss 18 = true) := rfl
  have S : Hid (Num.sz 18 = 4) := rfl
  go_enter Try.func9, Try.ntmps9
  go_wp2_with fail
  refine (stores_as _ _ L _).mono ?_; rintro e w ⟨rfl, rfl⟩
  go_wp2_with fail
  refine (fits_as _ _ _ _ a0 P F _).mono ?_; rintro e w ⟨rfl, rfl⟩
  go_wp2_with fail
  go_ret2
  first
    | exact ⟨rfl, rfl, rfl, rfl⟩
    | exact ⟨ret_two (by omega) rfl, rfl, rfl, rfl⟩
set_option maxHeartbeats 1000000 in
theorem store18_2 (a x : Int) (a0 : 0 ≤ a) (x0 : 0 ≤ x) (x1 : x ≤ 4294967295) (P : Hid (a % 4 = 2)) (w : World) : Calls Try.prog 9 #[.int .i64 18, .int .u32 a, .int .u32 x] w fun e w' => e = .returned (.tuple #[.int .u32 (0), .int .i64 (0)]) ∧ w'.Alike w := by
  have F : Hid (Num.ft 18 2 = false) := rfl
  have L : Hid (Num.iss 18 = true) := rfl
  have S : Hid (Num.sz 18 = 4) := rfl
  go_enter Try.func9, Try.ntmps9
  go_wp2_with fail
  refine (stores_as _ _ L _).mono ?_; rintro e w ⟨rfl, rfl⟩
  go_wp2_with fail
  refine (fits_as _ _ _ _ a0 P F _).mono ?_; rintro e w ⟨rfl, rfl⟩
  go_wp2_with fail
  go_ret2
  first
    | exact ⟨rfl, rfl, rfl, rfl⟩
    | exact ⟨ret_two (by omega) rfl, rfl, rfl, rfl⟩
set_option maxHeartbeats 1000000 in
theorem store18_3 (a x : Int) (a0 : 0 ≤ a) (x0 : 0 ≤ x) (x1 : x ≤ 4294967295) (P : Hid (a % 4 = 3)) (w : World) : Calls Try.prog 9 #[.int .i64 18, .int .u32 a, .int .u32 x] w fun e w' => e = .returned (.tuple #[.int .u32 (0), .int .i64 (0)]) ∧ w'.Alike w := by
  have F : Hid (Num.ft 18 3 = false) := rfl
  have L : Hid (Num.iss 18 = true) := rfl
  have S : Hid (Num.sz 18 = 4) := rfl
  go_enter Try.func9, Try.ntmps9
  go_wp2_with fail
  refine (stores_as _ _ L _).mono ?_; rintro e w ⟨rfl, rfl⟩
  go_wp2_with fail
  refine (fits_as _ _ _ _ a0 P F _).mono ?_; rintro e w ⟨rfl, rfl⟩
  go_wp2_with fail
  go_ret2
  first
    | exact ⟨rfl, rfl, rfl, rfl⟩
    | exact ⟨ret_two (by omega) rfl, rfl, rfl, rfl⟩
theorem store18 (a x p : Int) (a0 : 0 ≤ a) (a1 : a ≤ 4294967295) (x0 : 0 ≤ x) (x1 : x ≤ 4294967295) (P : a % 4 = p) (w : World) : Calls Try.prog 9 #[.int .i64 18, .int .u32 a, .int .u32 x] w fun e w' => e = .returned (.tuple #[.int .u32 (Num.st 18 p x), .int .i64 (Num.sm 18 p)]) ∧ w'.Alike w := by
  subst P
  have A := Num.and3 a a0 a1
  rcases Num.quarter a with h | h | h | h <;> rw [h] at A ⊢
  · exact store18_0 a x a0 x0 x1 h w
  · exact store18_1 a x a0 x0 x1 h w
  · exact store18_2 a x a0 x0 x1 h w
  · exact store18_3 a x a0 x0 x1 h w
theorem storeNo (op a x : Int) (L : Hid (Num.iss op = false)) (w : World) : Calls Try.prog 9 #[.int .i64 op, .int .u32 a, .int .u32 x] w fun e w' => e = .returned (.tuple #[.int .u32 (0), .int .i64 (0)]) ∧ w'.Alike w := by
  go_enter Try.func9, Try.ntmps9
  go_wp2_with fail
  refine (stores_as _ _ L _).mono ?_; rintro e w ⟨rfl, rfl⟩
  go_wp2_with fail
  go_ret2
  exact ⟨rfl, rfl, rfl, rfl⟩
theorem store_as (op a x p : Int) (a0 : 0 ≤ a) (a1 : a ≤ 4294967295) (x0 : 0 ≤ x) (x1 : x ≤ 4294967295) (P : Hid (a % 4 = p)) (c m : Int) (C : Hid (Num.st op p x = c)) (M : Hid (Num.sm op p = m)) (w : World) : Calls Try.prog 9 #[.int .i64 op, .int .u32 a, .int .u32 x] w fun e w' => e = .returned (.tuple #[.int .u32 (c), .int .i64 (m)]) ∧ w'.Alike w := by
  obtain rfl : Num.st op p x = c := C
  obtain rfl : Num.sm op p = m := M
  by_cases h16 : op = 16
  · subst h16; exact store16 a x p a0 a1 x0 x1 P w
  by_cases h17 : op = 17
  · subst h17; exact store17 a x p a0 a1 x0 x1 P w
  by_cases h18 : op = 18
  · subst h18; exact store18 a x p a0 a1 x0 x1 P w
  have z : Num.st op p x = 0 := by unfold Num.st; simp only [h16, h17, h18, if_false]
  have y : Num.sm op p = 0 := by unfold Num.sm; simp only [h16, h17, h18, if_false]
  rw [z, y]
  exact storeNo op a x (show Num.iss op = false by unfold Num.iss; simp only [h16, h17, h18, if_false]) w
end Go.Proofs.Ytgfoclpcfgfnbaa.Walks
