/- Store, the document's, op by op, place by place. -/
import Derived.Test.YtgfoclpcfgfnbaaFits
import Derived.BigQuiet
import Derived.Deep.QuietTactic
namespace Go.Proofs.Ytgfoclpcfgfnbaa.Walks
open Go.ChangeShapes Go.WideShapes Go.ChangeAt Go.RowKit
set_option linter.unusedVariables false
theorem ret_twoR {a b c d : Int} (h : a = b) (k : c = d) : Ending.returned (.tuple #[.int .u32 a, .int .i64 c]) = .returned (.tuple #[.int .u32 b, .int .i64 d]) := by rw [h, k]
set_option maxHeartbeats 1000000 in
theorem rstore16_0 (a x : Int) (a0 : 0 ≤ a) (x0 : 0 ≤ x) (x1 : x ≤ 4294967295) (P : Hid (a % 4 = 0)) (A : bits .and .u32 a 3 = 0) (w : World) : Calls Try.prog 14 #[.int .i64 16, .int .u32 a, .int .u32 x] w fun e w' => e = .returned (.tuple #[.int .u32 (x % 256), .int .i64 (1)]) ∧ w'.Alike w := by
  have F : Hid (Num.ft 16 0 = true) := rfl
  have L : Hid (Num.iss 16 = true) := rfl
  have S : Hid (Num.sz 16 = 1) := rfl
  have M : bits .and .u32 x 255 = x % 256 := Num.and8 _ x0 x1
  go_enter Try.func14, Try.ntmps14
  go_wp2_with fail
  refine (rfits_as _ _ _ _ a0 P F _).mono ?_; rintro e w ⟨rfl, rfl⟩
  go_wp2_with fail
  refine (rsize_as _ _ S _).mono ?_; rintro e w ⟨rfl, rfl⟩
  go_wp2_with fail
  refine (rsize_as _ _ S _).mono ?_; rintro e w ⟨rfl, rfl⟩
  go_wp2_with fail
  refine (rsize_as _ _ S _).mono ?_; rintro e w ⟨rfl, rfl⟩
  go_wp2_with fail
  go_ret2
  first
    | exact ⟨rfl, rfl, rfl, rfl⟩
    | exact ⟨ret_twoR (by omega) rfl, rfl, rfl, rfl⟩
set_option maxHeartbeats 1000000 in
theorem rstore16_1 (a x : Int) (a0 : 0 ≤ a) (x0 : 0 ≤ x) (x1 : x ≤ 4294967295) (P : Hid (a % 4 = 1)) (A : bits .and .u32 a 3 = 1) (w : World) : Calls Try.prog 14 #[.int .i64 16, .int .u32 a, .int .u32 x] w fun e w' => e = .returned (.tuple #[.int .u32 (x % 256 * 256), .int .i64 (2)]) ∧ w'.Alike w := by
  have F : Hid (Num.ft 16 1 = true) := rfl
  have L : Hid (Num.iss 16 = true) := rfl
  have S : Hid (Num.sz 16 = 1) := rfl
  have M : bits .and .u32 x 255 = x % 256 := Num.and8 _ x0 x1
  go_enter Try.func14, Try.ntmps14
  go_wp2_with fail
  refine (rfits_as _ _ _ _ a0 P F _).mono ?_; rintro e w ⟨rfl, rfl⟩
  go_wp2_with fail
  refine (rsize_as _ _ S _).mono ?_; rintro e w ⟨rfl, rfl⟩
  go_wp2_with fail
  refine (rsize_as _ _ S _).mono ?_; rintro e w ⟨rfl, rfl⟩
  go_wp2_with fail
  refine (rsize_as _ _ S _).mono ?_; rintro e w ⟨rfl, rfl⟩
  go_wp2_with fail
  go_ret2
  first
    | exact ⟨rfl, rfl, rfl, rfl⟩
    | exact ⟨ret_twoR (by omega) rfl, rfl, rfl, rfl⟩
set_option maxHeartbeats 1000000 in
theorem rstore16_2 (a x : Int) (a0 : 0 ≤ a) (x0 : 0 ≤ x) (x1 : x ≤ 4294967295) (P : Hid (a % 4 = 2)) (A : bits .and .u32 a 3 = 2) (w : World) : Calls Try.prog 14 #[.int .i64 16, .int .u32 a, .int .u32 x] w fun e w' => e = .returned (.tuple #[.int .u32 (x % 256 * 65536), .int .i64 (4)]) ∧ w'.Alike w := by
  have F : Hid (Num.ft 16 2 = true) := rfl
  have L : Hid (Num.iss 16 = true) := rfl
  have S : Hid (Num.sz 16 = 1) := rfl
  have M : bits .and .u32 x 255 = x % 256 := Num.and8 _ x0 x1
  go_enter Try.func14, Try.ntmps14
  go_wp2_with fail
  refine (rfits_as _ _ _ _ a0 P F _).mono ?_; rintro e w ⟨rfl, rfl⟩
  go_wp2_with fail
  refine (rsize_as _ _ S _).mono ?_; rintro e w ⟨rfl, rfl⟩
  go_wp2_with fail
  refine (rsize_as _ _ S _).mono ?_; rintro e w ⟨rfl, rfl⟩
  go_wp2_with fail
  refine (rsize_as _ _ S _).mono ?_; rintro e w ⟨rfl, rfl⟩
  go_wp2_with fail
  go_ret2
  first
    | exact ⟨rfl, rfl, rfl, rfl⟩
    | exact ⟨ret_twoR (by omega) rfl, rfl, rfl, rfl⟩
set_option maxHeartbeats 1000000 in
theorem rstore16_3 (a x : Int) (a0 : 0 ≤ a) (x0 : 0 ≤ x) (x1 : x ≤ 4294967295) (P : Hid (a % 4 = 3)) (A : bits .and .u32 a 3 = 3) (w : World) : Calls Try.prog 14 #[.int .i64 16, .int .u32 a, .int .u32 x] w fun e w' => e = .returned (.tuple #[.int .u32 (x % 256 * 16777216), .int .i64 (8)]) ∧ w'.Alike w := by
  have F : Hid (Num.ft 16 3 = true) := rfl
  have L : Hid (Num.iss 16 = true) := rfl
  have S : Hid (Num.sz 16 = 1) := rfl
  have M : bits .and .u32 x 255 = x % 256 := Num.and8 _ x0 x1
  go_enter Try.func14, Try.ntmps14
  go_wp2_with fail
  refine (rfits_as _ _ _ _ a0 P F _).mono ?_; rintro e w ⟨rfl, rfl⟩
  go_wp2_with fail
  refine (rsize_as _ _ S _).mono ?_; rintro e w ⟨rfl, rfl⟩
  go_wp2_with fail
  refine (rsize_as _ _ S _).mono ?_; rintro e w ⟨rfl, rfl⟩
  go_wp2_with fail
  refine (rsize_as _ _ S _).mono ?_; rintro e w ⟨rfl, rfl⟩
  go_wp2_with fail
  go_ret2
  first
    | exact ⟨rfl, rfl, rfl, rfl⟩
    | exact ⟨ret_twoR (by omega) rfl, rfl, rfl, rfl⟩
theorem rstore16 (a x p : Int) (a0 : 0 ≤ a) (a1 : a ≤ 4294967295) (x0 : 0 ≤ x) (x1 : x ≤ 4294967295) (P : a % 4 = p) (w : World) : Calls Try.prog 14 #[.int .i64 16, .int .u32 a, .int .u32 x] w fun e w' => e = .returned (.tuple #[.int .u32 (Num.st 16 p x), .int .i64 (Num.sm 16 p)]) ∧ w'.Alike w := by
  subst P
  have A := Num.and3 a a0 a1
  rcases Num.quarter a with h | h | h | h <;> rw [h] at A ⊢
  · rw [show Num.st 16 0 x = x % 256 from Int.mul_one _]
    exact rstore16_0 a x a0 x0 x1 h A w
  · exact rstore16_1 a x a0 x0 x1 h A w
  · exact rstore16_2 a x a0 x0 x1 h A w
  · exact rstore16_3 a x a0 x0 x1 h A w
set_option maxHeartbeats 1000000 in
theorem rstore17_0 (a x : Int) (a0 : 0 ≤ a) (x0 : 0 ≤ x) (x1 : x ≤ 4294967295) (P : Hid (a % 4 = 0)) (A : bits .and .u32 a 3 = 0) (w : World) : Calls Try.prog 14 #[.int .i64 17, .int .u32 a, .int .u32 x] w fun e w' => e = .returned (.tuple #[.int .u32 (x % 65536), .int .i64 (3)]) ∧ w'.Alike w := by
  have F : Hid (Num.ft 17 0 = true) := rfl
  have L : Hid (Num.iss 17 = true) := rfl
  have S : Hid (Num.sz 17 = 2) := rfl
  have M : bits .and .u32 x 65535 = x % 65536 := Num.and16 _ x0 x1
  go_enter Try.func14, Try.ntmps14
  go_wp2_with fail
  refine (rfits_as _ _ _ _ a0 P F _).mono ?_; rintro e w ⟨rfl, rfl⟩
  go_wp2_with fail
  refine (rsize_as _ _ S _).mono ?_; rintro e w ⟨rfl, rfl⟩
  go_wp2_with fail
  refine (rsize_as _ _ S _).mono ?_; rintro e w ⟨rfl, rfl⟩
  go_wp2_with fail
  refine (rsize_as _ _ S _).mono ?_; rintro e w ⟨rfl, rfl⟩
  go_wp2_with fail
  go_ret2
  first
    | exact ⟨rfl, rfl, rfl, rfl⟩
    | exact ⟨ret_twoR (by omega) rfl, rfl, rfl, rfl⟩
set_option maxHeartbeats 1000000 in
theorem rstore17_1 (a x : Int) (a0 : 0 ≤ a) (x0 : 0 ≤ x) (x1 : x ≤ 4294967295) (P : Hid (a % 4 = 1)) (A : bits .and .u32 a 3 = 1) (w : World) : Calls Try.prog 14 #[.int .i64 17, .int .u32 a, .int .u32 x] w fun e w' => e = .returned (.tuple #[.int .u32 (0), .int .i64 (0)]) ∧ w'.Alike w := by
  have F : Hid (Num.ft 17 1 = false) := rfl
  have L : Hid (Num.iss 17 = true) := rfl
  have S : Hid (Num.sz 17 = 2) := rfl
  go_enter Try.func14, Try.ntmps14
  go_wp2_with fail
  refine (rfits_as _ _ _ _ a0 P F _).mono ?_; rintro e w ⟨rfl, rfl⟩
  go_wp2_with fail
  go_ret2
  first
    | exact ⟨rfl, rfl, rfl, rfl⟩
    | exact ⟨ret_twoR (by omega) rfl, rfl, rfl, rfl⟩
set_option maxHeartbeats 1000000 in
theorem rstore17_2 (a x : Int) (a0 : 0 ≤ a) (x0 : 0 ≤ x) (x1 : x ≤ 4294967295) (P : Hid (a % 4 = 2)) (A : bits .and .u32 a 3 = 2) (w : World) : Calls Try.prog 14 #[.int .i64 17, .int .u32 a, .int .u32 x] w fun e w' => e = .returned (.tuple #[.int .u32 (x % 65536 * 65536), .int .i64 (12)]) ∧ w'.Alike w := by
  have F : Hid (Num.ft 17 2 = true) := rfl
  have L : Hid (Num.iss 17 = true) := rfl
  have S : Hid (Num.sz 17 = 2) := rfl
  have M : bits .and .u32 x 65535 = x % 65536 := Num.and16 _ x0 x1
  go_enter Try.func14, Try.ntmps14
  go_wp2_with fail
  refine (rfits_as _ _ _ _ a0 P F _).mono ?_; rintro e w ⟨rfl, rfl⟩
  go_wp2_with fail
  refine (rsize_as _ _ S _).mono ?_; rintro e w ⟨rfl, rfl⟩
  go_wp2_with fail
  refine (rsize_as _ _ S _).mono ?_; rintro e w ⟨rfl, rfl⟩
  go_wp2_with fail
  refine (rsize_as _ _ S _).mono ?_; rintro e w ⟨rfl, rfl⟩
  go_wp2_with fail
  go_ret2
  first
    | exact ⟨rfl, rfl, rfl, rfl⟩
    | exact ⟨ret_twoR (by omega) rfl, rfl, rfl, rfl⟩
set_option maxHeartbeats 1000000 in
theorem rstore17_3 (a x : Int) (a0 : 0 ≤ a) (x0 : 0 ≤ x) (x1 : x ≤ 4294967295) (P : Hid (a % 4 = 3)) (A : bits .and .u32 a 3 = 3) (w : World) : Calls Try.prog 14 #[.int .i64 17, .int .u32 a, .int .u32 x] w fun e w' => e = .returned (.tuple #[.int .u32 (0), .int .i64 (0)]) ∧ w'.Alike w := by
  have F : Hid (Num.ft 17 3 = false) := rfl
  have L : Hid (Num.iss 17 = true) := rfl
  have S : Hid (Num.sz 17 = 2) := rfl
  go_enter Try.func14, Try.ntmps14
  go_wp2_with fail
  refine (rfits_as _ _ _ _ a0 P F _).mono ?_; rintro e w ⟨rfl, rfl⟩
  go_wp2_with fail
  go_ret2
  first
    | exact ⟨rfl, rfl, rfl, rfl⟩
    | exact ⟨ret_twoR (by omega) rfl, rfl, rfl, rfl⟩
theorem rstore17 (a x p : Int) (a0 : 0 ≤ a) (a1 : a ≤ 4294967295) (x0 : 0 ≤ x) (x1 : x ≤ 4294967295) (P : a % 4 = p) (w : World) : Calls Try.prog 14 #[.int .i64 17, .int .u32 a, .int .u32 x] w fun e w' => e = .returned (.tuple #[.int .u32 (Num.st 17 p x), .int .i64 (Num.sm 17 p)]) ∧ w'.Alike w := by
  subst P
  have A := Num.and3 a a0 a1
  rcases Num.quarter a with h | h | h | h <;> rw [h] at A ⊢
  · rw [show Num.st 17 0 x = x % 65536 from Int.mul_one _]
    exact rstore17_0 a x a0 x0 x1 h A w
  · exact rstore17_1 a x a0 x0 x1 h A w
  · exact rstore17_2 a x a0 x0 x1 h A w
  · exact rstore17_3 a x a0 x0 x1 h A w
set_option maxHeartbeats 1000000 in
theorem rstore18_0 (a x : Int) (a0 : 0 ≤ a) (x0 : 0 ≤ x) (x1 : x ≤ 4294967295) (P : Hid (a % 4 = 0)) (A : bits .and .u32 a 3 = 0) (w : World) : Calls Try.prog 14 #[.int .i64 18, .int .u32 a, .int .u32 x] w fun e w' => e = .returned (.tuple #[.int .u32 (x), .int .i64 (15)]) ∧ w'.Alike w := by
  have F : Hid (Num.ft 18 0 = true) := rfl
  have L : Hid (Num.iss 18 = true) := rfl
  have S : Hid (Num.sz 18 = 4) := rfl
  go_enter Try.func14, Try.ntmps14
  go_wp2_with fail
  refine (rfits_as _ _ _ _ a0 P F _).mono ?_; rintro e w ⟨rfl, rfl⟩
  go_wp2_with fail
  refine (rsize_as _ _ S _).mono ?_; rintro e w ⟨rfl, rfl⟩
  go_wp2_with fail
  refine (rsize_as _ _ S _).mono ?_; rintro e w ⟨rfl, rfl⟩
  go_wp2_with fail
  refine (rsize_as _ _ S _).mono ?_; rintro e w ⟨rfl, rfl⟩
  go_wp2_with fail
  go_ret2
  first
    | exact ⟨rfl, rfl, rfl, rfl⟩
    | exact ⟨ret_twoR (by omega) rfl, rfl, rfl, rfl⟩
set_option maxHeartbeats 1000000 in
theorem rstore18_1 (a x : Int) (a0 : 0 ≤ a) (x0 : 0 ≤ x) (x1 : x ≤ 4294967295) (P : Hid (a % 4 = 1)) (A : bits .and .u32 a 3 = 1) (w : World) : Calls Try.prog 14 #[.int .i64 18, .int .u32 a, .int .u32 x] w fun e w' => e = .returned (.tuple #[.int .u32 (0), .int .i64 (0)]) ∧ w'.Alike w := by
  have F : Hid (Num.ft 18 1 = false) := rfl
  have L : Hid (Num.iss 18 = true) := rfl
  have S : Hid (Num.sz 18 = 4) := rfl
  go_enter Try.func14, Try.ntmps14
  go_wp2_with fail
  refine (rfits_as _ _ _ _ a0 P F _).mono ?_; rintro e w ⟨rfl, rfl⟩
  go_wp2_with fail
  go_ret2
  first
    | exact ⟨rfl, rfl, rfl, rfl⟩
    | exact ⟨ret_twoR (by omega) rfl, rfl, rfl, rfl⟩
set_option maxHeartbeats 1000000 in
theorem rstore18_2 (a x : Int) (a0 : 0 ≤ a) (x0 : 0 ≤ x) (x1 : x ≤ 4294967295) (P : Hid (a % 4 = 2)) (A : bits .and .u32 a 3 = 2) (w : World) : Calls Try.prog 14 #[.int .i64 18, .int .u32 a, .int .u32 x] w fun e w' => e = .returned (.tuple #[.int .u32 (0), .int .i64 (0)]) ∧ w'.Alike w := by
  have F : Hid (Num.ft 18 2 = false) := rfl
  have L : Hid (Num.iss 18 = true) := rfl
  have S : Hid (Num.sz 18 = 4) := rfl
  go_enter Try.func14, Try.ntmps14
  go_wp2_with fail
  refine (rfits_as _ _ _ _ a0 P F _).mono ?_; rintro e w ⟨rfl, rfl⟩
  go_wp2_with fail
  go_ret2
  first
    | exact ⟨rfl, rfl, rfl, rfl⟩
    | exact ⟨ret_twoR (by omega) rfl, rfl, rfl, rfl⟩
set_option maxHeartbeats 1000000 in
theorem rstore18_3 (a x : Int) (a0 : 0 ≤ a) (x0 : 0 ≤ x) (x1 : x ≤ 4294967295) (P : Hid (a % 4 = 3)) (A : bits .and .u32 a 3 = 3) (w : World) : Calls Try.prog 14 #[.int .i64 18, .int .u32 a, .int .u32 x] w fun e w' => e = .returned (.tuple #[.int .u32 (0), .int .i64 (0)]) ∧ w'.Alike w := by
  have F : Hid (Num.ft 18 3 = false) := rfl
  have L : Hid (Num.iss 18 = true) := rfl
  have S : Hid (Num.sz 18 = 4) := rfl
  go_enter Try.func14, Try.ntmps14
  go_wp2_with fail
  refine (rfits_as _ _ _ _ a0 P F _).mono ?_; rintro e w ⟨rfl, rfl⟩
  go_wp2_with fail
  go_ret2
  first
    | exact ⟨rfl, rfl, rfl, rfl⟩
    | exact ⟨ret_twoR (by omega) rfl, rfl, rfl, rfl⟩
theorem rstore18 (a x p : Int) (a0 : 0 ≤ a) (a1 : a ≤ 4294967295) (x0 : 0 ≤ x) (x1 : x ≤ 4294967295) (P : a % 4 = p) (w : World) : Calls Try.prog 14 #[.int .i64 18, .int .u32 a, .int .u32 x] w fun e w' => e = .returned (.tuple #[.int .u32 (Num.st 18 p x), .int .i64 (Num.sm 18 p)]) ∧ w'.Alike w := by
  subst P
  have A := Num.and3 a a0 a1
  rcases Num.quarter a with h | h | h | h <;> rw [h] at A ⊢
  · exact rstore18_0 a x a0 x0 x1 h A w
  · exact rstore18_1 a x a0 x0 x1 h A w
  · exact rstore18_2 a x a0 x0 x1 h A w
  · exact rstore18_3 a x a0 x0 x1 h A w
theorem rstoreF (op a x p : Int) (a0 : 0 ≤ a) (P : Hid (a % 4 = p)) (F : Hid (Num.ft op p = false)) (w : World) : Calls Try.prog 14 #[.int .i64 op, .int .u32 a, .int .u32 x] w fun e w' => e = .returned (.tuple #[.int .u32 (0), .int .i64 (0)]) ∧ w'.Alike w := by
  go_enter Try.func14, Try.ntmps14
  go_wp2_with fail
  refine (rfits_as _ _ _ _ a0 P F _).mono ?_; rintro e w ⟨rfl, rfl⟩
  go_wp2_with fail
  go_ret2
  exact ⟨rfl, rfl, rfl, rfl⟩
theorem rstoreS (op a x p : Int) (a0 : 0 ≤ a) (P : Hid (a % 4 = p)) (F : Hid (Num.ft op p = true)) (ho : op < 16) (w : World) : Calls Try.prog 14 #[.int .i64 op, .int .u32 a, .int .u32 x] w fun e w' => e = .returned (.tuple #[.int .u32 (0), .int .i64 (0)]) ∧ w'.Alike w := by
  go_enter Try.func14, Try.ntmps14
  go_wp2_with fail
  refine (rfits_as _ _ _ _ a0 P F _).mono ?_; rintro e w ⟨rfl, rfl⟩
  go_wp2_with fail
  go_ret2
  exact ⟨rfl, rfl, rfl, rfl⟩
theorem rstore_as (op a x p : Int) (a0 : 0 ≤ a) (a1 : a ≤ 4294967295) (x0 : 0 ≤ x) (x1 : x ≤ 4294967295) (P : Hid (a % 4 = p)) (c m : Int) (C : Hid (Num.st op p x = c)) (M : Hid (Num.sm op p = m)) (w : World) : Calls Try.prog 14 #[.int .i64 op, .int .u32 a, .int .u32 x] w fun e w' => e = .returned (.tuple #[.int .u32 (c), .int .i64 (m)]) ∧ w'.Alike w := by
  obtain rfl : Num.st op p x = c := C
  obtain rfl : Num.sm op p = m := M
  by_cases h16 : op = 16
  · subst h16; exact rstore16 a x p a0 a1 x0 x1 P w
  by_cases h17 : op = 17
  · subst h17; exact rstore17 a x p a0 a1 x0 x1 P w
  by_cases h18 : op = 18
  · subst h18; exact rstore18 a x p a0 a1 x0 x1 P w
  have z : Num.st op p x = 0 := by unfold Num.st; simp only [h16, h17, h18, if_false]
  have y : Num.sm op p = 0 := by unfold Num.sm; simp only [h16, h17, h18, if_false]
  rw [z, y]
  have k : Num.ft op p = true → op < 16 := by
    intro h
    by_cases h11 : op = 11
    · omega
    by_cases h12 : op = 12
    · omega
    by_cases h13 : op = 13
    · omega
    by_cases h14 : op = 14
    · omega
    by_cases h15 : op = 15
    · omega
    unfold Num.ft at h
    simp only [h11, h12, h13, h14, h15, h16, h17, h18, if_false] at h
    exact absurd h (by decide)
  cases f : Num.ft op p
  · exact rstoreF op a x p a0 P f w
  · exact rstoreS op a x p a0 P f (k f) w
end Go.Proofs.Ytgfoclpcfgfnbaa.Walks
