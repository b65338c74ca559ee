/- The document's Load, op by op, place by place. -/
import Derived.Test.YtgfoclpcfgfnbaaFits
namespace Go.Proofs.Ytgfoclpcfgfnbaa.Walks
open Go.ChangeShapes Go.WideShapes Go.ChangeAt Go.RowKit
set_option linter.unusedVariables false
set_option maxHeartbeats 1000000 in
theorem rload11_0 (a x : Int) (a0 : 0 ≤ a) (x0 : 0 ≤ x) (x1 : x ≤ 4294967295) (P : Hid (a % 4 = 0)) (A : bits .and .u32 a 3 = 0) (w : World) : Calls Try.prog 15 #[.int .i64 11, .int .u32 a, .int .u32 x] w fun e w' => e = .returned (.int .u32 (Num.s8 (x) % 4294967296)) ∧ w' = w := by
  have F : Hid (Num.ft 11 0 = true) := rfl
  have M := Num.sg8 (x)
  go_enter Try.func15, Try.ntmps15
  go_wp2_with fail
  refine (rfits_as _ _ _ _ a0 P F _).mono ?_; rintro e w ⟨rfl, rfl⟩
  go_wp2_with fail
  go_ret
  first
    | exact ⟨rfl, rfl⟩
    | exact ⟨ret_int (by rw [M]), rfl⟩
    | exact ⟨ret_int (by unfold wrap32 Num.s8; omega), rfl⟩
set_option maxHeartbeats 1000000 in
theorem rload11_1 (a x : Int) (a0 : 0 ≤ a) (x0 : 0 ≤ x) (x1 : x ≤ 4294967295) (P : Hid (a % 4 = 1)) (A : bits .and .u32 a 3 = 1) (w : World) : Calls Try.prog 15 #[.int .i64 11, .int .u32 a, .int .u32 x] w fun e w' => e = .returned (.int .u32 (Num.s8 (x / 256) % 4294967296)) ∧ w' = w := by
  have F : Hid (Num.ft 11 1 = true) := rfl
  have M := Num.sg8 (x / 256)
  go_enter Try.func15, Try.ntmps15
  go_wp2_with fail
  refine (rfits_as _ _ _ _ a0 P F _).mono ?_; rintro e w ⟨rfl, rfl⟩
  go_wp2_with fail
  go_ret
  first
    | exact ⟨rfl, rfl⟩
    | exact ⟨ret_int (by rw [M]), rfl⟩
    | exact ⟨ret_int (by unfold wrap32 Num.s8; omega), rfl⟩
set_option maxHeartbeats 1000000 in
theorem rload11_2 (a x : Int) (a0 : 0 ≤ a) (x0 : 0 ≤ x) (x1 : x ≤ 4294967295) (P : Hid (a % 4 = 2)) (A : bits .and .u32 a 3 = 2) (w : World) : Calls Try.prog 15 #[.int .i64 11, .int .u32 a, .int .u32 x] w fun e w' => e = .returned (.int .u32 (Num.s8 (x / 65536) % 4294967296)) ∧ w' = w := by
  have F : Hid (Num.ft 11 2 = true) := rfl
  have M := Num.sg8 (x / 65536)
  go_enter Try.func15, Try.ntmps15
  go_wp2_with fail
  refine (rfits_as _ _ _ _ a0 P F _).mono ?_; rintro e w ⟨rfl, rfl⟩
  go_wp2_with fail
  go_ret
  first
    | exact ⟨rfl, rfl⟩
    | exact ⟨ret_int (by rw [M]), rfl⟩
    | exact ⟨ret_int (by unfold wrap32 Num.s8; omega), rfl⟩
set_option maxHeartbeats 1000000 in
theorem rload11_3 (a x : Int) (a0 : 0 ≤ a) (x0 : 0 ≤ x) (x1 : x ≤ 4294967295) (P : Hid (a % 4 = 3)) (A : bits .and .u32 a 3 = 3) (w : World) : Calls Try.prog 15 #[.int .i64 11, .int .u32 a, .int .u32 x] w fun e w' => e = .returned (.int .u32 (Num.s8 (x / 16777216) % 4294967296)) ∧ w' = w := by
  have F : Hid (Num.ft 11 3 = true) := rfl
  have M := Num.sg8 (x / 16777216)
  go_enter Try.func15, Try.ntmps15
  go_wp2_with fail
  refine (rfits_as _ _ _ _ a0 P F _).mono ?_; rintro e w ⟨rfl, rfl⟩
  go_wp2_with fail
  go_ret
  first
    | exact ⟨rfl, rfl⟩
    | exact ⟨ret_int (by rw [M]), rfl⟩
    | exact ⟨ret_int (by unfold wrap32 Num.s8; omega), rfl⟩
theorem rload11 (a x p : Int) (a0 : 0 ≤ a) (a1 : a ≤ 4294967295) (x0 : 0 ≤ x) (x1 : x ≤ 4294967295) (P : a % 4 = p) (w : World) : Calls Try.prog 15 #[.int .i64 11, .int .u32 a, .int .u32 x] w fun e w' => e = .returned (.int .u32 (Num.ld 11 p x)) ∧ w' = w := by
  subst P
  have A := Num.and3 a a0 a1
  rcases Num.quarter a with h | h | h | h <;> rw [h] at A ⊢
  · exact rload11_0 a x a0 x0 x1 h A w
  · exact rload11_1 a x a0 x0 x1 h A w
  · exact rload11_2 a x a0 x0 x1 h A w
  · exact rload11_3 a x a0 x0 x1 h A w
set_option maxHeartbeats 1000000 in
theorem rload12_0 (a x : Int) (a0 : 0 ≤ a) (x0 : 0 ≤ x) (x1 : x ≤ 4294967295) (P : Hid (a % 4 = 0)) (A : bits .and .u32 a 3 = 0) (w : World) : Calls Try.prog 15 #[.int .i64 12, .int .u32 a, .int .u32 x] w fun e w' => e = .returned (.int .u32 (Num.s16 (x) % 4294967296)) ∧ w' = w := by
  have F : Hid (Num.ft 12 0 = true) := rfl
  have M := Num.sg16 (x)
  go_enter Try.func15, Try.ntmps15
  go_wp2_with fail
  refine (rfits_as _ _ _ _ a0 P F _).mono ?_; rintro e w ⟨rfl, rfl⟩
  go_wp2_with fail
  go_ret
  first
    | exact ⟨rfl, rfl⟩
    | exact ⟨ret_int (by rw [M]), rfl⟩
    | exact ⟨ret_int (by unfold wrap32 Num.s16; omega), rfl⟩
set_option maxHeartbeats 1000000 in
theorem rload12_1 (a x : Int) (a0 : 0 ≤ a) (x0 : 0 ≤ x) (x1 : x ≤ 4294967295) (P : Hid (a % 4 = 1)) (A : bits .and .u32 a 3 = 1) (w : World) : Calls Try.prog 15 #[.int .i64 12, .int .u32 a, .int .u32 x] w fun e w' => e = .returned (.int .u32 0) ∧ w' = w := by
  have F : Hid (Num.ft 12 1 = false) := rfl
  go_enter Try.func15, Try.ntmps15
  go_wp2_with fail
  refine (rfits_as _ _ _ _ a0 P F _).mono ?_; rintro e w ⟨rfl, rfl⟩
  go_wp2_with fail
  go_ret
  exact ⟨rfl, rfl⟩
set_option maxHeartbeats 1000000 in
theorem rload12_2 (a x : Int) (a0 : 0 ≤ a) (x0 : 0 ≤ x) (x1 : x ≤ 4294967295) (P : Hid (a % 4 = 2)) (A : bits .and .u32 a 3 = 2) (w : World) : Calls Try.prog 15 #[.int .i64 12, .int .u32 a, .int .u32 x] w fun e w' => e = .returned (.int .u32 (Num.s16 (x / 65536) % 4294967296)) ∧ w' = w := by
  have F : Hid (Num.ft 12 2 = true) := rfl
  have M := Num.sg16 (x / 65536)
  go_enter Try.func15, Try.ntmps15
  go_wp2_with fail
  refine (rfits_as _ _ _ _ a0 P F _).mono ?_; rintro e w ⟨rfl, rfl⟩
  go_wp2_with fail
  go_ret
  first
    | exact ⟨rfl, rfl⟩
    | exact ⟨ret_int (by rw [M]), rfl⟩
    | exact ⟨ret_int (by unfold wrap32 Num.s16; omega), rfl⟩
set_option maxHeartbeats 1000000 in
theorem rload12_3 (a x : Int) (a0 : 0 ≤ a) (x0 : 0 ≤ x) (x1 : x ≤ 4294967295) (P : Hid (a % 4 = 3)) (A : bits .and .u32 a 3 = 3) (w : World) : Calls Try.prog 15 #[.int .i64 12, .int .u32 a, .int .u32 x] w fun e w' => e = .returned (.int .u32 0) ∧ w' = w := by
  have F : Hid (Num.ft 12 3 = false) := rfl
  go_enter Try.func15, Try.ntmps15
  go_wp2_with fail
  refine (rfits_as _ _ _ _ a0 P F _).mono ?_; rintro e w ⟨rfl, rfl⟩
  go_wp2_with fail
  go_ret
  exact ⟨rfl, rfl⟩
theorem rload12 (a x p : Int) (a0 : 0 ≤ a) (a1 : a ≤ 4294967295) (x0 : 0 ≤ x) (x1 : x ≤ 4294967295) (P : a % 4 = p) (w : World) : Calls Try.prog 15 #[.int .i64 12, .int .u32 a, .int .u32 x] w fun e w' => e = .returned (.int .u32 (Num.ld 12 p x)) ∧ w' = w := by
  subst P
  have A := Num.and3 a a0 a1
  rcases Num.quarter a with h | h | h | h <;> rw [h] at A ⊢
  · exact rload12_0 a x a0 x0 x1 h A w
  · exact rload12_1 a x a0 x0 x1 h A w
  · exact rload12_2 a x a0 x0 x1 h A w
  · exact rload12_3 a x a0 x0 x1 h A w
set_option maxHeartbeats 1000000 in
theorem rload13_0 (a x : Int) (a0 : 0 ≤ a) (x0 : 0 ≤ x) (x1 : x ≤ 4294967295) (P : Hid (a % 4 = 0)) (A : bits .and .u32 a 3 = 0) (w : World) : Calls Try.prog 15 #[.int .i64 13, .int .u32 a, .int .u32 x] w fun e w' => e = .returned (.int .u32 (x)) ∧ w' = w := by
  have F : Hid (Num.ft 13 0 = true) := rfl
  go_enter Try.func15, Try.ntmps15
  go_wp2_with fail
  refine (rfits_as _ _ _ _ a0 P F _).mono ?_; rintro e w ⟨rfl, rfl⟩
  go_wp2_with fail
  go_ret
  exact ⟨rfl, rfl⟩
set_option maxHeartbeats 1000000 in
theorem rload13_1 (a x : Int) (a0 : 0 ≤ a) (x0 : 0 ≤ x) (x1 : x ≤ 4294967295) (P : Hid (a % 4 = 1)) (A : bits .and .u32 a 3 = 1) (w : World) : Calls Try.prog 15 #[.int .i64 13, .int .u32 a, .int .u32 x] w fun e w' => e = .returned (.int .u32 0) ∧ w' = w := by
  have F : Hid (Num.ft 13 1 = false) := rfl
  go_enter Try.func15, Try.ntmps15
  go_wp2_with fail
  refine (rfits_as _ _ _ _ a0 P F _).mono ?_; rintro e w ⟨rfl, rfl⟩
  go_wp2_with fail
  go_ret
  exact ⟨rfl, rfl⟩
set_option maxHeartbeats 1000000 in
theorem rload13_2 (a x : Int) (a0 : 0 ≤ a) (x0 : 0 ≤ x) (x1 : x ≤ 4294967295) (P : Hid (a % 4 = 2)) (A : bits .and .u32 a 3 = 2) (w : World) : Calls Try.prog 15 #[.int .i64 13, .int .u32 a, .int .u32 x] w fun e w' => e = .returned (.int .u32 0) ∧ w' = w := by
  have F : Hid (Num.ft 13 2 = false) := rfl
  go_enter Try.func15, Try.ntmps15
  go_wp2_with fail
  refine (rfits_as _ _ _ _ a0 P F _).mono ?_; rintro e w ⟨rfl, rfl⟩
  go_wp2_with fail
  go_ret
  exact ⟨rfl, rfl⟩
set_option maxHeartbeats 1000000 in
theorem rload13_3 (a x : Int) (a0 : 0 ≤ a) (x0 : 0 ≤ x) (x1 : x ≤ 4294967295) (P : Hid (a % 4 = 3)) (A : bits .and .u32 a 3 = 3) (w : World) : Calls Try.prog 15 #[.int .i64 13, .int .u32 a, .int .u32 x] w fun e w' => e = .returned (.int .u32 0) ∧ w' = w := by
  have F : Hid (Num.ft 13 3 = false) := rfl
  go_enter Try.func15, Try.ntmps15
  go_wp2_with fail
  refine (rfits_as _ _ _ _ a0 P F _).mono ?_; rintro e w ⟨rfl, rfl⟩
  go_wp2_with fail
  go_ret
  exact ⟨rfl, rfl⟩
theorem rload13 (a x p : Int) (a0 : 0 ≤ a) (a1 : a ≤ 4294967295) (x0 : 0 ≤ x) (x1 : x ≤ 4294967295) (P : a % 4 = p) (w : World) : Calls Try.prog 15 #[.int .i64 13, .int .u32 a, .int .u32 x] w fun e w' => e = .returned (.int .u32 (Num.ld 13 p x)) ∧ w' = w := by
  subst P
  have A := Num.and3 a a0 a1
  rcases Num.quarter a with h | h | h | h <;> rw [h] at A ⊢
  · exact rload13_0 a x a0 x0 x1 h A w
  · exact rload13_1 a x a0 x0 x1 h A w
  · exact rload13_2 a x a0 x0 x1 h A w
  · exact rload13_3 a x a0 x0 x1 h A w
set_option maxHeartbeats 1000000 in
theorem rload14_0 (a x : Int) (a0 : 0 ≤ a) (x0 : 0 ≤ x) (x1 : x ≤ 4294967295) (P : Hid (a % 4 = 0)) (A : bits .and .u32 a 3 = 0) (w : World) : Calls Try.prog 15 #[.int .i64 14, .int .u32 a, .int .u32 x] w fun e w' => e = .returned (.int .u32 ((x) % 256)) ∧ w' = w := by
  have F : Hid (Num.ft 14 0 = true) := rfl
  have M : bits .and .u32 (x) 255 = (x) % 256 := Num.and8 _ (by omega) (by omega)
  go_enter Try.func15, Try.ntmps15
  go_wp2_with fail
  refine (rfits_as _ _ _ _ a0 P F _).mono ?_; rintro e w ⟨rfl, rfl⟩
  go_wp2_with fail
  go_ret
  first
    | exact ⟨rfl, rfl⟩
    | exact ⟨ret_int (by rw [M]), rfl⟩
    | exact ⟨ret_int (by unfold wrap32 Num.s16; omega), rfl⟩
set_option maxHeartbeats 1000000 in
theorem rload14_1 (a x : Int) (a0 : 0 ≤ a) (x0 : 0 ≤ x) (x1 : x ≤ 4294967295) (P : Hid (a % 4 = 1)) (A : bits .and .u32 a 3 = 1) (w : World) : Calls Try.prog 15 #[.int .i64 14, .int .u32 a, .int .u32 x] w fun e w' => e = .returned (.int .u32 ((x / 256) % 256)) ∧ w' = w := by
  have F : Hid (Num.ft 14 1 = true) := rfl
  have M : bits .and .u32 (x / 256) 255 = (x / 256) % 256 := Num.and8 _ (by omega) (by omega)
  go_enter Try.func15, Try.ntmps15
  go_wp2_with fail
  refine (rfits_as _ _ _ _ a0 P F _).mono ?_; rintro e w ⟨rfl, rfl⟩
  go_wp2_with fail
  go_ret
  first
    | exact ⟨rfl, rfl⟩
    | exact ⟨ret_int (by rw [M]), rfl⟩
    | exact ⟨ret_int (by unfold wrap32 Num.s16; omega), rfl⟩
set_option maxHeartbeats 1000000 in
theorem rload14_2 (a x : Int) (a0 : 0 ≤ a) (x0 : 0 ≤ x) (x1 : x ≤ 4294967295) (P : Hid (a % 4 = 2)) (A : bits .and .u32 a 3 = 2) (w : World) : Calls Try.prog 15 #[.int .i64 14, .int .u32 a, .int .u32 x] w fun e w' => e = .returned (.int .u32 ((x / 65536) % 256)) ∧ w' = w := by
  have F : Hid (Num.ft 14 2 = true) := rfl
  have M : bits .and .u32 (x / 65536) 255 = (x / 65536) % 256 := Num.and8 _ (by omega) (by omega)
  go_enter Try.func15, Try.ntmps15
  go_wp2_with fail
  refine (rfits_as _ _ _ _ a0 P F _).mono ?_; rintro e w ⟨rfl, rfl⟩
  go_wp2_with fail
  go_ret
  first
    | exact ⟨rfl, rfl⟩
    | exact ⟨ret_int (by rw [M]), rfl⟩
    | exact ⟨ret_int (by unfold wrap32 Num.s16; omega), rfl⟩
set_option maxHeartbeats 1000000 in
theorem rload14_3 (a x : Int) (a0 : 0 ≤ a) (x0 : 0 ≤ x) (x1 : x ≤ 4294967295) (P : Hid (a % 4 = 3)) (A : bits .and .u32 a 3 = 3) (w : World) : Calls Try.prog 15 #[.int .i64 14, .int .u32 a, .int .u32 x] w fun e w' => e = .returned (.int .u32 ((x / 16777216) % 256)) ∧ w' = w := by
  have F : Hid (Num.ft 14 3 = true) := rfl
  have M : bits .and .u32 (x / 16777216) 255 = (x / 16777216) % 256 := Num.and8 _ (by omega) (by omega)
  go_enter Try.func15, Try.ntmps15
  go_wp2_with fail
  refine (rfits_as _ _ _ _ a0 P F _).mono ?_; rintro e w ⟨rfl, rfl⟩
  go_wp2_with fail
  go_ret
  first
    | exact ⟨rfl, rfl⟩
    | exact ⟨ret_int (by rw [M]), rfl⟩
    | exact ⟨ret_int (by unfold wrap32 Num.s16; omega), rfl⟩
theorem rload14 (a x p : Int) (a0 : 0 ≤ a) (a1 : a ≤ 4294967295) (x0 : 0 ≤ x) (x1 : x ≤ 4294967295) (P : a % 4 = p) (w : World) : Calls Try.prog 15 #[.int .i64 14, .int .u32 a, .int .u32 x] w fun e w' => e = .returned (.int .u32 (Num.ld 14 p x)) ∧ w' = w := by
  subst P
  have A := Num.and3 a a0 a1
  rcases Num.quarter a with h | h | h | h <;> rw [h] at A ⊢
  · exact rload14_0 a x a0 x0 x1 h A w
  · exact rload14_1 a x a0 x0 x1 h A w
  · exact rload14_2 a x a0 x0 x1 h A w
  · exact rload14_3 a x a0 x0 x1 h A w
set_option maxHeartbeats 1000000 in
theorem rload15_0 (a x : Int) (a0 : 0 ≤ a) (x0 : 0 ≤ x) (x1 : x ≤ 4294967295) (P : Hid (a % 4 = 0)) (A : bits .and .u32 a 3 = 0) (w : World) : Calls Try.prog 15 #[.int .i64 15, .int .u32 a, .int .u32 x] w fun e w' => e = .returned (.int .u32 ((x) % 65536)) ∧ w' = w := by
  have F : Hid (Num.ft 15 0 = true) := rfl
  have M : bits .and .u32 (x) 65535 = (x) % 65536 := Num.and16 _ (by omega) (by omega)
  go_enter Try.func15, Try.ntmps15
  go_wp2_with fail
  refine (rfits_as _ _ _ _ a0 P F _).mono ?_; rintro e w ⟨rfl, rfl⟩
  go_wp2_with fail
  go_ret
  first
    | exact ⟨rfl, rfl⟩
    | exact ⟨ret_int (by rw [M]), rfl⟩
    | exact ⟨ret_int (by unfold wrap32 Num.s16; omega), rfl⟩
set_option maxHeartbeats 1000000 in
theorem rload15_1 (a x : Int) (a0 : 0 ≤ a) (x0 : 0 ≤ x) (x1 : x ≤ 4294967295) (P : Hid (a % 4 = 1)) (A : bits .and .u32 a 3 = 1) (w : World) : Calls Try.prog 15 #[.int .i64 15, .int .u32 a, .int .u32 x] w fun e w' => e = .returned (.int .u32 0) ∧ w' = w := by
  have F : Hid (Num.ft 15 1 = false) := rfl
  go_enter Try.func15, Try.ntmps15
  go_wp2_with fail
  refine (rfits_as _ _ _ _ a0 P F _).mono ?_; rintro e w ⟨rfl, rfl⟩
  go_wp2_with fail
  go_ret
  exact ⟨rfl, rfl⟩
set_option maxHeartbeats 1000000 in
theorem rload15_2 (a x : Int) (a0 : 0 ≤ a) (x0 : 0 ≤ x) (x1 : x ≤ 4294967295) (P : Hid (a % 4 = 2)) (A : bits .and .u32 a 3 = 2) (w : World) : Calls Try.prog 15 #[.int .i64 15, .int .u32 a, .int .u32 x] w fun e w' => e = .returned (.int .u32 ((x / 65536) % 65536)) ∧ w' = w := by
  have F : Hid (Num.ft 15 2 = true) := rfl
  have M : bits .and .u32 (x / 65536) 65535 = (x / 65536) % 65536 := Num.and16 _ (by omega) (by omega)
  go_enter Try.func15, Try.ntmps15
  go_wp2_with fail
  refine (rfits_as _ _ _ _ a0 P F _).mono ?_; rintro e w ⟨rfl, rfl⟩
  go_wp2_with fail
  go_ret
  first
    | exact ⟨rfl, rfl⟩
    | exact ⟨ret_int (by rw [M]), rfl⟩
    | exact ⟨ret_int (by unfold wrap32 Num.s16; omega), rfl⟩
set_option maxHeartbeats 1000000 in
theorem rload15_3 (a x : Int) (a0 : 0 ≤ a) (x0 : 0 ≤ x) (x1 : x ≤ 4294967295) (P : Hid (a % 4 = 3)) (A : bits .and .u32 a 3 = 3) (w : World) : Calls Try.prog 15 #[.int .i64 15, .int .u32 a, .int .u32 x] w fun e w' => e = .returned (.int .u32 0) ∧ w' = w := by
  have F : Hid (Num.ft 15 3 = false) := rfl
  go_enter Try.func15, Try.ntmps15
  go_wp2_with fail
  refine (rfits_as _ _ _ _ a0 P F _).mono ?_; rintro e w ⟨rfl, rfl⟩
  go_wp2_with fail
  go_ret
  exact ⟨rfl, rfl⟩
theorem rload15 (a x p : Int) (a0 : 0 ≤ a) (a1 : a ≤ 4294967295) (x0 : 0 ≤ x) (x1 : x ≤ 4294967295) (P : a % 4 = p) (w : World) : Calls Try.prog 15 #[.int .i64 15, .int .u32 a, .int .u32 x] w fun e w' => e = .returned (.int .u32 (Num.ld 15 p x)) ∧ w' = w := by
  subst P
  have A := Num.and3 a a0 a1
  rcases Num.quarter a with h | h | h | h <;> rw [h] at A ⊢
  · exact rload15_0 a x a0 x0 x1 h A w
  · exact rload15_1 a x a0 x0 x1 h A w
  · exact rload15_2 a x a0 x0 x1 h A w
  · exact rload15_3 a x a0 x0 x1 h A w
theorem rloadF (op a x p : Int) (a0 : 0 ≤ a) (P : Hid (a % 4 = p)) (F : Hid (Num.ft op p = false)) (w : World) : Calls Try.prog 15 #[.int .i64 op, .int .u32 a, .int .u32 x] w fun e w' => e = .returned (.int .u32 0) ∧ w' = w := by
  go_enter Try.func15, Try.ntmps15
  go_wp2_with fail
  refine (rfits_as _ _ _ _ a0 P F _).mono ?_; rintro e w ⟨rfl, rfl⟩
  go_wp2_with fail
  go_ret
  exact ⟨rfl, rfl⟩
theorem rloadS (op a x p : Int) (a0 : 0 ≤ a) (P : Hid (a % 4 = p)) (F : Hid (Num.ft op p = true)) (ho : 16 ≤ op) (w : World) : Calls Try.prog 15 #[.int .i64 op, .int .u32 a, .int .u32 x] w fun e w' => e = .returned (.int .u32 0) ∧ w' = w := by
  go_enter Try.func15, Try.ntmps15
  go_wp2_with fail
  refine (rfits_as _ _ _ _ a0 P F _).mono ?_; rintro e w ⟨rfl, rfl⟩
  go_wp2_with fail
  go_ret
  exact ⟨rfl, rfl⟩
theorem rload_as (op a x p : Int) (a0 : 0 ≤ a) (a1 : a ≤ 4294967295) (x0 : 0 ≤ x) (x1 : x ≤ 4294967295) (P : Hid (a % 4 = p)) (c : Int) (C : Hid (Num.ld op p x = c)) (w : World) : Calls Try.prog 15 #[.int .i64 op, .int .u32 a, .int .u32 x] w fun e w' => e = .returned (.int .u32 c) ∧ w' = w := by
  obtain rfl : Num.ld op p x = c := C
  by_cases h11 : op = 11
  · subst h11; exact rload11 a x p a0 a1 x0 x1 P w
  by_cases h12 : op = 12
  · subst h12; exact rload12 a x p a0 a1 x0 x1 P w
  by_cases h13 : op = 13
  · subst h13; exact rload13 a x p a0 a1 x0 x1 P w
  by_cases h14 : op = 14
  · subst h14; exact rload14 a x p a0 a1 x0 x1 P w
  by_cases h15 : op = 15
  · subst h15; exact rload15 a x p a0 a1 x0 x1 P w
  have z : Num.ld op p x = 0 := by unfold Num.ld; simp only [h11, h12, h13, h14, h15, if_false]
  rw [z]
  have k : Num.ft op p = true → 16 ≤ op := by
    intro h
    by_cases h16 : op = 16
    · omega
    by_cases h17 : op = 17
    · omega
    by_cases h18 : op = 18
    · omega
    unfold Num.ft at h
    simp only [h11, h12, h13, h14, h15, h16, h17, h18, if_false] at h
    exact absurd h (by decide)
  cases f : Num.ft op p
  · exact rloadF op a x p a0 P f w
  · exact rloadS op a x p a0 P f (k f) w
end Go.Proofs.Ytgfoclpcfgfnbaa.Walks
