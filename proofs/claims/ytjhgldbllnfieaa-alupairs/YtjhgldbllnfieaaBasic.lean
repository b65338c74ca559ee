/- Contracts of the program's small functions, and of the document's own bit. -/
import Derived.Test.YtjhgldbllnfieaaNums
namespace Go.Proofs.Ytjhgldbllnfieaa.Walks
open Go.ChangeShapes Go.WideShapes Go.ChangeAt Go.RowKit
theorem ret_int {k : IntKind} {a b : Int} (h : a = b) : Ending.returned (.int k a) = .returned (.int k b) := by rw [h]
theorem ret_bool {a b : Bool} (h : a = b) : Ending.returned (.bool a) = .returned (.bool b) := by rw [h]
theorem shift_as (b s : Int) (H : bits .and .u32 b 31 = s) (w : World) : Calls Try.prog 14 #[.int .u32 b] w fun e w' => e = .returned (.int .u32 s) ∧ w' = w := by
  go_enter Try.func14, Try.ntmps14
  go_wp2
  go_ret
  exact ⟨rfl, rfl⟩
theorem bit_as (c : Bool) (w : World) : Calls Try.prog 15 #[.bool c] w fun e w' => e = .returned (.int .u32 (Num.one c)) ∧ w' = w := by
  cases c
  all_goals
    go_enter Try.func15, Try.ntmps15
    go_wp2
    go_ret
    exact ⟨rfl, rfl⟩
theorem rbit_as (c : Bool) (w : World) : Calls Try.prog 23 #[.bool c] w fun e w' => e = .returned (.int .u32 (Num.one c)) ∧ w' = w := by
  cases c
  all_goals
    go_enter Try.func23, Try.ntmps23
    go_wp2
    go_ret
    exact ⟨rfl, rfl⟩
theorem less_as (a b : Int) (w : World) : Calls Try.prog 16 #[.int .u32 a, .int .u32 b] w fun e w' => e = .returned (.bool (decide (wrap32 a < wrap32 b))) ∧ w' = w := by
  go_enter Try.func16, Try.ntmps16
  go_wp2
  go_ret
  exact ⟨rfl, rfl⟩
theorem high_as (a : Int) (w : World) : Calls Try.prog 17 #[.int .i64 a] w fun e w' => e = .returned (.int .u32 (a / 4294967296 % 4294967296)) ∧ w' = w := by
  go_enter Try.func17, Try.ntmps17
  go_wp2
  go_ret
  exact ⟨rfl, rfl⟩
theorem signed_as (a x : Int) (H : wrap32 a = x) (w : World) : Calls Try.prog 18 #[.int .u32 a] w fun e w' => e = .returned (.int .i64 x) ∧ w' = w := by
  subst H
  go_enter Try.func18, Try.ntmps18
  go_wp2
  go_ret
  exact ⟨ret_int (Num.w64_w32 a), rfl⟩
theorem div_zero (a : Int) (w : World) : Calls Try.prog 19 #[.int .u32 a, .int .u32 0] w fun e w' => e = .returned (.int .u32 4294967295) ∧ w' = w := by
  go_enter Try.func19, Try.ntmps19
  go_wp2_with fail
  go_ret
  exact ⟨rfl, rfl⟩
theorem rem_zero (a : Int) (w : World) : Calls Try.prog 21 #[.int .u32 a, .int .u32 0] w fun e w' => e = .returned (.int .u32 a) ∧ w' = w := by
  go_enter Try.func21, Try.ntmps21
  go_wp2_with fail
  go_ret
  exact ⟨rfl, rfl⟩
theorem div_non (a b x y : Int) (h : (b == 0) = false) (X : Hid (wrap32 a = x)) (Y : Hid (wrap32 b = y)) (x0 : -2147483648 ≤ x) (x1 : x ≤ 2147483647) (hy : ¬ y = 0) (w : World) :
    Calls Try.prog 19 #[.int .u32 a, .int .u32 b] w fun e w' => e = .returned (.int .u32 (x.tdiv y % 4294967296)) ∧ w' = w := by
  go_enter Try.func19, Try.ntmps19
  go_wp2_with fail
  refine (signed_as _ _ X.out _).mono ?_; rintro e w' ⟨rfl, rfl⟩
  go_wp2_with fail
  refine (signed_as _ _ Y.out _).mono ?_; rintro e w' ⟨rfl, rfl⟩
  go_wp2_with fail
  go_ret
  refine ⟨ret_int ?_, rfl⟩
  have := Num.tdiv_in x y x0 x1
  rw [Num.w64_of (by omega)]
theorem rem_non (a b x y : Int) (h : (b == 0) = false) (X : Hid (wrap32 a = x)) (Y : Hid (wrap32 b = y)) (hy : ¬ y = 0) (w : World) :
    Calls Try.prog 21 #[.int .u32 a, .int .u32 b] w fun e w' => e = .returned (.int .u32 (x.tmod y % 4294967296)) ∧ w' = w := by
  go_enter Try.func21, Try.ntmps21
  go_wp2_with fail
  refine (signed_as _ _ X.out _).mono ?_; rintro e w' ⟨rfl, rfl⟩
  go_wp2_with fail
  refine (signed_as _ _ Y.out _).mono ?_; rintro e w' ⟨rfl, rfl⟩
  go_wp2_with fail
  go_ret
  exact ⟨rfl, rfl⟩
theorem div_as (a b : Int) (b0 : 0 ≤ b) (b1 : b ≤ 4294967295) (w : World) :
    Calls Try.prog 19 #[.int .u32 a, .int .u32 b] w fun e w' => e = .returned (.int .u32 (Num.dv a b)) ∧ w' = w := by
  by_cases h : b = 0
  · subst h; exact div_zero a w
  · rw [Num.dv, if_neg h]
    exact div_non a b _ _ (by simp [h]) rfl rfl (Num.w32_in a).1 (Num.w32_in a).2 (Num.w32_zero b b0 b1 h) w
theorem rem_as (a b : Int) (b0 : 0 ≤ b) (b1 : b ≤ 4294967295) (w : World) :
    Calls Try.prog 21 #[.int .u32 a, .int .u32 b] w fun e w' => e = .returned (.int .u32 (Num.rm a b)) ∧ w' = w := by
  by_cases h : b = 0
  · subst h; exact rem_zero a w
  · rw [Num.rm, if_neg h]
    exact rem_non a b _ _ (by simp [h]) rfl rfl (Num.w32_zero b b0 b1 h) w
theorem divu_as (a b : Int) (a0 : 0 ≤ a) (a1 : a ≤ 4294967295) (b0 : 0 ≤ b) (w : World) :
    Calls Try.prog 20 #[.int .u32 a, .int .u32 b] w fun e w' => e = .returned (.int .u32 (Num.du a b)) ∧ w' = w := by
  by_cases h : b = 0
  · subst h
    go_enter Try.func20, Try.ntmps20
    go_wp2_with fail
    go_ret
    exact ⟨rfl, rfl⟩
  · rw [Num.du, if_neg h]
    have i := Num.udiv_in a b a0 a1 b0
    have e : a.tdiv b % 4294967296 = a / b := by rw [Int.tdiv_eq_ediv_of_nonneg a0]; omega
    have h' : (b == 0) = false := by simp [h]
    clear i
    go_enter Try.func20, Try.ntmps20
    go_wp2_with fail
    all_goals
      go_ret
      first
        | exact ⟨rfl, rfl⟩
        | exact ⟨ret_int e, rfl⟩
theorem remu_as (a b : Int) (a0 : 0 ≤ a) (b0 : 0 ≤ b) (w : World) :
    Calls Try.prog 22 #[.int .u32 a, .int .u32 b] w fun e w' => e = .returned (.int .u32 (Num.ru a b)) ∧ w' = w := by
  by_cases h : b = 0
  · subst h
    go_enter Try.func22, Try.ntmps22
    go_wp2_with fail
    go_ret
    exact ⟨rfl, rfl⟩
  · rw [Num.ru, if_neg h]
    have e : a.tmod b = a % b := Int.tmod_eq_emod_of_nonneg a0
    have h' : (b == 0) = false := by simp [h]
    go_enter Try.func22, Try.ntmps22
    go_wp2_with fail
    all_goals
      go_ret
      first
        | exact ⟨rfl, rfl⟩
        | exact ⟨ret_int e, rfl⟩
end Go.Proofs.Ytjhgldbllnfieaa.Walks
