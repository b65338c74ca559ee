/- Contracts of the program's small functions, and of the document's own Size and Fits. -/
import Derived.Test.YtbkhemgkhlonhaaNums
namespace Go.Proofs.Ytbkhemgkhlonhaa.Walks
open Go.ChangeShapes Go.WideShapes Go.ChangeAt Go.RowKit
set_option linter.unusedVariables false
theorem ret_int {k : IntKind} {a b : Int} (h : a = b) : Ending.returned (.int k a) = .returned (.int k b) := by rw [h]
theorem ret_bool {a b : Bool} (h : a = b) : Ending.returned (.bool a) = .returned (.bool b) := by rw [h]
theorem size11 (w : World) : Calls Try.prog 26 #[.int .i64 11] w fun e w' => e = .returned (.int .i64 1) ∧ w' = w := by
  go_enter Try.func26, Try.ntmps26
  go_wp2_with fail
  go_ret
  exact ⟨rfl, rfl⟩
theorem size14 (w : World) : Calls Try.prog 26 #[.int .i64 14] w fun e w' => e = .returned (.int .i64 1) ∧ w' = w := by
  go_enter Try.func26, Try.ntmps26
  go_wp2_with fail
  go_ret
  exact ⟨rfl, rfl⟩
theorem size16 (w : World) : Calls Try.prog 26 #[.int .i64 16] w fun e w' => e = .returned (.int .i64 1) ∧ w' = w := by
  go_enter Try.func26, Try.ntmps26
  go_wp2_with fail
  go_ret
  exact ⟨rfl, rfl⟩
theorem size12 (w : World) : Calls Try.prog 26 #[.int .i64 12] w fun e w' => e = .returned (.int .i64 2) ∧ w' = w := by
  go_enter Try.func26, Try.ntmps26
  go_wp2_with fail
  go_ret
  exact ⟨rfl, rfl⟩
theorem size15 (w : World) : Calls Try.prog 26 #[.int .i64 15] w fun e w' => e = .returned (.int .i64 2) ∧ w' = w := by
  go_enter Try.func26, Try.ntmps26
  go_wp2_with fail
  go_ret
  exact ⟨rfl, rfl⟩
theorem size17 (w : World) : Calls Try.prog 26 #[.int .i64 17] w fun e w' => e = .returned (.int .i64 2) ∧ w' = w := by
  go_enter Try.func26, Try.ntmps26
  go_wp2_with fail
  go_ret
  exact ⟨rfl, rfl⟩
theorem size13 (w : World) : Calls Try.prog 26 #[.int .i64 13] w fun e w' => e = .returned (.int .i64 4) ∧ w' = w := by
  go_enter Try.func26, Try.ntmps26
  go_wp2_with fail
  go_ret
  exact ⟨rfl, rfl⟩
theorem size18 (w : World) : Calls Try.prog 26 #[.int .i64 18] w fun e w' => e = .returned (.int .i64 4) ∧ w' = w := by
  go_enter Try.func26, Try.ntmps26
  go_wp2_with fail
  go_ret
  exact ⟨rfl, rfl⟩
theorem sizeNo (op : Int) (h11 : (op == 11) = false) (h14 : (op == 14) = false) (h16 : (op == 16) = false) (h12 : (op == 12) = false) (h15 : (op == 15) = false) (h17 : (op == 17) = false) (h13 : (op == 13) = false) (h18 : (op == 18) = false) (w : World) : Calls Try.prog 26 #[.int .i64 op] w fun e w' => e = .returned (.int .i64 0) ∧ w' = w := by
  go_enter Try.func26, Try.ntmps26
  go_wp2_with fail
  go_ret
  exact ⟨rfl, rfl⟩
theorem size_as (op : Int) (c : Int) (C : Hid (Num.sz op = c)) (w : World) : Calls Try.prog 26 #[.int .i64 op] w fun e w' => e = .returned (.int .i64 c) ∧ w' = w := by
  obtain rfl : Num.sz op = c := C
  by_cases h11 : op = 11
  · subst h11; exact size11 w
  by_cases h14 : op = 14
  · subst h14; exact size14 w
  by_cases h16 : op = 16
  · subst h16; exact size16 w
  by_cases h12 : op = 12
  · subst h12; exact size12 w
  by_cases h15 : op = 15
  · subst h15; exact size15 w
  by_cases h17 : op = 17
  · subst h17; exact size17 w
  by_cases h13 : op = 13
  · subst h13; exact size13 w
  by_cases h18 : op = 18
  · subst h18; exact size18 w
  have z : Num.sz op = 0 := by unfold Num.sz; simp only [h11, h14, h16, h12, h15, h17, h13, h18, if_false]
  rw [z]
  exact sizeNo op (by simp [h11]) (by simp [h14]) (by simp [h16]) (by simp [h12]) (by simp [h15]) (by simp [h17]) (by simp [h13]) (by simp [h18]) w
theorem rsize11 (w : World) : Calls Try.prog 22 #[.int .i64 11] w fun e w' => e = .returned (.int .i64 1) ∧ w' = w := by
  go_enter Try.func22, Try.ntmps22
  go_wp2_with fail
  go_ret
  exact ⟨rfl, rfl⟩
theorem rsize14 (w : World) : Calls Try.prog 22 #[.int .i64 14] w fun e w' => e = .returned (.int .i64 1) ∧ w' = w := by
  go_enter Try.func22, Try.ntmps22
  go_wp2_with fail
  go_ret
  exact ⟨rfl, rfl⟩
theorem rsize16 (w : World) : Calls Try.prog 22 #[.int .i64 16] w fun e w' => e = .returned (.int .i64 1) ∧ w' = w := by
  go_enter Try.func22, Try.ntmps22
  go_wp2_with fail
  go_ret
  exact ⟨rfl, rfl⟩
theorem rsize12 (w : World) : Calls Try.prog 22 #[.int .i64 12] w fun e w' => e = .returned (.int .i64 2) ∧ w' = w := by
  go_enter Try.func22, Try.ntmps22
  go_wp2_with fail
  go_ret
  exact ⟨rfl, rfl⟩
theorem rsize15 (w : World) : Calls Try.prog 22 #[.int .i64 15] w fun e w' => e = .returned (.int .i64 2) ∧ w' = w := by
  go_enter Try.func22, Try.ntmps22
  go_wp2_with fail
  go_ret
  exact ⟨rfl, rfl⟩
theorem rsize17 (w : World) : Calls Try.prog 22 #[.int .i64 17] w fun e w' => e = .returned (.int .i64 2) ∧ w' = w := by
  go_enter Try.func22, Try.ntmps22
  go_wp2_with fail
  go_ret
  exact ⟨rfl, rfl⟩
theorem rsize13 (w : World) : Calls Try.prog 22 #[.int .i64 13] w fun e w' => e = .returned (.int .i64 4) ∧ w' = w := by
  go_enter Try.func22, Try.ntmps22
  go_wp2_with fail
  go_ret
  exact ⟨rfl, rfl⟩
theorem rsize18 (w : World) : Calls Try.prog 22 #[.int .i64 18] w fun e w' => e = .returned (.int .i64 4) ∧ w' = w := by
  go_enter Try.func22, Try.ntmps22
  go_wp2_with fail
  go_ret
  exact ⟨rfl, rfl⟩
theorem rsizeNo (op : Int) (h11 : (op == 11) = false) (h14 : (op == 14) = false) (h16 : (op == 16) = false) (h12 : (op == 12) = false) (h15 : (op == 15) = false) (h17 : (op == 17) = false) (h13 : (op == 13) = false) (h18 : (op == 18) = false) (w : World) : Calls Try.prog 22 #[.int .i64 op] w fun e w' => e = .returned (.int .i64 0) ∧ w' = w := by
  go_enter Try.func22, Try.ntmps22
  go_wp2_with fail
  go_ret
  exact ⟨rfl, rfl⟩
theorem rsize_as (op : Int) (c : Int) (C : Hid (Num.sz op = c)) (w : World) : Calls Try.prog 22 #[.int .i64 op] w fun e w' => e = .returned (.int .i64 c) ∧ w' = w := by
  obtain rfl : Num.sz op = c := C
  by_cases h11 : op = 11
  · subst h11; exact rsize11 w
  by_cases h14 : op = 14
  · subst h14; exact rsize14 w
  by_cases h16 : op = 16
  · subst h16; exact rsize16 w
  by_cases h12 : op = 12
  · subst h12; exact rsize12 w
  by_cases h15 : op = 15
  · subst h15; exact rsize15 w
  by_cases h17 : op = 17
  · subst h17; exact rsize17 w
  by_cases h13 : op = 13
  · subst h13; exact rsize13 w
  by_cases h18 : op = 18
  · subst h18; exact rsize18 w
  have z : Num.sz op = 0 := by unfold Num.sz; simp only [h11, h14, h16, h12, h15, h17, h13, h18, if_false]
  rw [z]
  exact rsizeNo op (by simp [h11]) (by simp [h14]) (by simp [h16]) (by simp [h12]) (by simp [h15]) (by simp [h17]) (by simp [h13]) (by simp [h18]) w
theorem loads11 (w : World) : Calls Try.prog 18 #[.int .i64 11] w fun e w' => e = .returned (.bool true) ∧ w' = w := by
  go_enter Try.func18, Try.ntmps18
  go_wp2_with fail
  go_ret
  exact ⟨rfl, rfl⟩
theorem loads12 (w : World) : Calls Try.prog 18 #[.int .i64 12] w fun e w' => e = .returned (.bool true) ∧ w' = w := by
  go_enter Try.func18, Try.ntmps18
  go_wp2_with fail
  go_ret
  exact ⟨rfl, rfl⟩
theorem loads13 (w : World) : Calls Try.prog 18 #[.int .i64 13] w fun e w' => e = .returned (.bool true) ∧ w' = w := by
  go_enter Try.func18, Try.ntmps18
  go_wp2_with fail
  go_ret
  exact ⟨rfl, rfl⟩
theorem loads14 (w : World) : Calls Try.prog 18 #[.int .i64 14] w fun e w' => e = .returned (.bool true) ∧ w' = w := by
  go_enter Try.func18, Try.ntmps18
  go_wp2_with fail
  go_ret
  exact ⟨rfl, rfl⟩
theorem loads15 (w : World) : Calls Try.prog 18 #[.int .i64 15] w fun e w' => e = .returned (.bool true) ∧ w' = w := by
  go_enter Try.func18, Try.ntmps18
  go_wp2_with fail
  go_ret
  exact ⟨rfl, rfl⟩
theorem loadsNo (op : Int) (h11 : (op == 11) = false) (h12 : (op == 12) = false) (h13 : (op == 13) = false) (h14 : (op == 14) = false) (h15 : (op == 15) = false) (w : World) : Calls Try.prog 18 #[.int .i64 op] w fun e w' => e = .returned (.bool false) ∧ w' = w := by
  go_enter Try.func18, Try.ntmps18
  go_wp2_with fail
  go_ret
  exact ⟨rfl, rfl⟩
theorem loads_as (op : Int) (c : Bool) (C : Hid (Num.isl op = c)) (w : World) : Calls Try.prog 18 #[.int .i64 op] w fun e w' => e = .returned (.bool c) ∧ w' = w := by
  obtain rfl : Num.isl op = c := C
  by_cases h11 : op = 11
  · subst h11; exact loads11 w
  by_cases h12 : op = 12
  · subst h12; exact loads12 w
  by_cases h13 : op = 13
  · subst h13; exact loads13 w
  by_cases h14 : op = 14
  · subst h14; exact loads14 w
  by_cases h15 : op = 15
  · subst h15; exact loads15 w
  have z : Num.isl op = false := by unfold Num.isl; simp only [h11, h12, h13, h14, h15, if_false]
  rw [z]
  exact loadsNo op (by simp [h11]) (by simp [h12]) (by simp [h13]) (by simp [h14]) (by simp [h15]) w
theorem stores16 (w : World) : Calls Try.prog 20 #[.int .i64 16] w fun e w' => e = .returned (.bool true) ∧ w' = w := by
  go_enter Try.func20, Try.ntmps20
  go_wp2_with fail
  go_ret
  exact ⟨rfl, rfl⟩
theorem stores17 (w : World) : Calls Try.prog 20 #[.int .i64 17] w fun e w' => e = .returned (.bool true) ∧ w' = w := by
  go_enter Try.func20, Try.ntmps20
  go_wp2_with fail
  go_ret
  exact ⟨rfl, rfl⟩
theorem stores18 (w : World) : Calls Try.prog 20 #[.int .i64 18] w fun e w' => e = .returned (.bool true) ∧ w' = w := by
  go_enter Try.func20, Try.ntmps20
  go_wp2_with fail
  go_ret
  exact ⟨rfl, rfl⟩
theorem storesNo (op : Int) (h16 : (op == 16) = false) (h17 : (op == 17) = false) (h18 : (op == 18) = false) (w : World) : Calls Try.prog 20 #[.int .i64 op] w fun e w' => e = .returned (.bool false) ∧ w' = w := by
  go_enter Try.func20, Try.ntmps20
  go_wp2_with fail
  go_ret
  exact ⟨rfl, rfl⟩
theorem stores_as (op : Int) (c : Bool) (C : Hid (Num.iss op = c)) (w : World) : Calls Try.prog 20 #[.int .i64 op] w fun e w' => e = .returned (.bool c) ∧ w' = w := by
  obtain rfl : Num.iss op = c := C
  by_cases h16 : op = 16
  · subst h16; exact stores16 w
  by_cases h17 : op = 17
  · subst h17; exact stores17 w
  by_cases h18 : op = 18
  · subst h18; exact stores18 w
  have z : Num.iss op = false := by unfold Num.iss; simp only [h16, h17, h18, if_false]
  rw [z]
  exact storesNo op (by simp [h16]) (by simp [h17]) (by simp [h18]) w
end Go.Proofs.Ytbkhemgkhlonhaa.Walks
