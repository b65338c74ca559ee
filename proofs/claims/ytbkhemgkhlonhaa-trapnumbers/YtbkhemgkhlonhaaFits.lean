/- Contracts of Fits, the program's and the document's. -/
import Derived.Test.YtbkhemgkhlonhaaBasic
namespace Go.Proofs.Ytbkhemgkhlonhaa.Walks
open Go.ChangeShapes Go.WideShapes Go.ChangeAt Go.RowKit
set_option linter.unusedVariables false
theorem fits11 (a q : Int) (P : a % 1 = q) (Q : a.tmod 1 = q) (g : Bool) (G : (q == 0) = g) (w : World) : Calls Try.prog 24 #[.int .i64 11, .int .u32 a] w fun e w' => e = .returned (.bool g) ∧ w' = w := by
  have S : Hid (Num.sz 11 = 1) := rfl
  go_enter Try.func24, Try.ntmps24
  go_wp2_with fail
  refine (size_as _ _ S _).mono ?_; rintro e w ⟨rfl, rfl⟩
  go_wp2_with fail
  go_ret
  exact ⟨rfl, rfl⟩
theorem fits14 (a q : Int) (P : a % 1 = q) (Q : a.tmod 1 = q) (g : Bool) (G : (q == 0) = g) (w : World) : Calls Try.prog 24 #[.int .i64 14, .int .u32 a] w fun e w' => e = .returned (.bool g) ∧ w' = w := by
  have S : Hid (Num.sz 14 = 1) := rfl
  go_enter Try.func24, Try.ntmps24
  go_wp2_with fail
  refine (size_as _ _ S _).mono ?_; rintro e w ⟨rfl, rfl⟩
  go_wp2_with fail
  go_ret
  exact ⟨rfl, rfl⟩
theorem fits16 (a q : Int) (P : a % 1 = q) (Q : a.tmod 1 = q) (g : Bool) (G : (q == 0) = g) (w : World) : Calls Try.prog 24 #[.int .i64 16, .int .u32 a] w fun e w' => e = .returned (.bool g) ∧ w' = w := by
  have S : Hid (Num.sz 16 = 1) := rfl
  go_enter Try.func24, Try.ntmps24
  go_wp2_with fail
  refine (size_as _ _ S _).mono ?_; rintro e w ⟨rfl, rfl⟩
  go_wp2_with fail
  go_ret
  exact ⟨rfl, rfl⟩
theorem fits12 (a q : Int) (P : a % 2 = q) (Q : a.tmod 2 = q) (g : Bool) (G : (q == 0) = g) (w : World) : Calls Try.prog 24 #[.int .i64 12, .int .u32 a] w fun e w' => e = .returned (.bool g) ∧ w' = w := by
  have S : Hid (Num.sz 12 = 2) := rfl
  go_enter Try.func24, Try.ntmps24
  go_wp2_with fail
  refine (size_as _ _ S _).mono ?_; rintro e w ⟨rfl, rfl⟩
  go_wp2_with fail
  go_ret
  exact ⟨rfl, rfl⟩
theorem fits15 (a q : Int) (P : a % 2 = q) (Q : a.tmod 2 = q) (g : Bool) (G : (q == 0) = g) (w : World) : Calls Try.prog 24 #[.int .i64 15, .int .u32 a] w fun e w' => e = .returned (.bool g) ∧ w' = w := by
  have S : Hid (Num.sz 15 = 2) := rfl
  go_enter Try.func24, Try.ntmps24
  go_wp2_with fail
  refine (size_as _ _ S _).mono ?_; rintro e w ⟨rfl, rfl⟩
  go_wp2_with fail
  go_ret
  exact ⟨rfl, rfl⟩
theorem fits17 (a q : Int) (P : a % 2 = q) (Q : a.tmod 2 = q) (g : Bool) (G : (q == 0) = g) (w : World) : Calls Try.prog 24 #[.int .i64 17, .int .u32 a] w fun e w' => e = .returned (.bool g) ∧ w' = w := by
  have S : Hid (Num.sz 17 = 2) := rfl
  go_enter Try.func24, Try.ntmps24
  go_wp2_with fail
  refine (size_as _ _ S _).mono ?_; rintro e w ⟨rfl, rfl⟩
  go_wp2_with fail
  go_ret
  exact ⟨rfl, rfl⟩
theorem fits13 (a q : Int) (P : a % 4 = q) (Q : a.tmod 4 = q) (g : Bool) (G : (q == 0) = g) (w : World) : Calls Try.prog 24 #[.int .i64 13, .int .u32 a] w fun e w' => e = .returned (.bool g) ∧ w' = w := by
  have S : Hid (Num.sz 13 = 4) := rfl
  go_enter Try.func24, Try.ntmps24
  go_wp2_with fail
  refine (size_as _ _ S _).mono ?_; rintro e w ⟨rfl, rfl⟩
  go_wp2_with fail
  go_ret
  exact ⟨rfl, rfl⟩
theorem fits18 (a q : Int) (P : a % 4 = q) (Q : a.tmod 4 = q) (g : Bool) (G : (q == 0) = g) (w : World) : Calls Try.prog 24 #[.int .i64 18, .int .u32 a] w fun e w' => e = .returned (.bool g) ∧ w' = w := by
  have S : Hid (Num.sz 18 = 4) := rfl
  go_enter Try.func24, Try.ntmps24
  go_wp2_with fail
  refine (size_as _ _ S _).mono ?_; rintro e w ⟨rfl, rfl⟩
  go_wp2_with fail
  go_ret
  exact ⟨rfl, rfl⟩
theorem fitsNo (op a : Int) (S : Hid (Num.sz op = 0)) (w : World) : Calls Try.prog 24 #[.int .i64 op, .int .u32 a] w fun e w' => e = .returned (.bool false) ∧ w' = w := by
  go_enter Try.func24, Try.ntmps24
  go_wp2_with fail
  refine (size_as _ _ S _).mono ?_; rintro e w ⟨rfl, rfl⟩
  go_wp2_with fail
  go_ret
  exact ⟨rfl, rfl⟩
theorem fits_as (op a p : Int) (g : Bool) (a0 : 0 ≤ a) (P : Hid (a % 4 = p)) (G : Hid (Num.ft op p = g)) (w : World) : Calls Try.prog 24 #[.int .i64 op, .int .u32 a] w fun e w' => e = .returned (.bool g) ∧ w' = w := by
  obtain rfl : a % 4 = p := P
  obtain rfl : Num.ft op (a % 4) = g := G
  by_cases h11 : op = 11
  · subst h11; exact fits11 a 0 (by omega) (Num.tmod1 a a0) true rfl w
  by_cases h14 : op = 14
  · subst h14; exact fits14 a 0 (by omega) (Num.tmod1 a a0) true rfl w
  by_cases h16 : op = 16
  · subst h16; exact fits16 a 0 (by omega) (Num.tmod1 a a0) true rfl w
  by_cases h12 : op = 12
  · subst h12; exact fits12 a (a % 4 % 2) (by omega) ((Num.tmod2 a a0).trans (by omega)) _ rfl w
  by_cases h15 : op = 15
  · subst h15; exact fits15 a (a % 4 % 2) (by omega) ((Num.tmod2 a a0).trans (by omega)) _ rfl w
  by_cases h17 : op = 17
  · subst h17; exact fits17 a (a % 4 % 2) (by omega) ((Num.tmod2 a a0).trans (by omega)) _ rfl w
  by_cases h13 : op = 13
  · subst h13; exact fits13 a (a % 4) rfl (Num.tmod4 a a0) _ rfl w
  by_cases h18 : op = 18
  · subst h18; exact fits18 a (a % 4) rfl (Num.tmod4 a a0) _ rfl w
  have z : Num.ft op (a % 4) = false := by unfold Num.ft; simp only [h11, h14, h16, h12, h15, h17, h13, h18, if_false]
  rw [z]
  exact fitsNo op a (show Num.sz op = 0 by unfold Num.sz; simp only [h11, h14, h16, h12, h15, h17, h13, h18, if_false]) w
theorem rfits11 (a q : Int) (P : a % 1 = q) (Q : a.tmod 1 = q) (g : Bool) (G : (q == 0) = g) (w : World) : Calls Try.prog 23 #[.int .i64 11, .int .u32 a] w fun e w' => e = .returned (.bool g) ∧ w' = w := by
  have S : Hid (Num.sz 11 = 1) := rfl
  go_enter Try.func23, Try.ntmps23
  go_wp2_with fail
  refine (rsize_as _ _ S _).mono ?_; rintro e w ⟨rfl, rfl⟩
  go_wp2_with fail
  refine (rsize_as _ _ S _).mono ?_; rintro e w ⟨rfl, rfl⟩
  go_wp2_with fail
  go_ret
  exact ⟨rfl, rfl⟩
theorem rfits14 (a q : Int) (P : a % 1 = q) (Q : a.tmod 1 = q) (g : Bool) (G : (q == 0) = g) (w : World) : Calls Try.prog 23 #[.int .i64 14, .int .u32 a] w fun e w' => e = .returned (.bool g) ∧ w' = w := by
  have S : Hid (Num.sz 14 = 1) := rfl
  go_enter Try.func23, Try.ntmps23
  go_wp2_with fail
  refine (rsize_as _ _ S _).mono ?_; rintro e w ⟨rfl, rfl⟩
  go_wp2_with fail
  refine (rsize_as _ _ S _).mono ?_; rintro e w ⟨rfl, rfl⟩
  go_wp2_with fail
  go_ret
  exact ⟨rfl, rfl⟩
theorem rfits16 (a q : Int) (P : a % 1 = q) (Q : a.tmod 1 = q) (g : Bool) (G : (q == 0) = g) (w : World) : Calls Try.prog 23 #[.int .i64 16, .int .u32 a] w fun e w' => e = .returned (.bool g) ∧ w' = w := by
  have S : Hid (Num.sz 16 = 1) := rfl
  go_enter Try.func23, Try.ntmps23
  go_wp2_with fail
  refine (rsize_as _ _ S _).mono ?_; rintro e w ⟨rfl, rfl⟩
  go_wp2_with fail
  refine (rsize_as _ _ S _).mono ?_; rintro e w ⟨rfl, rfl⟩
  go_wp2_with fail
  go_ret
  exact ⟨rfl, rfl⟩
theorem rfits12 (a q : Int) (P : a % 2 = q) (Q : a.tmod 2 = q) (g : Bool) (G : (q == 0) = g) (w : World) : Calls Try.prog 23 #[.int .i64 12, .int .u32 a] w fun e w' => e = .returned (.bool g) ∧ w' = w := by
  have S : Hid (Num.sz 12 = 2) := rfl
  go_enter Try.func23, Try.ntmps23
  go_wp2_with fail
  refine (rsize_as _ _ S _).mono ?_; rintro e w ⟨rfl, rfl⟩
  go_wp2_with fail
  refine (rsize_as _ _ S _).mono ?_; rintro e w ⟨rfl, rfl⟩
  go_wp2_with fail
  go_ret
  exact ⟨rfl, rfl⟩
theorem rfits15 (a q : Int) (P : a % 2 = q) (Q : a.tmod 2 = q) (g : Bool) (G : (q == 0) = g) (w : World) : Calls Try.prog 23 #[.int .i64 15, .int .u32 a] w fun e w' => e = .returned (.bool g) ∧ w' = w := by
  have S : Hid (Num.sz 15 = 2) := rfl
  go_enter Try.func23, Try.ntmps23
  go_wp2_with fail
  refine (rsize_as _ _ S _).mono ?_; rintro e w ⟨rfl, rfl⟩
  go_wp2_with fail
  refine (rsize_as _ _ S _).mono ?_; rintro e w ⟨rfl, rfl⟩
  go_wp2_with fail
  go_ret
  exact ⟨rfl, rfl⟩
theorem rfits17 (a q : Int) (P : a % 2 = q) (Q : a.tmod 2 = q) (g : Bool) (G : (q == 0) = g) (w : World) : Calls Try.prog 23 #[.int .i64 17, .int .u32 a] w fun e w' => e = .returned (.bool g) ∧ w' = w := by
  have S : Hid (Num.sz 17 = 2) := rfl
  go_enter Try.func23, Try.ntmps23
  go_wp2_with fail
  refine (rsize_as _ _ S _).mono ?_; rintro e w ⟨rfl, rfl⟩
  go_wp2_with fail
  refine (rsize_as _ _ S _).mono ?_; rintro e w ⟨rfl, rfl⟩
  go_wp2_with fail
  go_ret
  exact ⟨rfl, rfl⟩
theorem rfits13 (a q : Int) (P : a % 4 = q) (Q : a.tmod 4 = q) (g : Bool) (G : (q == 0) = g) (w : World) : Calls Try.prog 23 #[.int .i64 13, .int .u32 a] w fun e w' => e = .returned (.bool g) ∧ w' = w := by
  have S : Hid (Num.sz 13 = 4) := rfl
  go_enter Try.func23, Try.ntmps23
  go_wp2_with fail
  refine (rsize_as _ _ S _).mono ?_; rintro e w ⟨rfl, rfl⟩
  go_wp2_with fail
  refine (rsize_as _ _ S _).mono ?_; rintro e w ⟨rfl, rfl⟩
  go_wp2_with fail
  go_ret
  exact ⟨rfl, rfl⟩
theorem rfits18 (a q : Int) (P : a % 4 = q) (Q : a.tmod 4 = q) (g : Bool) (G : (q == 0) = g) (w : World) : Calls Try.prog 23 #[.int .i64 18, .int .u32 a] w fun e w' => e = .returned (.bool g) ∧ w' = w := by
  have S : Hid (Num.sz 18 = 4) := rfl
  go_enter Try.func23, Try.ntmps23
  go_wp2_with fail
  refine (rsize_as _ _ S _).mono ?_; rintro e w ⟨rfl, rfl⟩
  go_wp2_with fail
  refine (rsize_as _ _ S _).mono ?_; rintro e w ⟨rfl, rfl⟩
  go_wp2_with fail
  go_ret
  exact ⟨rfl, rfl⟩
theorem rfitsNo (op a : Int) (S : Hid (Num.sz op = 0)) (w : World) : Calls Try.prog 23 #[.int .i64 op, .int .u32 a] w fun e w' => e = .returned (.bool false) ∧ w' = w := by
  go_enter Try.func23, Try.ntmps23
  go_wp2_with fail
  refine (rsize_as _ _ S _).mono ?_; rintro e w ⟨rfl, rfl⟩
  go_wp2_with fail
  go_ret
  exact ⟨rfl, rfl⟩
theorem rfits_as (op a p : Int) (g : Bool) (a0 : 0 ≤ a) (P : Hid (a % 4 = p)) (G : Hid (Num.ft op p = g)) (w : World) : Calls Try.prog 23 #[.int .i64 op, .int .u32 a] w fun e w' => e = .returned (.bool g) ∧ w' = w := by
  obtain rfl : a % 4 = p := P
  obtain rfl : Num.ft op (a % 4) = g := G
  by_cases h11 : op = 11
  · subst h11; exact rfits11 a 0 (by omega) (Num.tmod1 a a0) true rfl w
  by_cases h14 : op = 14
  · subst h14; exact rfits14 a 0 (by omega) (Num.tmod1 a a0) true rfl w
  by_cases h16 : op = 16
  · subst h16; exact rfits16 a 0 (by omega) (Num.tmod1 a a0) true rfl w
  by_cases h12 : op = 12
  · subst h12; exact rfits12 a (a % 4 % 2) (by omega) ((Num.tmod2 a a0).trans (by omega)) _ rfl w
  by_cases h15 : op = 15
  · subst h15; exact rfits15 a (a % 4 % 2) (by omega) ((Num.tmod2 a a0).trans (by omega)) _ rfl w
  by_cases h17 : op = 17
  · subst h17; exact rfits17 a (a % 4 % 2) (by omega) ((Num.tmod2 a a0).trans (by omega)) _ rfl w
  by_cases h13 : op = 13
  · subst h13; exact rfits13 a (a % 4) rfl (Num.tmod4 a a0) _ rfl w
  by_cases h18 : op = 18
  · subst h18; exact rfits18 a (a % 4) rfl (Num.tmod4 a a0) _ rfl w
  have z : Num.ft op (a % 4) = false := by unfold Num.ft; simp only [h11, h14, h16, h12, h15, h17, h13, h18, if_false]
  rw [z]
  exact rfitsNo op a (show Num.sz op = 0 by unfold Num.sz; simp only [h11, h14, h16, h12, h15, h17, h13, h18, if_false]) w
end Go.Proofs.Ytbkhemgkhlonhaa.Walks
