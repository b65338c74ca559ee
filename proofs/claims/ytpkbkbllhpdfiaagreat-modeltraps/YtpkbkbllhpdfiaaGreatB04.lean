/- Move: Contract of the program's move, at each of the places that it is called with; contract of operandBits, format by format. VStore: Store, the program's, op by op, place by place. VRStore: Store, the document's, op by op, place by place. Tape: Contracts of the tape's Next (its number lies in its bounds; nothing but the tape's own block has turned) and of Within. Next: Contract of the tape's Next. Obits: Contract of the program's operandBits, format by format. ObitsAll: Ground of the words below. Ors: Numbers: bits laid where none stands, as sums. Raw: Numbers: the raw words of the program and of the document are the instruction's word, if it has one. -/
import Derived.Test.YtpkbkbllhpdfiaaGreatB02
import Derived.BigQuiet
import Derived.Deep.QuietTactic
import Derived.Test.YtpkbkbllhpdfiaaGreatB01
import Derived.Test.YtpkbkbllhpdfiaaGreatB03
namespace Go.Proofs.YtpkbkbllhpdfiaaGreat.Num
open Go.ChangeShapes Go.WideShapes Go.ChangeAt Go.RowKit
theorem and_mask (i : Nat) (p q x : Int) (hq : ((2 ^ i : Nat) : Int) = q) (hp : p = q - 1) (x0 : 0 ≤ x) (x1 : x ≤ 4294967295) (q1 : q ≤ 4294967296) : bits .and .u32 x p = x % q := by
  subst hp hq
  obtain ⟨a, rfl⟩ := Int.eq_ofNat_of_zero_le x0
  have pos : 0 < 2 ^ i := Nat.two_pow_pos i
  rw [show (((2 ^ i : Nat) : Int) - 1) = ((2 ^ i - 1 : Nat) : Int) by omega, u32_and_nat _ _ (by omega) (by omega), Nat.and_two_pow_sub_one_eq_mod]
  simp
end Go.Proofs.YtpkbkbllhpdfiaaGreat.Num
namespace Go.Proofs.YtpkbkbllhpdfiaaGreat.Walks
open Go.ChangeShapes Go.WideShapes Go.ChangeAt Go.RowKit
end Go.Proofs.YtpkbkbllhpdfiaaGreat.Walks
namespace Go.Proofs.YtpkbkbllhpdfiaaGreat.V.Walks
open Go.ChangeShapes Go.WideShapes Go.ChangeAt Go.RowKit
set_option linter.unusedVariables false
theorem ret_two {a b c d : Int} (h : a = b) (k : c = d) : Ending.returned (.tuple #[.int .u32 a, .int .i64 c]) = .returned (.tuple #[.int .u32 b, .int .i64 d]) := by rw [h, k]
set_option maxHeartbeats 1000000 in
theorem store16_0 (a x : Int) (a0 : 0 ≤ a) (x0 : 0 ≤ x) (x1 : x ≤ 4294967295) (P : Hid (a % 4 = 0)) (w : World) : Calls Tryz.prog 96 #[.int .i64 16, .int .u32 a, .int .u32 x] w fun e w' => e = .returned (.tuple #[.int .u32 (x % 256), .int .i64 (1)]) ∧ w'.Alike w := by
  have F : Hid (Num.ft 16 0 = true) := rfl
  have L : Hid (Num.iss 16 = true) := rfl
  have S : Hid (Num.sz 16 = 1) := rfl
  go_enter Tryz.func96, Tryz.ntmps96
  go_wp2_with fail
  refine (stores_as _ _ L _).mono ?_; rintro e w ⟨rfl, rfl⟩
  go_wp2_with fail
  refine (fits_as _ _ _ _ a0 P F _).mono ?_; rintro e w ⟨rfl, rfl⟩
  go_wp2_with fail
  refine (size_as _ _ S _).mono ?_; rintro e w ⟨rfl, rfl⟩
  go_wp2_with fail
  refine (lowest1 _ _).mono ?_; rintro e w ⟨rfl, rfl⟩
  go_wp2_with fail
  refine (place_as _ _ P.out ((Num.tmod4 a a0).trans P.out) _).mono ?_; rintro e w ⟨rfl, rfl⟩
  go_wp2_with fail
  go_quiet ((first | (go_at_call 135; exact Calls.quiet_of_same (size_as _ _ S _)) | (go_at_call 132; exact Calls.quiet_of_same (place_as _ _ P.out ((Num.tmod4 a a0).trans P.out) _))))
  go_wp2_with fail
  go_ret2
  first
    | exact ⟨rfl, rfl, rfl, rfl⟩
    | exact ⟨ret_two (by omega) rfl, rfl, rfl, rfl⟩
set_option maxHeartbeats 1000000 in
theorem store16_1 (a x : Int) (a0 : 0 ≤ a) (x0 : 0 ≤ x) (x1 : x ≤ 4294967295) (P : Hid (a % 4 = 1)) (w : World) : Calls Tryz.prog 96 #[.int .i64 16, .int .u32 a, .int .u32 x] w fun e w' => e = .returned (.tuple #[.int .u32 (x % 256 * 256), .int .i64 (2)]) ∧ w'.Alike w := by
  have F : Hid (Num.ft 16 1 = true) := rfl
  have L : Hid (Num.iss 16 = true) := rfl
  have S : Hid (Num.sz 16 = 1) := rfl
  go_enter Tryz.func96, Tryz.ntmps96
  go_wp2_with fail
  refine (stores_as _ _ L _).mono ?_; rintro e w ⟨rfl, rfl⟩
  go_wp2_with fail
  refine (fits_as _ _ _ _ a0 P F _).mono ?_; rintro e w ⟨rfl, rfl⟩
  go_wp2_with fail
  refine (size_as _ _ S _).mono ?_; rintro e w ⟨rfl, rfl⟩
  go_wp2_with fail
  refine (lowest1 _ _).mono ?_; rintro e w ⟨rfl, rfl⟩
  go_wp2_with fail
  refine (place_as _ _ P.out ((Num.tmod4 a a0).trans P.out) _).mono ?_; rintro e w ⟨rfl, rfl⟩
  go_wp2_with fail
  go_quiet ((first | (go_at_call 135; exact Calls.quiet_of_same (size_as _ _ S _)) | (go_at_call 132; exact Calls.quiet_of_same (place_as _ _ P.out ((Num.tmod4 a a0).trans P.out) _))))
  go_wp2_with fail
  go_ret2
  first
    | exact ⟨rfl, rfl, rfl, rfl⟩
    | exact ⟨ret_two (by omega) rfl, rfl, rfl, rfl⟩
set_option maxHeartbeats 1000000 in
theorem store16_2 (a x : Int) (a0 : 0 ≤ a) (x0 : 0 ≤ x) (x1 : x ≤ 4294967295) (P : Hid (a % 4 = 2)) (w : World) : Calls Tryz.prog 96 #[.int .i64 16, .int .u32 a, .int .u32 x] w fun e w' => e = .returned (.tuple #[.int .u32 (x % 256 * 65536), .int .i64 (4)]) ∧ w'.Alike w := by
  have F : Hid (Num.ft 16 2 = true) := rfl
  have L : Hid (Num.iss 16 = true) := rfl
  have S : Hid (Num.sz 16 = 1) := rfl
  go_enter Tryz.func96, Tryz.ntmps96
  go_wp2_with fail
  refine (stores_as _ _ L _).mono ?_; rintro e w ⟨rfl, rfl⟩
  go_wp2_with fail
  refine (fits_as _ _ _ _ a0 P F _).mono ?_; rintro e w ⟨rfl, rfl⟩
  go_wp2_with fail
  refine (size_as _ _ S _).mono ?_; rintro e w ⟨rfl, rfl⟩
  go_wp2_with fail
  refine (lowest1 _ _).mono ?_; rintro e w ⟨rfl, rfl⟩
  go_wp2_with fail
  refine (place_as _ _ P.out ((Num.tmod4 a a0).trans P.out) _).mono ?_; rintro e w ⟨rfl, rfl⟩
  go_wp2_with fail
  go_quiet ((first | (go_at_call 135; exact Calls.quiet_of_same (size_as _ _ S _)) | (go_at_call 132; exact Calls.quiet_of_same (place_as _ _ P.out ((Num.tmod4 a a0).trans P.out) _))))
  go_wp2_with fail
  go_ret2
  first
    | exact ⟨rfl, rfl, rfl, rfl⟩
    | exact ⟨ret_two (by omega) rfl, rfl, rfl, rfl⟩
set_option maxHeartbeats 1000000 in
theorem store16_3 (a x : Int) (a0 : 0 ≤ a) (x0 : 0 ≤ x) (x1 : x ≤ 4294967295) (P : Hid (a % 4 = 3)) (w : World) : Calls Tryz.prog 96 #[.int .i64 16, .int .u32 a, .int .u32 x] w fun e w' => e = .returned (.tuple #[.int .u32 (x % 256 * 16777216), .int .i64 (8)]) ∧ w'.Alike w := by
  have F : Hid (Num.ft 16 3 = true) := rfl
  have L : Hid (Num.iss 16 = true) := rfl
  have S : Hid (Num.sz 16 = 1) := rfl
  go_enter Tryz.func96, Tryz.ntmps96
  go_wp2_with fail
  refine (stores_as _ _ L _).mono ?_; rintro e w ⟨rfl, rfl⟩
  go_wp2_with fail
  refine (fits_as _ _ _ _ a0 P F _).mono ?_; rintro e w ⟨rfl, rfl⟩
  go_wp2_with fail
  refine (size_as _ _ S _).mono ?_; rintro e w ⟨rfl, rfl⟩
  go_wp2_with fail
  refine (lowest1 _ _).mono ?_; rintro e w ⟨rfl, rfl⟩
  go_wp2_with fail
  refine (place_as _ _ P.out ((Num.tmod4 a a0).trans P.out) _).mono ?_; rintro e w ⟨rfl, rfl⟩
  go_wp2_with fail
  go_quiet ((first | (go_at_call 135; exact Calls.quiet_of_same (size_as _ _ S _)) | (go_at_call 132; exact Calls.quiet_of_same (place_as _ _ P.out ((Num.tmod4 a a0).trans P.out) _))))
  go_wp2_with fail
  go_ret2
  first
    | exact ⟨rfl, rfl, rfl, rfl⟩
    | exact ⟨ret_two (by omega) rfl, rfl, rfl, rfl⟩
theorem store16 (a x p : Int) (a0 : 0 ≤ a) (a1 : a ≤ 4294967295) (x0 : 0 ≤ x) (x1 : x ≤ 4294967295) (P : a % 4 = p) (w : World) : Calls Tryz.prog 96 #[.int .i64 16, .int .u32 a, .int .u32 x] w fun e w' => e = .returned (.tuple #[.int .u32 (Num.st 16 p x), .int .i64 (Num.sm 16 p)]) ∧ w'.Alike w := by
  subst P
  have A := Num.and3 a a0 a1
  rcases Num.quarter a with h | h | h | h <;> rw [h] at A ⊢
  · rw [show Num.st 16 0 x = x % 256 from Int.mul_one _]
    exact store16_0 a x a0 x0 x1 h w
  · exact store16_1 a x a0 x0 x1 h w
  · exact store16_2 a x a0 x0 x1 h w
  · exact store16_3 a x a0 x0 x1 h w
set_option maxHeartbeats 1000000 in
theorem store17_0 (a x : Int) (a0 : 0 ≤ a) (x0 : 0 ≤ x) (x1 : x ≤ 4294967295) (P : Hid (a % 4 = 0)) (w : World) : Calls Tryz.prog 96 #[.int .i64 17, .int .u32 a, .int .u32 x] w fun e w' => e = .returned (.tuple #[.int .u32 (x % 65536), .int .i64 (3)]) ∧ w'.Alike w := by
  have F : Hid (Num.ft 17 0 = true) := rfl
  have L : Hid (Num.iss 17 = true) := rfl
  have S : Hid (Num.sz 17 = 2) := rfl
  go_enter Tryz.func96, Tryz.ntmps96
  go_wp2_with fail
  refine (stores_as _ _ L _).mono ?_; rintro e w ⟨rfl, rfl⟩
  go_wp2_with fail
  refine (fits_as _ _ _ _ a0 P F _).mono ?_; rintro e w ⟨rfl, rfl⟩
  go_wp2_with fail
  refine (size_as _ _ S _).mono ?_; rintro e w ⟨rfl, rfl⟩
  go_wp2_with fail
  refine (lowest2 _ _).mono ?_; rintro e w ⟨rfl, rfl⟩
  go_wp2_with fail
  refine (place_as _ _ P.out ((Num.tmod4 a a0).trans P.out) _).mono ?_; rintro e w ⟨rfl, rfl⟩
  go_wp2_with fail
  go_quiet ((first | (go_at_call 135; exact Calls.quiet_of_same (size_as _ _ S _)) | (go_at_call 132; exact Calls.quiet_of_same (place_as _ _ P.out ((Num.tmod4 a a0).trans P.out) _))))
  go_wp2_with fail
  go_ret2
  first
    | exact ⟨rfl, rfl, rfl, rfl⟩
    | exact ⟨ret_two (by omega) rfl, rfl, rfl, rfl⟩
set_option maxHeartbeats 1000000 in
theorem store17_1 (a x : Int) (a0 : 0 ≤ a) (x0 : 0 ≤ x) (x1 : x ≤ 4294967295) (P : Hid (a % 4 = 1)) (w : World) : Calls Tryz.prog 96 #[.int .i64 17, .int .u32 a, .int .u32 x] w fun e w' => e = .returned (.tuple #[.int .u32 (0), .int .i64 (0)]) ∧ w'.Alike w := by
  have F : Hid (Num.ft 17 1 = false) := rfl
  have L : Hid (Num.iss 17 = true) := rfl
  have S : Hid (Num.sz 17 = 2) := rfl
  go_enter Tryz.func96, Tryz.ntmps96
  go_wp2_with fail
  refine (stores_as _ _ L _).mono ?_; rintro e w ⟨rfl, rfl⟩
  go_wp2_with fail
  refine (fits_as _ _ _ _ a0 P F _).mono ?_; rintro e w ⟨rfl, rfl⟩
  go_wp2_with fail
  go_ret2
  first
    | exact ⟨rfl, rfl, rfl, rfl⟩
    | exact ⟨ret_two (by omega) rfl, rfl, rfl, rfl⟩
set_option maxHeartbeats 1000000 in
theorem store17_2 (a x : Int) (a0 : 0 ≤ a) (x0 : 0 ≤ x) (x1 : x ≤ 4294967295) (P : Hid (a % 4 = 2)) (w : World) : Calls Tryz.prog 96 #[.int .i64 17, .int .u32 a, .int .u32 x] w fun e w' => e = .returned (.tuple #[.int .u32 (x % 65536 * 65536), .int .i64 (12)]) ∧ w'.Alike w := by
  have F : Hid (Num.ft 17 2 = true) := rfl
  have L : Hid (Num.iss 17 = true) := rfl
  have S : Hid (Num.sz 17 = 2) := rfl
  go_enter Tryz.func96, Tryz.ntmps96
  go_wp2_with fail
  refine (stores_as _ _ L _).mono ?_; rintro e w ⟨rfl, rfl⟩
  go_wp2_with fail
  refine (fits_as _ _ _ _ a0 P F _).mono ?_; rintro e w ⟨rfl, rfl⟩
  go_wp2_with fail
  refine (size_as _ _ S _).mono ?_; rintro e w ⟨rfl, rfl⟩
  go_wp2_with fail
  refine (lowest2 _ _).mono ?_; rintro e w ⟨rfl, rfl⟩
  go_wp2_with fail
  refine (place_as _ _ P.out ((Num.tmod4 a a0).trans P.out) _).mono ?_; rintro e w ⟨rfl, rfl⟩
  go_wp2_with fail
  go_quiet ((first | (go_at_call 135; exact Calls.quiet_of_same (size_as _ _ S _)) | (go_at_call 132; exact Calls.quiet_of_same (place_as _ _ P.out ((Num.tmod4 a a0).trans P.out) _))))
  go_wp2_with fail
  go_ret2
  first
    | exact ⟨rfl, rfl, rfl, rfl⟩
    | exact ⟨ret_two (by omega) rfl, rfl, rfl, rfl⟩
set_option maxHeartbeats 1000000 in
theorem store17_3 (a x : Int) (a0 : 0 ≤ a) (x0 : 0 ≤ x) (x1 : x ≤ 4294967295) (P : Hid (a % 4 = 3)) (w : World) : Calls Tryz.prog 96 #[.int .i64 17, .int .u32 a, .int .u32 x] w fun e w' => e = .returned (.tuple #[.int .u32 (0), .int .i64 (0)]) ∧ w'.Alike w := by
  have F : Hid (Num.ft 17 3 = false) := rfl
  have L : Hid (Num.iss 17 = true) := rfl
  have S : Hid (Num.sz 17 = 2) := rfl
  go_enter Tryz.func96, Tryz.ntmps96
  go_wp2_with fail
  refine (stores_as _ _ L _).mono ?_; rintro e w ⟨rfl, rfl⟩
  go_wp2_with fail
  refine (fits_as _ _ _ _ a0 P F _).mono ?_; rintro e w ⟨rfl, rfl⟩
  go_wp2_with fail
  go_ret2
  first
    | exact ⟨rfl, rfl, rfl, rfl⟩
    | exact ⟨ret_two (by omega) rfl, rfl, rfl, rfl⟩
theorem store17 (a x p : Int) (a0 : 0 ≤ a) (a1 : a ≤ 4294967295) (x0 : 0 ≤ x) (x1 : x ≤ 4294967295) (P : a % 4 = p) (w : World) : Calls Tryz.prog 96 #[.int .i64 17, .int .u32 a, .int .u32 x] w fun e w' => e = .returned (.tuple #[.int .u32 (Num.st 17 p x), .int .i64 (Num.sm 17 p)]) ∧ w'.Alike w := by
  subst P
  have A := Num.and3 a a0 a1
  rcases Num.quarter a with h | h | h | h <;> rw [h] at A ⊢
  · rw [show Num.st 17 0 x = x % 65536 from Int.mul_one _]
    exact store17_0 a x a0 x0 x1 h w
  · exact store17_1 a x a0 x0 x1 h w
  · exact store17_2 a x a0 x0 x1 h w
  · exact store17_3 a x a0 x0 x1 h w
set_option maxHeartbeats 1000000 in
theorem store18_0 (a x : Int) (a0 : 0 ≤ a) (x0 : 0 ≤ x) (x1 : x ≤ 4294967295) (P : Hid (a % 4 = 0)) (w : World) : Calls Tryz.prog 96 #[.int .i64 18, .int .u32 a, .int .u32 x] w fun e w' => e = .returned (.tuple #[.int .u32 (x), .int .i64 (15)]) ∧ w'.Alike w := by
  have F : Hid (Num.ft 18 0 = true) := rfl
  have L : Hid (Num.iss 18 = true) := rfl
  have S : Hid (Num.sz 18 = 4) := rfl
  go_enter Tryz.func96, Tryz.ntmps96
  go_wp2_with fail
  refine (stores_as _ _ L _).mono ?_; rintro e w ⟨rfl, rfl⟩
  go_wp2_with fail
  refine (fits_as _ _ _ _ a0 P F _).mono ?_; rintro e w ⟨rfl, rfl⟩
  go_wp2_with fail
  refine (size_as _ _ S _).mono ?_; rintro e w ⟨rfl, rfl⟩
  go_wp2_with fail
  refine (lowest4 _ x0 x1 _).mono ?_; rintro e w ⟨rfl, rfl⟩
  go_wp2_with fail
  refine (place_as _ _ P.out ((Num.tmod4 a a0).trans P.out) _).mono ?_; rintro e w ⟨rfl, rfl⟩
  go_wp2_with fail
  go_quiet ((first | (go_at_call 135; exact Calls.quiet_of_same (size_as _ _ S _)) | (go_at_call 132; exact Calls.quiet_of_same (place_as _ _ P.out ((Num.tmod4 a a0).trans P.out) _))))
  go_wp2_with fail
  go_ret2
  first
    | exact ⟨rfl, rfl, rfl, rfl⟩
    | exact ⟨ret_two (by omega) rfl, rfl, rfl, rfl⟩
set_option maxHeartbeats 1000000 in
theorem store18_1 (a x : Int) (a0 : 0 ≤ a) (x0 : 0 ≤ x) (x1 : x ≤ 4294967295) (P : Hid (a % 4 = 1)) (w : World) : Calls Tryz.prog 96 #[.int .i64 18, .int .u32 a, .int .u32 x] w fun e w' => e = .returned (.tuple #[.int .u32 (0), .int .i64 (0)]) ∧ w'.Alike w := by
  have F : Hid (Num.ft 18 1 = false) := rfl
  have L : Hid (Num.iss 18 = true) := rfl
  have S : Hid (Num.sz 18 = 4) := rfl
  go_enter Tryz.func96, Tryz.ntmps96
  go_wp2_with fail
  refine (stores_as _ _ L _).mono ?_; rintro e w ⟨rfl, rfl⟩
  go_wp2_with fail
  refine (fits_as _ _ _ _ a0 P F _).mono ?_; rintro e w ⟨rfl, rfl⟩
  go_wp2_with fail
  go_ret2
  first
    | exact ⟨rfl, rfl, rfl, rfl⟩
    | exact ⟨ret_two (by omega) rfl, rfl, rfl, rfl⟩
set_option maxHeartbeats 1000000 in
theorem store18_2 (a x : Int) (a0 : 0 ≤ a) (x0 : 0 ≤ x) (x1 : x ≤ 4294967295) (P : Hid (a % 4 = 2)) (w : World) : Calls Tryz.prog 96 #[.int .i64 18, .int .u32 a, .int .u32 x] w fun e w' => e = .returned (.tuple #[.int .u32 (0), .int .i64 (0)]) ∧ w'.Alike w := by
  have F : Hid (Num.ft 18 2 = false) := rfl
  have L : Hid (Num.iss 18 = true) := rfl
  have S : Hid (Num.sz 18 = 4) := rfl
  go_enter Tryz.func96, Tryz.ntmps96
  go_wp2_with fail
  refine (stores_as _ _ L _).mono ?_; rintro e w ⟨rfl, rfl⟩
  go_wp2_with fail
  refine (fits_as _ _ _ _ a0 P F _).mono ?_; rintro e w ⟨rfl, rfl⟩
  go_wp2_with fail
  go_ret2
  first
    | exact ⟨rfl, rfl, rfl, rfl⟩
    | exact ⟨ret_two (by omega) rfl, rfl, rfl, rfl⟩
set_option maxHeartbeats 1000000 in
theorem store18_3 (a x : Int) (a0 : 0 ≤ a) (x0 : 0 ≤ x) (x1 : x ≤ 4294967295) (P : Hid (a % 4 = 3)) (w : World) : Calls Tryz.prog 96 #[.int .i64 18, .int .u32 a, .int .u32 x] w fun e w' => e = .returned (.tuple #[.int .u32 (0), .int .i64 (0)]) ∧ w'.Alike w := by
  have F : Hid (Num.ft 18 3 = false) := rfl
  have L : Hid (Num.iss 18 = true) := rfl
  have S : Hid (Num.sz 18 = 4) := rfl
  go_enter Tryz.func96, Tryz.ntmps96
  go_wp2_with fail
  refine (stores_as _ _ L _).mono ?_; rintro e w ⟨rfl, rfl⟩
  go_wp2_with fail
  refine (fits_as _ _ _ _ a0 P F _).mono ?_; rintro e w ⟨rfl, rfl⟩
  go_wp2_with fail
  go_ret2
  first
    | exact ⟨rfl, rfl, rfl, rfl⟩
    | exact ⟨ret_two (by omega) rfl, rfl, rfl, rfl⟩
theorem store18 (a x p : Int) (a0 : 0 ≤ a) (a1 : a ≤ 4294967295) (x0 : 0 ≤ x) (x1 : x ≤ 4294967295) (P : a % 4 = p) (w : World) : Calls Tryz.prog 96 #[.int .i64 18, .int .u32 a, .int .u32 x] w fun e w' => e = .returned (.tuple #[.int .u32 (Num.st 18 p x), .int .i64 (Num.sm 18 p)]) ∧ w'.Alike w := by
  subst P
  have A := Num.and3 a a0 a1
  rcases Num.quarter a with h | h | h | h <;> rw [h] at A ⊢
  · exact store18_0 a x a0 x0 x1 h w
  · exact store18_1 a x a0 x0 x1 h w
  · exact store18_2 a x a0 x0 x1 h w
  · exact store18_3 a x a0 x0 x1 h w
theorem storeNo (op a x : Int) (L : Hid (Num.iss op = false)) (w : World) : Calls Tryz.prog 96 #[.int .i64 op, .int .u32 a, .int .u32 x] w fun e w' => e = .returned (.tuple #[.int .u32 (0), .int .i64 (0)]) ∧ w'.Alike w := by
  go_enter Tryz.func96, Tryz.ntmps96
  go_wp2_with fail
  refine (stores_as _ _ L _).mono ?_; rintro e w ⟨rfl, rfl⟩
  go_wp2_with fail
  go_ret2
  exact ⟨rfl, rfl, rfl, rfl⟩
theorem store_as (op a x p : Int) (a0 : 0 ≤ a) (a1 : a ≤ 4294967295) (x0 : 0 ≤ x) (x1 : x ≤ 4294967295) (P : Hid (a % 4 = p)) (c m : Int) (C : Hid (Num.st op p x = c)) (M : Hid (Num.sm op p = m)) (w : World) : Calls Tryz.prog 96 #[.int .i64 op, .int .u32 a, .int .u32 x] w fun e w' => e = .returned (.tuple #[.int .u32 (c), .int .i64 (m)]) ∧ w'.Alike w := by
  obtain rfl : Num.st op p x = c := C
  obtain rfl : Num.sm op p = m := M
  by_cases h16 : op = 16
  · subst h16; exact store16 a x p a0 a1 x0 x1 P w
  by_cases h17 : op = 17
  · subst h17; exact store17 a x p a0 a1 x0 x1 P w
  by_cases h18 : op = 18
  · subst h18; exact store18 a x p a0 a1 x0 x1 P w
  have z : Num.st op p x = 0 := by unfold Num.st; simp only [h16, h17, h18, if_false]
  have y : Num.sm op p = 0 := by unfold Num.sm; simp only [h16, h17, h18, if_false]
  rw [z, y]
  exact storeNo op a x (show Num.iss op = false by unfold Num.iss; simp only [h16, h17, h18, if_false]) w
end Go.Proofs.YtpkbkbllhpdfiaaGreat.V.Walks
namespace Go.Proofs.YtpkbkbllhpdfiaaGreat.V.Walks
open Go.ChangeShapes Go.WideShapes Go.ChangeAt Go.RowKit
set_option linter.unusedVariables false
theorem ret_twoR {a b c d : Int} (h : a = b) (k : c = d) : Ending.returned (.tuple #[.int .u32 a, .int .i64 c]) = .returned (.tuple #[.int .u32 b, .int .i64 d]) := by rw [h, k]
set_option maxHeartbeats 1000000 in
theorem rstore16_0 (a x : Int) (a0 : 0 ≤ a) (x0 : 0 ≤ x) (x1 : x ≤ 4294967295) (P : Hid (a % 4 = 0)) (A : bits .and .u32 a 3 = 0) (w : World) : Calls Tryz.prog 115 #[.int .i64 16, .int .u32 a, .int .u32 x] w fun e w' => e = .returned (.tuple #[.int .u32 (x % 256), .int .i64 (1)]) ∧ w' = w := by
  have F : Hid (Num.ft 16 0 = true) := rfl
  have L : Hid (Num.iss 16 = true) := rfl
  have S : Hid (Num.sz 16 = 1) := rfl
  have M : bits .and .u32 x 255 = x % 256 := Num.and8 _ x0 x1
  go_enter Tryz.func115, Tryz.ntmps115
  go_wp2_with fail
  refine (rfits_as _ _ _ _ a0 P F _).mono ?_; rintro e w ⟨rfl, rfl⟩
  go_wp2_with fail
  refine (rsize_as _ _ S _).mono ?_; rintro e w ⟨rfl, rfl⟩
  go_wp2_with fail
  refine (rsize_as _ _ S _).mono ?_; rintro e w ⟨rfl, rfl⟩
  go_wp2_with fail
  refine (rsize_as _ _ S _).mono ?_; rintro e w ⟨rfl, rfl⟩
  go_wp2_with fail
  go_ret2
  first
    | exact ⟨rfl, rfl⟩
    | exact ⟨ret_twoR (by omega) rfl, rfl⟩
set_option maxHeartbeats 1000000 in
theorem rstore16_1 (a x : Int) (a0 : 0 ≤ a) (x0 : 0 ≤ x) (x1 : x ≤ 4294967295) (P : Hid (a % 4 = 1)) (A : bits .and .u32 a 3 = 1) (w : World) : Calls Tryz.prog 115 #[.int .i64 16, .int .u32 a, .int .u32 x] w fun e w' => e = .returned (.tuple #[.int .u32 (x % 256 * 256), .int .i64 (2)]) ∧ w' = w := by
  have F : Hid (Num.ft 16 1 = true) := rfl
  have L : Hid (Num.iss 16 = true) := rfl
  have S : Hid (Num.sz 16 = 1) := rfl
  have M : bits .and .u32 x 255 = x % 256 := Num.and8 _ x0 x1
  go_enter Tryz.func115, Tryz.ntmps115
  go_wp2_with fail
  refine (rfits_as _ _ _ _ a0 P F _).mono ?_; rintro e w ⟨rfl, rfl⟩
  go_wp2_with fail
  refine (rsize_as _ _ S _).mono ?_; rintro e w ⟨rfl, rfl⟩
  go_wp2_with fail
  refine (rsize_as _ _ S _).mono ?_; rintro e w ⟨rfl, rfl⟩
  go_wp2_with fail
  refine (rsize_as _ _ S _).mono ?_; rintro e w ⟨rfl, rfl⟩
  go_wp2_with fail
  go_ret2
  first
    | exact ⟨rfl, rfl⟩
    | exact ⟨ret_twoR (by omega) rfl, rfl⟩
set_option maxHeartbeats 1000000 in
theorem rstore16_2 (a x : Int) (a0 : 0 ≤ a) (x0 : 0 ≤ x) (x1 : x ≤ 4294967295) (P : Hid (a % 4 = 2)) (A : bits .and .u32 a 3 = 2) (w : World) : Calls Tryz.prog 115 #[.int .i64 16, .int .u32 a, .int .u32 x] w fun e w' => e = .returned (.tuple #[.int .u32 (x % 256 * 65536), .int .i64 (4)]) ∧ w' = w := by
  have F : Hid (Num.ft 16 2 = true) := rfl
  have L : Hid (Num.iss 16 = true) := rfl
  have S : Hid (Num.sz 16 = 1) := rfl
  have M : bits .and .u32 x 255 = x % 256 := Num.and8 _ x0 x1
  go_enter Tryz.func115, Tryz.ntmps115
  go_wp2_with fail
  refine (rfits_as _ _ _ _ a0 P F _).mono ?_; rintro e w ⟨rfl, rfl⟩
  go_wp2_with fail
  refine (rsize_as _ _ S _).mono ?_; rintro e w ⟨rfl, rfl⟩
  go_wp2_with fail
  refine (rsize_as _ _ S _).mono ?_; rintro e w ⟨rfl, rfl⟩
  go_wp2_with fail
  refine (rsize_as _ _ S _).mono ?_; rintro e w ⟨rfl, rfl⟩
  go_wp2_with fail
  go_ret2
  first
    | exact ⟨rfl, rfl⟩
    | exact ⟨ret_twoR (by omega) rfl, rfl⟩
set_option maxHeartbeats 1000000 in
theorem rstore16_3 (a x : Int) (a0 : 0 ≤ a) (x0 : 0 ≤ x) (x1 : x ≤ 4294967295) (P : Hid (a % 4 = 3)) (A : bits .and .u32 a 3 = 3) (w : World) : Calls Tryz.prog 115 #[.int .i64 16, .int .u32 a, .int .u32 x] w fun e w' => e = .returned (.tuple #[.int .u32 (x % 256 * 16777216), .int .i64 (8)]) ∧ w' = w := by
  have F : Hid (Num.ft 16 3 = true) := rfl
  have L : Hid (Num.iss 16 = true) := rfl
  have S : Hid (Num.sz 16 = 1) := rfl
  have M : bits .and .u32 x 255 = x % 256 := Num.and8 _ x0 x1
  go_enter Tryz.func115, Tryz.ntmps115
  go_wp2_with fail
  refine (rfits_as _ _ _ _ a0 P F _).mono ?_; rintro e w ⟨rfl, rfl⟩
  go_wp2_with fail
  refine (rsize_as _ _ S _).mono ?_; rintro e w ⟨rfl, rfl⟩
  go_wp2_with fail
  refine (rsize_as _ _ S _).mono ?_; rintro e w ⟨rfl, rfl⟩
  go_wp2_with fail
  refine (rsize_as _ _ S _).mono ?_; rintro e w ⟨rfl, rfl⟩
  go_wp2_with fail
  go_ret2
  first
    | exact ⟨rfl, rfl⟩
    | exact ⟨ret_twoR (by omega) rfl, rfl⟩
theorem rstore16 (a x p : Int) (a0 : 0 ≤ a) (a1 : a ≤ 4294967295) (x0 : 0 ≤ x) (x1 : x ≤ 4294967295) (P : a % 4 = p) (w : World) : Calls Tryz.prog 115 #[.int .i64 16, .int .u32 a, .int .u32 x] w fun e w' => e = .returned (.tuple #[.int .u32 (Num.st 16 p x), .int .i64 (Num.sm 16 p)]) ∧ w' = w := by
  subst P
  have A := Num.and3 a a0 a1
  rcases Num.quarter a with h | h | h | h <;> rw [h] at A ⊢
  · rw [show Num.st 16 0 x = x % 256 from Int.mul_one _]
    exact rstore16_0 a x a0 x0 x1 h A w
  · exact rstore16_1 a x a0 x0 x1 h A w
  · exact rstore16_2 a x a0 x0 x1 h A w
  · exact rstore16_3 a x a0 x0 x1 h A w
set_option maxHeartbeats 1000000 in
theorem rstore17_0 (a x : Int) (a0 : 0 ≤ a) (x0 : 0 ≤ x) (x1 : x ≤ 4294967295) (P : Hid (a % 4 = 0)) (A : bits .and .u32 a 3 = 0) (w : World) : Calls Tryz.prog 115 #[.int .i64 17, .int .u32 a, .int .u32 x] w fun e w' => e = .returned (.tuple #[.int .u32 (x % 65536), .int .i64 (3)]) ∧ w' = w := by
  have F : Hid (Num.ft 17 0 = true) := rfl
  have L : Hid (Num.iss 17 = true) := rfl
  have S : Hid (Num.sz 17 = 2) := rfl
  have M : bits .and .u32 x 65535 = x % 65536 := Num.and16 _ x0 x1
  go_enter Tryz.func115, Tryz.ntmps115
  go_wp2_with fail
  refine (rfits_as _ _ _ _ a0 P F _).mono ?_; rintro e w ⟨rfl, rfl⟩
  go_wp2_with fail
  refine (rsize_as _ _ S _).mono ?_; rintro e w ⟨rfl, rfl⟩
  go_wp2_with fail
  refine (rsize_as _ _ S _).mono ?_; rintro e w ⟨rfl, rfl⟩
  go_wp2_with fail
  refine (rsize_as _ _ S _).mono ?_; rintro e w ⟨rfl, rfl⟩
  go_wp2_with fail
  go_ret2
  first
    | exact ⟨rfl, rfl⟩
    | exact ⟨ret_twoR (by omega) rfl, rfl⟩
set_option maxHeartbeats 1000000 in
theorem rstore17_1 (a x : Int) (a0 : 0 ≤ a) (x0 : 0 ≤ x) (x1 : x ≤ 4294967295) (P : Hid (a % 4 = 1)) (A : bits .and .u32 a 3 = 1) (w : World) : Calls Tryz.prog 115 #[.int .i64 17, .int .u32 a, .int .u32 x] w fun e w' => e = .returned (.tuple #[.int .u32 (0), .int .i64 (0)]) ∧ w' = w := by
  have F : Hid (Num.ft 17 1 = false) := rfl
  have L : Hid (Num.iss 17 = true) := rfl
  have S : Hid (Num.sz 17 = 2) := rfl
  go_enter Tryz.func115, Tryz.ntmps115
  go_wp2_with fail
  refine (rfits_as _ _ _ _ a0 P F _).mono ?_; rintro e w ⟨rfl, rfl⟩
  go_wp2_with fail
  go_ret2
  first
    | exact ⟨rfl, rfl⟩
    | exact ⟨ret_twoR (by omega) rfl, rfl⟩
set_option maxHeartbeats 1000000 in
theorem rstore17_2 (a x : Int) (a0 : 0 ≤ a) (x0 : 0 ≤ x) (x1 : x ≤ 4294967295) (P : Hid (a % 4 = 2)) (A : bits .and .u32 a 3 = 2) (w : World) : Calls Tryz.prog 115 #[.int .i64 17, .int .u32 a, .int .u32 x] w fun e w' => e = .returned (.tuple #[.int .u32 (x % 65536 * 65536), .int .i64 (12)]) ∧ w' = w := by
  have F : Hid (Num.ft 17 2 = true) := rfl
  have L : Hid (Num.iss 17 = true) := rfl
  have S : Hid (Num.sz 17 = 2) := rfl
  have M : bits .and .u32 x 65535 = x % 65536 := Num.and16 _ x0 x1
  go_enter Tryz.func115, Tryz.ntmps115
  go_wp2_with fail
  refine (rfits_as _ _ _ _ a0 P F _).mono ?_; rintro e w ⟨rfl, rfl⟩
  go_wp2_with fail
  refine (rsize_as _ _ S _).mono ?_; rintro e w ⟨rfl, rfl⟩
  go_wp2_with fail
  refine (rsize_as _ _ S _).mono ?_; rintro e w ⟨rfl, rfl⟩
  go_wp2_with fail
  refine (rsize_as _ _ S _).mono ?_; rintro e w ⟨rfl, rfl⟩
  go_wp2_with fail
  go_ret2
  first
    | exact ⟨rfl, rfl⟩
    | exact ⟨ret_twoR (by omega) rfl, rfl⟩
set_option maxHeartbeats 1000000 in
theorem rstore17_3 (a x : Int) (a0 : 0 ≤ a) (x0 : 0 ≤ x) (x1 : x ≤ 4294967295) (P : Hid (a % 4 = 3)) (A : bits .and .u32 a 3 = 3) (w : World) : Calls Tryz.prog 115 #[.int .i64 17, .int .u32 a, .int .u32 x] w fun e w' => e = .returned (.tuple #[.int .u32 (0), .int .i64 (0)]) ∧ w' = w := by
  have F : Hid (Num.ft 17 3 = false) := rfl
  have L : Hid (Num.iss 17 = true) := rfl
  have S : Hid (Num.sz 17 = 2) := rfl
  go_enter Tryz.func115, Tryz.ntmps115
  go_wp2_with fail
  refine (rfits_as _ _ _ _ a0 P F _).mono ?_; rintro e w ⟨rfl, rfl⟩
  go_wp2_with fail
  go_ret2
  first
    | exact ⟨rfl, rfl⟩
    | exact ⟨ret_twoR (by omega) rfl, rfl⟩
theorem rstore17 (a x p : Int) (a0 : 0 ≤ a) (a1 : a ≤ 4294967295) (x0 : 0 ≤ x) (x1 : x ≤ 4294967295) (P : a % 4 = p) (w : World) : Calls Tryz.prog 115 #[.int .i64 17, .int .u32 a, .int .u32 x] w fun e w' => e = .returned (.tuple #[.int .u32 (Num.st 17 p x), .int .i64 (Num.sm 17 p)]) ∧ w' = w := by
  subst P
  have A := Num.and3 a a0 a1
  rcases Num.quarter a with h | h | h | h <;> rw [h] at A ⊢
  · rw [show Num.st 17 0 x = x % 65536 from Int.mul_one _]
    exact rstore17_0 a x a0 x0 x1 h A w
  · exact rstore17_1 a x a0 x0 x1 h A w
  · exact rstore17_2 a x a0 x0 x1 h A w
  · exact rstore17_3 a x a0 x0 x1 h A w
set_option maxHeartbeats 1000000 in
theorem rstore18_0 (a x : Int) (a0 : 0 ≤ a) (x0 : 0 ≤ x) (x1 : x ≤ 4294967295) (P : Hid (a % 4 = 0)) (A : bits .and .u32 a 3 = 0) (w : World) : Calls Tryz.prog 115 #[.int .i64 18, .int .u32 a, .int .u32 x] w fun e w' => e = .returned (.tuple #[.int .u32 (x), .int .i64 (15)]) ∧ w' = w := by
  have F : Hid (Num.ft 18 0 = true) := rfl
  have L : Hid (Num.iss 18 = true) := rfl
  have S : Hid (Num.sz 18 = 4) := rfl
  go_enter Tryz.func115, Tryz.ntmps115
  go_wp2_with fail
  refine (rfits_as _ _ _ _ a0 P F _).mono ?_; rintro e w ⟨rfl, rfl⟩
  go_wp2_with fail
  refine (rsize_as _ _ S _).mono ?_; rintro e w ⟨rfl, rfl⟩
  go_wp2_with fail
  refine (rsize_as _ _ S _).mono ?_; rintro e w ⟨rfl, rfl⟩
  go_wp2_with fail
  refine (rsize_as _ _ S _).mono ?_; rintro e w ⟨rfl, rfl⟩
  go_wp2_with fail
  go_ret2
  first
    | exact ⟨rfl, rfl⟩
    | exact ⟨ret_twoR (by omega) rfl, rfl⟩
set_option maxHeartbeats 1000000 in
theorem rstore18_1 (a x : Int) (a0 : 0 ≤ a) (x0 : 0 ≤ x) (x1 : x ≤ 4294967295) (P : Hid (a % 4 = 1)) (A : bits .and .u32 a 3 = 1) (w : World) : Calls Tryz.prog 115 #[.int .i64 18, .int .u32 a, .int .u32 x] w fun e w' => e = .returned (.tuple #[.int .u32 (0), .int .i64 (0)]) ∧ w' = w := by
  have F : Hid (Num.ft 18 1 = false) := rfl
  have L : Hid (Num.iss 18 = true) := rfl
  have S : Hid (Num.sz 18 = 4) := rfl
  go_enter Tryz.func115, Tryz.ntmps115
  go_wp2_with fail
  refine (rfits_as _ _ _ _ a0 P F _).mono ?_; rintro e w ⟨rfl, rfl⟩
  go_wp2_with fail
  go_ret2
  first
    | exact ⟨rfl, rfl⟩
    | exact ⟨ret_twoR (by omega) rfl, rfl⟩
set_option maxHeartbeats 1000000 in
theorem rstore18_2 (a x : Int) (a0 : 0 ≤ a) (x0 : 0 ≤ x) (x1 : x ≤ 4294967295) (P : Hid (a % 4 = 2)) (A : bits .and .u32 a 3 = 2) (w : World) : Calls Tryz.prog 115 #[.int .i64 18, .int .u32 a, .int .u32 x] w fun e w' => e = .returned (.tuple #[.int .u32 (0), .int .i64 (0)]) ∧ w' = w := by
  have F : Hid (Num.ft 18 2 = false) := rfl
  have L : Hid (Num.iss 18 = true) := rfl
  have S : Hid (Num.sz 18 = 4) := rfl
  go_enter Tryz.func115, Tryz.ntmps115
  go_wp2_with fail
  refine (rfits_as _ _ _ _ a0 P F _).mono ?_; rintro e w ⟨rfl, rfl⟩
  go_wp2_with fail
  go_ret2
  first
    | exact ⟨rfl, rfl⟩
    | exact ⟨ret_twoR (by omega) rfl, rfl⟩
set_option maxHeartbeats 1000000 in
theorem rstore18_3 (a x : Int) (a0 : 0 ≤ a) (x0 : 0 ≤ x) (x1 : x ≤ 4294967295) (P : Hid (a % 4 = 3)) (A : bits .and .u32 a 3 = 3) (w : World) : Calls Tryz.prog 115 #[.int .i64 18, .int .u32 a, .int .u32 x] w fun e w' => e = .returned (.tuple #[.int .u32 (0), .int .i64 (0)]) ∧ w' = w := by
  have F : Hid (Num.ft 18 3 = false) := rfl
  have L : Hid (Num.iss 18 = true) := rfl
  have S : Hid (Num.sz 18 = 4) := rfl
  go_enter Tryz.func115, Tryz.ntmps115
  go_wp2_with fail
  refine (rfits_as _ _ _ _ a0 P F _).mono ?_; rintro e w ⟨rfl, rfl⟩
  go_wp2_with fail
  go_ret2
  first
    | exact ⟨rfl, rfl⟩
    | exact ⟨ret_twoR (by omega) rfl, rfl⟩
theorem rstore18 (a x p : Int) (a0 : 0 ≤ a) (a1 : a ≤ 4294967295) (x0 : 0 ≤ x) (x1 : x ≤ 4294967295) (P : a % 4 = p) (w : World) : Calls Tryz.prog 115 #[.int .i64 18, .int .u32 a, .int .u32 x] w fun e w' => e = .returned (.tuple #[.int .u32 (Num.st 18 p x), .int .i64 (Num.sm 18 p)]) ∧ w' = w := by
  subst P
  have A := Num.and3 a a0 a1
  rcases Num.quarter a with h | h | h | h <;> rw [h] at A ⊢
  · exact rstore18_0 a x a0 x0 x1 h A w
  · exact rstore18_1 a x a0 x0 x1 h A w
  · exact rstore18_2 a x a0 x0 x1 h A w
  · exact rstore18_3 a x a0 x0 x1 h A w
theorem rstoreF (op a x p : Int) (a0 : 0 ≤ a) (P : Hid (a % 4 = p)) (F : Hid (Num.ft op p = false)) (w : World) : Calls Tryz.prog 115 #[.int .i64 op, .int .u32 a, .int .u32 x] w fun e w' => e = .returned (.tuple #[.int .u32 (0), .int .i64 (0)]) ∧ w' = w := by
  go_enter Tryz.func115, Tryz.ntmps115
  go_wp2_with fail
  refine (rfits_as _ _ _ _ a0 P F _).mono ?_; rintro e w ⟨rfl, rfl⟩
  go_wp2_with fail
  go_ret2
  exact ⟨rfl, rfl⟩
theorem rstoreS (op a x p : Int) (a0 : 0 ≤ a) (P : Hid (a % 4 = p)) (F : Hid (Num.ft op p = true)) (ho : op < 16) (w : World) : Calls Tryz.prog 115 #[.int .i64 op, .int .u32 a, .int .u32 x] w fun e w' => e = .returned (.tuple #[.int .u32 (0), .int .i64 (0)]) ∧ w' = w := by
  go_enter Tryz.func115, Tryz.ntmps115
  go_wp2_with fail
  refine (rfits_as _ _ _ _ a0 P F _).mono ?_; rintro e w ⟨rfl, rfl⟩
  go_wp2_with fail
  go_ret2
  exact ⟨rfl, rfl⟩
theorem rstore_as (op a x p : Int) (a0 : 0 ≤ a) (a1 : a ≤ 4294967295) (x0 : 0 ≤ x) (x1 : x ≤ 4294967295) (P : Hid (a % 4 = p)) (c m : Int) (C : Hid (Num.st op p x = c)) (M : Hid (Num.sm op p = m)) (w : World) : Calls Tryz.prog 115 #[.int .i64 op, .int .u32 a, .int .u32 x] w fun e w' => e = .returned (.tuple #[.int .u32 (c), .int .i64 (m)]) ∧ w' = w := by
  obtain rfl : Num.st op p x = c := C
  obtain rfl : Num.sm op p = m := M
  by_cases h16 : op = 16
  · subst h16; exact rstore16 a x p a0 a1 x0 x1 P w
  by_cases h17 : op = 17
  · subst h17; exact rstore17 a x p a0 a1 x0 x1 P w
  by_cases h18 : op = 18
  · subst h18; exact rstore18 a x p a0 a1 x0 x1 P w
  have z : Num.st op p x = 0 := by unfold Num.st; simp only [h16, h17, h18, if_false]
  have y : Num.sm op p = 0 := by unfold Num.sm; simp only [h16, h17, h18, if_false]
  rw [z, y]
  have k : Num.ft op p = true → op < 16 := by
    intro h
    by_cases h11 : op = 11
    · omega
    by_cases h12 : op = 12
    · omega
    by_cases h13 : op = 13
    · omega
    by_cases h14 : op = 14
    · omega
    by_cases h15 : op = 15
    · omega
    unfold Num.ft at h
    simp only [h11, h12, h13, h14, h15, h16, h17, h18, if_false] at h
    exact absurd h (by decide)
  cases f : Num.ft op p
  · exact rstoreF op a x p a0 P f w
  · exact rstoreS op a x p a0 P f (k f) w
end Go.Proofs.YtpkbkbllhpdfiaaGreat.V.Walks
namespace Go.Proofs.YtpkbkbllhpdfiaaGreat.Walks
open Go.ChangeShapes Go.WideShapes Go.ChangeAt Go.RowKit
set_option linter.unusedVariables false
/-- nothing but block g has turned -/
structure Only (g : Nat) (w w' : World) : Prop where
  os : w'.os = w.os
  output : w'.output = w.output
  size : w'.heap.size = w.heap.size
  block : ∀ k, k ≠ g → w'.heap[k]? = w.heap[k]?
theorem Only.trans {g : Nat} {u v w : World} (h : Only g u v) (k : Only g v w) : Only g u w :=
  ⟨k.os.trans h.os, k.output.trans h.output, k.size.trans h.size, fun i hi => (k.block i hi).trans (h.block i hi)⟩
theorem Only.cell {g : Nat} {w w' : World} (h : Only g w w') (k o : Nat) (hk : k ≠ g) : w'.cell? ⟨k, o, none⟩ = w.cell? ⟨k, o, none⟩ := World.cell?_of_block (w := w) (h.block k hk)
theorem Only.frozen {g : Nat} {w w' : World} (h : Only g w w') (k o : Nat) (hk : k ≠ g) : w'.frozen? ⟨k, o, none⟩ = w.frozen? ⟨k, o, none⟩ := World.frozen?_of_block (w := w) (h.block k hk)
/-- a tape lies at block g: its numbers, and how far it was read -/
structure TapeAt (g : Nat) (A : Option Addr) (len cap : Nat) (zs : Nat → Int) (i : Nat) (w : World) : Prop where
  hs : w.cell? ⟨g, 0, none⟩ = some (.slice A len cap)
  ha : w.cell? ⟨g, 1, none⟩ = some (.int .i64 i)
  fz : w.frozen? ⟨g, 1, none⟩ = false
  hz : ∀ j, j < len → ∃ b o, A = some ⟨b, o, none⟩ ∧ b ≠ g ∧ w.cell? ⟨b, o + j, none⟩ = some (.int .i64 (zs j))
/-- what Within(n, 0, 2^30) is -/
def wth (n : Int) : Int := if 0 ≤ n ∧ n ≤ 1073741824 then n else n % 1073741825
theorem wth_in (n : Int) : 0 ≤ wth n ∧ wth n ≤ 1073741824 := by
  unfold wth; split <;> omega
theorem neg_tm (n : Int) (h : n < 0) : n.tmod 1073741825 = -((-n) % 1073741825) := by
  have e : n.tmod 1073741825 = -((-n).tmod 1073741825) := by rw [Int.neg_tmod, Int.neg_neg]
  rw [e, Int.tmod_eq_emod_of_nonneg (by omega)]
set_option maxHeartbeats 2000000 in
theorem within_in (n : Int) (h0 : 0 ≤ n) (h1 : n ≤ 1073741824) (w : World) :
    Calls Tryz.prog 13 #[.int .i64 n, .int .i64 0, .int .i64 1073741824] w fun e w' => e = .returned (.int .i64 n) ∧ w' = w := by
  go_enter Tryz.func13, Tryz.ntmps13
  go_wp2
  go_ret
  exact ⟨rfl, rfl⟩
set_option maxHeartbeats 2000000 in
theorem within_out (n m r : Int) (h : n < 0 ∨ 1073741824 < n) (M : n.tmod 1073741825 = m) (m0 : -1073741824 ≤ m) (m1 : m ≤ 1073741824) (R : Hid (r = if m < 0 then m + 1073741825 else m)) (w : World) :
    Calls Tryz.prog 13 #[.int .i64 n, .int .i64 0, .int .i64 1073741824] w fun e w' => e = .returned (.int .i64 r) ∧ w' = w := by
  rw [R.out]
  rcases h with h | h <;> by_cases x : m < 0
  · rw [if_pos x]
    go_enter Tryz.func13, Tryz.ntmps13
    go_wp2
    go_ret
    exact ⟨ret_int (by omega), rfl⟩
  · rw [if_neg x]
    go_enter Tryz.func13, Tryz.ntmps13
    go_wp2
    go_ret
    exact ⟨ret_int (by omega), rfl⟩
  · rw [if_pos x]
    go_enter Tryz.func13, Tryz.ntmps13
    go_wp2
    go_ret
    exact ⟨ret_int (by omega), rfl⟩
  · rw [if_neg x]
    go_enter Tryz.func13, Tryz.ntmps13
    go_wp2
    go_ret
    exact ⟨ret_int (by omega), rfl⟩
theorem within_as (n r : Int) (R : Hid (wth n = r)) (w : World) :
    Calls Tryz.prog 13 #[.int .i64 n, .int .i64 0, .int .i64 1073741824] w fun e w' => e = .returned (.int .i64 r) ∧ w' = w := by
  rw [← R.out, wth]
  by_cases h : 0 ≤ n ∧ n ≤ 1073741824
  · rw [if_pos h]; exact within_in n h.1 h.2 w
  · rw [if_neg h]
    by_cases x : n < 0
    · have e := neg_tm n x
      refine within_out n _ _ (.inl x) rfl (by omega) (by omega) ?_ w
      unfold Hid
      rw [e]
      split <;> omega
    · have e : n.tmod 1073741825 = n % 1073741825 := Int.tmod_eq_emod_of_nonneg (by omega)
      refine within_out n _ _ (.inr (by omega)) rfl (by omega) (by omega) ?_ w
      unfold Hid
      rw [e]
      split <;> omega
set_option maxHeartbeats 4000000 in
theorem next_end (n : Int) (n0 : 1 ≤ n) (g : Nat) (A : Option Addr) (len cap i : Nat) (hi : (len : Int) ≤ i) (w : World)
    (c0 : w.cell? ⟨g, 0, none⟩ = some (.slice A len cap)) (c1 : w.cell? ⟨g, 1, none⟩ = some (.int .i64 i)) :
    Calls Tryz.prog 25 #[.pointer (some ⟨g, 0, none⟩), .int .i64 n] w fun e w' => e = .returned (.int .i64 0) ∧ w'.Alike w := by
  have hd : decide ((len : Int) ≤ i) = true := decide_eq_true hi
  go_enter Tryz.func25, Tryz.ntmps25
  go_wp2_with fail
  go_quiet (fail)
  go_wp2_with fail
  go_ret
  exact ⟨rfl, rfl, rfl, rfl⟩
set_option maxHeartbeats 4000000 in
theorem next_more (n z r q : Int) (n0 : 1 ≤ n) (n1 : n ≤ 2147483648) (g b o len cap i : Nat) (hi : (i : Int) < len) (i0 : (0 : Int) ≤ i) (i1 : (i : Int) ≤ 1000) (w : World) (ne : ¬ b = g) (ne' : ¬ g = b)
    (c0 : w.cell? ⟨g, 0, none⟩ = some (.slice (some ⟨b, o, none⟩) len cap)) (c1 : w.cell? ⟨g, 1, none⟩ = some (.int .i64 i)) (fz : w.frozen? ⟨g, 1, none⟩ = false) (c2 : w.cell? ⟨b, o + i, none⟩ = some (.int .i64 z))
    (R : Hid (wth z = r)) (r0 : 0 ≤ r) (r1 : r ≤ 1073741824) (Q : r.tmod n = q) :
    Calls Tryz.prog 25 #[.pointer (some ⟨g, 0, none⟩), .int .i64 n] w fun e w' => e = .returned (.int .i64 q) ∧ w'.Alike (w.setCell ⟨g, 1, none⟩ (.int .i64 (i + 1))) := by
  have hd : decide (len ≤ i) = false := decide_eq_false (by omega)
  have hn : decide (n < 1) = false := decide_eq_false (by omega)
  go_enter Tryz.func25, Tryz.ntmps25
  go_wp2_with fail
  go_quiet (fail)
  go_wp2_with fail
  go_quiet ((go_at_call 13; exact Calls.quiet_of_same (within_as _ _ R _)))
  go_wp2_with fail
  go_ret
  exact ⟨rfl, rfl, rfl, rfl⟩
end Go.Proofs.YtpkbkbllhpdfiaaGreat.Walks
namespace Go.Proofs.YtpkbkbllhpdfiaaGreat.Walks
open Go.ChangeShapes Go.WideShapes Go.ChangeAt Go.RowKit
set_option linter.unusedVariables false
theorem Only.refl (g : Nat) (w : World) : Only g w w := ⟨rfl, rfl, rfl, fun _ _ => rfl⟩
theorem Only.alike {g : Nat} {u w w' : World} (h : Only g u w) (k : w'.Alike w) : Only g u w' := ⟨k.2.1.trans h.os, k.2.2.trans h.output, by rw [k.1]; exact h.size, fun i hi => by rw [k.1]; exact h.block i hi⟩
theorem Only.set (g o : Nat) (v : Value) (w : World) : Only g w (w.setCell ⟨g, o, none⟩ v) := ⟨rfl, rfl, World.size_setCell _ _ _, fun k hk => Below.heap_setCell _ _ _ k hk⟩
theorem cell_alike {w w' : World} (k : w'.Alike w) (a : Addr) : w'.cell? a = w.cell? a := by unfold World.cell?; rw [k.1]
theorem frozen_alike {w w' : World} (k : w'.Alike w) (a : Addr) : w'.frozen? a = w.frozen? a := by unfold World.frozen?; rw [k.1]
theorem TapeAt.alike {g : Nat} {A : Option Addr} {len cap i : Nat} {zs : Nat → Int} {w w' : World} (h : TapeAt g A len cap zs i w) (k : w'.Alike w) : TapeAt g A len cap zs i w' :=
  ⟨by rw [cell_alike k]; exact h.hs, by rw [cell_alike k]; exact h.ha, by rw [frozen_alike k]; exact h.fz, fun j hj => by
    obtain ⟨b, o, h1, h2, h3⟩ := h.hz j hj
    exact ⟨b, o, h1, h2, by rw [cell_alike k]; exact h3⟩⟩
theorem TapeAt.step {g : Nat} {A : Option Addr} {len cap i : Nat} {zs : Nat → Int} {w : World} (h : TapeAt g A len cap zs i w) : TapeAt g A len cap zs (i + 1) (w.setCell ⟨g, 1, none⟩ (.int .i64 ((i : Int) + 1))) :=
  ⟨by rw [World.cell?_setCell_other (h := by simp)]; exact h.hs, by rw [World.cell?_setCell_same (h := h.ha), Int.natCast_add]; rfl, by rw [World.frozen?_setCell]; exact h.fz, fun j hj => by
    obtain ⟨b, o, h1, h2, h3⟩ := h.hz j hj
    exact ⟨b, o, h1, h2, by rw [(Only.set g 1 _ w).cell _ _ h2]; exact h3⟩⟩
theorem next_as (n : Int) (n0 : 1 ≤ n) (n1 : n ≤ 2147483648) (g : Nat) (A : Option Addr) (len cap i : Nat) (zs : Nat → Int) (w : World) (T : TapeAt g A len cap zs i w) (i1 : i ≤ 1000) :
    Calls Tryz.prog 25 #[.pointer (some ⟨g, 0, none⟩), .int .i64 n] w fun e w' => ∃ q i' : Nat, e = .returned (.int .i64 (q : Int)) ∧ (q : Int) < n ∧ i' ≤ i + 1 ∧ TapeAt g A len cap zs i' w' ∧ Only g w w' := by
  by_cases h : len ≤ i
  · refine (next_end n n0 g A len cap i (by omega) w T.hs T.ha).mono fun e w' hh => ?_
    exact ⟨0, i, hh.1, by omega, by omega, T.alike hh.2, (Only.refl g w).alike hh.2⟩
  · obtain ⟨b, o, h1, h2, h3⟩ := T.hz i (by omega)
    obtain ⟨r0, r1⟩ := wth_in (zs i)
    have e : (wth (zs i)).tmod n = wth (zs i) % n := Int.tmod_eq_emod_of_nonneg r0
    have q0 : 0 ≤ wth (zs i) % n := Int.emod_nonneg _ (by omega)
    have q1 : wth (zs i) % n < n := Int.emod_lt_of_pos _ (by omega)
    obtain ⟨q, hq⟩ := Int.eq_ofNat_of_zero_le q0
    subst h1
    refine (next_more n (zs i) _ q n0 n1 g b o len cap i (by omega) (by omega) (by omega) w h2 (fun x => h2 x.symm) T.hs T.ha T.fz h3 rfl r0 r1 (by rw [e, hq])).mono fun e w' hh => ?_
    exact ⟨q, i + 1, hh.1, by omega, by omega, T.step.alike hh.2, (Only.set g 1 _ w).alike hh.2⟩
end Go.Proofs.YtpkbkbllhpdfiaaGreat.Walks
namespace Go.Proofs.YtpkbkbllhpdfiaaGreat.Walks
open Go.ChangeShapes Go.WideShapes Go.ChangeAt Go.RowKit
set_option linter.unusedVariables false
theorem Fr.drewN {u w : World} (h : Fr u w) (n : Nat) : Fr u (w.drewN n) := h.alike ⟨rfl, rfl, rfl⟩
end Go.Proofs.YtpkbkbllhpdfiaaGreat.Walks

namespace Go.Proofs.YtpkbkbllhpdfiaaGreat.Num
open Go.ChangeShapes Go.WideShapes Go.ChangeAt Go.RowKit
set_option linter.unusedVariables false
theorem put_nat (x k s n : Nat) (hk : k < 2 ^ n) : (2 ^ (s + n) * (x / 2 ^ (s + n)) + x % 2 ^ s) ||| k * 2 ^ s = 2 ^ (s + n) * (x / 2 ^ (s + n)) + (k * 2 ^ s + x % 2 ^ s) := by
  have c : x % 2 ^ s < 2 ^ s := Nat.mod_lt _ (Nat.two_pow_pos s)
  have e : 2 ^ (s + n) = 2 ^ n * 2 ^ s := by rw [Nat.pow_add, Nat.mul_comm]
  have l : (k + 1) * 2 ^ s ≤ 2 ^ n * 2 ^ s := Nat.mul_le_mul_right _ hk
  rw [Nat.add_mul] at l
  have c' : x % 2 ^ s < 2 ^ (s + n) := by omega
  have d : k * 2 ^ s + x % 2 ^ s < 2 ^ (s + n) := by omega
  rw [← nat_join (s + n) _ _ (Nat.mul_mod_right _ _) c', Nat.or_assoc, Nat.or_comm (x % 2 ^ s), nat_join s _ _ (Nat.mul_mod_left _ _) c, nat_join (s + n) _ _ (Nat.mul_mod_right _ _) d]
theorem put_eq (a s n : Nat) (h : a / 2 ^ s % 2 ^ n = 0) : 2 ^ (s + n) * (a / 2 ^ (s + n)) + a % 2 ^ s = a := by
  have e1 := Nat.div_add_mod a (2 ^ s)
  have e2 := Nat.div_add_mod (a / 2 ^ s) (2 ^ n)
  rw [h, Nat.add_zero, Nat.div_div_eq_div_mul, ← Nat.pow_add] at e2
  rw [← e2, ← Nat.mul_assoc, ← Nat.pow_add] at e1
  exact e1
theorem put_gen (s n : Nat) (p q x k : Int) (hp : ((2 ^ s : Nat) : Int) = p) (hq : ((2 ^ n : Nat) : Int) = q) (x0 : 0 ≤ x) (x1 : x ≤ 4294967295) (k0 : 0 ≤ k) (k1 : k < q) (kp : k * p ≤ 4294967295) (h : x / p % q = 0) : bits .or .u32 x (k * p) = x + k * p := by
  subst hp hq
  obtain ⟨a, rfl⟩ := Int.eq_ofNat_of_zero_le x0
  obtain ⟨b, rfl⟩ := Int.eq_ofNat_of_zero_le k0
  have hn : a / 2 ^ s % 2 ^ n = 0 := by
    have : ((a / 2 ^ s % 2 ^ n : Nat) : Int) = 0 := by rw [Int.natCast_emod, Int.natCast_ediv]; exact h
    exact_mod_cast this
  have p := put_nat a b s n (by exact_mod_cast k1)
  have e := put_eq a s n hn
  rw [e] at p
  have kp' : b * 2 ^ s ≤ 4294967295 := by
    rw [← Int.natCast_mul] at kp
    generalize b * 2 ^ s = z at kp ⊢
    omega
  rw [show ((b : Int) * ((2 ^ s : Nat) : Int)) = ((b * 2 ^ s : Nat) : Int) by rw [Int.natCast_mul], u32_or_nat _ _ (by omega) (by omega), p, ← Int.natCast_add]
  congr 1
  omega
theorem put5_7 (x k : Int) (x0 : 0 ≤ x) (x1 : x ≤ 4294967295) (k0 : 0 ≤ k) (k1 : k ≤ 31) (h : x / 128 % 32 = 0) : bits .or .u32 x (k * 128) = x + k * 128 := put_gen 7 5 128 32 x k (by decide) (by decide) x0 x1 k0 (by omega) (by omega) h
theorem put5_15 (x k : Int) (x0 : 0 ≤ x) (x1 : x ≤ 4294967295) (k0 : 0 ≤ k) (k1 : k ≤ 31) (h : x / 32768 % 32 = 0) : bits .or .u32 x (k * 32768) = x + k * 32768 := put_gen 15 5 32768 32 x k (by decide) (by decide) x0 x1 k0 (by omega) (by omega) h
theorem put5_20 (x k : Int) (x0 : 0 ≤ x) (x1 : x ≤ 4294967295) (k0 : 0 ≤ k) (k1 : k ≤ 31) (h : x / 1048576 % 32 = 0) : bits .or .u32 x (k * 1048576) = x + k * 1048576 := put_gen 20 5 1048576 32 x k (by decide) (by decide) x0 x1 k0 (by omega) (by omega) h
theorem put12_20 (x k : Int) (x0 : 0 ≤ x) (x1 : x ≤ 4294967295) (k0 : 0 ≤ k) (k1 : k ≤ 4095) (h : x / 1048576 % 4096 = 0) : bits .or .u32 x (k * 1048576) = x + k * 1048576 := put_gen 20 12 1048576 4096 x k (by decide) (by decide) x0 x1 k0 (by omega) (by omega) h
theorem put7_25 (x k : Int) (x0 : 0 ≤ x) (x1 : x ≤ 4294967295) (k0 : 0 ≤ k) (k1 : k ≤ 127) (h : x / 33554432 % 128 = 0) : bits .or .u32 x (k * 33554432) = x + k * 33554432 := put_gen 25 7 33554432 128 x k (by decide) (by decide) x0 x1 k0 (by omega) (by omega) h
theorem put6_25 (x k : Int) (x0 : 0 ≤ x) (x1 : x ≤ 4294967295) (k0 : 0 ≤ k) (k1 : k ≤ 63) (h : x / 33554432 % 64 = 0) : bits .or .u32 x (k * 33554432) = x + k * 33554432 := put_gen 25 6 33554432 64 x k (by decide) (by decide) x0 x1 k0 (by omega) (by omega) h
theorem put4_8 (x k : Int) (x0 : 0 ≤ x) (x1 : x ≤ 4294967295) (k0 : 0 ≤ k) (k1 : k ≤ 15) (h : x / 256 % 16 = 0) : bits .or .u32 x (k * 256) = x + k * 256 := put_gen 8 4 256 16 x k (by decide) (by decide) x0 x1 k0 (by omega) (by omega) h
theorem put1_7 (x k : Int) (x0 : 0 ≤ x) (x1 : x ≤ 4294967295) (k0 : 0 ≤ k) (k1 : k ≤ 1) (h : x / 128 % 2 = 0) : bits .or .u32 x (k * 128) = x + k * 128 := put_gen 7 1 128 2 x k (by decide) (by decide) x0 x1 k0 (by omega) (by omega) h
theorem put1_31 (x k : Int) (x0 : 0 ≤ x) (x1 : x ≤ 4294967295) (k0 : 0 ≤ k) (k1 : k ≤ 1) (h : x / 2147483648 % 2 = 0) : bits .or .u32 x (k * 2147483648) = x + k * 2147483648 := put_gen 31 1 2147483648 2 x k (by decide) (by decide) x0 x1 k0 (by omega) (by omega) h
theorem put20_12 (x k : Int) (x0 : 0 ≤ x) (x1 : x ≤ 4294967295) (k0 : 0 ≤ k) (k1 : k ≤ 1048575) (h : x / 4096 % 1048576 = 0) : bits .or .u32 x (k * 4096) = x + k * 4096 := put_gen 12 20 4096 1048576 x k (by decide) (by decide) x0 x1 k0 (by omega) (by omega) h
theorem put10_21 (x k : Int) (x0 : 0 ≤ x) (x1 : x ≤ 4294967295) (k0 : 0 ≤ k) (k1 : k ≤ 1023) (h : x / 2097152 % 1024 = 0) : bits .or .u32 x (k * 2097152) = x + k * 2097152 := put_gen 21 10 2097152 1024 x k (by decide) (by decide) x0 x1 k0 (by omega) (by omega) h
theorem put1_20 (x k : Int) (x0 : 0 ≤ x) (x1 : x ≤ 4294967295) (k0 : 0 ≤ k) (k1 : k ≤ 1) (h : x / 1048576 % 2 = 0) : bits .or .u32 x (k * 1048576) = x + k * 1048576 := put_gen 20 1 1048576 2 x k (by decide) (by decide) x0 x1 k0 (by omega) (by omega) h
theorem put8_12 (x k : Int) (x0 : 0 ≤ x) (x1 : x ≤ 4294967295) (k0 : 0 ≤ k) (k1 : k ≤ 255) (h : x / 4096 % 256 = 0) : bits .or .u32 x (k * 4096) = x + k * 4096 := put_gen 12 8 4096 256 x k (by decide) (by decide) x0 x1 k0 (by omega) (by omega) h
theorem or_assoc (x y z : Int) (x0 : 0 ≤ x) (x1 : x ≤ 4294967295) (y0 : 0 ≤ y) (y1 : y ≤ 4294967295) (z0 : 0 ≤ z) (z1 : z ≤ 4294967295) : bits .or .u32 x (bits .or .u32 y z) = bits .or .u32 (bits .or .u32 x y) z := by
  obtain ⟨a, rfl⟩ := Int.eq_ofNat_of_zero_le x0
  obtain ⟨b, rfl⟩ := Int.eq_ofNat_of_zero_le y0
  obtain ⟨c, rfl⟩ := Int.eq_ofNat_of_zero_le z0
  have ha : a < 2 ^ 32 := by omega
  have hb : b < 2 ^ 32 := by omega
  have hc : c < 2 ^ 32 := by omega
  have h1 : b ||| c < 2 ^ 32 := Nat.or_lt_two_pow hb hc
  have h2 : a ||| b < 2 ^ 32 := Nat.or_lt_two_pow ha hb
  rw [u32_or_nat b c hb hc, u32_or_nat a _ ha h1, u32_or_nat a b ha hb, u32_or_nat _ c h2 hc, Nat.or_assoc]
theorem sumI (c d a m : Int) (c0 : 0 ≤ c) (c1 : c ≤ 32767) (x : c / 128 % 32 = 0) (d0 : 0 ≤ d) (d1 : d ≤ 31) (a0 : 0 ≤ a) (a1 : a ≤ 31) (m0 : 0 ≤ m) (m1 : m ≤ 4095) :
    bits .or .u32 c (bits .or .u32 (bits .or .u32 (d * 128) (a * 32768)) (m * 1048576)) = c + (d * 128 + a * 32768 + m * 1048576) := by
  rw [or_assoc c _ _ c0 (by omega) (bits_lo_u32 _ _ _) (bits_hi_u32 _ _ _) (by omega) (by omega), or_assoc c _ _ c0 (by omega) (by omega) (by omega) (by omega) (by omega),
    put5_7 c d c0 (by omega) d0 d1 x, put5_15 _ a (by omega) (by omega) a0 a1 (by omega), put12_20 _ m (by omega) (by omega) m0 m1 (by omega)]
  omega
theorem sumR (c d a b : Int) (c0 : 0 ≤ c) (c1 : c ≤ 4294967295) (x : c / 128 % 32 = 0) (y : c / 32768 % 1024 = 0) (d0 : 0 ≤ d) (d1 : d ≤ 31) (a0 : 0 ≤ a) (a1 : a ≤ 31) (m0 : 0 ≤ b) (m1 : b ≤ 31) :
    bits .or .u32 c (bits .or .u32 (bits .or .u32 (d * 128) (a * 32768)) (b * 1048576)) = c + (d * 128 + a * 32768 + b * 1048576) := by
  rw [or_assoc c _ _ c0 (by omega) (bits_lo_u32 _ _ _) (bits_hi_u32 _ _ _) (by omega) (by omega), or_assoc c _ _ c0 (by omega) (by omega) (by omega) (by omega) (by omega),
    put5_7 c d c0 (by omega) d0 d1 x, put5_15 _ a (by omega) (by omega) a0 a1 (by omega), put5_20 _ b (by omega) (by omega) m0 m1 (by omega)]
  omega
theorem sumS (c a b p q : Int) (c0 : 0 ≤ c) (c1 : c ≤ 32767) (x : c / 128 % 32 = 0) (a0 : 0 ≤ a) (a1 : a ≤ 31) (b0 : 0 ≤ b) (b1 : b ≤ 31) (p0 : 0 ≤ p) (p1 : p ≤ 31) (q0 : 0 ≤ q) (q1 : q ≤ 127) :
    bits .or .u32 c (bits .or .u32 (bits .or .u32 (bits .or .u32 (a * 32768) (b * 1048576)) (p * 128)) (q * 33554432)) = c + (a * 32768 + b * 1048576 + p * 128 + q * 33554432) := by
  rw [or_assoc c _ _ c0 (by omega) (bits_lo_u32 _ _ _) (bits_hi_u32 _ _ _) (by omega) (by omega), or_assoc c _ _ c0 (by omega) (bits_lo_u32 _ _ _) (bits_hi_u32 _ _ _) (by omega) (by omega), or_assoc c _ _ c0 (by omega) (by omega) (by omega) (by omega) (by omega),
    put5_15 c a c0 (by omega) a0 a1 (by omega), put5_20 _ b (by omega) (by omega) b0 b1 (by omega), put5_7 _ p (by omega) (by omega) p0 p1 (by omega), put7_25 _ q (by omega) (by omega) q0 q1 (by omega)]
  omega
theorem sumB (c a b p q r s : Int) (c0 : 0 ≤ c) (c1 : c ≤ 32767) (x : c / 128 % 32 = 0) (a0 : 0 ≤ a) (a1 : a ≤ 31) (b0 : 0 ≤ b) (b1 : b ≤ 31) (p0 : 0 ≤ p) (p1 : p ≤ 1) (q0 : 0 ≤ q) (q1 : q ≤ 15) (r0 : 0 ≤ r) (r1 : r ≤ 63) (s0 : 0 ≤ s) (s1 : s ≤ 1) :
    bits .or .u32 c (bits .or .u32 (bits .or .u32 (bits .or .u32 (bits .or .u32 (bits .or .u32 (a * 32768) (b * 1048576)) (p * 128)) (q * 256)) (r * 33554432)) (s * 2147483648)) = c + (a * 32768 + b * 1048576 + p * 128 + q * 256 + r * 33554432 + s * 2147483648) := by
  rw [or_assoc c _ _ c0 (by omega) (bits_lo_u32 _ _ _) (bits_hi_u32 _ _ _) (by omega) (by omega), or_assoc c _ _ c0 (by omega) (bits_lo_u32 _ _ _) (bits_hi_u32 _ _ _) (by omega) (by omega), or_assoc c _ _ c0 (by omega) (bits_lo_u32 _ _ _) (bits_hi_u32 _ _ _) (by omega) (by omega), or_assoc c _ _ c0 (by omega) (bits_lo_u32 _ _ _) (bits_hi_u32 _ _ _) (by omega) (by omega), or_assoc c _ _ c0 (by omega) (by omega) (by omega) (by omega) (by omega),
    put5_15 c a c0 (by omega) a0 a1 (by omega), put5_20 _ b (by omega) (by omega) b0 b1 (by omega), put1_7 _ p (by omega) (by omega) p0 p1 (by omega), put4_8 _ q (by omega) (by omega) q0 q1 (by omega), put6_25 _ r (by omega) (by omega) r0 r1 (by omega), put1_31 _ s (by omega) (by omega) s0 s1 (by omega)]
  omega
theorem sumU (c d m : Int) (c0 : 0 ≤ c) (c1 : c ≤ 127) (d0 : 0 ≤ d) (d1 : d ≤ 31) (m0 : 0 ≤ m) (m1 : m ≤ 1048575) :
    bits .or .u32 c (bits .or .u32 (d * 128) (m * 4096)) = c + (d * 128 + m * 4096) := by
  rw [or_assoc c _ _ c0 (by omega) (by omega) (by omega) (by omega) (by omega), put5_7 c d c0 (by omega) d0 d1 (by omega), put20_12 _ m (by omega) (by omega) m0 m1 (by omega)]
  omega
theorem sumJ (c d p q r s : Int) (c0 : 0 ≤ c) (c1 : c ≤ 127) (d0 : 0 ≤ d) (d1 : d ≤ 31) (p0 : 0 ≤ p) (p1 : p ≤ 255) (q0 : 0 ≤ q) (q1 : q ≤ 1) (r0 : 0 ≤ r) (r1 : r ≤ 1023) (s0 : 0 ≤ s) (s1 : s ≤ 1) :
    bits .or .u32 c (bits .or .u32 (bits .or .u32 (bits .or .u32 (bits .or .u32 (d * 128) (p * 4096)) (q * 1048576)) (r * 2097152)) (s * 2147483648)) = c + (d * 128 + p * 4096 + q * 1048576 + r * 2097152 + s * 2147483648) := by
  rw [or_assoc c _ _ c0 (by omega) (bits_lo_u32 _ _ _) (bits_hi_u32 _ _ _) (by omega) (by omega), or_assoc c _ _ c0 (by omega) (bits_lo_u32 _ _ _) (bits_hi_u32 _ _ _) (by omega) (by omega), or_assoc c _ _ c0 (by omega) (bits_lo_u32 _ _ _) (bits_hi_u32 _ _ _) (by omega) (by omega), or_assoc c _ _ c0 (by omega) (by omega) (by omega) (by omega) (by omega),
    put5_7 c d c0 (by omega) d0 d1 (by omega), put8_12 _ p (by omega) (by omega) p0 p1 (by omega), put1_20 _ q (by omega) (by omega) q0 q1 (by omega), put10_21 _ r (by omega) (by omega) r0 r1 (by omega), put1_31 _ s (by omega) (by omega) s0 s1 (by omega)]
  omega
end Go.Proofs.YtpkbkbllhpdfiaaGreat.Num
namespace Go.Proofs.YtpkbkbllhpdfiaaGreat.Num
open Go.ChangeShapes Go.WideShapes Go.ChangeAt Go.RowKit
set_option linter.unusedVariables false
/-- what the bits are that all words of an op have -/
structure Cd (o c : Int) : Prop where
  c0 : 0 ≤ c
  c1 : c ≤ 4294967295
  x : c / 128 % 32 = 0
  y : c / 32768 % 32 = 0
  small : (4 ≤ o ∧ o ≤ 24) ∨ 50 ≤ o → c ≤ 32767
  reg : 25 ≤ o ∧ o ≤ 45 → c / 32768 % 1024 = 0
  few : o ≤ 3 → c ≤ 127
theorem cd_is (o : Int) (h0 : 1 ≤ o) (h1 : o ≤ 55) : Cd o (cd o) := by
  have p : o = 1 ∨ o = 2 ∨ o = 3 ∨ o = 4 ∨ o = 5 ∨ o = 6 ∨ o = 7 ∨ o = 8 ∨ o = 9 ∨ o = 10 ∨ o = 11 ∨ o = 12 ∨ o = 13 ∨ o = 14 ∨ o = 15 ∨ o = 16 ∨ o = 17 ∨ o = 18 ∨ o = 19 ∨ o = 20 ∨ o = 21 ∨ o = 22 ∨ o = 23 ∨ o = 24 ∨ o = 25 ∨ o = 26 ∨ o = 27 ∨ o = 28 ∨ o = 29 ∨ o = 30 ∨ o = 31 ∨ o = 32 ∨ o = 33 ∨ o = 34 ∨ o = 35 ∨ o = 36 ∨ o = 37 ∨ o = 38 ∨ o = 39 ∨ o = 40 ∨ o = 41 ∨ o = 42 ∨ o = 43 ∨ o = 44 ∨ o = 45 ∨ o = 46 ∨ o = 47 ∨ o = 48 ∨ o = 49 ∨ o = 50 ∨ o = 51 ∨ o = 52 ∨ o = 53 ∨ o = 54 ∨ o = 55 := by omega
  clear h0 h1
  rcases p with rfl | rfl | rfl | rfl | rfl | rfl | rfl | rfl | rfl | rfl | rfl | rfl | rfl | rfl | rfl | rfl | rfl | rfl | rfl | rfl | rfl | rfl | rfl | rfl | rfl | rfl | rfl | rfl | rfl | rfl | rfl | rfl | rfl | rfl | rfl | rfl | rfl | rfl | rfl | rfl | rfl | rfl | rfl | rfl | rfl | rfl | rfl | rfl | rfl | rfl | rfl | rfl | rfl | rfl | rfl
  all_goals exact ⟨by decide, by decide, by decide, by decide, by decide, by decide, by decide⟩
/-- what the document's Encode lays together behind code, rd and rs1: by the format's letter -/
def rb (f b n : Int) : Int :=
  if f = 85 then bits .andNot .u32 (n % 4294967296) 4095
  else if f = 74 then bits .or .u32 (bits .or .u32 (bits .or .u32 (bits .and .u32 (n % 4294967296 / 1048576) 1 * 2147483648 % 4294967296) (bits .and .u32 (n % 4294967296 / 2) 1023 * 2097152 % 4294967296)) (bits .and .u32 (n % 4294967296 / 2048) 1 * 1048576 % 4294967296)) (bits .and .u32 (n % 4294967296 / 4096) 255 * 4096 % 4294967296)
  else if f = 66 then bits .or .u32 (bits .or .u32 (bits .or .u32 (bits .or .u32 (bits .and .u32 (n % 4294967296 / 4096) 1 * 2147483648 % 4294967296) (bits .and .u32 (n % 4294967296 / 32) 63 * 33554432 % 4294967296)) (bits .and .u32 (n % 4294967296 / 2) 15 * 256 % 4294967296)) (bits .and .u32 (n % 4294967296 / 2048) 1 * 128 % 4294967296)) (b * 1048576)
  else if f = 83 then bits .or .u32 (bits .or .u32 (bits .and .u32 (n % 4294967296 / 32) 127 * 33554432 % 4294967296) (bits .and .u32 (n % 4294967296) 31 * 128 % 4294967296)) (b * 1048576)
  else if f = 82 then b * 1048576
  else if f = 72 then bits .and .u32 (n % 4294967296) 31 * 1048576 % 4294967296
  else bits .and .u32 (n % 4294967296) 4095 * 1048576 % 4294967296
/-- the document's raw word -/
def rw0 (f c d a b n : Int) : Int := if f = 78 then bits .or .u32 (bits .or .u32 c (d * 128)) (a * 32768) else bits .or .u32 (bits .or .u32 (bits .or .u32 c (d * 128)) (a * 32768)) (rb f b n)
theorem refHead (c d a : Int) (c0 : 0 ≤ c) (c1 : c ≤ 4294967295) (x : c / 128 % 32 = 0) (y : c / 32768 % 32 = 0) (d0 : 0 ≤ d) (d1 : d ≤ 31) (a0 : 0 ≤ a) (a1 : a ≤ 31) : bits .or .u32 (bits .or .u32 c (d * 128)) (a * 32768) = c + d * 128 + a * 32768 := by
  rw [put5_7 c d c0 c1 d0 d1 x, put5_15 _ a (by omega) (by omega) a0 a1 (by omega)]
theorem refI (h m : Int) (h0 : 0 ≤ h) (h1 : h ≤ 1048575) (m0 : 0 ≤ m) (m1 : m ≤ 4095) : bits .or .u32 h (m * 1048576) = h + m * 1048576 := put12_20 _ _ h0 (by omega) m0 m1 (by omega)
theorem refS (h b p q : Int) (h0 : 0 ≤ h) (h1 : h ≤ 1048575) (h2 : h / 128 % 32 = 0) (b0 : 0 ≤ b) (b1 : b ≤ 31) (p0 : 0 ≤ p) (p1 : p ≤ 31) (q0 : 0 ≤ q) (q1 : q ≤ 127) :
    bits .or .u32 h (bits .or .u32 (bits .or .u32 (q * 33554432) (p * 128)) (b * 1048576)) = h + b * 1048576 + p * 128 + q * 33554432 := by
  rw [or_assoc h _ _ h0 (by omega) (bits_lo_u32 _ _ _) (bits_hi_u32 _ _ _) (by omega) (by omega), or_assoc h _ _ h0 (by omega) (by omega) (by omega) (by omega) (by omega),
    put7_25 h q h0 (by omega) q0 q1 (by omega), put5_7 _ p (by omega) (by omega) p0 p1 (by omega), put5_20 _ b (by omega) (by omega) b0 b1 (by omega)]
  omega
theorem refB (h b p q r s : Int) (h0 : 0 ≤ h) (h1 : h ≤ 1048575) (h2 : h / 128 % 32 = 0) (b0 : 0 ≤ b) (b1 : b ≤ 31) (p0 : 0 ≤ p) (p1 : p ≤ 1) (q0 : 0 ≤ q) (q1 : q ≤ 15) (r0 : 0 ≤ r) (r1 : r ≤ 63) (s0 : 0 ≤ s) (s1 : s ≤ 1) :
    bits .or .u32 h (bits .or .u32 (bits .or .u32 (bits .or .u32 (bits .or .u32 (s * 2147483648) (r * 33554432)) (q * 256)) (p * 128)) (b * 1048576)) = h + b * 1048576 + p * 128 + q * 256 + r * 33554432 + s * 2147483648 := by
  rw [or_assoc h _ _ h0 (by omega) (bits_lo_u32 _ _ _) (bits_hi_u32 _ _ _) (by omega) (by omega), or_assoc h _ _ h0 (by omega) (bits_lo_u32 _ _ _) (bits_hi_u32 _ _ _) (by omega) (by omega), or_assoc h _ _ h0 (by omega) (bits_lo_u32 _ _ _) (bits_hi_u32 _ _ _) (by omega) (by omega), or_assoc h _ _ h0 (by omega) (by omega) (by omega) (by omega) (by omega),
    put1_31 h s h0 (by omega) s0 s1 (by omega), put6_25 _ r (by omega) (by omega) r0 r1 (by omega), put4_8 _ q (by omega) (by omega) q0 q1 (by omega), put1_7 _ p (by omega) (by omega) p0 p1 (by omega), put5_20 _ b (by omega) (by omega) b0 b1 (by omega)]
  omega
theorem refJ (h p q r s : Int) (h0 : 0 ≤ h) (h1 : h ≤ 4095) (p0 : 0 ≤ p) (p1 : p ≤ 255) (q0 : 0 ≤ q) (q1 : q ≤ 1) (r0 : 0 ≤ r) (r1 : r ≤ 1023) (s0 : 0 ≤ s) (s1 : s ≤ 1) :
    bits .or .u32 h (bits .or .u32 (bits .or .u32 (bits .or .u32 (s * 2147483648) (r * 2097152)) (q * 1048576)) (p * 4096)) = h + p * 4096 + q * 1048576 + r * 2097152 + s * 2147483648 := by
  rw [or_assoc h _ _ h0 (by omega) (bits_lo_u32 _ _ _) (bits_hi_u32 _ _ _) (by omega) (by omega), or_assoc h _ _ h0 (by omega) (bits_lo_u32 _ _ _) (bits_hi_u32 _ _ _) (by omega) (by omega), or_assoc h _ _ h0 (by omega) (by omega) (by omega) (by omega) (by omega),
    put1_31 h s h0 (by omega) s0 s1 (by omega), put10_21 _ r (by omega) (by omega) r0 r1 (by omega), put1_20 _ q (by omega) (by omega) q0 q1 (by omega), put8_12 _ p (by omega) (by omega) p0 p1 (by omega)]
  omega
theorem am_1048576_2_2147483648 (n : Int) : bits .and .u32 (n % 4294967296 / 1048576) 1 * 2147483648 % 4294967296 = n / 1048576 % 2 * 2147483648 := by
  rw [and_mask 1 _ 2 _ (by decide) (by decide) (by omega) (by omega) (by decide)]; omega
theorem am_2_1024_2097152 (n : Int) : bits .and .u32 (n % 4294967296 / 2) 1023 * 2097152 % 4294967296 = n / 2 % 1024 * 2097152 := by
  rw [and_mask 10 _ 1024 _ (by decide) (by decide) (by omega) (by omega) (by decide)]; omega
theorem am_2048_2_1048576 (n : Int) : bits .and .u32 (n % 4294967296 / 2048) 1 * 1048576 % 4294967296 = n / 2048 % 2 * 1048576 := by
  rw [and_mask 1 _ 2 _ (by decide) (by decide) (by omega) (by omega) (by decide)]; omega
theorem am_4096_256_4096 (n : Int) : bits .and .u32 (n % 4294967296 / 4096) 255 * 4096 % 4294967296 = n / 4096 % 256 * 4096 := by
  rw [and_mask 8 _ 256 _ (by decide) (by decide) (by omega) (by omega) (by decide)]; omega
theorem am_4096_2_2147483648 (n : Int) : bits .and .u32 (n % 4294967296 / 4096) 1 * 2147483648 % 4294967296 = n / 4096 % 2 * 2147483648 := by
  rw [and_mask 1 _ 2 _ (by decide) (by decide) (by omega) (by omega) (by decide)]; omega
theorem am_32_64_33554432 (n : Int) : bits .and .u32 (n % 4294967296 / 32) 63 * 33554432 % 4294967296 = n / 32 % 64 * 33554432 := by
  rw [and_mask 6 _ 64 _ (by decide) (by decide) (by omega) (by omega) (by decide)]; omega
theorem am_2_16_256 (n : Int) : bits .and .u32 (n % 4294967296 / 2) 15 * 256 % 4294967296 = n / 2 % 16 * 256 := by
  rw [and_mask 4 _ 16 _ (by decide) (by decide) (by omega) (by omega) (by decide)]; omega
theorem am_2048_2_128 (n : Int) : bits .and .u32 (n % 4294967296 / 2048) 1 * 128 % 4294967296 = n / 2048 % 2 * 128 := by
  rw [and_mask 1 _ 2 _ (by decide) (by decide) (by omega) (by omega) (by decide)]; omega
theorem am_32_128_33554432 (n : Int) : bits .and .u32 (n % 4294967296 / 32) 127 * 33554432 % 4294967296 = n / 32 % 128 * 33554432 := by
  rw [and_mask 7 _ 128 _ (by decide) (by decide) (by omega) (by omega) (by decide)]; omega
theorem am_1_32_128 (n : Int) : bits .and .u32 (n % 4294967296) 31 * 128 % 4294967296 = n % 32 * 128 := by
  rw [and_mask 5 _ 32 _ (by decide) (by decide) (by omega) (by omega) (by decide)]; omega
theorem am_1_32_1048576 (n : Int) : bits .and .u32 (n % 4294967296) 31 * 1048576 % 4294967296 = n % 32 * 1048576 := by
  rw [and_mask 5 _ 32 _ (by decide) (by decide) (by omega) (by omega) (by decide)]; omega
theorem am_1_4096_1048576 (n : Int) : bits .and .u32 (n % 4294967296) 4095 * 1048576 % 4294967296 = n % 4096 * 1048576 := by
  rw [and_mask 12 _ 4096 _ (by decide) (by decide) (by omega) (by omega) (by decide)]; omega
theorem am_u (n : Int) : bits .andNot .u32 (n % 4294967296) 4095 = n / 4096 % 1048576 * 4096 := by
  rw [clear_as (n % 4294967296) 4095 4096 1 0 12 20 rfl (by omega) (by omega) (by decide) (by decide) (by decide) (by decide) (by decide)]; omega
theorem rref1 (c d a b n : Int) (c0 : 0 ≤ c) (c1 : c ≤ 4294967295) (x : c / 128 % 32 = 0) (y : c / 32768 % 32 = 0) (k : Ok 1 d a b n) : rw0 (lt 1) c d a b n = c + fld 1 d a b n := by
  obtain ⟨rfl, rfl, rfl, rfl⟩ := ok1 k
  have e1 : rw0 (lt 1) c 0 0 0 0 = bits .or .u32 (bits .or .u32 c (0 * 128)) (0 * 32768) := by
    rw [show lt 1 = 78 by decide]; unfold rw0 rb; repeat (first | rw [if_pos (by decide)] | rw [if_neg (by decide)])
  have e2 : fld 1 0 0 0 0 = 0 := by
    unfold fld; repeat (first | rw [if_pos (by decide)] | rw [if_neg (by decide)])
  rw [e1, e2]; clear e1 e2
  rw [refHead c 0 0 c0 c1 x y (by decide) (by decide) (by decide) (by decide)]
  omega
theorem rref2 (c d a b n : Int) (c0 : 0 ≤ c) (c1 : c ≤ 4294967295) (x : c / 128 % 32 = 0) (y : c / 32768 % 32 = 0) (reg : c / 32768 % 1024 = 0) (k : Ok 2 d a b n) : rw0 (lt 2) c d a b n = c + fld 2 d a b n := by
  obtain ⟨d0, d1, a0, a1, b0, b1, rfl⟩ := ok2 k
  have e1 : rw0 (lt 2) c d a b 0 = bits .or .u32 (bits .or .u32 (bits .or .u32 c (d * 128)) (a * 32768)) (b * 1048576) := by
    rw [show lt 2 = 82 by decide]; unfold rw0 rb; repeat (first | rw [if_pos (by decide)] | rw [if_neg (by decide)])
  have e2 : fld 2 d a b 0 = (d * 128 + a * 32768 + b * 1048576) := by
    unfold fld; repeat (first | rw [if_pos (by decide)] | rw [if_neg (by decide)])
  rw [e1, e2]; clear e1 e2
  rw [refHead c d a c0 c1 x y d0 d1 a0 a1, put5_20 _ b (by omega) (by omega) b0 b1 (by omega)]
  omega
theorem rref3 (c d a b n : Int) (c0 : 0 ≤ c) (c1 : c ≤ 4294967295) (x : c / 128 % 32 = 0) (y : c / 32768 % 32 = 0) (small : c ≤ 32767) (k : Ok 3 d a b n) : rw0 (lt 3) c d a b n = c + fld 3 d a b n := by
  obtain ⟨d0, d1, a0, a1, rfl, n0, n1⟩ := ok3 k
  have e1 : rw0 (lt 3) c d a 0 n = bits .or .u32 (bits .or .u32 (bits .or .u32 c (d * 128)) (a * 32768)) (bits .and .u32 (n % 4294967296) 4095 * 1048576 % 4294967296) := by
    rw [show lt 3 = 73 by decide]; unfold rw0 rb; repeat (first | rw [if_pos (by decide)] | rw [if_neg (by decide)])
  have e2 : fld 3 d a 0 n = (d * 128 + a * 32768 + n % 4096 * 1048576) := by
    unfold fld; repeat (first | rw [if_pos (by decide)] | rw [if_neg (by decide)])
  rw [e1, e2]; clear e1 e2
  rw [am_1_4096_1048576, refHead c d a c0 c1 x y d0 d1 a0 a1]
  have q0 : 0 ≤ n % 4096 ∧ n % 4096 ≤ 4095 := by omega
  generalize n % 4096 = m at q0 ⊢
  rw [refI _ m (by omega) (by omega) q0.1 q0.2]
  omega
theorem rref9 (c d a b n : Int) (c0 : 0 ≤ c) (c1 : c ≤ 4294967295) (x : c / 128 % 32 = 0) (y : c / 32768 % 32 = 0) (small : c ≤ 32767) (k : Ok 9 d a b n) : rw0 (lt 9) c d a b n = c + fld 9 d a b n := by
  obtain ⟨d0, d1, a0, a1, rfl, n0, n1⟩ := ok9 k
  have e1 : rw0 (lt 9) c d a 0 n = bits .or .u32 (bits .or .u32 (bits .or .u32 c (d * 128)) (a * 32768)) (bits .and .u32 (n % 4294967296) 4095 * 1048576 % 4294967296) := by
    rw [show lt 9 = 67 by decide]; unfold rw0 rb; repeat (first | rw [if_pos (by decide)] | rw [if_neg (by decide)])
  have e2 : fld 9 d a 0 n = (d * 128 + a * 32768 + n % 4096 * 1048576) := by
    unfold fld; repeat (first | rw [if_pos (by decide)] | rw [if_neg (by decide)])
  rw [e1, e2]; clear e1 e2
  rw [am_1_4096_1048576, refHead c d a c0 c1 x y d0 d1 a0 a1]
  have q0 : 0 ≤ n % 4096 ∧ n % 4096 ≤ 4095 := by omega
  generalize n % 4096 = m at q0 ⊢
  rw [refI _ m (by omega) (by omega) q0.1 q0.2]
  omega
theorem rref10 (c d a b n : Int) (c0 : 0 ≤ c) (c1 : c ≤ 4294967295) (x : c / 128 % 32 = 0) (y : c / 32768 % 32 = 0) (small : c ≤ 32767) (k : Ok 10 d a b n) : rw0 (lt 10) c d a b n = c + fld 10 d a b n := by
  obtain ⟨d0, d1, a0, a1, rfl, n0, n1⟩ := ok10 k
  have e1 : rw0 (lt 10) c d a 0 n = bits .or .u32 (bits .or .u32 (bits .or .u32 c (d * 128)) (a * 32768)) (bits .and .u32 (n % 4294967296) 4095 * 1048576 % 4294967296) := by
    rw [show lt 10 = 67 by decide]; unfold rw0 rb; repeat (first | rw [if_pos (by decide)] | rw [if_neg (by decide)])
  have e2 : fld 10 d a 0 n = (d * 128 + a * 32768 + n % 4096 * 1048576) := by
    unfold fld; repeat (first | rw [if_pos (by decide)] | rw [if_neg (by decide)])
  rw [e1, e2]; clear e1 e2
  rw [am_1_4096_1048576, refHead c d a c0 c1 x y d0 d1 a0 a1]
  have q0 : 0 ≤ n % 4096 ∧ n % 4096 ≤ 4095 := by omega
  generalize n % 4096 = m at q0 ⊢
  rw [refI _ m (by omega) (by omega) q0.1 q0.2]
  omega
theorem rref4 (c d a b n : Int) (c0 : 0 ≤ c) (c1 : c ≤ 4294967295) (x : c / 128 % 32 = 0) (y : c / 32768 % 32 = 0) (reg : c / 32768 % 1024 = 0) (k : Ok 4 d a b n) : rw0 (lt 4) c d a b n = c + fld 4 d a b n := by
  obtain ⟨d0, d1, a0, a1, rfl, n0, n1⟩ := ok4 k
  have e1 : rw0 (lt 4) c d a 0 n = bits .or .u32 (bits .or .u32 (bits .or .u32 c (d * 128)) (a * 32768)) (bits .and .u32 (n % 4294967296) 31 * 1048576 % 4294967296) := by
    rw [show lt 4 = 72 by decide]; unfold rw0 rb; repeat (first | rw [if_pos (by decide)] | rw [if_neg (by decide)])
  have e2 : fld 4 d a 0 n = (d * 128 + a * 32768 + n % 32 * 1048576) := by
    unfold fld; repeat (first | rw [if_pos (by decide)] | rw [if_neg (by decide)])
  rw [e1, e2]; clear e1 e2
  rw [am_1_32_1048576, refHead c d a c0 c1 x y d0 d1 a0 a1]
  have q0 : 0 ≤ n % 32 ∧ n % 32 ≤ 31 := by omega
  generalize n % 32 = m at q0 ⊢
  rw [put5_20 _ m (by omega) (by omega) q0.1 q0.2 (by omega)]
  omega
theorem rref5 (c d a b n : Int) (c0 : 0 ≤ c) (c1 : c ≤ 4294967295) (x : c / 128 % 32 = 0) (y : c / 32768 % 32 = 0) (small : c ≤ 32767) (k : Ok 5 d a b n) : rw0 (lt 5) c d a b n = c + fld 5 d a b n := by
  obtain ⟨rfl, a0, a1, b0, b1, n0, n1⟩ := ok5 k
  have e1 : rw0 (lt 5) c 0 a b n = bits .or .u32 (bits .or .u32 (bits .or .u32 c (0 * 128)) (a * 32768)) (bits .or .u32 (bits .or .u32 (bits .and .u32 (n % 4294967296 / 32) 127 * 33554432 % 4294967296) (bits .and .u32 (n % 4294967296) 31 * 128 % 4294967296)) (b * 1048576)) := by
    rw [show lt 5 = 83 by decide]; unfold rw0 rb; repeat (first | rw [if_pos (by decide)] | rw [if_neg (by decide)])
  have e2 : fld 5 0 a b n = (a * 32768 + b * 1048576 + n % 32 * 128 + n / 32 % 128 * 33554432) := by
    unfold fld; repeat (first | rw [if_pos (by decide)] | rw [if_neg (by decide)])
  rw [e1, e2]; clear e1 e2
  rw [am_32_128_33554432, am_1_32_128, refHead c 0 a c0 c1 x y (by decide) (by decide) a0 a1]
  have p0 : 0 ≤ n % 32 ∧ n % 32 ≤ 31 := by omega
  have q0 : 0 ≤ n / 32 % 128 ∧ n / 32 % 128 ≤ 127 := by omega
  generalize n % 32 = p at p0 ⊢
  generalize n / 32 % 128 = q at q0 ⊢
  rw [refS _ b p q (by omega) (by omega) (by omega) b0 b1 p0.1 p0.2 q0.1 q0.2]
  omega
theorem rref6 (c d a b n : Int) (c0 : 0 ≤ c) (c1 : c ≤ 4294967295) (x : c / 128 % 32 = 0) (y : c / 32768 % 32 = 0) (small : c ≤ 32767) (k : Ok 6 d a b n) : rw0 (lt 6) c d a b n = c + fld 6 d a b n := by
  obtain ⟨rfl, a0, a1, b0, b1, n0, n1, n2⟩ := ok6 k
  have e1 : rw0 (lt 6) c 0 a b n = bits .or .u32 (bits .or .u32 (bits .or .u32 c (0 * 128)) (a * 32768)) (bits .or .u32 (bits .or .u32 (bits .or .u32 (bits .or .u32 (bits .and .u32 (n % 4294967296 / 4096) 1 * 2147483648 % 4294967296) (bits .and .u32 (n % 4294967296 / 32) 63 * 33554432 % 4294967296)) (bits .and .u32 (n % 4294967296 / 2) 15 * 256 % 4294967296)) (bits .and .u32 (n % 4294967296 / 2048) 1 * 128 % 4294967296)) (b * 1048576)) := by
    rw [show lt 6 = 66 by decide]; unfold rw0 rb; repeat (first | rw [if_pos (by decide)] | rw [if_neg (by decide)])
  have e2 : fld 6 0 a b n = (a * 32768 + b * 1048576 + n / 2048 % 2 * 128 + n / 2 % 16 * 256 + n / 32 % 64 * 33554432 + n / 4096 % 2 * 2147483648) := by
    unfold fld; repeat (first | rw [if_pos (by decide)] | rw [if_neg (by decide)])
  rw [e1, e2]; clear e1 e2
  rw [am_4096_2_2147483648, am_32_64_33554432, am_2_16_256, am_2048_2_128, refHead c 0 a c0 c1 x y (by decide) (by decide) a0 a1]
  have p0 : 0 ≤ n / 2048 % 2 ∧ n / 2048 % 2 ≤ 1 := by omega
  have q0 : 0 ≤ n / 2 % 16 ∧ n / 2 % 16 ≤ 15 := by omega
  have r0 : 0 ≤ n / 32 % 64 ∧ n / 32 % 64 ≤ 63 := by omega
  have s0 : 0 ≤ n / 4096 % 2 ∧ n / 4096 % 2 ≤ 1 := by omega
  generalize n / 2048 % 2 = p at p0 ⊢
  generalize n / 2 % 16 = q at q0 ⊢
  generalize n / 32 % 64 = r at r0 ⊢
  generalize n / 4096 % 2 = s at s0 ⊢
  rw [refB _ b p q r s (by omega) (by omega) (by omega) b0 b1 p0.1 p0.2 q0.1 q0.2 r0.1 r0.2 s0.1 s0.2]
  omega
theorem rref7 (c d a b n : Int) (c0 : 0 ≤ c) (c1 : c ≤ 4294967295) (x : c / 128 % 32 = 0) (y : c / 32768 % 32 = 0) (few : c ≤ 127) (k : Ok 7 d a b n) : rw0 (lt 7) c d a b n = c + fld 7 d a b n := by
  obtain ⟨d0, d1, rfl, rfl, n0, n1, n2⟩ := ok7 k
  have e1 : rw0 (lt 7) c d 0 0 n = bits .or .u32 (bits .or .u32 (bits .or .u32 c (d * 128)) (0 * 32768)) (bits .andNot .u32 (n % 4294967296) 4095) := by
    rw [show lt 7 = 85 by decide]; unfold rw0 rb; repeat (first | rw [if_pos (by decide)] | rw [if_neg (by decide)])
  have e2 : fld 7 d 0 0 n = (d * 128 + n / 4096 % 1048576 * 4096) := by
    unfold fld; repeat (first | rw [if_pos (by decide)] | rw [if_neg (by decide)])
  rw [e1, e2]; clear e1 e2
  rw [am_u, refHead c d 0 c0 c1 x y d0 d1 (by decide) (by decide)]
  have p0 : 0 ≤ n / 4096 % 1048576 ∧ n / 4096 % 1048576 ≤ 1048575 := by omega
  generalize n / 4096 % 1048576 = p at p0 ⊢
  rw [put20_12 _ p (by omega) (by omega) p0.1 p0.2 (by omega)]
  omega
theorem rref8 (c d a b n : Int) (c0 : 0 ≤ c) (c1 : c ≤ 4294967295) (x : c / 128 % 32 = 0) (y : c / 32768 % 32 = 0) (few : c ≤ 127) (k : Ok 8 d a b n) : rw0 (lt 8) c d a b n = c + fld 8 d a b n := by
  obtain ⟨d0, d1, rfl, rfl, n0, n1, n2⟩ := ok8 k
  have e1 : rw0 (lt 8) c d 0 0 n = bits .or .u32 (bits .or .u32 (bits .or .u32 c (d * 128)) (0 * 32768)) (bits .or .u32 (bits .or .u32 (bits .or .u32 (bits .and .u32 (n % 4294967296 / 1048576) 1 * 2147483648 % 4294967296) (bits .and .u32 (n % 4294967296 / 2) 1023 * 2097152 % 4294967296)) (bits .and .u32 (n % 4294967296 / 2048) 1 * 1048576 % 4294967296)) (bits .and .u32 (n % 4294967296 / 4096) 255 * 4096 % 4294967296)) := by
    rw [show lt 8 = 74 by decide]; unfold rw0 rb; repeat (first | rw [if_pos (by decide)] | rw [if_neg (by decide)])
  have e2 : fld 8 d 0 0 n = (d * 128 + n / 4096 % 256 * 4096 + n / 2048 % 2 * 1048576 + n / 2 % 1024 * 2097152 + n / 1048576 % 2 * 2147483648) := by
    unfold fld; repeat (first | rw [if_pos (by decide)] | rw [if_neg (by decide)])
  rw [e1, e2]; clear e1 e2
  rw [am_1048576_2_2147483648, am_2_1024_2097152, am_2048_2_1048576, am_4096_256_4096, refHead c d 0 c0 c1 x y d0 d1 (by decide) (by decide)]
  have p0 : 0 ≤ n / 4096 % 256 ∧ n / 4096 % 256 ≤ 255 := by omega
  have q0 : 0 ≤ n / 2048 % 2 ∧ n / 2048 % 2 ≤ 1 := by omega
  have r0 : 0 ≤ n / 2 % 1024 ∧ n / 2 % 1024 ≤ 1023 := by omega
  have s0 : 0 ≤ n / 1048576 % 2 ∧ n / 1048576 % 2 ≤ 1 := by omega
  generalize n / 4096 % 256 = p at p0 ⊢
  generalize n / 2048 % 2 = q at q0 ⊢
  generalize n / 2 % 1024 = r at r0 ⊢
  generalize n / 1048576 % 2 = s at s0 ⊢
  rw [refJ _ p q r s (by omega) (by omega) p0.1 p0.2 q0.1 q0.2 r0.1 r0.2 s0.1 s0.2]
  omega
theorem raw_ref (o d a b n : Int) (k : Ok (fm o) d a b n) : rw0 (lt (fm o)) (cd o) d a b n = wd o d a b n := by
  obtain ⟨h0, h1⟩ := ok_in o d a b n k
  have C := cd_is o h0 h1
  rw [wd]
  generalize cd o = c at C ⊢
  obtain ⟨c0, c1, x, y, small, reg, few⟩ := C
  rcases fm_parts o with ⟨g0, h⟩ | ⟨g0, g1, h⟩ | ⟨g0, h⟩ | ⟨g0, h⟩ | ⟨g0, g1, h⟩ | ⟨g0, g1, h⟩ | ⟨g0, g1, h⟩ | ⟨g0, g1, h⟩ | ⟨g0, g1, h⟩ | ⟨g0, g1, h⟩ | ⟨g0, g1, h⟩ | ⟨g0, g1, h⟩ | ⟨g0, g1, h⟩ | ⟨g0, h⟩
  all_goals rw [h] at k ⊢; clear h
  · omega
  · exact rref7 c d a b n c0 c1 x y (few (by omega)) k
  · exact rref8 c d a b n c0 c1 x y (few (by omega)) k
  · exact rref3 c d a b n c0 c1 x y (small (by omega)) k
  · exact rref6 c d a b n c0 c1 x y (small (by omega)) k
  · exact rref3 c d a b n c0 c1 x y (small (by omega)) k
  · exact rref5 c d a b n c0 c1 x y (small (by omega)) k
  · exact rref3 c d a b n c0 c1 x y (small (by omega)) k
  · exact rref4 c d a b n c0 c1 x y (reg (by omega)) k
  · exact rref2 c d a b n c0 c1 x y (reg (by omega)) k
  · exact rref1 c d a b n c0 c1 x y k
  · exact rref9 c d a b n c0 c1 x y (small (by omega)) k
  · exact rref10 c d a b n c0 c1 x y (small (by omega)) k
  · omega
end Go.Proofs.YtpkbkbllhpdfiaaGreat.Num
