/- Contract of the program's move, at each of the places that it is called with; contract of operandBits, format by format. -/
import Derived.Test.YtlnliiihcajboaaDoorJudged
import Derived.Test.YtlnliiihcajboaaDoorImms
import Derived.BigQuiet
import Derived.Deep.QuietTactic
namespace Go.Proofs.YtlnliiihcajboaaDoor.Num
open Go.ChangeShapes Go.WideShapes Go.ChangeAt Go.RowKit
theorem and_mask (i : Nat) (p q x : Int) (hq : ((2 ^ i : Nat) : Int) = q) (hp : p = q - 1) (x0 : 0 ≤ x) (x1 : x ≤ 4294967295) (q1 : q ≤ 4294967296) : bits .and .u32 x p = x % q := by
  subst hp hq
  obtain ⟨a, rfl⟩ := Int.eq_ofNat_of_zero_le x0
  have pos : 0 < 2 ^ i := Nat.two_pow_pos i
  rw [show (((2 ^ i : Nat) : Int) - 1) = ((2 ^ i - 1 : Nat) : Int) by omega, u32_and_nat _ _ (by omega) (by omega), Nat.and_two_pow_sub_one_eq_mod]
  simp
end Go.Proofs.YtlnliiihcajboaaDoor.Num
namespace Go.Proofs.YtlnliiihcajboaaDoor.Walks
open Go.ChangeShapes Go.WideShapes Go.ChangeAt Go.RowKit
set_option linter.unusedVariables false
set_option maxHeartbeats 2000000 in
theorem move_0_5_7 (v y : Int) (v0 : 0 ≤ v) (v1 : v ≤ 4294967295) (H : Hid (v % 32 * 128 = y)) (w : World) :
    Calls Tryd.prog 48 #[.int .u32 v, .int .i64 0, .int .i64 5, .int .i64 7] w fun e w' => e = .returned (.int .u32 y) ∧ ∃ m, w' = w.drewN m := by
  go_enter Tryd.func48, Tryd.ntmps48
  go_wp2_with fail
  go_quiet (fail)
  go_wp2_with fail
  go_ret
  exact ⟨ret_int (by rw [Num.and_mask 5 _ 32 (v) (by decide) (by decide) (by omega) (by omega) (by decide), ← H.out]; omega), _, rfl⟩
set_option maxHeartbeats 2000000 in
theorem move_0_5_15 (v y : Int) (v0 : 0 ≤ v) (v1 : v ≤ 4294967295) (H : Hid (v % 32 * 32768 = y)) (w : World) :
    Calls Tryd.prog 48 #[.int .u32 v, .int .i64 0, .int .i64 5, .int .i64 15] w fun e w' => e = .returned (.int .u32 y) ∧ ∃ m, w' = w.drewN m := by
  go_enter Tryd.func48, Tryd.ntmps48
  go_wp2_with fail
  go_quiet (fail)
  go_wp2_with fail
  go_ret
  exact ⟨ret_int (by rw [Num.and_mask 5 _ 32 (v) (by decide) (by decide) (by omega) (by omega) (by decide), ← H.out]; omega), _, rfl⟩
set_option maxHeartbeats 2000000 in
theorem move_0_5_20 (v y : Int) (v0 : 0 ≤ v) (v1 : v ≤ 4294967295) (H : Hid (v % 32 * 1048576 = y)) (w : World) :
    Calls Tryd.prog 48 #[.int .u32 v, .int .i64 0, .int .i64 5, .int .i64 20] w fun e w' => e = .returned (.int .u32 y) ∧ ∃ m, w' = w.drewN m := by
  go_enter Tryd.func48, Tryd.ntmps48
  go_wp2_with fail
  go_quiet (fail)
  go_wp2_with fail
  go_ret
  exact ⟨ret_int (by rw [Num.and_mask 5 _ 32 (v) (by decide) (by decide) (by omega) (by omega) (by decide), ← H.out]; omega), _, rfl⟩
set_option maxHeartbeats 2000000 in
theorem move_0_12_20 (v y : Int) (v0 : 0 ≤ v) (v1 : v ≤ 4294967295) (H : Hid (v % 4096 * 1048576 = y)) (w : World) :
    Calls Tryd.prog 48 #[.int .u32 v, .int .i64 0, .int .i64 12, .int .i64 20] w fun e w' => e = .returned (.int .u32 y) ∧ ∃ m, w' = w.drewN m := by
  go_enter Tryd.func48, Tryd.ntmps48
  go_wp2_with fail
  go_quiet (fail)
  go_wp2_with fail
  go_ret
  exact ⟨ret_int (by rw [Num.and_mask 12 _ 4096 (v) (by decide) (by decide) (by omega) (by omega) (by decide), ← H.out]; omega), _, rfl⟩
set_option maxHeartbeats 2000000 in
theorem move_5_7_25 (v y : Int) (v0 : 0 ≤ v) (v1 : v ≤ 4294967295) (H : Hid (v / 32 % 128 * 33554432 = y)) (w : World) :
    Calls Tryd.prog 48 #[.int .u32 v, .int .i64 5, .int .i64 7, .int .i64 25] w fun e w' => e = .returned (.int .u32 y) ∧ ∃ m, w' = w.drewN m := by
  go_enter Tryd.func48, Tryd.ntmps48
  go_wp2_with fail
  go_quiet (fail)
  go_wp2_with fail
  go_ret
  exact ⟨ret_int (by rw [Num.and_mask 7 _ 128 (v / 32) (by decide) (by decide) (by omega) (by omega) (by decide), ← H.out]; omega), _, rfl⟩
set_option maxHeartbeats 2000000 in
theorem move_11_1_7 (v y : Int) (v0 : 0 ≤ v) (v1 : v ≤ 4294967295) (H : Hid (v / 2048 % 2 * 128 = y)) (w : World) :
    Calls Tryd.prog 48 #[.int .u32 v, .int .i64 11, .int .i64 1, .int .i64 7] w fun e w' => e = .returned (.int .u32 y) ∧ ∃ m, w' = w.drewN m := by
  go_enter Tryd.func48, Tryd.ntmps48
  go_wp2_with fail
  go_quiet (fail)
  go_wp2_with fail
  go_ret
  exact ⟨ret_int (by rw [Num.and_mask 1 _ 2 (v / 2048) (by decide) (by decide) (by omega) (by omega) (by decide), ← H.out]; omega), _, rfl⟩
set_option maxHeartbeats 2000000 in
theorem move_1_4_8 (v y : Int) (v0 : 0 ≤ v) (v1 : v ≤ 4294967295) (H : Hid (v / 2 % 16 * 256 = y)) (w : World) :
    Calls Tryd.prog 48 #[.int .u32 v, .int .i64 1, .int .i64 4, .int .i64 8] w fun e w' => e = .returned (.int .u32 y) ∧ ∃ m, w' = w.drewN m := by
  go_enter Tryd.func48, Tryd.ntmps48
  go_wp2_with fail
  go_quiet (fail)
  go_wp2_with fail
  go_ret
  exact ⟨ret_int (by rw [Num.and_mask 4 _ 16 (v / 2) (by decide) (by decide) (by omega) (by omega) (by decide), ← H.out]; omega), _, rfl⟩
set_option maxHeartbeats 2000000 in
theorem move_5_6_25 (v y : Int) (v0 : 0 ≤ v) (v1 : v ≤ 4294967295) (H : Hid (v / 32 % 64 * 33554432 = y)) (w : World) :
    Calls Tryd.prog 48 #[.int .u32 v, .int .i64 5, .int .i64 6, .int .i64 25] w fun e w' => e = .returned (.int .u32 y) ∧ ∃ m, w' = w.drewN m := by
  go_enter Tryd.func48, Tryd.ntmps48
  go_wp2_with fail
  go_quiet (fail)
  go_wp2_with fail
  go_ret
  exact ⟨ret_int (by rw [Num.and_mask 6 _ 64 (v / 32) (by decide) (by decide) (by omega) (by omega) (by decide), ← H.out]; omega), _, rfl⟩
set_option maxHeartbeats 2000000 in
theorem move_12_1_31 (v y : Int) (v0 : 0 ≤ v) (v1 : v ≤ 4294967295) (H : Hid (v / 4096 % 2 * 2147483648 = y)) (w : World) :
    Calls Tryd.prog 48 #[.int .u32 v, .int .i64 12, .int .i64 1, .int .i64 31] w fun e w' => e = .returned (.int .u32 y) ∧ ∃ m, w' = w.drewN m := by
  go_enter Tryd.func48, Tryd.ntmps48
  go_wp2_with fail
  go_quiet (fail)
  go_wp2_with fail
  go_ret
  exact ⟨ret_int (by rw [Num.and_mask 1 _ 2 (v / 4096) (by decide) (by decide) (by omega) (by omega) (by decide), ← H.out]; omega), _, rfl⟩
set_option maxHeartbeats 2000000 in
theorem move_12_20_12 (v y : Int) (v0 : 0 ≤ v) (v1 : v ≤ 4294967295) (H : Hid (v / 4096 % 1048576 * 4096 = y)) (w : World) :
    Calls Tryd.prog 48 #[.int .u32 v, .int .i64 12, .int .i64 20, .int .i64 12] w fun e w' => e = .returned (.int .u32 y) ∧ ∃ m, w' = w.drewN m := by
  go_enter Tryd.func48, Tryd.ntmps48
  go_wp2_with fail
  go_quiet (fail)
  go_wp2_with fail
  go_ret
  exact ⟨ret_int (by rw [Num.and_mask 20 _ 1048576 (v / 4096) (by decide) (by decide) (by omega) (by omega) (by decide), ← H.out]; omega), _, rfl⟩
set_option maxHeartbeats 2000000 in
theorem move_12_8_12 (v y : Int) (v0 : 0 ≤ v) (v1 : v ≤ 4294967295) (H : Hid (v / 4096 % 256 * 4096 = y)) (w : World) :
    Calls Tryd.prog 48 #[.int .u32 v, .int .i64 12, .int .i64 8, .int .i64 12] w fun e w' => e = .returned (.int .u32 y) ∧ ∃ m, w' = w.drewN m := by
  go_enter Tryd.func48, Tryd.ntmps48
  go_wp2_with fail
  go_quiet (fail)
  go_wp2_with fail
  go_ret
  exact ⟨ret_int (by rw [Num.and_mask 8 _ 256 (v / 4096) (by decide) (by decide) (by omega) (by omega) (by decide), ← H.out]; omega), _, rfl⟩
set_option maxHeartbeats 2000000 in
theorem move_11_1_20 (v y : Int) (v0 : 0 ≤ v) (v1 : v ≤ 4294967295) (H : Hid (v / 2048 % 2 * 1048576 = y)) (w : World) :
    Calls Tryd.prog 48 #[.int .u32 v, .int .i64 11, .int .i64 1, .int .i64 20] w fun e w' => e = .returned (.int .u32 y) ∧ ∃ m, w' = w.drewN m := by
  go_enter Tryd.func48, Tryd.ntmps48
  go_wp2_with fail
  go_quiet (fail)
  go_wp2_with fail
  go_ret
  exact ⟨ret_int (by rw [Num.and_mask 1 _ 2 (v / 2048) (by decide) (by decide) (by omega) (by omega) (by decide), ← H.out]; omega), _, rfl⟩
set_option maxHeartbeats 2000000 in
theorem move_1_10_21 (v y : Int) (v0 : 0 ≤ v) (v1 : v ≤ 4294967295) (H : Hid (v / 2 % 1024 * 2097152 = y)) (w : World) :
    Calls Tryd.prog 48 #[.int .u32 v, .int .i64 1, .int .i64 10, .int .i64 21] w fun e w' => e = .returned (.int .u32 y) ∧ ∃ m, w' = w.drewN m := by
  go_enter Tryd.func48, Tryd.ntmps48
  go_wp2_with fail
  go_quiet (fail)
  go_wp2_with fail
  go_ret
  exact ⟨ret_int (by rw [Num.and_mask 10 _ 1024 (v / 2) (by decide) (by decide) (by omega) (by omega) (by decide), ← H.out]; omega), _, rfl⟩
set_option maxHeartbeats 2000000 in
theorem move_20_1_31 (v y : Int) (v0 : 0 ≤ v) (v1 : v ≤ 4294967295) (H : Hid (v / 1048576 % 2 * 2147483648 = y)) (w : World) :
    Calls Tryd.prog 48 #[.int .u32 v, .int .i64 20, .int .i64 1, .int .i64 31] w fun e w' => e = .returned (.int .u32 y) ∧ ∃ m, w' = w.drewN m := by
  go_enter Tryd.func48, Tryd.ntmps48
  go_wp2_with fail
  go_quiet (fail)
  go_wp2_with fail
  go_ret
  exact ⟨ret_int (by rw [Num.and_mask 1 _ 2 (v / 1048576) (by decide) (by decide) (by omega) (by omega) (by decide), ← H.out]; omega), _, rfl⟩
end Go.Proofs.YtlnliiihcajboaaDoor.Walks
