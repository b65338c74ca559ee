/- Contract of the program's operandBits, format by format. -/
import Derived.Test.YtlnliiihcajboaaDoorMove
namespace Go.Proofs.YtlnliiihcajboaaDoor.Walks
open Go.ChangeShapes Go.WideShapes Go.ChangeAt Go.RowKit
set_option linter.unusedVariables false
theorem Fr.drewN {u w : World} (h : Fr u w) (n : Nat) : Fr u (w.drewN n) := h.alike ⟨rfl, rfl, rfl⟩
set_option maxRecDepth 100000 in
set_option maxHeartbeats 4000000 in
theorem obits0 (o d a b n x y z : Int) (X : Hid (d % 4294967296 % 32 * 128 = x)) (Y : Hid (a % 4294967296 % 32 * 32768 = y)) (Z : Hid (b % 4294967296 % 32 * 1048576 = z)) (w : World) :
    Calls Tryd.prog 20 #[.int .i64 0, .agg (cells o d a b n)] w fun e w' => e = .returned (.int .u32 (0)) ∧ ∃ m, w' = (w.alloc (.cells (cells o d a b n) 27)).drewN m := by
  go_enter Tryd.func20, Tryd.ntmps20
  go_wp2_with fail
  refine (move_0_5_7 _ _ (by omega) (by omega) X _).mono ?_; rintro e w' ⟨rfl, kX, rfl⟩
  go_wp2_with fail
  refine (move_0_5_15 _ _ (by omega) (by omega) Y _).mono ?_; rintro e w' ⟨rfl, kY, rfl⟩
  go_wp2_with fail
  refine (move_0_5_20 _ _ (by omega) (by omega) Z _).mono ?_; rintro e w' ⟨rfl, kZ, rfl⟩
  go_wp2_with fail
  go_ret
  exact ⟨rfl, _, rfl⟩
set_option maxRecDepth 100000 in
set_option maxHeartbeats 4000000 in
theorem obits1 (o d a b n x y z : Int) (X : Hid (d % 4294967296 % 32 * 128 = x)) (Y : Hid (a % 4294967296 % 32 * 32768 = y)) (Z : Hid (b % 4294967296 % 32 * 1048576 = z)) (w : World) :
    Calls Tryd.prog 20 #[.int .i64 1, .agg (cells o d a b n)] w fun e w' => e = .returned (.int .u32 (0)) ∧ ∃ m, w' = (w.alloc (.cells (cells o d a b n) 27)).drewN m := by
  go_enter Tryd.func20, Tryd.ntmps20
  go_wp2_with fail
  refine (move_0_5_7 _ _ (by omega) (by omega) X _).mono ?_; rintro e w' ⟨rfl, kX, rfl⟩
  go_wp2_with fail
  refine (move_0_5_15 _ _ (by omega) (by omega) Y _).mono ?_; rintro e w' ⟨rfl, kY, rfl⟩
  go_wp2_with fail
  refine (move_0_5_20 _ _ (by omega) (by omega) Z _).mono ?_; rintro e w' ⟨rfl, kZ, rfl⟩
  go_wp2_with fail
  go_ret
  exact ⟨rfl, _, rfl⟩
set_option maxRecDepth 100000 in
set_option maxHeartbeats 4000000 in
theorem obits2 (o d a b n x y z : Int) (X : Hid (d % 4294967296 % 32 * 128 = x)) (Y : Hid (a % 4294967296 % 32 * 32768 = y)) (Z : Hid (b % 4294967296 % 32 * 1048576 = z)) (w : World) :
    Calls Tryd.prog 20 #[.int .i64 2, .agg (cells o d a b n)] w fun e w' => e = .returned (.int .u32 (bits .or .u32 (bits .or .u32 x y) z)) ∧ ∃ m, w' = (w.alloc (.cells (cells o d a b n) 27)).drewN m := by
  go_enter Tryd.func20, Tryd.ntmps20
  go_wp2_with fail
  refine (move_0_5_7 _ _ (by omega) (by omega) X _).mono ?_; rintro e w' ⟨rfl, kX, rfl⟩
  go_wp2_with fail
  refine (move_0_5_15 _ _ (by omega) (by omega) Y _).mono ?_; rintro e w' ⟨rfl, kY, rfl⟩
  go_wp2_with fail
  refine (move_0_5_20 _ _ (by omega) (by omega) Z _).mono ?_; rintro e w' ⟨rfl, kZ, rfl⟩
  go_wp2_with fail
  go_ret
  exact ⟨rfl, _, rfl⟩
set_option maxRecDepth 100000 in
set_option maxHeartbeats 4000000 in
theorem obits3 (o d a b n x y z m0 : Int) (X : Hid (d % 4294967296 % 32 * 128 = x)) (Y : Hid (a % 4294967296 % 32 * 32768 = y)) (Z : Hid (b % 4294967296 % 32 * 1048576 = z)) (M0 : Hid (n % 4294967296 % 4096 * 1048576 = m0)) (w : World) :
    Calls Tryd.prog 20 #[.int .i64 3, .agg (cells o d a b n)] w fun e w' => e = .returned (.int .u32 (bits .or .u32 (bits .or .u32 x y) m0)) ∧ ∃ m, w' = (w.alloc (.cells (cells o d a b n) 27)).drewN m := by
  go_enter Tryd.func20, Tryd.ntmps20
  go_wp2_with fail
  refine (move_0_5_7 _ _ (by omega) (by omega) X _).mono ?_; rintro e w' ⟨rfl, kX, rfl⟩
  go_wp2_with fail
  refine (move_0_5_15 _ _ (by omega) (by omega) Y _).mono ?_; rintro e w' ⟨rfl, kY, rfl⟩
  go_wp2_with fail
  refine (move_0_5_20 _ _ (by omega) (by omega) Z _).mono ?_; rintro e w' ⟨rfl, kZ, rfl⟩
  go_wp2_with fail
  refine (move_0_12_20 _ _ (by omega) (by omega) M0 _).mono ?_; rintro e w' ⟨rfl, k0, rfl⟩
  go_wp2_with fail
  go_ret
  exact ⟨rfl, _, rfl⟩
set_option maxRecDepth 100000 in
set_option maxHeartbeats 4000000 in
theorem obits4 (o d a b n x y z m0 : Int) (X : Hid (d % 4294967296 % 32 * 128 = x)) (Y : Hid (a % 4294967296 % 32 * 32768 = y)) (Z : Hid (b % 4294967296 % 32 * 1048576 = z)) (M0 : Hid (n % 4294967296 % 32 * 1048576 = m0)) (w : World) :
    Calls Tryd.prog 20 #[.int .i64 4, .agg (cells o d a b n)] w fun e w' => e = .returned (.int .u32 (bits .or .u32 (bits .or .u32 x y) m0)) ∧ ∃ m, w' = (w.alloc (.cells (cells o d a b n) 27)).drewN m := by
  go_enter Tryd.func20, Tryd.ntmps20
  go_wp2_with fail
  refine (move_0_5_7 _ _ (by omega) (by omega) X _).mono ?_; rintro e w' ⟨rfl, kX, rfl⟩
  go_wp2_with fail
  refine (move_0_5_15 _ _ (by omega) (by omega) Y _).mono ?_; rintro e w' ⟨rfl, kY, rfl⟩
  go_wp2_with fail
  refine (move_0_5_20 _ _ (by omega) (by omega) Z _).mono ?_; rintro e w' ⟨rfl, kZ, rfl⟩
  go_wp2_with fail
  refine (move_0_5_20 _ _ (by omega) (by omega) M0 _).mono ?_; rintro e w' ⟨rfl, k0, rfl⟩
  go_wp2_with fail
  go_ret
  exact ⟨rfl, _, rfl⟩
set_option maxRecDepth 100000 in
set_option maxHeartbeats 4000000 in
theorem obits5 (o d a b n x y z m0 m1 : Int) (X : Hid (d % 4294967296 % 32 * 128 = x)) (Y : Hid (a % 4294967296 % 32 * 32768 = y)) (Z : Hid (b % 4294967296 % 32 * 1048576 = z)) (M0 : Hid (n % 4294967296 % 32 * 128 = m0)) (M1 : Hid (n % 4294967296 / 32 % 128 * 33554432 = m1)) (w : World) :
    Calls Tryd.prog 20 #[.int .i64 5, .agg (cells o d a b n)] w fun e w' => e = .returned (.int .u32 (bits .or .u32 (bits .or .u32 (bits .or .u32 y z) m0) m1)) ∧ ∃ m, w' = (w.alloc (.cells (cells o d a b n) 27)).drewN m := by
  go_enter Tryd.func20, Tryd.ntmps20
  go_wp2_with fail
  refine (move_0_5_7 _ _ (by omega) (by omega) X _).mono ?_; rintro e w' ⟨rfl, kX, rfl⟩
  go_wp2_with fail
  refine (move_0_5_15 _ _ (by omega) (by omega) Y _).mono ?_; rintro e w' ⟨rfl, kY, rfl⟩
  go_wp2_with fail
  refine (move_0_5_20 _ _ (by omega) (by omega) Z _).mono ?_; rintro e w' ⟨rfl, kZ, rfl⟩
  go_wp2_with fail
  refine (move_0_5_7 _ _ (by omega) (by omega) M0 _).mono ?_; rintro e w' ⟨rfl, k0, rfl⟩
  go_wp2_with fail
  refine (move_5_7_25 _ _ (by omega) (by omega) M1 _).mono ?_; rintro e w' ⟨rfl, k1, rfl⟩
  go_wp2_with fail
  go_ret
  exact ⟨rfl, _, rfl⟩
set_option maxRecDepth 100000 in
set_option maxHeartbeats 4000000 in
theorem obits6 (o d a b n x y z m0 m1 m2 m3 : Int) (X : Hid (d % 4294967296 % 32 * 128 = x)) (Y : Hid (a % 4294967296 % 32 * 32768 = y)) (Z : Hid (b % 4294967296 % 32 * 1048576 = z)) (M0 : Hid (n % 4294967296 / 2048 % 2 * 128 = m0)) (M1 : Hid (n % 4294967296 / 2 % 16 * 256 = m1)) (M2 : Hid (n % 4294967296 / 32 % 64 * 33554432 = m2)) (M3 : Hid (n % 4294967296 / 4096 % 2 * 2147483648 = m3)) (w : World) :
    Calls Tryd.prog 20 #[.int .i64 6, .agg (cells o d a b n)] w fun e w' => e = .returned (.int .u32 (bits .or .u32 (bits .or .u32 (bits .or .u32 (bits .or .u32 (bits .or .u32 y z) m0) m1) m2) m3)) ∧ ∃ m, w' = (w.alloc (.cells (cells o d a b n) 27)).drewN m := by
  go_enter Tryd.func20, Tryd.ntmps20
  go_wp2_with fail
  refine (move_0_5_7 _ _ (by omega) (by omega) X _).mono ?_; rintro e w' ⟨rfl, kX, rfl⟩
  go_wp2_with fail
  refine (move_0_5_15 _ _ (by omega) (by omega) Y _).mono ?_; rintro e w' ⟨rfl, kY, rfl⟩
  go_wp2_with fail
  refine (move_0_5_20 _ _ (by omega) (by omega) Z _).mono ?_; rintro e w' ⟨rfl, kZ, rfl⟩
  go_wp2_with fail
  refine (move_11_1_7 _ _ (by omega) (by omega) M0 _).mono ?_; rintro e w' ⟨rfl, k0, rfl⟩
  go_wp2_with fail
  refine (move_1_4_8 _ _ (by omega) (by omega) M1 _).mono ?_; rintro e w' ⟨rfl, k1, rfl⟩
  go_wp2_with fail
  refine (move_5_6_25 _ _ (by omega) (by omega) M2 _).mono ?_; rintro e w' ⟨rfl, k2, rfl⟩
  go_wp2_with fail
  refine (move_12_1_31 _ _ (by omega) (by omega) M3 _).mono ?_; rintro e w' ⟨rfl, k3, rfl⟩
  go_wp2_with fail
  go_ret
  exact ⟨rfl, _, rfl⟩
set_option maxRecDepth 100000 in
set_option maxHeartbeats 4000000 in
theorem obits7 (o d a b n x y z m0 : Int) (X : Hid (d % 4294967296 % 32 * 128 = x)) (Y : Hid (a % 4294967296 % 32 * 32768 = y)) (Z : Hid (b % 4294967296 % 32 * 1048576 = z)) (M0 : Hid (n % 4294967296 / 4096 % 1048576 * 4096 = m0)) (w : World) :
    Calls Tryd.prog 20 #[.int .i64 7, .agg (cells o d a b n)] w fun e w' => e = .returned (.int .u32 (bits .or .u32 x m0)) ∧ ∃ m, w' = (w.alloc (.cells (cells o d a b n) 27)).drewN m := by
  go_enter Tryd.func20, Tryd.ntmps20
  go_wp2_with fail
  refine (move_0_5_7 _ _ (by omega) (by omega) X _).mono ?_; rintro e w' ⟨rfl, kX, rfl⟩
  go_wp2_with fail
  refine (move_0_5_15 _ _ (by omega) (by omega) Y _).mono ?_; rintro e w' ⟨rfl, kY, rfl⟩
  go_wp2_with fail
  refine (move_0_5_20 _ _ (by omega) (by omega) Z _).mono ?_; rintro e w' ⟨rfl, kZ, rfl⟩
  go_wp2_with fail
  refine (move_12_20_12 _ _ (by omega) (by omega) M0 _).mono ?_; rintro e w' ⟨rfl, k0, rfl⟩
  go_wp2_with fail
  go_ret
  exact ⟨rfl, _, rfl⟩
set_option maxRecDepth 100000 in
set_option maxHeartbeats 4000000 in
theorem obits8 (o d a b n x y z m0 m1 m2 m3 : Int) (X : Hid (d % 4294967296 % 32 * 128 = x)) (Y : Hid (a % 4294967296 % 32 * 32768 = y)) (Z : Hid (b % 4294967296 % 32 * 1048576 = z)) (M0 : Hid (n % 4294967296 / 4096 % 256 * 4096 = m0)) (M1 : Hid (n % 4294967296 / 2048 % 2 * 1048576 = m1)) (M2 : Hid (n % 4294967296 / 2 % 1024 * 2097152 = m2)) (M3 : Hid (n % 4294967296 / 1048576 % 2 * 2147483648 = m3)) (w : World) :
    Calls Tryd.prog 20 #[.int .i64 8, .agg (cells o d a b n)] w fun e w' => e = .returned (.int .u32 (bits .or .u32 (bits .or .u32 (bits .or .u32 (bits .or .u32 x m0) m1) m2) m3)) ∧ ∃ m, w' = (w.alloc (.cells (cells o d a b n) 27)).drewN m := by
  go_enter Tryd.func20, Tryd.ntmps20
  go_wp2_with fail
  refine (move_0_5_7 _ _ (by omega) (by omega) X _).mono ?_; rintro e w' ⟨rfl, kX, rfl⟩
  go_wp2_with fail
  refine (move_0_5_15 _ _ (by omega) (by omega) Y _).mono ?_; rintro e w' ⟨rfl, kY, rfl⟩
  go_wp2_with fail
  refine (move_0_5_20 _ _ (by omega) (by omega) Z _).mono ?_; rintro e w' ⟨rfl, kZ, rfl⟩
  go_wp2_with fail
  refine (move_12_8_12 _ _ (by omega) (by omega) M0 _).mono ?_; rintro e w' ⟨rfl, k0, rfl⟩
  go_wp2_with fail
  refine (move_11_1_20 _ _ (by omega) (by omega) M1 _).mono ?_; rintro e w' ⟨rfl, k1, rfl⟩
  go_wp2_with fail
  refine (move_1_10_21 _ _ (by omega) (by omega) M2 _).mono ?_; rintro e w' ⟨rfl, k2, rfl⟩
  go_wp2_with fail
  refine (move_20_1_31 _ _ (by omega) (by omega) M3 _).mono ?_; rintro e w' ⟨rfl, k3, rfl⟩
  go_wp2_with fail
  go_ret
  exact ⟨rfl, _, rfl⟩
set_option maxRecDepth 100000 in
set_option maxHeartbeats 4000000 in
theorem obits9 (o d a b n x y z m0 : Int) (X : Hid (d % 4294967296 % 32 * 128 = x)) (Y : Hid (a % 4294967296 % 32 * 32768 = y)) (Z : Hid (b % 4294967296 % 32 * 1048576 = z)) (M0 : Hid (n % 4294967296 % 4096 * 1048576 = m0)) (w : World) :
    Calls Tryd.prog 20 #[.int .i64 9, .agg (cells o d a b n)] w fun e w' => e = .returned (.int .u32 (bits .or .u32 (bits .or .u32 x y) m0)) ∧ ∃ m, w' = (w.alloc (.cells (cells o d a b n) 27)).drewN m := by
  go_enter Tryd.func20, Tryd.ntmps20
  go_wp2_with fail
  refine (move_0_5_7 _ _ (by omega) (by omega) X _).mono ?_; rintro e w' ⟨rfl, kX, rfl⟩
  go_wp2_with fail
  refine (move_0_5_15 _ _ (by omega) (by omega) Y _).mono ?_; rintro e w' ⟨rfl, kY, rfl⟩
  go_wp2_with fail
  refine (move_0_5_20 _ _ (by omega) (by omega) Z _).mono ?_; rintro e w' ⟨rfl, kZ, rfl⟩
  go_wp2_with fail
  refine (move_0_12_20 _ _ (by omega) (by omega) M0 _).mono ?_; rintro e w' ⟨rfl, k0, rfl⟩
  go_wp2_with fail
  go_ret
  exact ⟨rfl, _, rfl⟩
set_option maxRecDepth 100000 in
set_option maxHeartbeats 4000000 in
theorem obits10 (o d a b n x y z m0 : Int) (X : Hid (d % 4294967296 % 32 * 128 = x)) (Y : Hid (a % 4294967296 % 32 * 32768 = y)) (Z : Hid (b % 4294967296 % 32 * 1048576 = z)) (M0 : Hid (n % 4294967296 % 4096 * 1048576 = m0)) (w : World) :
    Calls Tryd.prog 20 #[.int .i64 10, .agg (cells o d a b n)] w fun e w' => e = .returned (.int .u32 (bits .or .u32 (bits .or .u32 x y) m0)) ∧ ∃ m, w' = (w.alloc (.cells (cells o d a b n) 27)).drewN m := by
  go_enter Tryd.func20, Tryd.ntmps20
  go_wp2_with fail
  refine (move_0_5_7 _ _ (by omega) (by omega) X _).mono ?_; rintro e w' ⟨rfl, kX, rfl⟩
  go_wp2_with fail
  refine (move_0_5_15 _ _ (by omega) (by omega) Y _).mono ?_; rintro e w' ⟨rfl, kY, rfl⟩
  go_wp2_with fail
  refine (move_0_5_20 _ _ (by omega) (by omega) Z _).mono ?_; rintro e w' ⟨rfl, kZ, rfl⟩
  go_wp2_with fail
  refine (move_0_12_20 _ _ (by omega) (by omega) M0 _).mono ?_; rintro e w' ⟨rfl, k0, rfl⟩
  go_wp2_with fail
  go_ret
  exact ⟨rfl, _, rfl⟩
end Go.Proofs.YtlnliiihcajboaaDoor.Walks
