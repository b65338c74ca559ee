/- The document's own Do, op by op. -/
import Derived.Test.YtbedgfobbnonjaaBasic
namespace Go.Proofs.Ytbedgfobbnonjaa.Walks
open Go.ChangeShapes Go.WideShapes Go.ChangeAt Go.RowKit
set_option linter.unusedVariables false
set_option maxHeartbeats 2000000 in
theorem slow38 (a b : Int)  (w : World) :
    Calls Try.prog 24 #[.int .i64 38, .int .u32 a, .int .u32 b] w fun e w' => e = .returned (.int .u32 (a * b % 4294967296)) ∧ w' = w := by
  go_enter Try.func24, Try.ntmps24
  go_wp2_with fail
  go_ret
  exact ⟨rfl, rfl⟩
set_option maxHeartbeats 2000000 in
theorem slow39 (a b : Int) (x y : Int) (X : wrap64 (wrap32 a) = x) (Y : wrap64 (wrap32 b) = y) (p : Int) (P : wrap64 (x * y) = p) (w : World) :
    Calls Try.prog 24 #[.int .i64 39, .int .u32 a, .int .u32 b] w fun e w' => e = .returned (.int .u32 (p / 4294967296 % 4294967296)) ∧ w' = w := by
  go_enter Try.func24, Try.ntmps24
  go_wp2_with fail
  go_ret
  exact ⟨rfl, rfl⟩
set_option maxHeartbeats 2000000 in
theorem slow40 (a b : Int) (x y : Int) (X : wrap64 (wrap32 a) = x) (Y : wrap64 (wrap32 b) = y) (p : Int) (P : wrap64 (x * b) = p) (b0 : 0 ≤ b) (b1 : b ≤ 4294967295) (w : World) :
    Calls Try.prog 24 #[.int .i64 40, .int .u32 a, .int .u32 b] w fun e w' => e = .returned (.int .u32 (p / 4294967296 % 4294967296)) ∧ w' = w := by
  go_enter Try.func24, Try.ntmps24
  go_wp2_with fail
  go_ret
  exact ⟨rfl, rfl⟩
set_option maxHeartbeats 2000000 in
theorem slow41 (a b : Int) (a0 : 0 ≤ a) (a1 : a ≤ 4294967295) (b0 : 0 ≤ b) (b1 : b ≤ 4294967295) (p : Int) (P : IntKind.u64.wrap (a * b) = p) (w : World) :
    Calls Try.prog 24 #[.int .i64 41, .int .u32 a, .int .u32 b] w fun e w' => e = .returned (.int .u32 (p / 4294967296 % 4294967296)) ∧ w' = w := by
  go_enter Try.func24, Try.ntmps24
  go_wp2_with fail
  go_ret
  exact ⟨rfl, rfl⟩
set_option maxHeartbeats 2000000 in
theorem slow42 (a b : Int) (x y : Int) (X : wrap64 (wrap32 a) = x) (Y : wrap64 (wrap32 b) = y) (q : Int) (Q : wrap64 (x.tdiv y) = q) (h : (b == 0) = false) (hy : ¬ y = 0) (w : World) :
    Calls Try.prog 24 #[.int .i64 42, .int .u32 a, .int .u32 b] w fun e w' => e = .returned (.int .u32 (q % 4294967296)) ∧ w' = w := by
  go_enter Try.func24, Try.ntmps24
  go_wp2_with fail
  go_ret
  exact ⟨rfl, rfl⟩
set_option maxHeartbeats 2000000 in
theorem slow43 (a b : Int) (a0 : 0 ≤ a) (a1 : a ≤ 4294967295) (b0 : 0 ≤ b) (b1 : b ≤ 4294967295) (h : (b == 0) = false) (h' : ¬ b = 0) (w : World) :
    Calls Try.prog 24 #[.int .i64 43, .int .u32 a, .int .u32 b] w fun e w' => e = .returned (.int .u32 (a / b)) ∧ w' = w := by
  go_enter Try.func24, Try.ntmps24
  go_wp2_with fail
  go_ret
  exact ⟨rfl, rfl⟩
set_option maxHeartbeats 2000000 in
theorem slow44 (a b : Int) (x y : Int) (X : wrap64 (wrap32 a) = x) (Y : wrap64 (wrap32 b) = y) (h : (b == 0) = false) (hy : ¬ y = 0) (w : World) :
    Calls Try.prog 24 #[.int .i64 44, .int .u32 a, .int .u32 b] w fun e w' => e = .returned (.int .u32 (x.tmod y % 4294967296)) ∧ w' = w := by
  go_enter Try.func24, Try.ntmps24
  go_wp2_with fail
  go_ret
  exact ⟨rfl, rfl⟩
set_option maxHeartbeats 2000000 in
theorem slow45 (a b : Int) (a0 : 0 ≤ a) (a1 : a ≤ 4294967295) (b0 : 0 ≤ b) (b1 : b ≤ 4294967295) (h : (b == 0) = false) (h' : ¬ b = 0) (w : World) :
    Calls Try.prog 24 #[.int .i64 45, .int .u32 a, .int .u32 b] w fun e w' => e = .returned (.int .u32 (a % b)) ∧ w' = w := by
  go_enter Try.func24, Try.ntmps24
  go_wp2_with fail
  go_ret
  exact ⟨rfl, rfl⟩
set_option maxHeartbeats 2000000 in
theorem slow42z (a : Int)  (w : World) :
    Calls Try.prog 24 #[.int .i64 42, .int .u32 a, .int .u32 0] w fun e w' => e = .returned (.int .u32 (4294967295)) ∧ w' = w := by
  go_enter Try.func24, Try.ntmps24
  go_wp2_with fail
  go_ret
  exact ⟨rfl, rfl⟩
set_option maxHeartbeats 2000000 in
theorem slow43z (a : Int)  (w : World) :
    Calls Try.prog 24 #[.int .i64 43, .int .u32 a, .int .u32 0] w fun e w' => e = .returned (.int .u32 (4294967295)) ∧ w' = w := by
  go_enter Try.func24, Try.ntmps24
  go_wp2_with fail
  go_ret
  exact ⟨rfl, rfl⟩
set_option maxHeartbeats 2000000 in
theorem slow44z (a : Int)  (w : World) :
    Calls Try.prog 24 #[.int .i64 44, .int .u32 a, .int .u32 0] w fun e w' => e = .returned (.int .u32 (a)) ∧ w' = w := by
  go_enter Try.func24, Try.ntmps24
  go_wp2_with fail
  go_ret
  exact ⟨rfl, rfl⟩
set_option maxHeartbeats 2000000 in
theorem slow45z (a : Int)  (w : World) :
    Calls Try.prog 24 #[.int .i64 45, .int .u32 a, .int .u32 0] w fun e w' => e = .returned (.int .u32 (a)) ∧ w' = w := by
  go_enter Try.func24, Try.ntmps24
  go_wp2_with fail
  go_ret
  exact ⟨rfl, rfl⟩
set_option maxHeartbeats 2000000 in
theorem slowNo (op a b : Int) (h38 : (op == 38) = false) (h39 : (op == 39) = false) (h40 : (op == 40) = false) (h41 : (op == 41) = false) (h42 : (op == 42) = false) (h43 : (op == 43) = false) (h44 : (op == 44) = false) (h45 : (op == 45) = false) (w : World) :
    Calls Try.prog 24 #[.int .i64 op, .int .u32 a, .int .u32 b] w fun e w' => e = .returned (.int .u32 0) ∧ w' = w := by
  go_enter Try.func24, Try.ntmps24
  go_wp2_with fail
  go_ret
  exact ⟨rfl, rfl⟩
set_option maxHeartbeats 2000000 in
theorem rdo28 (a b : Int)  (w : World) :
    Calls Try.prog 13 #[.int .i64 28, .int .u32 a, .int .u32 b] w fun e w' => e = .returned (.int .u32 ((a + b) % 4294967296)) ∧ w' = w := by
  go_enter Try.func13, Try.ntmps13
  go_wp2_with fail
  go_ret
  exact ⟨rfl, rfl⟩
set_option maxHeartbeats 2000000 in
theorem rdo19 (a b : Int)  (w : World) :
    Calls Try.prog 13 #[.int .i64 19, .int .u32 a, .int .u32 b] w fun e w' => e = .returned (.int .u32 ((a + b) % 4294967296)) ∧ w' = w := by
  go_enter Try.func13, Try.ntmps13
  go_wp2_with fail
  go_ret
  exact ⟨rfl, rfl⟩
set_option maxHeartbeats 2000000 in
theorem rdo29 (a b : Int)  (w : World) :
    Calls Try.prog 13 #[.int .i64 29, .int .u32 a, .int .u32 b] w fun e w' => e = .returned (.int .u32 ((a - b) % 4294967296)) ∧ w' = w := by
  go_enter Try.func13, Try.ntmps13
  go_wp2_with fail
  go_ret
  exact ⟨rfl, rfl⟩
set_option maxHeartbeats 2000000 in
theorem rdo30 (a b : Int) (s : Int) (s0 : 0 ≤ s) (s1 : s ≤ 31) (S : bits .and .u32 b 31 = s) (w : World) :
    Calls Try.prog 13 #[.int .i64 30, .int .u32 a, .int .u32 b] w fun e w' => e = .returned (.int .u32 (a * 2 ^ s.toNat % 4294967296)) ∧ w' = w := by
  go_enter Try.func13, Try.ntmps13
  go_wp2_with fail
  go_ret
  exact ⟨rfl, rfl⟩
set_option maxHeartbeats 2000000 in
theorem rdo25 (a b : Int) (s : Int) (s0 : 0 ≤ s) (s1 : s ≤ 31) (S : bits .and .u32 b 31 = s) (w : World) :
    Calls Try.prog 13 #[.int .i64 25, .int .u32 a, .int .u32 b] w fun e w' => e = .returned (.int .u32 (a * 2 ^ s.toNat % 4294967296)) ∧ w' = w := by
  go_enter Try.func13, Try.ntmps13
  go_wp2_with fail
  go_ret
  exact ⟨rfl, rfl⟩
set_option maxHeartbeats 2000000 in
theorem rdo31 (a b : Int)  (w : World) :
    Calls Try.prog 13 #[.int .i64 31, .int .u32 a, .int .u32 b] w fun e w' => e = .returned (.int .u32 (Num.one (decide (wrap32 a < wrap32 b)))) ∧ w' = w := by
  go_enter Try.func13, Try.ntmps13
  go_wp2_with fail
  refine (rbit_as _ _).mono ?_; rintro e w' ⟨rfl, rfl⟩
  go_wp2_with fail
  go_ret
  exact ⟨rfl, rfl⟩
set_option maxHeartbeats 2000000 in
theorem rdo20 (a b : Int)  (w : World) :
    Calls Try.prog 13 #[.int .i64 20, .int .u32 a, .int .u32 b] w fun e w' => e = .returned (.int .u32 (Num.one (decide (wrap32 a < wrap32 b)))) ∧ w' = w := by
  go_enter Try.func13, Try.ntmps13
  go_wp2_with fail
  refine (rbit_as _ _).mono ?_; rintro e w' ⟨rfl, rfl⟩
  go_wp2_with fail
  go_ret
  exact ⟨rfl, rfl⟩
set_option maxHeartbeats 2000000 in
theorem rdo32 (a b : Int)  (w : World) :
    Calls Try.prog 13 #[.int .i64 32, .int .u32 a, .int .u32 b] w fun e w' => e = .returned (.int .u32 (Num.one (decide (a < b)))) ∧ w' = w := by
  go_enter Try.func13, Try.ntmps13
  go_wp2_with fail
  refine (rbit_as _ _).mono ?_; rintro e w' ⟨rfl, rfl⟩
  go_wp2_with fail
  go_ret
  exact ⟨rfl, rfl⟩
set_option maxHeartbeats 2000000 in
theorem rdo21 (a b : Int)  (w : World) :
    Calls Try.prog 13 #[.int .i64 21, .int .u32 a, .int .u32 b] w fun e w' => e = .returned (.int .u32 (Num.one (decide (a < b)))) ∧ w' = w := by
  go_enter Try.func13, Try.ntmps13
  go_wp2_with fail
  refine (rbit_as _ _).mono ?_; rintro e w' ⟨rfl, rfl⟩
  go_wp2_with fail
  go_ret
  exact ⟨rfl, rfl⟩
set_option maxHeartbeats 2000000 in
theorem rdo33 (a b : Int)  (w : World) :
    Calls Try.prog 13 #[.int .i64 33, .int .u32 a, .int .u32 b] w fun e w' => e = .returned (.int .u32 (bits .xor .u32 a b)) ∧ w' = w := by
  go_enter Try.func13, Try.ntmps13
  go_wp2_with fail
  go_ret
  exact ⟨rfl, rfl⟩
set_option maxHeartbeats 2000000 in
theorem rdo22 (a b : Int)  (w : World) :
    Calls Try.prog 13 #[.int .i64 22, .int .u32 a, .int .u32 b] w fun e w' => e = .returned (.int .u32 (bits .xor .u32 a b)) ∧ w' = w := by
  go_enter Try.func13, Try.ntmps13
  go_wp2_with fail
  go_ret
  exact ⟨rfl, rfl⟩
set_option maxHeartbeats 2000000 in
theorem rdo34 (a b : Int) (s : Int) (s0 : 0 ≤ s) (s1 : s ≤ 31) (S : bits .and .u32 b 31 = s) (w : World) :
    Calls Try.prog 13 #[.int .i64 34, .int .u32 a, .int .u32 b] w fun e w' => e = .returned (.int .u32 (a / 2 ^ s.toNat)) ∧ w' = w := by
  go_enter Try.func13, Try.ntmps13
  go_wp2_with fail
  go_ret
  exact ⟨rfl, rfl⟩
set_option maxHeartbeats 2000000 in
theorem rdo26 (a b : Int) (s : Int) (s0 : 0 ≤ s) (s1 : s ≤ 31) (S : bits .and .u32 b 31 = s) (w : World) :
    Calls Try.prog 13 #[.int .i64 26, .int .u32 a, .int .u32 b] w fun e w' => e = .returned (.int .u32 (a / 2 ^ s.toNat)) ∧ w' = w := by
  go_enter Try.func13, Try.ntmps13
  go_wp2_with fail
  go_ret
  exact ⟨rfl, rfl⟩
set_option maxHeartbeats 2000000 in
theorem rdo35 (a b : Int) (s : Int) (s0 : 0 ≤ s) (s1 : s ≤ 31) (S : bits .and .u32 b 31 = s) (w : World) :
    Calls Try.prog 13 #[.int .i64 35, .int .u32 a, .int .u32 b] w fun e w' => e = .returned (.int .u32 (wrap32 a / 2 ^ s.toNat % 4294967296)) ∧ w' = w := by
  go_enter Try.func13, Try.ntmps13
  go_wp2_with fail
  go_ret
  exact ⟨rfl, rfl⟩
set_option maxHeartbeats 2000000 in
theorem rdo27 (a b : Int) (s : Int) (s0 : 0 ≤ s) (s1 : s ≤ 31) (S : bits .and .u32 b 31 = s) (w : World) :
    Calls Try.prog 13 #[.int .i64 27, .int .u32 a, .int .u32 b] w fun e w' => e = .returned (.int .u32 (wrap32 a / 2 ^ s.toNat % 4294967296)) ∧ w' = w := by
  go_enter Try.func13, Try.ntmps13
  go_wp2_with fail
  go_ret
  exact ⟨rfl, rfl⟩
set_option maxHeartbeats 2000000 in
theorem rdo36 (a b : Int)  (w : World) :
    Calls Try.prog 13 #[.int .i64 36, .int .u32 a, .int .u32 b] w fun e w' => e = .returned (.int .u32 (bits .or .u32 a b)) ∧ w' = w := by
  go_enter Try.func13, Try.ntmps13
  go_wp2_with fail
  go_ret
  exact ⟨rfl, rfl⟩
set_option maxHeartbeats 2000000 in
theorem rdo23 (a b : Int)  (w : World) :
    Calls Try.prog 13 #[.int .i64 23, .int .u32 a, .int .u32 b] w fun e w' => e = .returned (.int .u32 (bits .or .u32 a b)) ∧ w' = w := by
  go_enter Try.func13, Try.ntmps13
  go_wp2_with fail
  go_ret
  exact ⟨rfl, rfl⟩
set_option maxHeartbeats 2000000 in
theorem rdo37 (a b : Int)  (w : World) :
    Calls Try.prog 13 #[.int .i64 37, .int .u32 a, .int .u32 b] w fun e w' => e = .returned (.int .u32 (bits .and .u32 a b)) ∧ w' = w := by
  go_enter Try.func13, Try.ntmps13
  go_wp2_with fail
  go_ret
  exact ⟨rfl, rfl⟩
set_option maxHeartbeats 2000000 in
theorem rdo24 (a b : Int)  (w : World) :
    Calls Try.prog 13 #[.int .i64 24, .int .u32 a, .int .u32 b] w fun e w' => e = .returned (.int .u32 (bits .and .u32 a b)) ∧ w' = w := by
  go_enter Try.func13, Try.ntmps13
  go_wp2_with fail
  go_ret
  exact ⟨rfl, rfl⟩
set_option maxHeartbeats 2000000 in
theorem rdo38 (a b c : Int) (H : ∀ w : World, Calls Try.prog 24 #[.int .i64 38, .int .u32 a, .int .u32 b] w fun e w' => e = .returned (.int .u32 c) ∧ w' = w) (w : World) :
    Calls Try.prog 13 #[.int .i64 38, .int .u32 a, .int .u32 b] w fun e w' => e = .returned (.int .u32 c) ∧ w' = w := by
  go_enter Try.func13, Try.ntmps13
  go_wp2_with fail
  refine (H _).mono ?_; rintro e w' ⟨rfl, rfl⟩
  go_wp2_with fail
  go_ret
  exact ⟨rfl, rfl⟩
set_option maxHeartbeats 2000000 in
theorem rdo39 (a b c : Int) (H : ∀ w : World, Calls Try.prog 24 #[.int .i64 39, .int .u32 a, .int .u32 b] w fun e w' => e = .returned (.int .u32 c) ∧ w' = w) (w : World) :
    Calls Try.prog 13 #[.int .i64 39, .int .u32 a, .int .u32 b] w fun e w' => e = .returned (.int .u32 c) ∧ w' = w := by
  go_enter Try.func13, Try.ntmps13
  go_wp2_with fail
  refine (H _).mono ?_; rintro e w' ⟨rfl, rfl⟩
  go_wp2_with fail
  go_ret
  exact ⟨rfl, rfl⟩
set_option maxHeartbeats 2000000 in
theorem rdo40 (a b c : Int) (H : ∀ w : World, Calls Try.prog 24 #[.int .i64 40, .int .u32 a, .int .u32 b] w fun e w' => e = .returned (.int .u32 c) ∧ w' = w) (w : World) :
    Calls Try.prog 13 #[.int .i64 40, .int .u32 a, .int .u32 b] w fun e w' => e = .returned (.int .u32 c) ∧ w' = w := by
  go_enter Try.func13, Try.ntmps13
  go_wp2_with fail
  refine (H _).mono ?_; rintro e w' ⟨rfl, rfl⟩
  go_wp2_with fail
  go_ret
  exact ⟨rfl, rfl⟩
set_option maxHeartbeats 2000000 in
theorem rdo41 (a b c : Int) (H : ∀ w : World, Calls Try.prog 24 #[.int .i64 41, .int .u32 a, .int .u32 b] w fun e w' => e = .returned (.int .u32 c) ∧ w' = w) (w : World) :
    Calls Try.prog 13 #[.int .i64 41, .int .u32 a, .int .u32 b] w fun e w' => e = .returned (.int .u32 c) ∧ w' = w := by
  go_enter Try.func13, Try.ntmps13
  go_wp2_with fail
  refine (H _).mono ?_; rintro e w' ⟨rfl, rfl⟩
  go_wp2_with fail
  go_ret
  exact ⟨rfl, rfl⟩
set_option maxHeartbeats 2000000 in
theorem rdo42 (a b c : Int) (H : ∀ w : World, Calls Try.prog 24 #[.int .i64 42, .int .u32 a, .int .u32 b] w fun e w' => e = .returned (.int .u32 c) ∧ w' = w) (w : World) :
    Calls Try.prog 13 #[.int .i64 42, .int .u32 a, .int .u32 b] w fun e w' => e = .returned (.int .u32 c) ∧ w' = w := by
  go_enter Try.func13, Try.ntmps13
  go_wp2_with fail
  refine (H _).mono ?_; rintro e w' ⟨rfl, rfl⟩
  go_wp2_with fail
  go_ret
  exact ⟨rfl, rfl⟩
set_option maxHeartbeats 2000000 in
theorem rdo43 (a b c : Int) (H : ∀ w : World, Calls Try.prog 24 #[.int .i64 43, .int .u32 a, .int .u32 b] w fun e w' => e = .returned (.int .u32 c) ∧ w' = w) (w : World) :
    Calls Try.prog 13 #[.int .i64 43, .int .u32 a, .int .u32 b] w fun e w' => e = .returned (.int .u32 c) ∧ w' = w := by
  go_enter Try.func13, Try.ntmps13
  go_wp2_with fail
  refine (H _).mono ?_; rintro e w' ⟨rfl, rfl⟩
  go_wp2_with fail
  go_ret
  exact ⟨rfl, rfl⟩
set_option maxHeartbeats 2000000 in
theorem rdo44 (a b c : Int) (H : ∀ w : World, Calls Try.prog 24 #[.int .i64 44, .int .u32 a, .int .u32 b] w fun e w' => e = .returned (.int .u32 c) ∧ w' = w) (w : World) :
    Calls Try.prog 13 #[.int .i64 44, .int .u32 a, .int .u32 b] w fun e w' => e = .returned (.int .u32 c) ∧ w' = w := by
  go_enter Try.func13, Try.ntmps13
  go_wp2_with fail
  refine (H _).mono ?_; rintro e w' ⟨rfl, rfl⟩
  go_wp2_with fail
  go_ret
  exact ⟨rfl, rfl⟩
set_option maxHeartbeats 2000000 in
theorem rdo45 (a b c : Int) (H : ∀ w : World, Calls Try.prog 24 #[.int .i64 45, .int .u32 a, .int .u32 b] w fun e w' => e = .returned (.int .u32 c) ∧ w' = w) (w : World) :
    Calls Try.prog 13 #[.int .i64 45, .int .u32 a, .int .u32 b] w fun e w' => e = .returned (.int .u32 c) ∧ w' = w := by
  go_enter Try.func13, Try.ntmps13
  go_wp2_with fail
  refine (H _).mono ?_; rintro e w' ⟨rfl, rfl⟩
  go_wp2_with fail
  go_ret
  exact ⟨rfl, rfl⟩
set_option maxHeartbeats 2000000 in
theorem rdoNo (op a b : Int) (h28 : (op == 28) = false) (h19 : (op == 19) = false) (h29 : (op == 29) = false) (h30 : (op == 30) = false) (h25 : (op == 25) = false) (h31 : (op == 31) = false) (h20 : (op == 20) = false) (h32 : (op == 32) = false) (h21 : (op == 21) = false) (h33 : (op == 33) = false) (h22 : (op == 22) = false) (h34 : (op == 34) = false) (h26 : (op == 26) = false) (h35 : (op == 35) = false) (h27 : (op == 27) = false) (h36 : (op == 36) = false) (h23 : (op == 23) = false) (h37 : (op == 37) = false) (h24 : (op == 24) = false) (h38 : (op == 38) = false) (h39 : (op == 39) = false) (h40 : (op == 40) = false) (h41 : (op == 41) = false) (h42 : (op == 42) = false) (h43 : (op == 43) = false) (h44 : (op == 44) = false) (h45 : (op == 45) = false) (w : World) :
    Calls Try.prog 13 #[.int .i64 op, .int .u32 a, .int .u32 b] w fun e w' => e = .returned (.int .u32 0) ∧ w' = w := by
  go_enter Try.func13, Try.ntmps13
  go_wp2_with fail
  refine (slowNo _ _ _ h38 h39 h40 h41 h42 h43 h44 h45 _).mono ?_; rintro e w' ⟨rfl, rfl⟩
  go_wp2_with fail
  go_ret
  exact ⟨rfl, rfl⟩
end Go.Proofs.Ytbedgfobbnonjaa.Walks
