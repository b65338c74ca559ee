/- Contracts of the program's and the document's own Bits and Sign. -/
import Derived.Test.YtlnliiihcajboaaDoorNums
namespace Go.Proofs.YtlnliiihcajboaaDoor.Walks
open Go.ChangeShapes Go.WideShapes Go.ChangeAt Go.RowKit
theorem ret_int {k : IntKind} {a b : Int} (h : a = b) : Ending.returned (.int k a) = .returned (.int k b) := by rw [h]
set_option maxHeartbeats 1000000 in
theorem bits_in (v a n : Int) (a0 : 0 ≤ a) (a1 : a ≤ 31) (n0 : 1 ≤ n) (n1 : n ≤ 32) (w : World) :
    Calls Tryd.prog 57 #[.int .u32 v, .int .i64 a, .int .i64 n] w fun e w' => e = .returned (.int .u32 (Num.bt v a n)) ∧ w' = w := by
  go_enter Tryd.func57, Tryd.ntmps57
  go_wp2
  go_ret
  exact ⟨ret_int (Num.bt_as v a n a0 a1 n0 n1), rfl⟩
set_option maxHeartbeats 1000000 in
theorem bits_off (v a n : Int) (h : a < 0 ∨ 31 < a ∨ n < 1 ∨ 32 < n) (w : World) :
    Calls Tryd.prog 57 #[.int .u32 v, .int .i64 a, .int .i64 n] w fun e w' => e = .returned (.int .u32 0) ∧ w' = w := by
  go_enter Tryd.func57, Tryd.ntmps57
  go_wp2
  all_goals first
    | (exfalso; omega)
    | (go_ret; exact ⟨rfl, rfl⟩)
theorem bits_as (v a n c : Int) (H : Hid (Num.bt v a n = c)) (w : World) :
    Calls Tryd.prog 57 #[.int .u32 v, .int .i64 a, .int .i64 n] w fun e w' => e = .returned (.int .u32 c) ∧ w' = w := by
  rw [← H.out]
  by_cases h : 0 ≤ a ∧ a ≤ 31 ∧ 1 ≤ n ∧ n ≤ 32
  · exact bits_in v a n h.1 h.2.1 h.2.2.1 h.2.2.2 w
  · have h' : a < 0 ∨ 31 < a ∨ n < 1 ∨ 32 < n := by omega
    rw [Num.bt_off v a n h']
    exact bits_off v a n h' w
set_option maxHeartbeats 1000000 in
theorem sign_in (v n : Int) (n0 : 1 ≤ n) (n1 : n ≤ 32) (w : World) :
    Calls Tryd.prog 79 #[.int .u32 v, .int .i64 n] w fun e w' => e = .returned (.int .i32 (Num.sn v n)) ∧ w' = w := by
  go_enter Tryd.func79, Tryd.ntmps79
  go_wp2
  go_ret
  exact ⟨ret_int (Num.sn_as v n n0 n1), rfl⟩
set_option maxHeartbeats 1000000 in
theorem sign_off (v n : Int) (h : n < 1 ∨ 32 < n) (w : World) :
    Calls Tryd.prog 79 #[.int .u32 v, .int .i64 n] w fun e w' => e = .returned (.int .i32 0) ∧ w' = w := by
  go_enter Tryd.func79, Tryd.ntmps79
  go_wp2
  all_goals first
    | (exfalso; omega)
    | (go_ret; exact ⟨rfl, rfl⟩)
theorem sign_as (v n c : Int) (H : Hid (Num.sn v n = c)) (w : World) :
    Calls Tryd.prog 79 #[.int .u32 v, .int .i64 n] w fun e w' => e = .returned (.int .i32 c) ∧ w' = w := by
  rw [← H.out]
  by_cases h : 1 ≤ n ∧ n ≤ 32
  · exact sign_in v n h.1 h.2 w
  · have h' : n < 1 ∨ 32 < n := by omega
    rw [Num.sn_off v n h']
    exact sign_off v n h' w
set_option maxHeartbeats 1000000 in
theorem rsign_in (v n : Int) (n0 : 1 ≤ n) (n1 : n ≤ 32) (w : World) :
    Calls Tryd.prog 51 #[.int .u32 v, .int .i64 n] w fun e w' => e = .returned (.int .i32 (Num.sn v n)) ∧ w' = w := by
  go_enter Tryd.func51, Tryd.ntmps51
  go_wp2
  go_ret
  exact ⟨ret_int (Num.sn_as v n n0 n1), rfl⟩
set_option maxHeartbeats 1000000 in
theorem rsign_off (v n : Int) (h : n < 1 ∨ 32 < n) (w : World) :
    Calls Tryd.prog 51 #[.int .u32 v, .int .i64 n] w fun e w' => e = .returned (.int .i32 0) ∧ w' = w := by
  go_enter Tryd.func51, Tryd.ntmps51
  go_wp2
  all_goals first
    | (exfalso; omega)
    | (go_ret; exact ⟨rfl, rfl⟩)
theorem rsign_as (v n c : Int) (H : Hid (Num.sn v n = c)) (w : World) :
    Calls Tryd.prog 51 #[.int .u32 v, .int .i64 n] w fun e w' => e = .returned (.int .i32 c) ∧ w' = w := by
  rw [← H.out]
  by_cases h : 1 ≤ n ∧ n ≤ 32
  · exact rsign_in v n h.1 h.2 w
  · have h' : n < 1 ∨ 32 < n := by omega
    rw [Num.sn_off v n h']
    exact rsign_off v n h' w
end Go.Proofs.YtlnliiihcajboaaDoor.Walks
