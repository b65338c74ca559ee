/- Contract of Within for numbers to 300. -/
import Derived.Test.YtpkbkbllhpdfiaaGreatBoxes
namespace Go.Proofs.YtpkbkbllhpdfiaaGreat.Walks
open Go.ChangeShapes Go.WideShapes Go.ChangeAt Go.RowKit
set_option linter.unusedVariables false
/-- what Within(n, 0, 300) is -/
def wth3 (n : Int) : Int := if 0 ≤ n ∧ n ≤ 300 then n else n % 301
theorem wth3_in (n : Int) : 0 ≤ wth3 n ∧ wth3 n ≤ 300 := by
  unfold wth3; split <;> omega
theorem neg_tm3 (n : Int) (h : n < 0) : n.tmod 301 = -((-n) % 301) := by
  have e : n.tmod 301 = -((-n).tmod 301) := by rw [Int.neg_tmod, Int.neg_neg]
  rw [e, Int.tmod_eq_emod_of_nonneg (by omega)]
set_option maxHeartbeats 2000000 in
theorem within_in3 (n : Int) (h0 : 0 ≤ n) (h1 : n ≤ 300) (w : World) :
    Calls Tryz.prog 13 #[.int .i64 n, .int .i64 0, .int .i64 300] w fun e w' => e = .returned (.int .i64 n) ∧ w' = w := by
  go_enter Tryz.func13, Tryz.ntmps13
  go_wp2
  go_ret
  exact ⟨rfl, rfl⟩
set_option maxHeartbeats 2000000 in
theorem within_out3 (n m r : Int) (h : n < 0 ∨ 300 < n) (M : n.tmod 301 = m) (m0 : -300 ≤ m) (m1 : m ≤ 300) (R : Hid (r = if m < 0 then m + 301 else m)) (w : World) :
    Calls Tryz.prog 13 #[.int .i64 n, .int .i64 0, .int .i64 300] w fun e w' => e = .returned (.int .i64 r) ∧ w' = w := by
  rw [R.out]
  rcases h with h | h <;> by_cases x : m < 0
  · rw [if_pos x]
    go_enter Tryz.func13, Tryz.ntmps13
    go_wp2
    go_ret
    exact ⟨ret_int (by omega), rfl⟩
  · rw [if_neg x]
    go_enter Tryz.func13, Tryz.ntmps13
    go_wp2
    go_ret
    exact ⟨ret_int (by omega), rfl⟩
  · rw [if_pos x]
    go_enter Tryz.func13, Tryz.ntmps13
    go_wp2
    go_ret
    exact ⟨ret_int (by omega), rfl⟩
  · rw [if_neg x]
    go_enter Tryz.func13, Tryz.ntmps13
    go_wp2
    go_ret
    exact ⟨ret_int (by omega), rfl⟩
theorem within_as3 (n r : Int) (R : Hid (wth3 n = r)) (w : World) :
    Calls Tryz.prog 13 #[.int .i64 n, .int .i64 0, .int .i64 300] w fun e w' => e = .returned (.int .i64 r) ∧ w' = w := by
  rw [← R.out, wth3]
  by_cases h : 0 ≤ n ∧ n ≤ 300
  · rw [if_pos h]; exact within_in3 n h.1 h.2 w
  · rw [if_neg h]
    by_cases x : n < 0
    · have e := neg_tm3 n x
      refine within_out3 n _ _ (.inl x) rfl (by omega) (by omega) ?_ w
      unfold Hid
      rw [e]
      split <;> omega
    · have e : n.tmod 301 = n % 301 := Int.tmod_eq_emod_of_nonneg (by omega)
      refine within_out3 n _ _ (.inr (by omega)) rfl (by omega) (by omega) ?_ w
      unfold Hid
      rw [e]
      split <;> omega
end Go.Proofs.YtpkbkbllhpdfiaaGreat.Walks
