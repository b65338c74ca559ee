/- The library's Itoa at the numbers of registers: no memory is made. -/
import Derived.Test.YtlnliiihcajboaaDoorNumb
import Derived.Test.YtlnliiihcajboaaDoorMem
namespace Go.Proofs.YtlnliiihcajboaaDoor.Walks
open Go.ChangeShapes Go.WideShapes Go.ChangeAt Go.RowKit
set_option linter.unusedVariables false
theorem itoa_is0 : Lib.itoa 0 = [48] := by
  rw [Lib.itoa, if_neg (by decide), show (0 : Int).toNat = 0 from rfl, Lib.decDigits_one (by decide)]; rfl
set_option maxRecDepth 100000 in
set_option maxHeartbeats 2000000 in
theorem itoa_at0 (w : World) : Calls Tryd.prog 53 #[.int .i64 0] w fun e w' => e = .returned (.string ⟨#[48]⟩) ∧ w' = w := by
  go_enter Tryd.func53, Tryd.ntmps53
  go_wp2
  go_ret
  exact ⟨rfl, rfl⟩
theorem itoa_is1 : Lib.itoa 1 = [49] := by
  rw [Lib.itoa, if_neg (by decide), show (1 : Int).toNat = 1 from rfl, Lib.decDigits_one (by decide)]; rfl
set_option maxRecDepth 100000 in
set_option maxHeartbeats 2000000 in
theorem itoa_at1 (w : World) : Calls Tryd.prog 53 #[.int .i64 1] w fun e w' => e = .returned (.string ⟨#[49]⟩) ∧ w' = w := by
  go_enter Tryd.func53, Tryd.ntmps53
  go_wp2
  go_ret
  exact ⟨rfl, rfl⟩
theorem itoa_is2 : Lib.itoa 2 = [50] := by
  rw [Lib.itoa, if_neg (by decide), show (2 : Int).toNat = 2 from rfl, Lib.decDigits_one (by decide)]; rfl
set_option maxRecDepth 100000 in
set_option maxHeartbeats 2000000 in
theorem itoa_at2 (w : World) : Calls Tryd.prog 53 #[.int .i64 2] w fun e w' => e = .returned (.string ⟨#[50]⟩) ∧ w' = w := by
  go_enter Tryd.func53, Tryd.ntmps53
  go_wp2
  go_ret
  exact ⟨rfl, rfl⟩
theorem itoa_is3 : Lib.itoa 3 = [51] := by
  rw [Lib.itoa, if_neg (by decide), show (3 : Int).toNat = 3 from rfl, Lib.decDigits_one (by decide)]; rfl
set_option maxRecDepth 100000 in
set_option maxHeartbeats 2000000 in
theorem itoa_at3 (w : World) : Calls Tryd.prog 53 #[.int .i64 3] w fun e w' => e = .returned (.string ⟨#[51]⟩) ∧ w' = w := by
  go_enter Tryd.func53, Tryd.ntmps53
  go_wp2
  go_ret
  exact ⟨rfl, rfl⟩
theorem itoa_is4 : Lib.itoa 4 = [52] := by
  rw [Lib.itoa, if_neg (by decide), show (4 : Int).toNat = 4 from rfl, Lib.decDigits_one (by decide)]; rfl
set_option maxRecDepth 100000 in
set_option maxHeartbeats 2000000 in
theorem itoa_at4 (w : World) : Calls Tryd.prog 53 #[.int .i64 4] w fun e w' => e = .returned (.string ⟨#[52]⟩) ∧ w' = w := by
  go_enter Tryd.func53, Tryd.ntmps53
  go_wp2
  go_ret
  exact ⟨rfl, rfl⟩
theorem itoa_is5 : Lib.itoa 5 = [53] := by
  rw [Lib.itoa, if_neg (by decide), show (5 : Int).toNat = 5 from rfl, Lib.decDigits_one (by decide)]; rfl
set_option maxRecDepth 100000 in
set_option maxHeartbeats 2000000 in
theorem itoa_at5 (w : World) : Calls Tryd.prog 53 #[.int .i64 5] w fun e w' => e = .returned (.string ⟨#[53]⟩) ∧ w' = w := by
  go_enter Tryd.func53, Tryd.ntmps53
  go_wp2
  go_ret
  exact ⟨rfl, rfl⟩
theorem itoa_is6 : Lib.itoa 6 = [54] := by
  rw [Lib.itoa, if_neg (by decide), show (6 : Int).toNat = 6 from rfl, Lib.decDigits_one (by decide)]; rfl
set_option maxRecDepth 100000 in
set_option maxHeartbeats 2000000 in
theorem itoa_at6 (w : World) : Calls Tryd.prog 53 #[.int .i64 6] w fun e w' => e = .returned (.string ⟨#[54]⟩) ∧ w' = w := by
  go_enter Tryd.func53, Tryd.ntmps53
  go_wp2
  go_ret
  exact ⟨rfl, rfl⟩
theorem itoa_is7 : Lib.itoa 7 = [55] := by
  rw [Lib.itoa, if_neg (by decide), show (7 : Int).toNat = 7 from rfl, Lib.decDigits_one (by decide)]; rfl
set_option maxRecDepth 100000 in
set_option maxHeartbeats 2000000 in
theorem itoa_at7 (w : World) : Calls Tryd.prog 53 #[.int .i64 7] w fun e w' => e = .returned (.string ⟨#[55]⟩) ∧ w' = w := by
  go_enter Tryd.func53, Tryd.ntmps53
  go_wp2
  go_ret
  exact ⟨rfl, rfl⟩
theorem itoa_is8 : Lib.itoa 8 = [56] := by
  rw [Lib.itoa, if_neg (by decide), show (8 : Int).toNat = 8 from rfl, Lib.decDigits_one (by decide)]; rfl
set_option maxRecDepth 100000 in
set_option maxHeartbeats 2000000 in
theorem itoa_at8 (w : World) : Calls Tryd.prog 53 #[.int .i64 8] w fun e w' => e = .returned (.string ⟨#[56]⟩) ∧ w' = w := by
  go_enter Tryd.func53, Tryd.ntmps53
  go_wp2
  go_ret
  exact ⟨rfl, rfl⟩
theorem itoa_is9 : Lib.itoa 9 = [57] := by
  rw [Lib.itoa, if_neg (by decide), show (9 : Int).toNat = 9 from rfl, Lib.decDigits_one (by decide)]; rfl
set_option maxRecDepth 100000 in
set_option maxHeartbeats 2000000 in
theorem itoa_at9 (w : World) : Calls Tryd.prog 53 #[.int .i64 9] w fun e w' => e = .returned (.string ⟨#[57]⟩) ∧ w' = w := by
  go_enter Tryd.func53, Tryd.ntmps53
  go_wp2
  go_ret
  exact ⟨rfl, rfl⟩
theorem itoa_is10 : Lib.itoa 10 = [49, 48] := by
  rw [Lib.itoa, if_neg (by decide), show (10 : Int).toNat = 10 from rfl, Lib.decDigits_two (by decide) (by decide)]; rfl
set_option maxRecDepth 100000 in
set_option maxHeartbeats 2000000 in
theorem itoa_at10 (w : World) : Calls Tryd.prog 53 #[.int .i64 10] w fun e w' => e = .returned (.string ⟨#[49, 48]⟩) ∧ w' = w := by
  go_enter Tryd.func53, Tryd.ntmps53
  go_wp2
  go_ret
  exact ⟨rfl, rfl⟩
theorem itoa_is11 : Lib.itoa 11 = [49, 49] := by
  rw [Lib.itoa, if_neg (by decide), show (11 : Int).toNat = 11 from rfl, Lib.decDigits_two (by decide) (by decide)]; rfl
set_option maxRecDepth 100000 in
set_option maxHeartbeats 2000000 in
theorem itoa_at11 (w : World) : Calls Tryd.prog 53 #[.int .i64 11] w fun e w' => e = .returned (.string ⟨#[49, 49]⟩) ∧ w' = w := by
  go_enter Tryd.func53, Tryd.ntmps53
  go_wp2
  go_ret
  exact ⟨rfl, rfl⟩
theorem itoa_is12 : Lib.itoa 12 = [49, 50] := by
  rw [Lib.itoa, if_neg (by decide), show (12 : Int).toNat = 12 from rfl, Lib.decDigits_two (by decide) (by decide)]; rfl
set_option maxRecDepth 100000 in
set_option maxHeartbeats 2000000 in
theorem itoa_at12 (w : World) : Calls Tryd.prog 53 #[.int .i64 12] w fun e w' => e = .returned (.string ⟨#[49, 50]⟩) ∧ w' = w := by
  go_enter Tryd.func53, Tryd.ntmps53
  go_wp2
  go_ret
  exact ⟨rfl, rfl⟩
theorem itoa_is13 : Lib.itoa 13 = [49, 51] := by
  rw [Lib.itoa, if_neg (by decide), show (13 : Int).toNat = 13 from rfl, Lib.decDigits_two (by decide) (by decide)]; rfl
set_option maxRecDepth 100000 in
set_option maxHeartbeats 2000000 in
theorem itoa_at13 (w : World) : Calls Tryd.prog 53 #[.int .i64 13] w fun e w' => e = .returned (.string ⟨#[49, 51]⟩) ∧ w' = w := by
  go_enter Tryd.func53, Tryd.ntmps53
  go_wp2
  go_ret
  exact ⟨rfl, rfl⟩
theorem itoa_is14 : Lib.itoa 14 = [49, 52] := by
  rw [Lib.itoa, if_neg (by decide), show (14 : Int).toNat = 14 from rfl, Lib.decDigits_two (by decide) (by decide)]; rfl
set_option maxRecDepth 100000 in
set_option maxHeartbeats 2000000 in
theorem itoa_at14 (w : World) : Calls Tryd.prog 53 #[.int .i64 14] w fun e w' => e = .returned (.string ⟨#[49, 52]⟩) ∧ w' = w := by
  go_enter Tryd.func53, Tryd.ntmps53
  go_wp2
  go_ret
  exact ⟨rfl, rfl⟩
theorem itoa_is15 : Lib.itoa 15 = [49, 53] := by
  rw [Lib.itoa, if_neg (by decide), show (15 : Int).toNat = 15 from rfl, Lib.decDigits_two (by decide) (by decide)]; rfl
set_option maxRecDepth 100000 in
set_option maxHeartbeats 2000000 in
theorem itoa_at15 (w : World) : Calls Tryd.prog 53 #[.int .i64 15] w fun e w' => e = .returned (.string ⟨#[49, 53]⟩) ∧ w' = w := by
  go_enter Tryd.func53, Tryd.ntmps53
  go_wp2
  go_ret
  exact ⟨rfl, rfl⟩
theorem itoa_is16 : Lib.itoa 16 = [49, 54] := by
  rw [Lib.itoa, if_neg (by decide), show (16 : Int).toNat = 16 from rfl, Lib.decDigits_two (by decide) (by decide)]; rfl
set_option maxRecDepth 100000 in
set_option maxHeartbeats 2000000 in
theorem itoa_at16 (w : World) : Calls Tryd.prog 53 #[.int .i64 16] w fun e w' => e = .returned (.string ⟨#[49, 54]⟩) ∧ w' = w := by
  go_enter Tryd.func53, Tryd.ntmps53
  go_wp2
  go_ret
  exact ⟨rfl, rfl⟩
theorem itoa_is17 : Lib.itoa 17 = [49, 55] := by
  rw [Lib.itoa, if_neg (by decide), show (17 : Int).toNat = 17 from rfl, Lib.decDigits_two (by decide) (by decide)]; rfl
set_option maxRecDepth 100000 in
set_option maxHeartbeats 2000000 in
theorem itoa_at17 (w : World) : Calls Tryd.prog 53 #[.int .i64 17] w fun e w' => e = .returned (.string ⟨#[49, 55]⟩) ∧ w' = w := by
  go_enter Tryd.func53, Tryd.ntmps53
  go_wp2
  go_ret
  exact ⟨rfl, rfl⟩
theorem itoa_is18 : Lib.itoa 18 = [49, 56] := by
  rw [Lib.itoa, if_neg (by decide), show (18 : Int).toNat = 18 from rfl, Lib.decDigits_two (by decide) (by decide)]; rfl
set_option maxRecDepth 100000 in
set_option maxHeartbeats 2000000 in
theorem itoa_at18 (w : World) : Calls Tryd.prog 53 #[.int .i64 18] w fun e w' => e = .returned (.string ⟨#[49, 56]⟩) ∧ w' = w := by
  go_enter Tryd.func53, Tryd.ntmps53
  go_wp2
  go_ret
  exact ⟨rfl, rfl⟩
theorem itoa_is19 : Lib.itoa 19 = [49, 57] := by
  rw [Lib.itoa, if_neg (by decide), show (19 : Int).toNat = 19 from rfl, Lib.decDigits_two (by decide) (by decide)]; rfl
set_option maxRecDepth 100000 in
set_option maxHeartbeats 2000000 in
theorem itoa_at19 (w : World) : Calls Tryd.prog 53 #[.int .i64 19] w fun e w' => e = .returned (.string ⟨#[49, 57]⟩) ∧ w' = w := by
  go_enter Tryd.func53, Tryd.ntmps53
  go_wp2
  go_ret
  exact ⟨rfl, rfl⟩
theorem itoa_is20 : Lib.itoa 20 = [50, 48] := by
  rw [Lib.itoa, if_neg (by decide), show (20 : Int).toNat = 20 from rfl, Lib.decDigits_two (by decide) (by decide)]; rfl
set_option maxRecDepth 100000 in
set_option maxHeartbeats 2000000 in
theorem itoa_at20 (w : World) : Calls Tryd.prog 53 #[.int .i64 20] w fun e w' => e = .returned (.string ⟨#[50, 48]⟩) ∧ w' = w := by
  go_enter Tryd.func53, Tryd.ntmps53
  go_wp2
  go_ret
  exact ⟨rfl, rfl⟩
theorem itoa_is21 : Lib.itoa 21 = [50, 49] := by
  rw [Lib.itoa, if_neg (by decide), show (21 : Int).toNat = 21 from rfl, Lib.decDigits_two (by decide) (by decide)]; rfl
set_option maxRecDepth 100000 in
set_option maxHeartbeats 2000000 in
theorem itoa_at21 (w : World) : Calls Tryd.prog 53 #[.int .i64 21] w fun e w' => e = .returned (.string ⟨#[50, 49]⟩) ∧ w' = w := by
  go_enter Tryd.func53, Tryd.ntmps53
  go_wp2
  go_ret
  exact ⟨rfl, rfl⟩
theorem itoa_is22 : Lib.itoa 22 = [50, 50] := by
  rw [Lib.itoa, if_neg (by decide), show (22 : Int).toNat = 22 from rfl, Lib.decDigits_two (by decide) (by decide)]; rfl
set_option maxRecDepth 100000 in
set_option maxHeartbeats 2000000 in
theorem itoa_at22 (w : World) : Calls Tryd.prog 53 #[.int .i64 22] w fun e w' => e = .returned (.string ⟨#[50, 50]⟩) ∧ w' = w := by
  go_enter Tryd.func53, Tryd.ntmps53
  go_wp2
  go_ret
  exact ⟨rfl, rfl⟩
theorem itoa_is23 : Lib.itoa 23 = [50, 51] := by
  rw [Lib.itoa, if_neg (by decide), show (23 : Int).toNat = 23 from rfl, Lib.decDigits_two (by decide) (by decide)]; rfl
set_option maxRecDepth 100000 in
set_option maxHeartbeats 2000000 in
theorem itoa_at23 (w : World) : Calls Tryd.prog 53 #[.int .i64 23] w fun e w' => e = .returned (.string ⟨#[50, 51]⟩) ∧ w' = w := by
  go_enter Tryd.func53, Tryd.ntmps53
  go_wp2
  go_ret
  exact ⟨rfl, rfl⟩
theorem itoa_is24 : Lib.itoa 24 = [50, 52] := by
  rw [Lib.itoa, if_neg (by decide), show (24 : Int).toNat = 24 from rfl, Lib.decDigits_two (by decide) (by decide)]; rfl
set_option maxRecDepth 100000 in
set_option maxHeartbeats 2000000 in
theorem itoa_at24 (w : World) : Calls Tryd.prog 53 #[.int .i64 24] w fun e w' => e = .returned (.string ⟨#[50, 52]⟩) ∧ w' = w := by
  go_enter Tryd.func53, Tryd.ntmps53
  go_wp2
  go_ret
  exact ⟨rfl, rfl⟩
theorem itoa_is25 : Lib.itoa 25 = [50, 53] := by
  rw [Lib.itoa, if_neg (by decide), show (25 : Int).toNat = 25 from rfl, Lib.decDigits_two (by decide) (by decide)]; rfl
set_option maxRecDepth 100000 in
set_option maxHeartbeats 2000000 in
theorem itoa_at25 (w : World) : Calls Tryd.prog 53 #[.int .i64 25] w fun e w' => e = .returned (.string ⟨#[50, 53]⟩) ∧ w' = w := by
  go_enter Tryd.func53, Tryd.ntmps53
  go_wp2
  go_ret
  exact ⟨rfl, rfl⟩
theorem itoa_is26 : Lib.itoa 26 = [50, 54] := by
  rw [Lib.itoa, if_neg (by decide), show (26 : Int).toNat = 26 from rfl, Lib.decDigits_two (by decide) (by decide)]; rfl
set_option maxRecDepth 100000 in
set_option maxHeartbeats 2000000 in
theorem itoa_at26 (w : World) : Calls Tryd.prog 53 #[.int .i64 26] w fun e w' => e = .returned (.string ⟨#[50, 54]⟩) ∧ w' = w := by
  go_enter Tryd.func53, Tryd.ntmps53
  go_wp2
  go_ret
  exact ⟨rfl, rfl⟩
theorem itoa_is27 : Lib.itoa 27 = [50, 55] := by
  rw [Lib.itoa, if_neg (by decide), show (27 : Int).toNat = 27 from rfl, Lib.decDigits_two (by decide) (by decide)]; rfl
set_option maxRecDepth 100000 in
set_option maxHeartbeats 2000000 in
theorem itoa_at27 (w : World) : Calls Tryd.prog 53 #[.int .i64 27] w fun e w' => e = .returned (.string ⟨#[50, 55]⟩) ∧ w' = w := by
  go_enter Tryd.func53, Tryd.ntmps53
  go_wp2
  go_ret
  exact ⟨rfl, rfl⟩
theorem itoa_is28 : Lib.itoa 28 = [50, 56] := by
  rw [Lib.itoa, if_neg (by decide), show (28 : Int).toNat = 28 from rfl, Lib.decDigits_two (by decide) (by decide)]; rfl
set_option maxRecDepth 100000 in
set_option maxHeartbeats 2000000 in
theorem itoa_at28 (w : World) : Calls Tryd.prog 53 #[.int .i64 28] w fun e w' => e = .returned (.string ⟨#[50, 56]⟩) ∧ w' = w := by
  go_enter Tryd.func53, Tryd.ntmps53
  go_wp2
  go_ret
  exact ⟨rfl, rfl⟩
theorem itoa_is29 : Lib.itoa 29 = [50, 57] := by
  rw [Lib.itoa, if_neg (by decide), show (29 : Int).toNat = 29 from rfl, Lib.decDigits_two (by decide) (by decide)]; rfl
set_option maxRecDepth 100000 in
set_option maxHeartbeats 2000000 in
theorem itoa_at29 (w : World) : Calls Tryd.prog 53 #[.int .i64 29] w fun e w' => e = .returned (.string ⟨#[50, 57]⟩) ∧ w' = w := by
  go_enter Tryd.func53, Tryd.ntmps53
  go_wp2
  go_ret
  exact ⟨rfl, rfl⟩
theorem itoa_is30 : Lib.itoa 30 = [51, 48] := by
  rw [Lib.itoa, if_neg (by decide), show (30 : Int).toNat = 30 from rfl, Lib.decDigits_two (by decide) (by decide)]; rfl
set_option maxRecDepth 100000 in
set_option maxHeartbeats 2000000 in
theorem itoa_at30 (w : World) : Calls Tryd.prog 53 #[.int .i64 30] w fun e w' => e = .returned (.string ⟨#[51, 48]⟩) ∧ w' = w := by
  go_enter Tryd.func53, Tryd.ntmps53
  go_wp2
  go_ret
  exact ⟨rfl, rfl⟩
theorem itoa_is31 : Lib.itoa 31 = [51, 49] := by
  rw [Lib.itoa, if_neg (by decide), show (31 : Int).toNat = 31 from rfl, Lib.decDigits_two (by decide) (by decide)]; rfl
set_option maxRecDepth 100000 in
set_option maxHeartbeats 2000000 in
theorem itoa_at31 (w : World) : Calls Tryd.prog 53 #[.int .i64 31] w fun e w' => e = .returned (.string ⟨#[51, 49]⟩) ∧ w' = w := by
  go_enter Tryd.func53, Tryd.ntmps53
  go_wp2
  go_ret
  exact ⟨rfl, rfl⟩
theorem itoa_small (n : Int) (n0 : 0 ≤ n) (n1 : n ≤ 31) (w : World) : Calls Tryd.prog 53 #[.int .i64 n] w fun e w' => e = .returned (.string (Num.bs (Lib.itoa n))) ∧ w' = w := by
  have p : n = 0 ∨ n = 1 ∨ n = 2 ∨ n = 3 ∨ n = 4 ∨ n = 5 ∨ n = 6 ∨ n = 7 ∨ n = 8 ∨ n = 9 ∨ n = 10 ∨ n = 11 ∨ n = 12 ∨ n = 13 ∨ n = 14 ∨ n = 15 ∨ n = 16 ∨ n = 17 ∨ n = 18 ∨ n = 19 ∨ n = 20 ∨ n = 21 ∨ n = 22 ∨ n = 23 ∨ n = 24 ∨ n = 25 ∨ n = 26 ∨ n = 27 ∨ n = 28 ∨ n = 29 ∨ n = 30 ∨ n = 31 := by omega
  rcases p with rfl | rfl | rfl | rfl | rfl | rfl | rfl | rfl | rfl | rfl | rfl | rfl | rfl | rfl | rfl | rfl | rfl | rfl | rfl | rfl | rfl | rfl | rfl | rfl | rfl | rfl | rfl | rfl | rfl | rfl | rfl | rfl
  · rw [itoa_is0]; exact itoa_at0 w
  · rw [itoa_is1]; exact itoa_at1 w
  · rw [itoa_is2]; exact itoa_at2 w
  · rw [itoa_is3]; exact itoa_at3 w
  · rw [itoa_is4]; exact itoa_at4 w
  · rw [itoa_is5]; exact itoa_at5 w
  · rw [itoa_is6]; exact itoa_at6 w
  · rw [itoa_is7]; exact itoa_at7 w
  · rw [itoa_is8]; exact itoa_at8 w
  · rw [itoa_is9]; exact itoa_at9 w
  · rw [itoa_is10]; exact itoa_at10 w
  · rw [itoa_is11]; exact itoa_at11 w
  · rw [itoa_is12]; exact itoa_at12 w
  · rw [itoa_is13]; exact itoa_at13 w
  · rw [itoa_is14]; exact itoa_at14 w
  · rw [itoa_is15]; exact itoa_at15 w
  · rw [itoa_is16]; exact itoa_at16 w
  · rw [itoa_is17]; exact itoa_at17 w
  · rw [itoa_is18]; exact itoa_at18 w
  · rw [itoa_is19]; exact itoa_at19 w
  · rw [itoa_is20]; exact itoa_at20 w
  · rw [itoa_is21]; exact itoa_at21 w
  · rw [itoa_is22]; exact itoa_at22 w
  · rw [itoa_is23]; exact itoa_at23 w
  · rw [itoa_is24]; exact itoa_at24 w
  · rw [itoa_is25]; exact itoa_at25 w
  · rw [itoa_is26]; exact itoa_at26 w
  · rw [itoa_is27]; exact itoa_at27 w
  · rw [itoa_is28]; exact itoa_at28 w
  · rw [itoa_is29]; exact itoa_at29 w
  · rw [itoa_is30]; exact itoa_at30 w
  · rw [itoa_is31]; exact itoa_at31 w
set_option maxHeartbeats 1000000 in
theorem register_core (n : Int) (s r : ByteArray) (A : ∀ W : World, (Op.stringOp .add ⟨#[120]⟩ s).run Tryd.prog W = .ok (.string r) W) (ih : ∀ w, Calls Tryd.prog 53 #[.int .i64 n] w fun e w' => e = .returned (.string s) ∧ w' = w) (w : World) :
    Calls Tryd.prog 52 #[.int .i64 n] w fun e w' => e = .returned (.string r) ∧ w' = w := by
  go_enter Tryd.func52, Tryd.ntmps52
  go_wp2_with fail
  refine (ih _).mono ?_; rintro e w' ⟨rfl, rfl⟩
  go_wp2_with fail
  go_ret
  exact ⟨rfl, rfl⟩
theorem register_as (n : Int) (s : ByteArray) (S : Hid (Num.bs ([120] ++ Lib.itoa n) = s)) (n0 : 0 ≤ n) (n1 : n ≤ 31) (w : World) : Calls Tryd.prog 52 #[.int .i64 n] w fun e w' => e = .returned (.string s) ∧ w' = w := by
  rw [← S.out]
  exact register_core n _ _ (Num.bs_add [120] _ (by simp) (by have := Num.itoa_len n (by omega) (by omega); omega)) (fun w => itoa_small n n0 n1 w) w
end Go.Proofs.YtlnliiihcajboaaDoor.Walks
