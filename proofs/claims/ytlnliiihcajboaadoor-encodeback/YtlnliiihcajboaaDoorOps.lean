/- Contracts of the program's small functions that choose an op: no memory, numbers alone. -/
import Derived.Test.YtlnliiihcajboaaDoorImms
namespace Go.Proofs.YtlnliiihcajboaaDoor.Num
def first (o f3 : Int) : Int := if f3 = 0 then o else 0
def oBranch (f3 : Int) : Int := if f3 = 0 then 5 else if f3 = 1 then 6 else if f3 = 4 then 7 else if f3 = 5 then 8 else if f3 = 6 then 9 else if f3 = 7 then 10 else 0
def oLoad (f3 : Int) : Int := if f3 = 0 then 11 else if f3 = 1 then 12 else if f3 = 2 then 13 else if f3 = 4 then 14 else if f3 = 5 then 15 else 0
def oStore (f3 : Int) : Int := if f3 = 0 then 16 else if f3 = 1 then 17 else if f3 = 2 then 18 else 0
def oShift (f7 a b : Int) : Int := if f7 = 0 then a else if f7 = 32 then b else 0
def oImm (f3 f7 : Int) : Int := if f3 = 0 then 19 else if f3 = 1 then oShift f7 25 0 else if f3 = 2 then 20 else if f3 = 3 then 21 else if f3 = 4 then 22 else if f3 = 5 then oShift f7 26 27 else if f3 = 6 then 23 else 24
def oPlain (f3 : Int) : Int := if f3 = 0 then 28 else if f3 = 1 then 30 else if f3 = 2 then 31 else if f3 = 3 then 32 else if f3 = 4 then 33 else if f3 = 5 then 34 else if f3 = 6 then 36 else 37
def oMul (f3 : Int) : Int := if f3 = 0 then 38 else if f3 = 1 then 39 else if f3 = 2 then 40 else if f3 = 3 then 41 else if f3 = 4 then 42 else if f3 = 5 then 43 else if f3 = 6 then 44 else 45
def oOther (f3 : Int) : Int := if f3 = 0 then 29 else if f3 = 5 then 35 else 0
def oReg (f3 f7 : Int) : Int := if f7 = 0 then oPlain f3 else if f7 = 1 then oMul f3 else if f7 = 32 then oOther f3 else 0
def oBare (v : Int) : Int := if v = 115 then 47 else if v = 1048691 then 48 else if v = 807403635 then 49 else 0
def oSys (v f3 : Int) : Int := if f3 = 0 then oBare v else if f3 = 1 then 50 else if f3 = 2 then 51 else if f3 = 3 then 52 else if f3 = 5 then 53 else if f3 = 6 then 54 else if f3 = 7 then 55 else 0
/-- the op of a word: v the word, c, f3, f7 its opcode, funct3, funct7 -/
def opc (v c f3 f7 : Int) : Int :=
  if c = 55 then 1 else if c = 23 then 2 else if c = 111 then 3 else if c = 103 then first 4 f3 else if c = 99 then oBranch f3 else if c = 3 then oLoad f3 else if c = 35 then oStore f3
  else if c = 19 then oImm f3 f7 else if c = 51 then oReg f3 f7 else if c = 15 then first 46 f3 else if c = 115 then oSys v f3 else 0
end Go.Proofs.YtlnliiihcajboaaDoor.Num
namespace Go.Proofs.YtlnliiihcajboaaDoor.Walks
open Go.ChangeShapes Go.WideShapes Go.ChangeAt Go.RowKit
set_option linter.unusedVariables false
set_option maxHeartbeats 2000000 in
theorem first_all (o f3 : Int) (w : World) :
    Calls Tryd.prog 58 #[.int .i64 o, .int .u32 f3] w fun e w' => e = .returned (.int .i64 (Num.first o f3)) ∧ w' = w := by
  by_cases h : f3 = 0
  · subst h
    go_enter Tryd.func58, Tryd.ntmps58
    go_wp2_with fail
    go_ret
    exact ⟨rfl, rfl⟩
  · rw [Num.first, if_neg h]
    replace h : (f3 != 0) = true := by simp [h]
    go_enter Tryd.func58, Tryd.ntmps58
    go_wp2_with fail
    go_ret
    exact ⟨rfl, rfl⟩
set_option maxHeartbeats 2000000 in
theorem branch_all (f3 : Int) (w : World) :
    Calls Tryd.prog 59 #[.int .u32 f3] w fun e w' => e = .returned (.int .i64 (Num.oBranch f3)) ∧ w' = w := by
  by_cases h0 : f3 = 0
  · subst h0
    go_enter Tryd.func59, Tryd.ntmps59
    go_wp2_with fail
    go_ret
    exact ⟨rfl, rfl⟩
  by_cases h1 : f3 = 1
  · subst h1
    go_enter Tryd.func59, Tryd.ntmps59
    go_wp2_with fail
    go_ret
    exact ⟨rfl, rfl⟩
  by_cases h4 : f3 = 4
  · subst h4
    go_enter Tryd.func59, Tryd.ntmps59
    go_wp2_with fail
    go_ret
    exact ⟨rfl, rfl⟩
  by_cases h5 : f3 = 5
  · subst h5
    go_enter Tryd.func59, Tryd.ntmps59
    go_wp2_with fail
    go_ret
    exact ⟨rfl, rfl⟩
  by_cases h6 : f3 = 6
  · subst h6
    go_enter Tryd.func59, Tryd.ntmps59
    go_wp2_with fail
    go_ret
    exact ⟨rfl, rfl⟩
  by_cases h7 : f3 = 7
  · subst h7
    go_enter Tryd.func59, Tryd.ntmps59
    go_wp2_with fail
    go_ret
    exact ⟨rfl, rfl⟩
  have v : Num.oBranch f3 = 0 := by unfold Num.oBranch; rw [if_neg h0]; rw [if_neg h1]; rw [if_neg h4]; rw [if_neg h5]; rw [if_neg h6]; rw [if_neg h7]
  rw [v]; clear v
  replace h0 : (f3 == 0) = false := by simp [h0]
  replace h1 : (f3 == 1) = false := by simp [h1]
  replace h4 : (f3 == 4) = false := by simp [h4]
  replace h5 : (f3 == 5) = false := by simp [h5]
  replace h6 : (f3 == 6) = false := by simp [h6]
  replace h7 : (f3 == 7) = false := by simp [h7]
  go_enter Tryd.func59, Tryd.ntmps59
  go_wp2_with fail
  go_ret
  exact ⟨rfl, rfl⟩
set_option maxHeartbeats 2000000 in
theorem load_all (f3 : Int) (w : World) :
    Calls Tryd.prog 60 #[.int .u32 f3] w fun e w' => e = .returned (.int .i64 (Num.oLoad f3)) ∧ w' = w := by
  by_cases h0 : f3 = 0
  · subst h0
    go_enter Tryd.func60, Tryd.ntmps60
    go_wp2_with fail
    go_ret
    exact ⟨rfl, rfl⟩
  by_cases h1 : f3 = 1
  · subst h1
    go_enter Tryd.func60, Tryd.ntmps60
    go_wp2_with fail
    go_ret
    exact ⟨rfl, rfl⟩
  by_cases h2 : f3 = 2
  · subst h2
    go_enter Tryd.func60, Tryd.ntmps60
    go_wp2_with fail
    go_ret
    exact ⟨rfl, rfl⟩
  by_cases h4 : f3 = 4
  · subst h4
    go_enter Tryd.func60, Tryd.ntmps60
    go_wp2_with fail
    go_ret
    exact ⟨rfl, rfl⟩
  by_cases h5 : f3 = 5
  · subst h5
    go_enter Tryd.func60, Tryd.ntmps60
    go_wp2_with fail
    go_ret
    exact ⟨rfl, rfl⟩
  have v : Num.oLoad f3 = 0 := by unfold Num.oLoad; rw [if_neg h0]; rw [if_neg h1]; rw [if_neg h2]; rw [if_neg h4]; rw [if_neg h5]
  rw [v]; clear v
  replace h0 : (f3 == 0) = false := by simp [h0]
  replace h1 : (f3 == 1) = false := by simp [h1]
  replace h2 : (f3 == 2) = false := by simp [h2]
  replace h4 : (f3 == 4) = false := by simp [h4]
  replace h5 : (f3 == 5) = false := by simp [h5]
  go_enter Tryd.func60, Tryd.ntmps60
  go_wp2_with fail
  go_ret
  exact ⟨rfl, rfl⟩
set_option maxHeartbeats 2000000 in
theorem store_all (f3 : Int) (w : World) :
    Calls Tryd.prog 61 #[.int .u32 f3] w fun e w' => e = .returned (.int .i64 (Num.oStore f3)) ∧ w' = w := by
  by_cases h0 : f3 = 0
  · subst h0
    go_enter Tryd.func61, Tryd.ntmps61
    go_wp2_with fail
    go_ret
    exact ⟨rfl, rfl⟩
  by_cases h1 : f3 = 1
  · subst h1
    go_enter Tryd.func61, Tryd.ntmps61
    go_wp2_with fail
    go_ret
    exact ⟨rfl, rfl⟩
  by_cases h2 : f3 = 2
  · subst h2
    go_enter Tryd.func61, Tryd.ntmps61
    go_wp2_with fail
    go_ret
    exact ⟨rfl, rfl⟩
  have v : Num.oStore f3 = 0 := by unfold Num.oStore; rw [if_neg h0]; rw [if_neg h1]; rw [if_neg h2]
  rw [v]; clear v
  replace h0 : (f3 == 0) = false := by simp [h0]
  replace h1 : (f3 == 1) = false := by simp [h1]
  replace h2 : (f3 == 2) = false := by simp [h2]
  go_enter Tryd.func61, Tryd.ntmps61
  go_wp2_with fail
  go_ret
  exact ⟨rfl, rfl⟩
set_option maxHeartbeats 2000000 in
theorem shift_all (f7 a b : Int) (w : World) :
    Calls Tryd.prog 74 #[.int .u32 f7, .int .i64 a, .int .i64 b] w fun e w' => e = .returned (.int .i64 (Num.oShift f7 a b)) ∧ w' = w := by
  by_cases h0 : f7 = 0
  · subst h0
    go_enter Tryd.func74, Tryd.ntmps74
    go_wp2_with fail
    go_ret
    exact ⟨rfl, rfl⟩
  by_cases h32 : f7 = 32
  · subst h32
    go_enter Tryd.func74, Tryd.ntmps74
    go_wp2_with fail
    go_ret
    exact ⟨rfl, rfl⟩
  have v : Num.oShift f7 a b = 0 := by unfold Num.oShift; rw [if_neg h0]; rw [if_neg h32]
  rw [v]; clear v
  replace h0 : (f7 == 0) = false := by simp [h0]
  replace h32 : (f7 == 32) = false := by simp [h32]
  go_enter Tryd.func74, Tryd.ntmps74
  go_wp2_with fail
  go_ret
  exact ⟨rfl, rfl⟩
set_option maxHeartbeats 2000000 in
theorem imm_all (f3 f7 : Int) (w : World) :
    Calls Tryd.prog 62 #[.int .u32 f3, .int .u32 f7] w fun e w' => e = .returned (.int .i64 (Num.oImm f3 f7)) ∧ w' = w := by
  by_cases h0 : f3 = 0
  · subst h0
    go_enter Tryd.func62, Tryd.ntmps62
    go_wp2_with fail
    go_ret
    exact ⟨rfl, rfl⟩
  by_cases h1 : f3 = 1
  · subst h1
    go_enter Tryd.func62, Tryd.ntmps62
    go_wp2_with fail
    refine (shift_all _ _ _ _).mono ?_; rintro e w' ⟨rfl, rfl⟩
    go_wp2_with fail
    go_ret
    exact ⟨rfl, rfl⟩
  by_cases h2 : f3 = 2
  · subst h2
    go_enter Tryd.func62, Tryd.ntmps62
    go_wp2_with fail
    go_ret
    exact ⟨rfl, rfl⟩
  by_cases h3 : f3 = 3
  · subst h3
    go_enter Tryd.func62, Tryd.ntmps62
    go_wp2_with fail
    go_ret
    exact ⟨rfl, rfl⟩
  by_cases h4 : f3 = 4
  · subst h4
    go_enter Tryd.func62, Tryd.ntmps62
    go_wp2_with fail
    go_ret
    exact ⟨rfl, rfl⟩
  by_cases h5 : f3 = 5
  · subst h5
    go_enter Tryd.func62, Tryd.ntmps62
    go_wp2_with fail
    refine (shift_all _ _ _ _).mono ?_; rintro e w' ⟨rfl, rfl⟩
    go_wp2_with fail
    go_ret
    exact ⟨rfl, rfl⟩
  by_cases h6 : f3 = 6
  · subst h6
    go_enter Tryd.func62, Tryd.ntmps62
    go_wp2_with fail
    go_ret
    exact ⟨rfl, rfl⟩
  have v : Num.oImm f3 f7 = 24 := by unfold Num.oImm; rw [if_neg h0]; rw [if_neg h1]; rw [if_neg h2]; rw [if_neg h3]; rw [if_neg h4]; rw [if_neg h5]; rw [if_neg h6]
  rw [v]; clear v
  replace h0 : (f3 == 0) = false := by simp [h0]
  replace h1 : (f3 == 1) = false := by simp [h1]
  replace h2 : (f3 == 2) = false := by simp [h2]
  replace h3 : (f3 == 3) = false := by simp [h3]
  replace h4 : (f3 == 4) = false := by simp [h4]
  replace h5 : (f3 == 5) = false := by simp [h5]
  replace h6 : (f3 == 6) = false := by simp [h6]
  go_enter Tryd.func62, Tryd.ntmps62
  go_wp2_with fail
  go_ret
  exact ⟨rfl, rfl⟩
set_option maxHeartbeats 2000000 in
theorem plain_all (f3 : Int) (w : World) :
    Calls Tryd.prog 75 #[.int .u32 f3] w fun e w' => e = .returned (.int .i64 (Num.oPlain f3)) ∧ w' = w := by
  by_cases h0 : f3 = 0
  · subst h0
    go_enter Tryd.func75, Tryd.ntmps75
    go_wp2_with fail
    go_ret
    exact ⟨rfl, rfl⟩
  by_cases h1 : f3 = 1
  · subst h1
    go_enter Tryd.func75, Tryd.ntmps75
    go_wp2_with fail
    go_ret
    exact ⟨rfl, rfl⟩
  by_cases h2 : f3 = 2
  · subst h2
    go_enter Tryd.func75, Tryd.ntmps75
    go_wp2_with fail
    go_ret
    exact ⟨rfl, rfl⟩
  by_cases h3 : f3 = 3
  · subst h3
    go_enter Tryd.func75, Tryd.ntmps75
    go_wp2_with fail
    go_ret
    exact ⟨rfl, rfl⟩
  by_cases h4 : f3 = 4
  · subst h4
    go_enter Tryd.func75, Tryd.ntmps75
    go_wp2_with fail
    go_ret
    exact ⟨rfl, rfl⟩
  by_cases h5 : f3 = 5
  · subst h5
    go_enter Tryd.func75, Tryd.ntmps75
    go_wp2_with fail
    go_ret
    exact ⟨rfl, rfl⟩
  by_cases h6 : f3 = 6
  · subst h6
    go_enter Tryd.func75, Tryd.ntmps75
    go_wp2_with fail
    go_ret
    exact ⟨rfl, rfl⟩
  have v : Num.oPlain f3 = 37 := by unfold Num.oPlain; rw [if_neg h0]; rw [if_neg h1]; rw [if_neg h2]; rw [if_neg h3]; rw [if_neg h4]; rw [if_neg h5]; rw [if_neg h6]
  rw [v]; clear v
  replace h0 : (f3 == 0) = false := by simp [h0]
  replace h1 : (f3 == 1) = false := by simp [h1]
  replace h2 : (f3 == 2) = false := by simp [h2]
  replace h3 : (f3 == 3) = false := by simp [h3]
  replace h4 : (f3 == 4) = false := by simp [h4]
  replace h5 : (f3 == 5) = false := by simp [h5]
  replace h6 : (f3 == 6) = false := by simp [h6]
  go_enter Tryd.func75, Tryd.ntmps75
  go_wp2_with fail
  go_ret
  exact ⟨rfl, rfl⟩
set_option maxHeartbeats 2000000 in
theorem mul_all (f3 : Int) (w : World) :
    Calls Tryd.prog 76 #[.int .u32 f3] w fun e w' => e = .returned (.int .i64 (Num.oMul f3)) ∧ w' = w := by
  by_cases h0 : f3 = 0
  · subst h0
    go_enter Tryd.func76, Tryd.ntmps76
    go_wp2_with fail
    go_ret
    exact ⟨rfl, rfl⟩
  by_cases h1 : f3 = 1
  · subst h1
    go_enter Tryd.func76, Tryd.ntmps76
    go_wp2_with fail
    go_ret
    exact ⟨rfl, rfl⟩
  by_cases h2 : f3 = 2
  · subst h2
    go_enter Tryd.func76, Tryd.ntmps76
    go_wp2_with fail
    go_ret
    exact ⟨rfl, rfl⟩
  by_cases h3 : f3 = 3
  · subst h3
    go_enter Tryd.func76, Tryd.ntmps76
    go_wp2_with fail
    go_ret
    exact ⟨rfl, rfl⟩
  by_cases h4 : f3 = 4
  · subst h4
    go_enter Tryd.func76, Tryd.ntmps76
    go_wp2_with fail
    go_ret
    exact ⟨rfl, rfl⟩
  by_cases h5 : f3 = 5
  · subst h5
    go_enter Tryd.func76, Tryd.ntmps76
    go_wp2_with fail
    go_ret
    exact ⟨rfl, rfl⟩
  by_cases h6 : f3 = 6
  · subst h6
    go_enter Tryd.func76, Tryd.ntmps76
    go_wp2_with fail
    go_ret
    exact ⟨rfl, rfl⟩
  have v : Num.oMul f3 = 45 := by unfold Num.oMul; rw [if_neg h0]; rw [if_neg h1]; rw [if_neg h2]; rw [if_neg h3]; rw [if_neg h4]; rw [if_neg h5]; rw [if_neg h6]
  rw [v]; clear v
  replace h0 : (f3 == 0) = false := by simp [h0]
  replace h1 : (f3 == 1) = false := by simp [h1]
  replace h2 : (f3 == 2) = false := by simp [h2]
  replace h3 : (f3 == 3) = false := by simp [h3]
  replace h4 : (f3 == 4) = false := by simp [h4]
  replace h5 : (f3 == 5) = false := by simp [h5]
  replace h6 : (f3 == 6) = false := by simp [h6]
  go_enter Tryd.func76, Tryd.ntmps76
  go_wp2_with fail
  go_ret
  exact ⟨rfl, rfl⟩
set_option maxHeartbeats 2000000 in
theorem other_all (f3 : Int) (w : World) :
    Calls Tryd.prog 77 #[.int .u32 f3] w fun e w' => e = .returned (.int .i64 (Num.oOther f3)) ∧ w' = w := by
  by_cases h0 : f3 = 0
  · subst h0
    go_enter Tryd.func77, Tryd.ntmps77
    go_wp2_with fail
    go_ret
    exact ⟨rfl, rfl⟩
  by_cases h5 : f3 = 5
  · subst h5
    go_enter Tryd.func77, Tryd.ntmps77
    go_wp2_with fail
    go_ret
    exact ⟨rfl, rfl⟩
  have v : Num.oOther f3 = 0 := by unfold Num.oOther; rw [if_neg h0]; rw [if_neg h5]
  rw [v]; clear v
  replace h0 : (f3 == 0) = false := by simp [h0]
  replace h5 : (f3 == 5) = false := by simp [h5]
  go_enter Tryd.func77, Tryd.ntmps77
  go_wp2_with fail
  go_ret
  exact ⟨rfl, rfl⟩
set_option maxHeartbeats 2000000 in
theorem reg_all (f3 f7 : Int) (w : World) :
    Calls Tryd.prog 63 #[.int .u32 f3, .int .u32 f7] w fun e w' => e = .returned (.int .i64 (Num.oReg f3 f7)) ∧ w' = w := by
  by_cases h0 : f7 = 0
  · subst h0
    go_enter Tryd.func63, Tryd.ntmps63
    go_wp2_with fail
    refine (plain_all _ _).mono ?_; rintro e w' ⟨rfl, rfl⟩
    go_wp2_with fail
    go_ret
    exact ⟨rfl, rfl⟩
  by_cases h1 : f7 = 1
  · subst h1
    go_enter Tryd.func63, Tryd.ntmps63
    go_wp2_with fail
    refine (mul_all _ _).mono ?_; rintro e w' ⟨rfl, rfl⟩
    go_wp2_with fail
    go_ret
    exact ⟨rfl, rfl⟩
  by_cases h32 : f7 = 32
  · subst h32
    go_enter Tryd.func63, Tryd.ntmps63
    go_wp2_with fail
    refine (other_all _ _).mono ?_; rintro e w' ⟨rfl, rfl⟩
    go_wp2_with fail
    go_ret
    exact ⟨rfl, rfl⟩
  have v : Num.oReg f3 f7 = 0 := by unfold Num.oReg; rw [if_neg h0]; rw [if_neg h1]; rw [if_neg h32]
  rw [v]; clear v
  replace h0 : (f7 == 0) = false := by simp [h0]
  replace h1 : (f7 == 1) = false := by simp [h1]
  replace h32 : (f7 == 32) = false := by simp [h32]
  go_enter Tryd.func63, Tryd.ntmps63
  go_wp2_with fail
  go_ret
  exact ⟨rfl, rfl⟩
set_option maxHeartbeats 2000000 in
theorem bare_all (v : Int) (w : World) :
    Calls Tryd.prog 78 #[.int .u32 v] w fun e w' => e = .returned (.int .i64 (Num.oBare v)) ∧ w' = w := by
  by_cases h115 : v = 115
  · subst h115
    go_enter Tryd.func78, Tryd.ntmps78
    go_wp2_with fail
    go_ret
    exact ⟨rfl, rfl⟩
  by_cases h1048691 : v = 1048691
  · subst h1048691
    go_enter Tryd.func78, Tryd.ntmps78
    go_wp2_with fail
    go_ret
    exact ⟨rfl, rfl⟩
  by_cases h807403635 : v = 807403635
  · subst h807403635
    go_enter Tryd.func78, Tryd.ntmps78
    go_wp2_with fail
    go_ret
    exact ⟨rfl, rfl⟩
  have v : Num.oBare v = 0 := by unfold Num.oBare; rw [if_neg h115]; rw [if_neg h1048691]; rw [if_neg h807403635]
  rw [v]; clear v
  replace h115 : (v == 115) = false := by simp [h115]
  replace h1048691 : (v == 1048691) = false := by simp [h1048691]
  replace h807403635 : (v == 807403635) = false := by simp [h807403635]
  go_enter Tryd.func78, Tryd.ntmps78
  go_wp2_with fail
  go_ret
  exact ⟨rfl, rfl⟩
set_option maxHeartbeats 2000000 in
theorem sys_all (v f3 : Int) (w : World) :
    Calls Tryd.prog 64 #[.int .u32 v, .int .u32 f3] w fun e w' => e = .returned (.int .i64 (Num.oSys v f3)) ∧ w' = w := by
  by_cases h0 : f3 = 0
  · subst h0
    go_enter Tryd.func64, Tryd.ntmps64
    go_wp2_with fail
    refine (bare_all _ _).mono ?_; rintro e w' ⟨rfl, rfl⟩
    go_wp2_with fail
    go_ret
    exact ⟨rfl, rfl⟩
  by_cases h1 : f3 = 1
  · subst h1
    go_enter Tryd.func64, Tryd.ntmps64
    go_wp2_with fail
    go_ret
    exact ⟨rfl, rfl⟩
  by_cases h2 : f3 = 2
  · subst h2
    go_enter Tryd.func64, Tryd.ntmps64
    go_wp2_with fail
    go_ret
    exact ⟨rfl, rfl⟩
  by_cases h3 : f3 = 3
  · subst h3
    go_enter Tryd.func64, Tryd.ntmps64
    go_wp2_with fail
    go_ret
    exact ⟨rfl, rfl⟩
  by_cases h5 : f3 = 5
  · subst h5
    go_enter Tryd.func64, Tryd.ntmps64
    go_wp2_with fail
    go_ret
    exact ⟨rfl, rfl⟩
  by_cases h6 : f3 = 6
  · subst h6
    go_enter Tryd.func64, Tryd.ntmps64
    go_wp2_with fail
    go_ret
    exact ⟨rfl, rfl⟩
  by_cases h7 : f3 = 7
  · subst h7
    go_enter Tryd.func64, Tryd.ntmps64
    go_wp2_with fail
    go_ret
    exact ⟨rfl, rfl⟩
  have v : Num.oSys v f3 = 0 := by unfold Num.oSys; rw [if_neg h0]; rw [if_neg h1]; rw [if_neg h2]; rw [if_neg h3]; rw [if_neg h5]; rw [if_neg h6]; rw [if_neg h7]
  rw [v]; clear v
  replace h0 : (f3 == 0) = false := by simp [h0]
  replace h1 : (f3 == 1) = false := by simp [h1]
  replace h2 : (f3 == 2) = false := by simp [h2]
  replace h3 : (f3 == 3) = false := by simp [h3]
  replace h5 : (f3 == 5) = false := by simp [h5]
  replace h6 : (f3 == 6) = false := by simp [h6]
  replace h7 : (f3 == 7) = false := by simp [h7]
  go_enter Tryd.func64, Tryd.ntmps64
  go_wp2_with fail
  go_ret
  exact ⟨rfl, rfl⟩
set_option maxHeartbeats 4000000 in
theorem op_core (v c f3 f7 : Int) (C : Hid (Num.bt v 0 7 = c)) (F : Hid (Num.bt v 12 3 = f3)) (G : Hid (Num.bt v 25 7 = f7)) (w : World) :
    Calls Tryd.prog 49 #[.int .u32 v] w fun e w' => e = .returned (.int .i64 (Num.opc v c f3 f7)) ∧ w' = w := by
  by_cases h55 : c = 55
  · subst h55
    go_enter Tryd.func49, Tryd.ntmps49
    go_wp2_with fail
    refine (bits_as _ _ _ _ F _).mono ?_; rintro e w' ⟨rfl, rfl⟩
    go_wp2_with fail
    refine (bits_as _ _ _ _ G _).mono ?_; rintro e w' ⟨rfl, rfl⟩
    go_wp2_with fail
    refine (bits_as _ _ _ _ C _).mono ?_; rintro e w' ⟨rfl, rfl⟩
    go_wp2_with fail
    go_ret
    exact ⟨rfl, rfl⟩
  by_cases h23 : c = 23
  · subst h23
    go_enter Tryd.func49, Tryd.ntmps49
    go_wp2_with fail
    refine (bits_as _ _ _ _ F _).mono ?_; rintro e w' ⟨rfl, rfl⟩
    go_wp2_with fail
    refine (bits_as _ _ _ _ G _).mono ?_; rintro e w' ⟨rfl, rfl⟩
    go_wp2_with fail
    refine (bits_as _ _ _ _ C _).mono ?_; rintro e w' ⟨rfl, rfl⟩
    go_wp2_with fail
    go_ret
    exact ⟨rfl, rfl⟩
  by_cases h111 : c = 111
  · subst h111
    go_enter Tryd.func49, Tryd.ntmps49
    go_wp2_with fail
    refine (bits_as _ _ _ _ F _).mono ?_; rintro e w' ⟨rfl, rfl⟩
    go_wp2_with fail
    refine (bits_as _ _ _ _ G _).mono ?_; rintro e w' ⟨rfl, rfl⟩
    go_wp2_with fail
    refine (bits_as _ _ _ _ C _).mono ?_; rintro e w' ⟨rfl, rfl⟩
    go_wp2_with fail
    go_ret
    exact ⟨rfl, rfl⟩
  by_cases h103 : c = 103
  · subst h103
    go_enter Tryd.func49, Tryd.ntmps49
    go_wp2_with fail
    refine (bits_as _ _ _ _ F _).mono ?_; rintro e w' ⟨rfl, rfl⟩
    go_wp2_with fail
    refine (bits_as _ _ _ _ G _).mono ?_; rintro e w' ⟨rfl, rfl⟩
    go_wp2_with fail
    refine (bits_as _ _ _ _ C _).mono ?_; rintro e w' ⟨rfl, rfl⟩
    go_wp2_with fail
    refine (first_all _ _ _).mono ?_; rintro e w' ⟨rfl, rfl⟩
    go_wp2_with fail
    go_ret
    exact ⟨rfl, rfl⟩
  by_cases h99 : c = 99
  · subst h99
    go_enter Tryd.func49, Tryd.ntmps49
    go_wp2_with fail
    refine (bits_as _ _ _ _ F _).mono ?_; rintro e w' ⟨rfl, rfl⟩
    go_wp2_with fail
    refine (bits_as _ _ _ _ G _).mono ?_; rintro e w' ⟨rfl, rfl⟩
    go_wp2_with fail
    refine (bits_as _ _ _ _ C _).mono ?_; rintro e w' ⟨rfl, rfl⟩
    go_wp2_with fail
    refine (branch_all _ _).mono ?_; rintro e w' ⟨rfl, rfl⟩
    go_wp2_with fail
    go_ret
    exact ⟨rfl, rfl⟩
  by_cases h3 : c = 3
  · subst h3
    go_enter Tryd.func49, Tryd.ntmps49
    go_wp2_with fail
    refine (bits_as _ _ _ _ F _).mono ?_; rintro e w' ⟨rfl, rfl⟩
    go_wp2_with fail
    refine (bits_as _ _ _ _ G _).mono ?_; rintro e w' ⟨rfl, rfl⟩
    go_wp2_with fail
    refine (bits_as _ _ _ _ C _).mono ?_; rintro e w' ⟨rfl, rfl⟩
    go_wp2_with fail
    refine (load_all _ _).mono ?_; rintro e w' ⟨rfl, rfl⟩
    go_wp2_with fail
    go_ret
    exact ⟨rfl, rfl⟩
  by_cases h35 : c = 35
  · subst h35
    go_enter Tryd.func49, Tryd.ntmps49
    go_wp2_with fail
    refine (bits_as _ _ _ _ F _).mono ?_; rintro e w' ⟨rfl, rfl⟩
    go_wp2_with fail
    refine (bits_as _ _ _ _ G _).mono ?_; rintro e w' ⟨rfl, rfl⟩
    go_wp2_with fail
    refine (bits_as _ _ _ _ C _).mono ?_; rintro e w' ⟨rfl, rfl⟩
    go_wp2_with fail
    refine (store_all _ _).mono ?_; rintro e w' ⟨rfl, rfl⟩
    go_wp2_with fail
    go_ret
    exact ⟨rfl, rfl⟩
  by_cases h19 : c = 19
  · subst h19
    go_enter Tryd.func49, Tryd.ntmps49
    go_wp2_with fail
    refine (bits_as _ _ _ _ F _).mono ?_; rintro e w' ⟨rfl, rfl⟩
    go_wp2_with fail
    refine (bits_as _ _ _ _ G _).mono ?_; rintro e w' ⟨rfl, rfl⟩
    go_wp2_with fail
    refine (bits_as _ _ _ _ C _).mono ?_; rintro e w' ⟨rfl, rfl⟩
    go_wp2_with fail
    refine (imm_all _ _ _).mono ?_; rintro e w' ⟨rfl, rfl⟩
    go_wp2_with fail
    go_ret
    exact ⟨rfl, rfl⟩
  by_cases h51 : c = 51
  · subst h51
    go_enter Tryd.func49, Tryd.ntmps49
    go_wp2_with fail
    refine (bits_as _ _ _ _ F _).mono ?_; rintro e w' ⟨rfl, rfl⟩
    go_wp2_with fail
    refine (bits_as _ _ _ _ G _).mono ?_; rintro e w' ⟨rfl, rfl⟩
    go_wp2_with fail
    refine (bits_as _ _ _ _ C _).mono ?_; rintro e w' ⟨rfl, rfl⟩
    go_wp2_with fail
    refine (reg_all _ _ _).mono ?_; rintro e w' ⟨rfl, rfl⟩
    go_wp2_with fail
    go_ret
    exact ⟨rfl, rfl⟩
  by_cases h15 : c = 15
  · subst h15
    go_enter Tryd.func49, Tryd.ntmps49
    go_wp2_with fail
    refine (bits_as _ _ _ _ F _).mono ?_; rintro e w' ⟨rfl, rfl⟩
    go_wp2_with fail
    refine (bits_as _ _ _ _ G _).mono ?_; rintro e w' ⟨rfl, rfl⟩
    go_wp2_with fail
    refine (bits_as _ _ _ _ C _).mono ?_; rintro e w' ⟨rfl, rfl⟩
    go_wp2_with fail
    refine (first_all _ _ _).mono ?_; rintro e w' ⟨rfl, rfl⟩
    go_wp2_with fail
    go_ret
    exact ⟨rfl, rfl⟩
  by_cases h115 : c = 115
  · subst h115
    go_enter Tryd.func49, Tryd.ntmps49
    go_wp2_with fail
    refine (bits_as _ _ _ _ F _).mono ?_; rintro e w' ⟨rfl, rfl⟩
    go_wp2_with fail
    refine (bits_as _ _ _ _ G _).mono ?_; rintro e w' ⟨rfl, rfl⟩
    go_wp2_with fail
    refine (bits_as _ _ _ _ C _).mono ?_; rintro e w' ⟨rfl, rfl⟩
    go_wp2_with fail
    refine (sys_all _ _ _).mono ?_; rintro e w' ⟨rfl, rfl⟩
    go_wp2_with fail
    go_ret
    exact ⟨rfl, rfl⟩
  have x : Num.opc v c f3 f7 = 0 := by unfold Num.opc; rw [if_neg h55]; rw [if_neg h23]; rw [if_neg h111]; rw [if_neg h103]; rw [if_neg h99]; rw [if_neg h3]; rw [if_neg h35]; rw [if_neg h19]; rw [if_neg h51]; rw [if_neg h15]; rw [if_neg h115]
  rw [x]; clear x
  replace h55 : (c == 55) = false := by simp [h55]
  replace h23 : (c == 23) = false := by simp [h23]
  replace h111 : (c == 111) = false := by simp [h111]
  replace h103 : (c == 103) = false := by simp [h103]
  replace h99 : (c == 99) = false := by simp [h99]
  replace h3 : (c == 3) = false := by simp [h3]
  replace h35 : (c == 35) = false := by simp [h35]
  replace h19 : (c == 19) = false := by simp [h19]
  replace h51 : (c == 51) = false := by simp [h51]
  replace h15 : (c == 15) = false := by simp [h15]
  replace h115 : (c == 115) = false := by simp [h115]
  go_enter Tryd.func49, Tryd.ntmps49
  go_wp2_with fail
  refine (bits_as _ _ _ _ F _).mono ?_; rintro e w' ⟨rfl, rfl⟩
  go_wp2_with fail
  refine (bits_as _ _ _ _ G _).mono ?_; rintro e w' ⟨rfl, rfl⟩
  go_wp2_with fail
  refine (bits_as _ _ _ _ C _).mono ?_; rintro e w' ⟨rfl, rfl⟩
  go_wp2_with fail
  go_ret
  exact ⟨rfl, rfl⟩
end Go.Proofs.YtlnliiihcajboaaDoor.Walks
