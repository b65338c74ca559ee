/- Contracts of the program's small functions: signs, below, turned, negative, multiplies; done, Steps. -/
import Derived.Test.YtbedgfobbnonjaaBasic
namespace Go.Proofs.Ytbedgfobbnonjaa.Num
open Go.ChangeShapes Go.WideShapes Go.ChangeAt Go.RowKit
/-- has the first number of op a sign, has the second one -/
def sA (op : Int) : Bool := op == 39 || op == 42 || op == 44 || op == 40
def sB (op : Int) : Bool := op == 39 || op == 42 || op == 44
/-- the number n, turned into its opposite if m -/
def tn (n : Int) (m : Bool) : Int := if m then (-n) % 4294967296 else n
/-- is the answer's sign turned -/
def ng (op : Int) (g h : Bool) (b : Int) : Bool := if op = 44 then g else if op = 42 ∧ b = 0 then false else g != h
end Go.Proofs.Ytbedgfobbnonjaa.Num
namespace Go.Proofs.Ytbedgfobbnonjaa.Walks
open Go.ChangeShapes Go.WideShapes Go.ChangeAt Go.RowKit
set_option linter.unusedVariables false
theorem signs_as (op : Int) (h0 : 38 ≤ op) (h1 : op ≤ 45) (w : World) :
    Calls Try.prog 14 #[.int .i64 op] w fun e w' => e = .returned (.tuple #[.bool (Num.sA op), .bool (Num.sB op)]) ∧ w' = w := by
  have : op = 38 ∨ op = 39 ∨ op = 40 ∨ op = 41 ∨ op = 42 ∨ op = 43 ∨ op = 44 ∨ op = 45 := by omega
  rcases this with rfl | rfl | rfl | rfl | rfl | rfl | rfl | rfl
  all_goals
    go_enter Try.func14, Try.ntmps14
    go_wp2
    go_ret2
    exact ⟨rfl, rfl⟩
theorem below_as (a : Int) (w : World) : Calls Try.prog 15 #[.int .u32 a] w fun e w' => e = .returned (.bool (a / 2147483648 == 1)) ∧ w' = w := by
  go_enter Try.func15, Try.ntmps15
  go_wp2
  go_ret
  exact ⟨rfl, rfl⟩
theorem turned_as (a : Int) (m : Bool) (w : World) : Calls Try.prog 16 #[.int .u32 a, .bool m] w fun e w' => e = .returned (.int .u32 (Num.tn a m)) ∧ w' = w := by
  cases m
  all_goals
    go_enter Try.func16, Try.ntmps16
    go_wp2
    go_ret
    exact ⟨rfl, rfl⟩
theorem negative_44 (g h : Bool) (b : Int) (w : World) : Calls Try.prog 17 #[.int .i64 44, .bool g, .bool h, .int .u32 b] w fun e w' => e = .returned (.bool g) ∧ w' = w := by
  go_enter Try.func17, Try.ntmps17
  go_wp2
  go_ret
  exact ⟨rfl, rfl⟩
theorem negative_z (g h : Bool) (w : World) : Calls Try.prog 17 #[.int .i64 42, .bool g, .bool h, .int .u32 0] w fun e w' => e = .returned (.bool false) ∧ w' = w := by
  go_enter Try.func17, Try.ntmps17
  go_wp2
  go_ret
  exact ⟨rfl, rfl⟩
theorem negative_n (g h : Bool) (b : Int) (hb : (b == 0) = false) (w : World) : Calls Try.prog 17 #[.int .i64 42, .bool g, .bool h, .int .u32 b] w fun e w' => e = .returned (.bool (g != h)) ∧ w' = w := by
  cases g <;> cases h
  all_goals
    go_enter Try.func17, Try.ntmps17
    go_wp2
    go_ret
    exact ⟨rfl, rfl⟩
theorem negative_o (op : Int) (g h : Bool) (b : Int) (h1 : (op == 44) = false) (h2 : (op == 42) = false) (w : World) : Calls Try.prog 17 #[.int .i64 op, .bool g, .bool h, .int .u32 b] w fun e w' => e = .returned (.bool (g != h)) ∧ w' = w := by
  cases g <;> cases h
  all_goals
    go_enter Try.func17, Try.ntmps17
    go_wp2
    go_ret
    exact ⟨rfl, rfl⟩
theorem negative_as (op : Int) (g h : Bool) (b : Int) (w : World) : Calls Try.prog 17 #[.int .i64 op, .bool g, .bool h, .int .u32 b] w fun e w' => e = .returned (.bool (Num.ng op g h b)) ∧ w' = w := by
  unfold Num.ng
  by_cases h1 : op = 44
  · subst h1; rw [if_pos rfl]; exact negative_44 g h b w
  · rw [if_neg h1]
    by_cases h2 : op = 42
    · subst h2
      by_cases hb : b = 0
      · subst hb; rw [if_pos ⟨rfl, rfl⟩]; exact negative_z g h w
      · rw [if_neg (fun x => hb x.2)]; exact negative_n g h b (by simp [hb]) w
    · rw [if_neg (fun x => h2 x.1)]; exact negative_o op g h b (by simp [h1]) (by simp [h2]) w
theorem multiplies_as (op : Int) (w : World) : Calls Try.prog 19 #[.int .i64 op] w fun e w' => e = .returned (.bool (decide (op ≤ 41))) ∧ w' = w := by
  go_enter Try.func19, Try.ntmps19
  go_wp2
  go_ret
  exact ⟨rfl, rfl⟩
theorem done_as (B : Nat) (s : Int) (w : World) (h4 : w.cell? ⟨B, 4, none⟩ = some (.int .i64 s)) :
    Calls Try.prog 18 #[.pointer (some ⟨B, 0, none⟩)] w fun e w' => e = .returned (.bool (decide (8 ≤ s))) ∧ w' = w := by
  go_enter Try.func18, Try.ntmps18
  go_wp2
  go_ret
  exact ⟨rfl, rfl⟩
theorem steps_as (B : Nat) (s : Int) (w : World) (h4 : w.cell? ⟨B, 4, none⟩ = some (.int .i64 s)) :
    Calls Try.prog 11 #[.pointer (some ⟨B, 0, none⟩)] w fun e w' => e = .returned (.int .i64 s) ∧ w' = w := by
  go_enter Try.func11, Try.ntmps11
  go_wp2
  go_ret
  exact ⟨rfl, rfl⟩
theorem high_as (B : Nat) (p : Int) (g : Bool) (w : World) (h1 : w.cell? ⟨B, 1, none⟩ = some (.int .u64 p)) (h3 : w.cell? ⟨B, 3, none⟩ = some (.bool g)) :
    Calls Try.prog 22 #[.pointer (some ⟨B, 0, none⟩)] w fun e w' => e = .returned (.int .u32 ((if g then IntKind.u64.wrap (-p) else p) / 4294967296 % 4294967296)) ∧ w' = w := by
  cases g
  all_goals
    go_enter Try.func22, Try.ntmps22
    go_wp2
    go_ret
    exact ⟨rfl, rfl⟩
end Go.Proofs.Ytbedgfobbnonjaa.Walks
