/- Contracts of Result and of New. -/
import Derived.Test.YtbedgfobbnonjaaUnit
import Derived.BigQuiet
import Derived.Deep.QuietTactic
namespace Go.Proofs.Ytbedgfobbnonjaa.Num
/-- what Result tells of op, its pair and its sign -/
def rs (op p : Int) (g : Bool) : Int :=
  if op = 38 ∨ op = 42 ∨ op = 43 then tn (p % 4294967296) g else if op = 44 ∨ op = 45 then tn (p / 4294967296 % 4294967296) g
  else (if g then IntKind.u64.wrap (-p) else p) / 4294967296 % 4294967296
end Go.Proofs.Ytbedgfobbnonjaa.Num
namespace Go.Proofs.Ytbedgfobbnonjaa.Walks
open Go.ChangeShapes Go.WideShapes Go.ChangeAt Go.RowKit
set_option linter.unusedVariables false
theorem done_to (B : Nat) (s : Int) (d : Bool) (D : decide (8 ≤ s) = d) (w : World) (h4 : w.cell? ⟨B, 4, none⟩ = some (.int .i64 s)) :
    Calls Try.prog 18 #[.pointer (some ⟨B, 0, none⟩)] w fun e w' => e = .returned (.bool d) ∧ w' = w := by
  rw [← D]; exact done_as B s w h4
theorem high_to (B : Nat) (p r : Int) (g : Bool) (R : Hid ((if g then IntKind.u64.wrap (-p) else p) / 4294967296 % 4294967296 = r)) (w : World) (h1 : w.cell? ⟨B, 1, none⟩ = some (.int .u64 p)) (h3 : w.cell? ⟨B, 3, none⟩ = some (.bool g)) :
    Calls Try.prog 22 #[.pointer (some ⟨B, 0, none⟩)] w fun e w' => e = .returned (.int .u32 r) ∧ w' = w := by
  rw [← R.out]; exact high_as B p g w h1 h3
set_option maxHeartbeats 1000000 in
theorem result_not (B : Nat) (s : Int) (hs : s ≤ 7) (w : World) (h4 : w.cell? ⟨B, 4, none⟩ = some (.int .i64 s)) :
    Calls Try.prog 12 #[.pointer (some ⟨B, 0, none⟩)] w fun e w' => e = .returned (.tuple #[.int .u32 0, .bool false]) ∧ w'.Alike w := by
  go_enter Try.func12, Try.ntmps12
  go_wp2_with fail
  refine (done_to B s false (by rw [decide_eq_false_iff_not]; omega) _ h4).mono ?_; rintro e w ⟨rfl, rfl⟩
  go_wp2_with fail
  go_ret2
  exact ⟨rfl, rfl, rfl, rfl⟩
set_option maxHeartbeats 1000000 in
theorem result38 (B : Nat) (p : Int) (g : Bool) (s : Int) (hs : 8 ≤ s) (w : World) (h0 : w.cell? ⟨B, 0, none⟩ = some (.int .i64 38)) (h1 : w.cell? ⟨B, 1, none⟩ = some (.int .u64 p)) (h3 : w.cell? ⟨B, 3, none⟩ = some (.bool g)) (h4 : w.cell? ⟨B, 4, none⟩ = some (.int .i64 s)) :
    Calls Try.prog 12 #[.pointer (some ⟨B, 0, none⟩)] w fun e w' => e = .returned (.tuple #[.int .u32 (Num.tn (p % 4294967296) g), .bool true]) ∧ w'.Alike w := by
  go_enter Try.func12, Try.ntmps12
  go_wp2_with fail
  refine (done_to B s true (by rw [decide_eq_true_iff]; exact hs) _ h4).mono ?_; rintro e w ⟨rfl, rfl⟩
  go_wp2_with fail
  go_quiet ((go_at_call 16; exact Calls.quiet_of_same (turned_as _ _ _)))
  go_wp2_with fail
  go_ret2
  exact ⟨rfl, rfl, rfl, rfl⟩
set_option maxHeartbeats 1000000 in
theorem result42 (B : Nat) (p : Int) (g : Bool) (s : Int) (hs : 8 ≤ s) (w : World) (h0 : w.cell? ⟨B, 0, none⟩ = some (.int .i64 42)) (h1 : w.cell? ⟨B, 1, none⟩ = some (.int .u64 p)) (h3 : w.cell? ⟨B, 3, none⟩ = some (.bool g)) (h4 : w.cell? ⟨B, 4, none⟩ = some (.int .i64 s)) :
    Calls Try.prog 12 #[.pointer (some ⟨B, 0, none⟩)] w fun e w' => e = .returned (.tuple #[.int .u32 (Num.tn (p % 4294967296) g), .bool true]) ∧ w'.Alike w := by
  go_enter Try.func12, Try.ntmps12
  go_wp2_with fail
  refine (done_to B s true (by rw [decide_eq_true_iff]; exact hs) _ h4).mono ?_; rintro e w ⟨rfl, rfl⟩
  go_wp2_with fail
  go_quiet ((go_at_call 16; exact Calls.quiet_of_same (turned_as _ _ _)))
  go_wp2_with fail
  go_ret2
  exact ⟨rfl, rfl, rfl, rfl⟩
set_option maxHeartbeats 1000000 in
theorem result43 (B : Nat) (p : Int) (g : Bool) (s : Int) (hs : 8 ≤ s) (w : World) (h0 : w.cell? ⟨B, 0, none⟩ = some (.int .i64 43)) (h1 : w.cell? ⟨B, 1, none⟩ = some (.int .u64 p)) (h3 : w.cell? ⟨B, 3, none⟩ = some (.bool g)) (h4 : w.cell? ⟨B, 4, none⟩ = some (.int .i64 s)) :
    Calls Try.prog 12 #[.pointer (some ⟨B, 0, none⟩)] w fun e w' => e = .returned (.tuple #[.int .u32 (Num.tn (p % 4294967296) g), .bool true]) ∧ w'.Alike w := by
  go_enter Try.func12, Try.ntmps12
  go_wp2_with fail
  refine (done_to B s true (by rw [decide_eq_true_iff]; exact hs) _ h4).mono ?_; rintro e w ⟨rfl, rfl⟩
  go_wp2_with fail
  go_quiet ((go_at_call 16; exact Calls.quiet_of_same (turned_as _ _ _)))
  go_wp2_with fail
  go_ret2
  exact ⟨rfl, rfl, rfl, rfl⟩
set_option maxHeartbeats 1000000 in
theorem result44 (B : Nat) (p : Int) (g : Bool) (s : Int) (hs : 8 ≤ s) (w : World) (h0 : w.cell? ⟨B, 0, none⟩ = some (.int .i64 44)) (h1 : w.cell? ⟨B, 1, none⟩ = some (.int .u64 p)) (h3 : w.cell? ⟨B, 3, none⟩ = some (.bool g)) (h4 : w.cell? ⟨B, 4, none⟩ = some (.int .i64 s)) :
    Calls Try.prog 12 #[.pointer (some ⟨B, 0, none⟩)] w fun e w' => e = .returned (.tuple #[.int .u32 (Num.tn (p / 4294967296 % 4294967296) g), .bool true]) ∧ w'.Alike w := by
  go_enter Try.func12, Try.ntmps12
  go_wp2_with fail
  refine (done_to B s true (by rw [decide_eq_true_iff]; exact hs) _ h4).mono ?_; rintro e w ⟨rfl, rfl⟩
  go_wp2_with fail
  go_quiet ((go_at_call 16; exact Calls.quiet_of_same (turned_as _ _ _)))
  go_wp2_with fail
  go_ret2
  exact ⟨rfl, rfl, rfl, rfl⟩
set_option maxHeartbeats 1000000 in
theorem result45 (B : Nat) (p : Int) (g : Bool) (s : Int) (hs : 8 ≤ s) (w : World) (h0 : w.cell? ⟨B, 0, none⟩ = some (.int .i64 45)) (h1 : w.cell? ⟨B, 1, none⟩ = some (.int .u64 p)) (h3 : w.cell? ⟨B, 3, none⟩ = some (.bool g)) (h4 : w.cell? ⟨B, 4, none⟩ = some (.int .i64 s)) :
    Calls Try.prog 12 #[.pointer (some ⟨B, 0, none⟩)] w fun e w' => e = .returned (.tuple #[.int .u32 (Num.tn (p / 4294967296 % 4294967296) g), .bool true]) ∧ w'.Alike w := by
  go_enter Try.func12, Try.ntmps12
  go_wp2_with fail
  refine (done_to B s true (by rw [decide_eq_true_iff]; exact hs) _ h4).mono ?_; rintro e w ⟨rfl, rfl⟩
  go_wp2_with fail
  go_quiet ((go_at_call 16; exact Calls.quiet_of_same (turned_as _ _ _)))
  go_wp2_with fail
  go_ret2
  exact ⟨rfl, rfl, rfl, rfl⟩
set_option maxHeartbeats 1000000 in
theorem result39 (B : Nat) (p : Int) (g : Bool) (s : Int) (hs : 8 ≤ s) (r : Int) (R : Hid ((if g then IntKind.u64.wrap (-p) else p) / 4294967296 % 4294967296 = r)) (w : World) (h0 : w.cell? ⟨B, 0, none⟩ = some (.int .i64 39)) (h1 : w.cell? ⟨B, 1, none⟩ = some (.int .u64 p)) (h3 : w.cell? ⟨B, 3, none⟩ = some (.bool g)) (h4 : w.cell? ⟨B, 4, none⟩ = some (.int .i64 s)) :
    Calls Try.prog 12 #[.pointer (some ⟨B, 0, none⟩)] w fun e w' => e = .returned (.tuple #[.int .u32 r, .bool true]) ∧ w'.Alike w := by
  go_enter Try.func12, Try.ntmps12
  go_wp2_with fail
  refine (done_to B s true (by rw [decide_eq_true_iff]; exact hs) _ h4).mono ?_; rintro e w ⟨rfl, rfl⟩
  go_wp2_with fail
  refine (high_to B p r g R _ h1 h3).mono ?_; rintro e w ⟨rfl, rfl⟩
  go_wp2_with fail
  go_ret2
  exact ⟨rfl, rfl, rfl, rfl⟩
set_option maxHeartbeats 1000000 in
theorem result40 (B : Nat) (p : Int) (g : Bool) (s : Int) (hs : 8 ≤ s) (r : Int) (R : Hid ((if g then IntKind.u64.wrap (-p) else p) / 4294967296 % 4294967296 = r)) (w : World) (h0 : w.cell? ⟨B, 0, none⟩ = some (.int .i64 40)) (h1 : w.cell? ⟨B, 1, none⟩ = some (.int .u64 p)) (h3 : w.cell? ⟨B, 3, none⟩ = some (.bool g)) (h4 : w.cell? ⟨B, 4, none⟩ = some (.int .i64 s)) :
    Calls Try.prog 12 #[.pointer (some ⟨B, 0, none⟩)] w fun e w' => e = .returned (.tuple #[.int .u32 r, .bool true]) ∧ w'.Alike w := by
  go_enter Try.func12, Try.ntmps12
  go_wp2_with fail
  refine (done_to B s true (by rw [decide_eq_true_iff]; exact hs) _ h4).mono ?_; rintro e w ⟨rfl, rfl⟩
  go_wp2_with fail
  refine (high_to B p r g R _ h1 h3).mono ?_; rintro e w ⟨rfl, rfl⟩
  go_wp2_with fail
  go_ret2
  exact ⟨rfl, rfl, rfl, rfl⟩
set_option maxHeartbeats 1000000 in
theorem result41 (B : Nat) (p : Int) (g : Bool) (s : Int) (hs : 8 ≤ s) (r : Int) (R : Hid ((if g then IntKind.u64.wrap (-p) else p) / 4294967296 % 4294967296 = r)) (w : World) (h0 : w.cell? ⟨B, 0, none⟩ = some (.int .i64 41)) (h1 : w.cell? ⟨B, 1, none⟩ = some (.int .u64 p)) (h3 : w.cell? ⟨B, 3, none⟩ = some (.bool g)) (h4 : w.cell? ⟨B, 4, none⟩ = some (.int .i64 s)) :
    Calls Try.prog 12 #[.pointer (some ⟨B, 0, none⟩)] w fun e w' => e = .returned (.tuple #[.int .u32 r, .bool true]) ∧ w'.Alike w := by
  go_enter Try.func12, Try.ntmps12
  go_wp2_with fail
  refine (done_to B s true (by rw [decide_eq_true_iff]; exact hs) _ h4).mono ?_; rintro e w ⟨rfl, rfl⟩
  go_wp2_with fail
  refine (high_to B p r g R _ h1 h3).mono ?_; rintro e w ⟨rfl, rfl⟩
  go_wp2_with fail
  go_ret2
  exact ⟨rfl, rfl, rfl, rfl⟩
theorem result_done (B : Nat) (op p y : Int) (g : Bool) (s : Int) (ho : 38 ≤ op) (ho' : op ≤ 45) (hs : 8 ≤ s) (w : World) (hU : Un B op p y g s w) :
    Calls Try.prog 12 #[.pointer (some ⟨B, 0, none⟩)] w fun e w' => e = .returned (.tuple #[.int .u32 (Num.rs op p g), .bool true]) ∧ w'.Alike w := by
  have : op = 38 ∨ op = 39 ∨ op = 40 ∨ op = 41 ∨ op = 42 ∨ op = 43 ∨ op = 44 ∨ op = 45 := by omega
  rcases this with rfl | rfl | rfl | rfl | rfl | rfl | rfl | rfl
  · exact result38 B p g s hs w hU.c0 hU.c1 hU.c3 hU.c4
  · exact result39 B p g s hs _ rfl w hU.c0 hU.c1 hU.c3 hU.c4
  · exact result40 B p g s hs _ rfl w hU.c0 hU.c1 hU.c3 hU.c4
  · exact result41 B p g s hs _ rfl w hU.c0 hU.c1 hU.c3 hU.c4
  · exact result42 B p g s hs w hU.c0 hU.c1 hU.c3 hU.c4
  · exact result43 B p g s hs w hU.c0 hU.c1 hU.c3 hU.c4
  · exact result44 B p g s hs w hU.c0 hU.c1 hU.c3 hU.c4
  · exact result45 B p g s hs w hU.c0 hU.c1 hU.c3 hU.c4
end Go.Proofs.Ytbedgfobbnonjaa.Walks
