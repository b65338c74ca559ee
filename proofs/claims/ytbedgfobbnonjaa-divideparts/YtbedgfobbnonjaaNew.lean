/- Contract of New. -/
import Derived.Test.YtbedgfobbnonjaaUnit
namespace Go.Proofs.Ytbedgfobbnonjaa.Walks
open Go.ChangeShapes Go.WideShapes Go.ChangeAt Go.RowKit
set_option linter.unusedVariables false
theorem turned_to (a x : Int) (m : Bool) (H : Hid (Num.tn a m = x)) (w : World) : Calls Try.prog 16 #[.int .u32 a, .bool m] w fun e w' => e = .returned (.int .u32 x) ∧ w' = w := by
  rw [← H.out]; exact turned_as a m w
theorem below_to (a : Int) (m : Bool) (H : Hid ((a / 2147483648 == 1) = m)) (w : World) : Calls Try.prog 15 #[.int .u32 a] w fun e w' => e = .returned (.bool m) ∧ w' = w := by
  rw [← H.out]; exact below_as a w
theorem negative_to (op : Int) (g h k : Bool) (b : Int) (H : Hid (Num.ng op g h b = k)) (w : World) : Calls Try.prog 17 #[.int .i64 op, .bool g, .bool h, .int .u32 b] w fun e w' => e = .returned (.bool k) ∧ w' = w := by
  rw [← H.out]; exact negative_as op g h b w
theorem signs_to (op : Int) (g h : Bool) (h0 : 38 ≤ op) (h1 : op ≤ 45) (G : Hid (Num.sA op = g)) (H : Hid (Num.sB op = h)) (w : World) :
    Calls Try.prog 14 #[.int .i64 op] w fun e w' => e = .returned (.tuple #[.bool g, .bool h]) ∧ w' = w := by
  rw [← G.out, ← H.out]; exact signs_as op h0 h1 w
set_option maxHeartbeats 1000000 in
theorem new_low (op a b : Int) (h : op < 38) (w : World) : Calls Try.prog 9 #[.int .i64 op, .int .u32 a, .int .u32 b] w fun e w' => e = .returned (.pointer none) ∧ w' = w := by
  go_enter Try.func9, Try.ntmps9
  go_wp2_with fail
  go_ret
  exact ⟨rfl, rfl⟩
set_option maxHeartbeats 1000000 in
theorem new_high (op a b : Int) (h : 45 < op) (w : World) : Calls Try.prog 9 #[.int .i64 op, .int .u32 a, .int .u32 b] w fun e w' => e = .returned (.pointer none) ∧ w' = w := by
  go_enter Try.func9, Try.ntmps9
  go_wp2_with fail
  go_ret
  exact ⟨rfl, rfl⟩
set_option maxHeartbeats 2000000 in
theorem new_core (op a b x y : Int) (gA gB mA mB k : Bool) (h0 : 38 ≤ op) (h1 : op ≤ 45) (GA : Hid (Num.sA op = gA)) (GB : Hid (Num.sB op = gB)) (x0 : 0 ≤ x) (x1 : x ≤ 4294967295)
    (MA : Hid ((a / 2147483648 == 1) = mA)) (MB : Hid ((b / 2147483648 == 1) = mB)) (X : Hid (Num.tn a (gA && mA) = x)) (Y : Hid (Num.tn b (gB && mB) = y)) (K : Hid (Num.ng op (gA && mA) (gB && mB) b = k)) (w : World) :
    Calls Try.prog 9 #[.int .i64 op, .int .u32 a, .int .u32 b] w fun e w' => e = .returned (.pointer (some ⟨w.heap.size, 0, none⟩)) ∧ w' = w.alloc (.cells #[.int .i64 op, .int .u64 x, .int .u32 y, .bool k, .int .i64 0] 42) := by
  cases gA <;> cases gB
  · go_enter Try.func9, Try.ntmps9
    go_wp2_with fail
    refine (signs_to _ _ _ h0 h1 GA GB _).mono ?_; rintro e w ⟨rfl, rfl⟩
    go_wp2_with fail
    refine (turned_to _ _ _ X _).mono ?_; rintro e w ⟨rfl, rfl⟩
    go_wp2_with fail
    refine (turned_to _ _ _ Y _).mono ?_; rintro e w ⟨rfl, rfl⟩
    go_wp2_with fail
    refine (negative_to _ _ _ _ _ K _).mono ?_; rintro e w ⟨rfl, rfl⟩
    go_wp2_with fail
    go_ret
    exact ⟨rfl, rfl⟩
  · go_enter Try.func9, Try.ntmps9
    go_wp2_with fail
    refine (signs_to _ _ _ h0 h1 GA GB _).mono ?_; rintro e w ⟨rfl, rfl⟩
    go_wp2_with fail
    refine (below_to _ _ MB _).mono ?_; rintro e w ⟨rfl, rfl⟩
    go_wp2_with fail
    refine (turned_to _ _ _ X _).mono ?_; rintro e w ⟨rfl, rfl⟩
    go_wp2_with fail
    refine (turned_to _ _ _ Y _).mono ?_; rintro e w ⟨rfl, rfl⟩
    go_wp2_with fail
    refine (negative_to _ _ _ _ _ K _).mono ?_; rintro e w ⟨rfl, rfl⟩
    go_wp2_with fail
    go_ret
    exact ⟨rfl, rfl⟩
  · go_enter Try.func9, Try.ntmps9
    go_wp2_with fail
    refine (signs_to _ _ _ h0 h1 GA GB _).mono ?_; rintro e w ⟨rfl, rfl⟩
    go_wp2_with fail
    refine (below_to _ _ MA _).mono ?_; rintro e w ⟨rfl, rfl⟩
    go_wp2_with fail
    refine (turned_to _ _ _ X _).mono ?_; rintro e w ⟨rfl, rfl⟩
    go_wp2_with fail
    refine (turned_to _ _ _ Y _).mono ?_; rintro e w ⟨rfl, rfl⟩
    go_wp2_with fail
    refine (negative_to _ _ _ _ _ K _).mono ?_; rintro e w ⟨rfl, rfl⟩
    go_wp2_with fail
    go_ret
    exact ⟨rfl, rfl⟩
  · go_enter Try.func9, Try.ntmps9
    go_wp2_with fail
    refine (signs_to _ _ _ h0 h1 GA GB _).mono ?_; rintro e w ⟨rfl, rfl⟩
    go_wp2_with fail
    refine (below_to _ _ MA _).mono ?_; rintro e w ⟨rfl, rfl⟩
    go_wp2_with fail
    refine (below_to _ _ MB _).mono ?_; rintro e w ⟨rfl, rfl⟩
    go_wp2_with fail
    refine (turned_to _ _ _ X _).mono ?_; rintro e w ⟨rfl, rfl⟩
    go_wp2_with fail
    refine (turned_to _ _ _ Y _).mono ?_; rintro e w ⟨rfl, rfl⟩
    go_wp2_with fail
    refine (negative_to _ _ _ _ _ K _).mono ?_; rintro e w ⟨rfl, rfl⟩
    go_wp2_with fail
    go_ret
    exact ⟨rfl, rfl⟩
end Go.Proofs.Ytbedgfobbnonjaa.Walks
