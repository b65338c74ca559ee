/- Contracts of the tape's Next (its number lies in its bounds; nothing but the tape's own block has turned) and of Within. -/
import Derived.Test.YtlnliiihcajboaaDoorJudged
import Derived.Test.YtlnliiihcajboaaDoorSet
import Derived.BigQuiet
import Derived.Deep.QuietTactic
namespace Go.Proofs.YtlnliiihcajboaaDoor.Walks
open Go.ChangeShapes Go.WideShapes Go.ChangeAt Go.RowKit
set_option linter.unusedVariables false
/-- nothing but block g has turned -/
structure Only (g : Nat) (w w' : World) : Prop where
  os : w'.os = w.os
  output : w'.output = w.output
  size : w'.heap.size = w.heap.size
  block : ∀ k, k ≠ g → w'.heap[k]? = w.heap[k]?
theorem Only.trans {g : Nat} {u v w : World} (h : Only g u v) (k : Only g v w) : Only g u w :=
  ⟨k.os.trans h.os, k.output.trans h.output, k.size.trans h.size, fun i hi => (k.block i hi).trans (h.block i hi)⟩
theorem Only.cell {g : Nat} {w w' : World} (h : Only g w w') (k o : Nat) (hk : k ≠ g) : w'.cell? ⟨k, o, none⟩ = w.cell? ⟨k, o, none⟩ := World.cell?_of_block (w := w) (h.block k hk)
theorem Only.frozen {g : Nat} {w w' : World} (h : Only g w w') (k o : Nat) (hk : k ≠ g) : w'.frozen? ⟨k, o, none⟩ = w.frozen? ⟨k, o, none⟩ := World.frozen?_of_block (w := w) (h.block k hk)
/-- a tape lies at block g: its numbers, and how far it was read -/
structure TapeAt (g : Nat) (A : Option Addr) (len cap : Nat) (zs : Nat → Int) (i : Nat) (w : World) : Prop where
  hs : w.cell? ⟨g, 0, none⟩ = some (.slice A len cap)
  ha : w.cell? ⟨g, 1, none⟩ = some (.int .i64 i)
  fz : w.frozen? ⟨g, 1, none⟩ = false
  hz : ∀ j, j < len → ∃ b o, A = some ⟨b, o, none⟩ ∧ b ≠ g ∧ w.cell? ⟨b, o + j, none⟩ = some (.int .i64 (zs j))
/-- what Within(n, 0, 2^30) is -/
def wth (n : Int) : Int := if 0 ≤ n ∧ n ≤ 1073741824 then n else n % 1073741825
theorem wth_in (n : Int) : 0 ≤ wth n ∧ wth n ≤ 1073741824 := by
  unfold wth; split <;> omega
theorem neg_tm (n : Int) (h : n < 0) : n.tmod 1073741825 = -((-n) % 1073741825) := by
  have e : n.tmod 1073741825 = -((-n).tmod 1073741825) := by rw [Int.neg_tmod, Int.neg_neg]
  rw [e, Int.tmod_eq_emod_of_nonneg (by omega)]
set_option maxHeartbeats 2000000 in
theorem within_in (n : Int) (h0 : 0 ≤ n) (h1 : n ≤ 1073741824) (w : World) :
    Calls Tryd.prog 38 #[.int .i64 n, .int .i64 0, .int .i64 1073741824] w fun e w' => e = .returned (.int .i64 n) ∧ w' = w := by
  go_enter Tryd.func38, Tryd.ntmps38
  go_wp2
  go_ret
  exact ⟨rfl, rfl⟩
set_option maxHeartbeats 2000000 in
theorem within_out (n m r : Int) (h : n < 0 ∨ 1073741824 < n) (M : n.tmod 1073741825 = m) (m0 : -1073741824 ≤ m) (m1 : m ≤ 1073741824) (R : Hid (r = if m < 0 then m + 1073741825 else m)) (w : World) :
    Calls Tryd.prog 38 #[.int .i64 n, .int .i64 0, .int .i64 1073741824] w fun e w' => e = .returned (.int .i64 r) ∧ w' = w := by
  rw [R.out]
  rcases h with h | h <;> by_cases x : m < 0
  · rw [if_pos x]
    go_enter Tryd.func38, Tryd.ntmps38
    go_wp2
    go_ret
    exact ⟨ret_int (by omega), rfl⟩
  · rw [if_neg x]
    go_enter Tryd.func38, Tryd.ntmps38
    go_wp2
    go_ret
    exact ⟨ret_int (by omega), rfl⟩
  · rw [if_pos x]
    go_enter Tryd.func38, Tryd.ntmps38
    go_wp2
    go_ret
    exact ⟨ret_int (by omega), rfl⟩
  · rw [if_neg x]
    go_enter Tryd.func38, Tryd.ntmps38
    go_wp2
    go_ret
    exact ⟨ret_int (by omega), rfl⟩
theorem within_as (n r : Int) (R : Hid (wth n = r)) (w : World) :
    Calls Tryd.prog 38 #[.int .i64 n, .int .i64 0, .int .i64 1073741824] w fun e w' => e = .returned (.int .i64 r) ∧ w' = w := by
  rw [← R.out, wth]
  by_cases h : 0 ≤ n ∧ n ≤ 1073741824
  · rw [if_pos h]; exact within_in n h.1 h.2 w
  · rw [if_neg h]
    by_cases x : n < 0
    · have e := neg_tm n x
      refine within_out n _ _ (.inl x) rfl (by omega) (by omega) ?_ w
      unfold Hid
      rw [e]
      split <;> omega
    · have e : n.tmod 1073741825 = n % 1073741825 := Int.tmod_eq_emod_of_nonneg (by omega)
      refine within_out n _ _ (.inr (by omega)) rfl (by omega) (by omega) ?_ w
      unfold Hid
      rw [e]
      split <;> omega
set_option maxHeartbeats 4000000 in
theorem next_end (n : Int) (n0 : 1 ≤ n) (g : Nat) (A : Option Addr) (len cap i : Nat) (hi : (len : Int) ≤ i) (w : World)
    (c0 : w.cell? ⟨g, 0, none⟩ = some (.slice A len cap)) (c1 : w.cell? ⟨g, 1, none⟩ = some (.int .i64 i)) :
    Calls Tryd.prog 18 #[.pointer (some ⟨g, 0, none⟩), .int .i64 n] w fun e w' => e = .returned (.int .i64 0) ∧ w'.Alike w := by
  have hd : decide ((len : Int) ≤ i) = true := decide_eq_true hi
  go_enter Tryd.func18, Tryd.ntmps18
  go_wp2_with fail
  go_quiet (fail)
  go_wp2_with fail
  go_ret
  exact ⟨rfl, rfl, rfl, rfl⟩
set_option maxHeartbeats 4000000 in
theorem next_more (n z r q : Int) (n0 : 1 ≤ n) (n1 : n ≤ 2147483648) (g b o len cap i : Nat) (hi : (i : Int) < len) (i0 : (0 : Int) ≤ i) (i1 : (i : Int) ≤ 1000) (w : World) (ne : ¬ b = g) (ne' : ¬ g = b)
    (c0 : w.cell? ⟨g, 0, none⟩ = some (.slice (some ⟨b, o, none⟩) len cap)) (c1 : w.cell? ⟨g, 1, none⟩ = some (.int .i64 i)) (fz : w.frozen? ⟨g, 1, none⟩ = false) (c2 : w.cell? ⟨b, o + i, none⟩ = some (.int .i64 z))
    (R : Hid (wth z = r)) (r0 : 0 ≤ r) (r1 : r ≤ 1073741824) (Q : r.tmod n = q) :
    Calls Tryd.prog 18 #[.pointer (some ⟨g, 0, none⟩), .int .i64 n] w fun e w' => e = .returned (.int .i64 q) ∧ w'.Alike (w.setCell ⟨g, 1, none⟩ (.int .i64 (i + 1))) := by
  have hd : decide (len ≤ i) = false := decide_eq_false (by omega)
  have hn : decide (n < 1) = false := decide_eq_false (by omega)
  go_enter Tryd.func18, Tryd.ntmps18
  go_wp2_with fail
  go_quiet (fail)
  go_wp2_with fail
  go_quiet ((go_at_call 38; exact Calls.quiet_of_same (within_as _ _ R _)))
  go_wp2_with fail
  go_ret
  exact ⟨rfl, rfl, rfl, rfl⟩
end Go.Proofs.YtlnliiihcajboaaDoor.Walks
