/- The walk of EncodeRanges. -/
import Derived.Test.YtlnliiihcajboaaDoorTellsWalk
namespace Go.Proofs.YtlnliiihcajboaaDoor.Num
open Go.ChangeShapes Go.WideShapes Go.ChangeAt Go.RowKit
set_option linter.unusedVariables false
/-- the bounds of a format's immediate, and its step -/
def lo (f : Int) : Int := if f = 3 ∨ f = 5 then -2048 else if f = 6 then -4096 else if f = 8 then -1048576 else if f = 7 then -2147483648 else 0
def hi (f : Int) : Int := if f = 3 ∨ f = 5 then 2047 else if f = 6 then 4094 else if f = 8 then 1048574 else if f = 7 then 2147479552 else if f = 4 then 31 else if f = 9 ∨ f = 10 then 4095 else 0
def st (f : Int) : Int := if f = 6 ∨ f = 8 then 2 else if f = 7 then 4096 else 1
/-- an instruction that has a word, with another immediate: it has one just if that immediate lies in its bounds -/
theorem ok_imm {f d a b m : Int} (k : Ok f d a b m) (n : Int) : Ok f d a b n ↔ (lo f ≤ n ∧ n ≤ hi f ∧ n % st f = 0) := by
  rcases k.fmt with rfl | rfl | rfl | rfl | rfl | rfl | rfl | rfl | rfl | rfl
  · have q := ok1 k
    show _ ↔ (0 ≤ n ∧ n ≤ 0 ∧ n % 1 = 0)
    obtain ⟨rfl, rfl, rfl, _⟩ := q
    exact ⟨fun h => by have := ok1 h; omega, fun h => by obtain rfl : n = 0 := by omega
                                                         exact mk1⟩
  · obtain ⟨d0, d1, a0, a1, b0, b1, _⟩ := ok2 k
    show _ ↔ (0 ≤ n ∧ n ≤ 0 ∧ n % 1 = 0)
    exact ⟨fun h => by have := ok2 h; omega, fun h => by obtain rfl : n = 0 := by omega
                                                         exact mk2 d0 d1 a0 a1 b0 b1⟩
  · obtain ⟨d0, d1, a0, a1, rfl, _⟩ := ok3 k
    show _ ↔ (-2048 ≤ n ∧ n ≤ 2047 ∧ n % 1 = 0)
    exact ⟨fun h => by have := ok3 h; omega, fun h => mk3 d0 d1 a0 a1 h.1 h.2.1⟩
  · obtain ⟨d0, d1, a0, a1, rfl, _⟩ := ok4 k
    show _ ↔ (0 ≤ n ∧ n ≤ 31 ∧ n % 1 = 0)
    exact ⟨fun h => by have := ok4 h; omega, fun h => mk4 d0 d1 a0 a1 h.1 h.2.1⟩
  · obtain ⟨rfl, a0, a1, b0, b1, _⟩ := ok5 k
    show _ ↔ (-2048 ≤ n ∧ n ≤ 2047 ∧ n % 1 = 0)
    exact ⟨fun h => by have := ok5 h; omega, fun h => mk5 a0 a1 b0 b1 h.1 h.2.1⟩
  · obtain ⟨rfl, a0, a1, b0, b1, _⟩ := ok6 k
    show _ ↔ (-4096 ≤ n ∧ n ≤ 4094 ∧ n % 2 = 0)
    exact ⟨fun h => by have := ok6 h; omega, fun h => mk6 a0 a1 b0 b1 h.1 h.2.1 h.2.2⟩
  · obtain ⟨d0, d1, rfl, rfl, _⟩ := ok7 k
    show _ ↔ (-2147483648 ≤ n ∧ n ≤ 2147479552 ∧ n % 4096 = 0)
    exact ⟨fun h => by have := ok7 h; omega, fun h => mk7 d0 d1 h.1 h.2.1 h.2.2⟩
  · obtain ⟨d0, d1, rfl, rfl, _⟩ := ok8 k
    show _ ↔ (-1048576 ≤ n ∧ n ≤ 1048574 ∧ n % 2 = 0)
    exact ⟨fun h => by have := ok8 h; omega, fun h => mk8 d0 d1 h.1 h.2.1 h.2.2⟩
  · obtain ⟨d0, d1, a0, a1, rfl, _⟩ := ok9 k
    show _ ↔ (0 ≤ n ∧ n ≤ 4095 ∧ n % 1 = 0)
    exact ⟨fun h => by have := ok9 h; omega, fun h => mk9 d0 d1 a0 a1 h.1 h.2.1⟩
  · obtain ⟨d0, d1, a0, a1, rfl, _⟩ := ok10 k
    show _ ↔ (0 ≤ n ∧ n ≤ 4095 ∧ n % 1 = 0)
    exact ⟨fun h => by have := ok10 h; omega, fun h => mk10 d0 d1 a0 a1 h.1 h.2.1⟩
end Go.Proofs.YtlnliiihcajboaaDoor.Num
