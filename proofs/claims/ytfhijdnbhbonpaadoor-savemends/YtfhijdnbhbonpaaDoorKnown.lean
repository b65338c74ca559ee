/- Contract of the laws' own 'known'. -/
import Derived.Test.YtfhijdnbhbonpaaDoorRowAs
namespace Go.Proofs.YtfhijdnbhbonpaaDoor.Walks
open Go.ChangeShapes Go.WideShapes Go.ChangeAt Go.RowKit
set_option linter.unusedVariables false
/-- a new row lies at b, its words at d, from B on -/
def Fresh (B b d n : Nat) (ws : Nat → Nat) (f : Nat) (w w' : World) : Prop := RowAt b d n ws f w' ∧ FrB B w w' ∧ B ≤ b ∧ B ≤ d ∧ b < w'.heap.size ∧ d < w'.heap.size
theorem new_ex (i : Int) (w : World) (hL : Hid (Laid w)) : Calls Tryd.prog 22 #[.int .i64 i] w fun e w' => ∃ b d, e = .returned (.pointer (some ⟨b, 0, none⟩)) ∧ Fresh w.heap.size b d (newN i) (fun _ => 0) 0 w w' :=
  (new_as i w hL).mono fun e w' h => ⟨_, _, h.1, h.2.1, h.2.2.1, by omega, by omega, by rw [h.2.2.2]; omega, by rw [h.2.2.2]; omega⟩
theorem Fresh.now {B b d n f f' : Nat} {ws ws' : Nat → Nat} {w v w' : World} (h : Fresh B b d n ws f w v) (k : Now b d n ws' f' v w') : Fresh B b d n ws' f' w w' :=
  ⟨k.1, h.2.1.trans (FrB.touch k.2 h.2.2.1 h.2.2.2.1), h.2.2.1, h.2.2.2.1, by rw [k.2.size]; exact h.2.2.2.2.1, by rw [k.2.size]; exact h.2.2.2.2.2⟩
theorem Fresh.alike {B b d n f : Nat} {ws : Nat → Nat} {w v w' : World} (h : Fresh B b d n ws f w v) (k : w'.Alike v) : Fresh B b d n ws f w w' := h.now (Now.alike h.1 k)
theorem Fresh.laid {B b d n f : Nat} {ws : Nat → Nat} {w w' : World} (h : Fresh B b d n ws f w w') (hL : Laid w) (hB : 0 < B) : Laid w' := h.2.1.laid hL hB
def w0 : Nat → Nat := fun _ => 0
end Go.Proofs.YtfhijdnbhbonpaaDoor.Walks
