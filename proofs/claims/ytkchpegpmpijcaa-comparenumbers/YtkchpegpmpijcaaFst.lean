/- The first place at which two rows part. -/
import Derived.Test.YtkchpegpmpijcaaSame
namespace Go.Proofs.Ytkchpegpmpijcaa.M
open Go.ChangeShapes Go.WideShapes Go.ChangeAt Go.RowKit Go.Proofs.Ytkchpegpmpijcaa.Walks
set_option linter.unusedVariables false
/-- v is the first place where rows of n and of m part; p tells where they are alike -/
def IsFst (p : Nat → Bool) (n m : Nat) (v : Int) : Prop :=
  (v = -1 ∧ n = m ∧ ∀ j, j < n → p j = true) ∨ ∃ k : Nat, v = k ∧ (∀ j, j < k → p j = true) ∧ k ≤ n ∧ k ≤ m ∧ ((k < n ∧ k < m ∧ p k = false) ∨ (n ≠ m ∧ (k = n ∨ k = m)))
theorem IsFst.uniq {p : Nat → Bool} {n m : Nat} {v v' : Int} (h : IsFst p n m v) (h' : IsFst p n m v') : v = v' := by
  rcases h with ⟨rfl, hn, ha⟩ | ⟨k, rfl, h1, h2, h3, h4⟩ <;> rcases h' with ⟨rfl, hn', ha'⟩ | ⟨k', rfl, h1', h2', h3', h4'⟩
  · rfl
  · exfalso
    rcases h4' with ⟨a, b, c⟩ | ⟨a, _⟩
    · rw [ha k' a] at c; cases c
    · exact a hn
  · exfalso
    rcases h4 with ⟨a, b, c⟩ | ⟨a, _⟩
    · rw [ha' k a] at c; cases c
    · exact a hn'
  · by_cases e : k < k'
    · exfalso
      rcases h4 with ⟨a, b, c⟩ | ⟨a, b⟩
      · rw [h1' k e] at c; cases c
      · omega
    · by_cases e' : k' < k
      · exfalso
        rcases h4' with ⟨a, b, c⟩ | ⟨a, b⟩
        · rw [h1 k' e'] at c; cases c
        · omega
      · have : k = k' := by omega
        rw [this]
theorem IsFst.ge {p : Nat → Bool} {n m : Nat} {v : Int} (h : IsFst p n m v) : -1 ≤ v ∧ v ≤ n := by
  rcases h with ⟨rfl, _, _⟩ | ⟨k, rfl, _, h2, _, _⟩ <;> omega
theorem isFst_same (p : Nat → Bool) (n : Nat) (h : ∀ j, j < n → p j = true) : IsFst p n n (-1) := .inl ⟨rfl, rfl, h⟩
/-- a row of instructions that were done lies in memory -/
def RIn (w : World) (A : Option Addr) (n : Nat) (f : Nat → Rt) : Prop := ∀ j, j < n → ∃ b o, A = some ⟨b, o, none⟩ ∧ b < w.heap.size ∧ w.rangeAt b (o + j * 7) (f j).cs
theorem RIn.fr {w w' : World} {A : Option Addr} {n : Nat} {f : Nat → Rt} (h : RIn w A n f) (F : Fr w w') : RIn w' A n f := fun j hj => by
  obtain ⟨b, o, h1, h2, h3⟩ := h j hj
  exact ⟨b, o, h1, Nat.lt_of_lt_of_le h2 F.size, range_fr h3 F h2⟩
theorem RIn.alike {w w' : World} {A : Option Addr} {n : Nat} {f : Nat → Rt} (h : RIn w A n f) (k : w'.Alike w) : RIn w' A n f := h.fr ((Fr.refl w).alike k)
theorem RIn.less {w : World} {A : Option Addr} {n m : Nat} {f : Nat → Rt} (h : RIn w A n f) (k : m ≤ n) : RIn w A m f := fun j hj => h j (by omega)
end Go.Proofs.Ytkchpegpmpijcaa.M
