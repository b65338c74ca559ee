/- Numbers of a file of registers: what all registers are; is one Bad. -/
import Derived.Test.YtgcpjlnncedcfaaDoorArr
import Derived.Test.YtgcpjlnncedcfaaDoorMendsNum
namespace Go.Proofs.YtgcpjlnncedcfaaDoor.Walks
open Go.RowKit
/-- what is told of word i -/
def vw (ws : Nat → Nat) (i : Nat) : Nat := Num.mendW (ws i) % 4294967296
/-- what registers 1 to k are, the others 0 -/
def arK (ws : Nat → Nat) (k i : Nat) : Nat := if 1 ≤ i ∧ i ≤ k then vw ws (i - 1) else 0
/-- is one of the first words Bad? -/
def bdW (ws : Nat → Nat) : Nat → Bool
  | 0 => false
  | k + 1 => bdW ws k || Num.mendS (ws k) == 2
theorem bdW_no {ws : Nat → Nat} : ∀ {n : Nat}, (∀ i, i < n → Num.mendS (ws i) ≠ 2) → bdW ws n = false
  | 0, _ => rfl
  | n + 1, h => by
    have ih := bdW_no (ws := ws) (n := n) fun i hi => h i (by omega)
    have := h n (by omega)
    simp [bdW, ih, this]
theorem bdW_yes {ws : Nat → Nat} {k : Nat} (h : Num.mendS (ws k) = 2) : ∀ {n : Nat}, k < n → bdW ws n = true
  | 0, hk => absurd hk (Nat.not_lt_zero _)
  | n + 1, hk => by
    by_cases e : k = n
    · subst e; simp [bdW, h]
    · have ih := bdW_yes h (n := n) (by omega)
      simp [bdW, ih]
theorem bdW_congr {ws vs : Nat → Nat} : ∀ (n : Nat), (∀ i, i < n → ws i = vs i) → bdW ws n = bdW vs n
  | 0, _ => rfl
  | n + 1, h => by
    have ih := bdW_congr (ws := ws) (vs := vs) n fun i hi => h i (by omega)
    simp [bdW, ih, h n (by omega)]
/-- what All tells -/
def arF (ws : Nat → Nat) (i : Nat) : Nat := if bdW ws 31 = true then 0 else arK ws 31 i
theorem arF_bad {ws : Nat → Nat} (h : bdW ws 31 = true) : arF ws = fun _ => 0 := by funext i; unfold arF; rw [if_pos h]
theorem arF_good {ws : Nat → Nat} (h : bdW ws 31 = false) : arF ws = arK ws 31 := by funext i; unfold arF; rw [if_neg (by rw [h]; decide)]
theorem arK_0 (ws : Nat → Nat) (i : Nat) : 0 = arK ws 0 i := by unfold arK; rw [if_neg (by omega)]
theorem arK_next (ws : Nat → Nat) (k x : Nat) (hx : vw ws k = x) (i : Nat) : upd (arK ws k) (k + 1) x i = arK ws (k + 1) i := by
  by_cases e : i = k + 1
  · subst e; rw [upd_at, ← hx]; unfold arK; rw [if_pos (by omega)]; rfl
  · rw [upd_off _ _ _ _ e]; unfold arK
    by_cases h : 1 ≤ i ∧ i ≤ k
    · rw [if_pos h, if_pos (by omega)]
    · rw [if_neg h, if_neg (by omega)]
theorem gtF_le (n : Nat) (ws : Nat → Nat) (f : Nat) (i : Int) : gtF n ws f i ≤ f + 1 := by unfold gtF; split <;> omega
/-- where the next Scrub is -/
def nxF (nx : Nat) : Nat := if nx = 31 then 1 else nx + 1
theorem nxF_in {nx : Nat} (h0 : 1 ≤ nx) (h1 : nx ≤ 31) : 1 ≤ nxF nx ∧ nxF nx ≤ 31 := by unfold nxF; split <;> omega
end Go.Proofs.YtgcpjlnncedcfaaDoor.Walks
