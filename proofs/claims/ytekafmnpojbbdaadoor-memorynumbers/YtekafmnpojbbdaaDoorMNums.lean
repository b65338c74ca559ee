/- Numbers of a memory: why a call is refused, what is loaded, stored, scrubbed. -/
import Derived.Test.YtekafmnpojbbdaaDoorMem
import Derived.Test.YtekafmnpojbbdaaDoorAlMerge
namespace Go.Proofs.YtekafmnpojbbdaaDoor.Walks
open Go.RowKit
/-- why there is no word at a -/
def rfs (a : Int) : Int := if a % 4 = 0 then (if a < 4096 then 0 else 14) else 13
def ldW (ws : Nat → Nat) (a : Int) : Nat → Nat := if rfs a = 0 then gtW 1024 ws (a / 4) else ws
def ldF (ws : Nat → Nat) (f : Nat) (a : Int) : Nat := if rfs a = 0 then gtF 1024 ws f (a / 4) else f
def ldV (ws : Nat → Nat) (a : Int) : Nat := if rfs a = 0 then (if pkS 1024 ws (a / 4) = 2 then 0 else pkV 1024 ws (a / 4)) else 0
def ldE (ws : Nat → Nat) (a : Int) : Int := if rfs a = 0 then (if pkS 1024 ws (a / 4) = 2 then 25 else 0) else rfs a
/-- is a Store told that the word is Bad -/
def stB (ws : Nat → Nat) (a m : Int) : Bool := pkS 1024 ws (a / 4) == 2 && !(m % 16 == 15)
def stE (ws : Nat → Nat) (a m : Int) : Int := if rfs a = 0 then (if stB ws a m then 25 else 0) else rfs a
def stW (ws : Nat → Nat) (a x m : Int) : Nat → Nat :=
  if rfs a = 0 then (if stB ws a m then gtW 1024 ws (a / 4) else ptW 1024 (gtW 1024 ws (a / 4)) (a / 4) (Al.Num.mgm (pkV 1024 ws (a / 4)) x m).toNat) else ws
/-- how many words a Scrub meets -/
def scn (i : Int) : Nat := (min (max i 0) 1024).toNat
/-- the words, the count, how many were Fixed, was one Bad: behind k steps of a Scrub that began at nx -/
def scW (ws : Nat → Nat) (nx : Nat) : Nat → Nat → Nat
  | 0 => ws
  | k + 1 => gtW 1024 (scW ws nx k) (((nx + k) % 1024 : Nat) : Int)
def scF (ws : Nat → Nat) (f nx : Nat) : Nat → Nat
  | 0 => f
  | k + 1 => gtF 1024 (scW ws nx k) (scF ws f nx k) (((nx + k) % 1024 : Nat) : Int)
def scS (ws : Nat → Nat) (nx k : Nat) : Nat := pkS 1024 (scW ws nx k) (((nx + k) % 1024 : Nat) : Int)
def scN (ws : Nat → Nat) (nx : Nat) : Nat → Nat
  | 0 => 0
  | k + 1 => scN ws nx k + if scS ws nx k = 1 then 1 else 0
def scB (ws : Nat → Nat) (nx : Nat) : Nat → Bool
  | 0 => false
  | k + 1 => scB ws nx k || scS ws nx k == 2
def scV (ws : Nat → Nat) (nx n : Nat) : Nat := if scB ws nx n then 0 else scN ws nx n
def scE (ws : Nat → Nat) (nx n : Nat) : Int := if scB ws nx n then 25 else 0
theorem scn_le (i : Int) : (scn i : Int) ≤ 1024 := by unfold scn; omega
theorem scN_le (ws : Nat → Nat) (nx : Nat) : ∀ k, scN ws nx k ≤ k
  | 0 => Nat.le_refl _
  | k + 1 => by have := scN_le ws nx k; simp only [scN]; split <;> omega
theorem gtF_le (n : Nat) (ws : Nat → Nat) (f : Nat) (i : Int) : gtF n ws f i ≤ f + 1 := by unfold gtF; split <;> omega
theorem scF_le (ws : Nat → Nat) (f nx : Nat) : ∀ k, scF ws f nx k ≤ f + k
  | 0 => Nat.le_refl _
  | k + 1 => by have a := scF_le ws f nx k; have b := gtF_le 1024 (scW ws nx k) (scF ws f nx k) (((nx + k) % 1024 : Nat) : Int); simp only [scF]; omega
theorem ldF_le (ws : Nat → Nat) (f : Nat) (a : Int) : ldF ws f a ≤ f + 1 := by unfold ldF; split; exact gtF_le _ _ _ _; omega
theorem pkS_le (n : Nat) (ws : Nat → Nat) (i : Int) : pkS n ws i ≤ 2 := by unfold pkS; split; exact Num.mendS_le _; exact Nat.le_refl _
theorem pkV_lt (n : Nat) (ws : Nat → Nat) (i : Int) : pkV n ws i < 4294967296 := by unfold pkV; split; exact Nat.mod_lt _ (by decide); decide
/-- one of the words is Bad -/
def bdW (ws : Nat → Nat) : Nat → Bool
  | 0 => false
  | k + 1 => bdW ws k || Num.mendS (ws k) == 2
theorem bdW_no {ws : Nat → Nat} : ∀ {n : Nat}, (∀ i, i < n → Num.mendS (ws i) ≠ 2) → bdW ws n = false
  | 0, _ => rfl
  | n + 1, h => by
    have a := bdW_no (n := n) (fun i hi => h i (by omega))
    have b : (Num.mendS (ws n) == 2) = false := beq_eq_false_iff_ne.2 (h n (Nat.lt_succ_self n))
    simp only [bdW]
    rw [a, b]
    rfl
theorem bdW_yes {ws : Nat → Nat} {i : Nat} (h : Num.mendS (ws i) = 2) : ∀ {n : Nat}, i < n → bdW ws n = true
  | 0, hi => absurd hi (Nat.not_lt_zero _)
  | n + 1, hi => by
    simp only [bdW]
    by_cases e : i = n
    · subst e
      rw [h]
      simp
    · rw [bdW_yes h (by omega : i < n)]
      rfl
end Go.Proofs.YtekafmnpojbbdaaDoor.Walks
