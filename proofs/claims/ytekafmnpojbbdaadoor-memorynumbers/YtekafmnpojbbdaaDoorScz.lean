/- Plain facts: a Scrub of all words from the first on; words that are good, or have one bit turned. -/
import Derived.Test.YtekafmnpojbbdaaDoorMNums
import Derived.Test.YtekafmnpojbbdaaDoorRowNum
namespace Go.Proofs.YtekafmnpojbbdaaDoor.Walks
open Go.RowKit
/-- a word behind a Get -/
def cw (v : Nat) : Nat := if Num.mendS v = 1 then Num.mendW v else v
/-- how many of the first words were Fixed -/
def cn (ws : Nat → Nat) : Nat → Nat
  | 0 => 0
  | k + 1 => cn ws k + if Num.mendS (ws k) = 1 then 1 else 0
theorem scz (ws : Nat → Nat) : ∀ j, j ≤ 1024 → (∀ i, scW ws 0 j i = if i < j then cw (ws i) else ws i) ∧ scN ws 0 j = cn ws j ∧ scB ws 0 j = bdW ws j ∧ ∀ f, scF ws f 0 j = f + cn ws j
  | 0, _ => ⟨fun i => by simp [scW], rfl, rfl, fun f => rfl⟩
  | j + 1, hj => by
    obtain ⟨h1, h2, h3, h4⟩ := scz ws j (by omega)
    have e : (((0 + j) % 1024 : Nat) : Int) = (j : Int) := by omega
    have ej : scW ws 0 j j = ws j := by rw [h1 j, if_neg (by omega)]
    have es : scS ws 0 j = Num.mendS (ws j) := by unfold scS; rw [e, pkS_in (n := 1024) _ rfl (by omega), ej]
    refine ⟨fun i => ?_, ?_, ?_, fun f => ?_⟩
    · simp only [scW]
      rw [e, gtW_in (n := 1024) _ rfl (by omega), ej]
      by_cases hs : Num.mendS (ws j) = 1
      · rw [if_pos hs]
        by_cases ei : i = j
        · subst ei; rw [upd_at, if_pos (by omega)]; unfold cw; rw [if_pos hs]
        · rw [upd_off _ _ _ _ ei, h1 i]
          by_cases l : i < j
          · rw [if_pos l, if_pos (by omega)]
          · rw [if_neg l, if_neg (by omega)]
      · rw [if_neg hs, h1 i]
        by_cases ei : i = j
        · subst ei; rw [if_neg (by omega), if_pos (by omega)]; unfold cw; rw [if_neg hs]
        · by_cases l : i < j
          · rw [if_pos l, if_pos (by omega)]
          · rw [if_neg l, if_neg (by omega)]
    · simp only [scN, cn]; rw [h2, es]
    · simp only [scB, bdW]; rw [h3, es]
    · simp only [scF, cn]
      rw [e, gtF_in (n := 1024) _ _ rfl (by omega), ej, h4 f]
      by_cases hs : Num.mendS (ws j) = 1
      · rw [if_pos hs, if_pos hs]; omega
      · rw [if_neg hs, if_neg hs]; rfl
theorem cn_tail (ws : Nat → Nat) (m : Nat) : ∀ n, m ≤ n → (∀ i, m ≤ i → i < n → Num.mendS (ws i) ≠ 1) → cn ws n = cn ws m
  | 0, h, _ => by obtain rfl : m = 0 := by omega
                  rfl
  | n + 1, h, hi => by
    by_cases e : m = n + 1
    · subst e; rfl
    · simp only [cn]
      rw [if_neg (hi n (by omega) (by omega)), cn_tail ws m n (by omega) (fun i a b => hi i a (by omega))]
      rfl
theorem cn_none (ws : Nat → Nat) (n : Nat) (h : ∀ i, i < n → Num.mendS (ws i) ≠ 1) : cn ws n = 0 := cn_tail ws 0 n (Nat.zero_le _) (fun i _ hi => h i hi)
theorem cn_all (ws : Nat → Nat) : ∀ n, (∀ i, i < n → Num.mendS (ws i) = 1) → cn ws n = n
  | 0, _ => rfl
  | n + 1, h => by simp only [cn]; rw [if_pos (h n (by omega)), cn_all ws n (fun i hi => h i (by omega))]
theorem rfs_in (k : Nat) (h : k < 1024) : rfs (4 * (k : Int)) = 0 := by unfold rfs; rw [if_pos (by omega), if_pos (by omega)]
theorem quarter (k : Nat) : 4 * (k : Int) / 4 = k := by omega
end Go.Proofs.YtekafmnpojbbdaaDoor.Walks
