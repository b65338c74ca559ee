/- Numbers of the laws' own 'known'. -/
import Derived.Test.YtekafmnpojbbdaaDoorScz
import Derived.Test.YtekafmnpojbbdaaDoorMNew
namespace Go.Proofs.YtekafmnpojbbdaaDoor.Walks
open Go.RowKit
def five : Nat → Int := fun _ => 5
def q0 : Nat → Nat := imW five 1
def q1 : Nat → Nat := flW 1024 q0 0
def q2 : Nat → Nat := scW q1 0 1024
def q3 : Nat → Nat := flW 1024 q2 1
def q4 : Nat → Nat := flW 1024 q3 2
def q5 : Nat → Nat := ldW q4 0
def q6 : Nat → Nat := stW q5 0 9 1
def q7 : Nat → Nat := stW q6 0 9 15
theorem q0_off (i : Nat) (h : 1 ≤ i) : q0 i = 0 := by unfold q0 imW; rw [if_neg (by omega)]
theorem q1_at : q1 0 = Num.enc 5 ^^^ 1 := by decide +kernel
theorem q1_off (i : Nat) (h : 1 ≤ i) : q1 i = 0 := by
  unfold q1 flW
  rw [show inF 1024 0 = true by decide +kernel, if_pos rfl]
  rw [upd_off _ _ _ _ (by omega), q0_off i h]
theorem q1_mend : Num.mendS (q1 0) = 1 ∧ Num.mendW (q1 0) = Num.enc 5 := by rw [q1_at]; decide +kernel
theorem q1_rest (i : Nat) (h : 1 ≤ i) : Num.mendS (q1 i) = 0 := by rw [q1_off i h]; decide +kernel
theorem q1_cn : cn q1 1024 = 1 := by
  rw [cn_tail q1 1 1024 (by decide) (fun i h _ => by rw [q1_rest i h]; decide)]
  show 0 + (if Num.mendS (q1 0) = 1 then 1 else 0) = 1
  rw [if_pos q1_mend.1]
theorem q1_bd : bdW q1 1024 = false := bdW_no fun i _ => by
  by_cases e : i = 0
  · subst e; rw [q1_mend.1]; decide
  · rw [q1_rest i (by omega)]; decide
theorem q2_at (i : Nat) : q2 i = if i = 0 then Num.enc 5 else 0 := by
  unfold q2
  rw [(scz q1 1024 (Nat.le_refl _)).1 i]
  by_cases e : i = 0
  · subst e
    rw [if_pos (by decide), if_pos rfl]
    unfold cw
    rw [if_pos q1_mend.1, q1_mend.2]
  · have := q1_off i (by omega)
    rw [if_neg e]
    split
    · unfold cw; rw [q1_rest i (by omega), if_neg (by decide), this]
    · exact this
theorem q_scV : scV q1 0 1024 = 1 := by
  unfold scV
  rw [(scz q1 1024 (Nat.le_refl _)).2.2.1, q1_bd, (scz q1 1024 (Nat.le_refl _)).2.1, q1_cn]
  rfl
theorem q_scE : scE q1 0 1024 = 0 := by
  unfold scE
  rw [(scz q1 1024 (Nat.le_refl _)).2.2.1, q1_bd]
  rfl
theorem q_scF : scF q1 0 0 1024 = 1 := by rw [(scz q1 1024 (Nat.le_refl _)).2.2.2, q1_cn]
theorem at1 (ws : Nat → Nat) : flW 1024 ws 1 0 = ws 0 ^^^ 2 := by
  rw [flW_in (n := 1024) (k := 0) (q := 1) ws (i := 1) rfl (by decide) (by decide), upd_at]
theorem at2 (ws : Nat → Nat) : flW 1024 ws 2 0 = ws 0 ^^^ 4 := by
  rw [flW_in (n := 1024) (k := 0) (q := 2) ws (i := 2) rfl (by decide) (by decide), upd_at]
theorem q4_of (x y z : Nat → Nat) (e3 : y = flW 1024 x 1) (e4 : z = flW 1024 y 2) (h : x 0 = Num.enc 5) : z 0 = Num.enc 5 ^^^ 2 ^^^ 4 := by subst e3 e4; rw [at2, at1, h]
theorem q4_at : q4 0 = Num.enc 5 ^^^ 2 ^^^ 4 := q4_of q2 q3 q4 rfl rfl ((q2_at 0).trans (if_pos rfl))
theorem r0 : rfs 0 = 0 := by decide +kernel
theorem zz : (0 : Int) / 4 = ((0 : Nat) : Int) := by decide +kernel
theorem first (ws : Nat → Nat) (f : Nat) : pkS 1024 ws (0 / 4) = Num.mendS (ws 0) ∧ pkV 1024 ws (0 / 4) = Num.mendW (ws 0) % 4294967296 ∧ gtW 1024 ws (0 / 4) = (if Num.mendS (ws 0) = 1 then upd ws 0 (Num.mendW (ws 0)) else ws) ∧ gtF 1024 ws f (0 / 4) = (if Num.mendS (ws 0) = 1 then f + 1 else f) := by
  rw [zz]
  exact ⟨pkS_in (n := 1024) ws rfl (by decide), pkV_in (n := 1024) ws rfl (by decide), gtW_in (n := 1024) ws rfl (by decide), gtF_in (n := 1024) ws f rfl (by decide)⟩
theorem bad4 : Num.mendS (Num.enc 5 ^^^ 2 ^^^ 4) = 2 := by decide +kernel
/-- what is told of a Bad first word, and that nothing turns -/
theorem at_bad (ws : Nat → Nat) (h : Num.mendS (ws 0) = 2) : ldV ws 0 = 0 ∧ ldE ws 0 = 25 ∧ ldF ws 1 0 = 1 ∧ ldW ws 0 = ws ∧ stE ws 0 1 = 25 ∧ stW ws 0 9 1 = ws ∧ stE ws 0 15 = 0 ∧ stW ws 0 9 15 0 = Num.enc 9 := by
  obtain ⟨a, b, c, d⟩ := first ws 1
  rw [h] at a c d
  rw [if_neg (by decide)] at c d
  unfold ldV ldE ldF ldW stE stW stB
  rw [r0, a, c, d]
  refine ⟨rfl, rfl, rfl, rfl, rfl, rfl, rfl, ?_⟩
  rw [if_pos rfl, if_neg (by decide), zz, ptW_in (n := 1024) (k := 0) _ _ rfl (by decide), upd_at]
  have e : Al.Num.mgm ((pkV 1024 ws ((0 : Nat) : Int) : Nat) : Int) 9 15 = 9 := by
    generalize pkV 1024 ws ((0 : Nat) : Int) = z
    rfl
  rw [e]
  rfl
theorem at_good (ws : Nat → Nat) (h : ws 0 = Num.enc 9) : ldV ws 0 = 9 ∧ ldE ws 0 = 0 ∧ ldF ws 1 0 = 1 := by
  obtain ⟨a, b, c, d⟩ := first ws 1
  have hs : Num.mendS (ws 0) = 0 ∧ Num.mendW (ws 0) % 4294967296 = 9 := by rw [h]; decide +kernel
  rw [hs.1] at a d
  rw [hs.2] at b
  rw [if_neg (by decide)] at d
  unfold ldV ldE ldF
  rw [r0, a, b, d]
  exact ⟨rfl, rfl, rfl⟩
theorem q4_bad : Num.mendS (q4 0) = 2 := by rw [q4_at]; exact bad4
theorem q5_is : q5 = q4 := (at_bad q4 q4_bad).2.2.2.1
theorem q_ld0 : ldV q4 0 = 0 ∧ ldE q4 0 = 25 ∧ ldF q4 1 0 = 1 := ⟨(at_bad q4 q4_bad).1, (at_bad q4 q4_bad).2.1, (at_bad q4 q4_bad).2.2.1⟩
theorem q5_bad : Num.mendS (q5 0) = 2 := by rw [q5_is]; exact q4_bad
theorem q_st1 : stE q5 0 1 = 25 ∧ ldF q5 1 0 = 1 := ⟨(at_bad q5 q5_bad).2.2.2.2.1, (at_bad q5 q5_bad).2.2.1⟩
theorem q6_is : q6 = q5 := (at_bad q5 q5_bad).2.2.2.2.2.1
theorem q6_bad : Num.mendS (q6 0) = 2 := by rw [q6_is]; exact q5_bad
theorem q_st2 : stE q6 0 15 = 0 ∧ ldF q6 1 0 = 1 := ⟨(at_bad q6 q6_bad).2.2.2.2.2.2.1, (at_bad q6 q6_bad).2.2.1⟩
theorem q7_at : q7 0 = Num.enc 9 := (at_bad q6 q6_bad).2.2.2.2.2.2.2
theorem q_ld9 : ldV q7 0 = 9 ∧ ldE q7 0 = 0 ∧ ldF q7 1 0 = 1 := at_good q7 q7_at
theorem q_ld2 : ldV q0 2 = 0 ∧ ldE q0 2 = 13 ∧ ldF q0 0 2 = 0 ∧ ldW q0 2 = q0 := by
  have : rfs 2 = 13 := by decide +kernel
  unfold ldV ldE ldF ldW
  rw [this]
  exact ⟨rfl, rfl, rfl, rfl⟩
end Go.Proofs.YtekafmnpojbbdaaDoor.Walks
