/-
  GatherNumbers: frames; the two rows that a round makes, in whatever order.
-/
import Derived.Test.YtafnbmokegomaaaDrw
set_option linter.unusedSimpArgs false
set_option linter.unusedVariables false
set_option linter.unusedSectionVars false
namespace Go.Proofs.Ytafnbmokegomaaa
open Go.Conc Go.RowKit

def slotNA (N M T : Value) (x : Nat → Value) : Nat → Value
  | 0 => .bool false
  | 1 => N
  | 2 => M
  | 3 => T
  | q => x q
def actNA (N M T : Value) (x : Nat → Value) : Act := ⟨((List.range 62).map (slotNA N M T x)).toArray, []⟩
theorem actNA_lit (N M T : Value) (x : Nat → Value) : actNA N M T x = ⟨List.toArray (.bool false :: N :: M :: T :: x 4 :: x 5 :: x 6 :: x 7 :: x 8 :: x 9 :: x 10 :: x 11 :: x 12 :: x 13 :: x 14 :: x 15 :: x 16 :: x 17 :: x 18 :: x 19 :: x 20 :: x 21 :: x 22 :: x 23 :: x 24 :: x 25 :: x 26 :: x 27 :: x 28 :: x 29 :: x 30 :: x 31 :: x 32 :: x 33 :: x 34 :: x 35 :: x 36 :: x 37 :: x 38 :: x 39 :: x 40 :: x 41 :: x 42 :: x 43 :: x 44 :: x 45 :: x 46 :: x 47 :: x 48 :: x 49 :: x 50 :: x 51 :: x 52 :: x 53 :: x 54 :: x 55 :: x 56 :: x 57 :: x 58 :: x 59 :: x 60 :: x 61 :: []), []⟩ := rfl
theorem actNA_of {N M T : Value} (L : List Value) (hn : L.length = 62) (h0 : L[0]? = some (.bool false)) (h1 : L[1]? = some (N)) (h2 : L[2]? = some (M)) (h3 : L[3]? = some (T)) : (⟨L.toArray, []⟩ : Act) = actNA N M T (fun q => L[q]?.getD undef) := by
  unfold actNA
  congr 2
  apply List.ext_getElem?
  intro j
  rw [List.getElem?_map]
  by_cases hi : j < 62
  · rw [List.getElem?_range hi]
    simp only [Option.map_some]
    have key : ∀ j, j < 62 → L[j]? = some (L[j]?.getD undef) := fun j hj => by
      rw [List.getElem?_eq_getElem (by omega)]; rfl
    unfold slotNA
    split
    · exact h0
    · exact h1
    · exact h2
    · exact h3
    · exact key _ hi
  · rw [List.getElem?_eq_none (by omega), List.getElem?_eq_none (by simp; omega)]
    rfl
theorem q_actNA {Q : Act → Prop} {N M T : Value} (L : List Value) (hn : L.length = 62) (h0 : L[0]? = some (.bool false)) (h1 : L[1]? = some (N)) (h2 : L[2]? = some (M)) (h3 : L[3]? = some (T)) (h : Q (actNA N M T (fun q => L[q]?.getD undef))) : Q ⟨L.toArray, []⟩ := by
  rw [actNA_of L hn h0 h1 h2 h3]; exact h
def slotNB (N M T A B : Value) (x : Nat → Value) : Nat → Value
  | 0 => .bool false
  | 1 => N
  | 2 => M
  | 3 => T
  | 4 => A
  | 5 => B
  | q => x q
def actNB (N M T A B : Value) (x : Nat → Value) : Act := ⟨((List.range 62).map (slotNB N M T A B x)).toArray, []⟩
theorem actNB_lit (N M T A B : Value) (x : Nat → Value) : actNB N M T A B x = ⟨List.toArray (.bool false :: N :: M :: T :: A :: B :: x 6 :: x 7 :: x 8 :: x 9 :: x 10 :: x 11 :: x 12 :: x 13 :: x 14 :: x 15 :: x 16 :: x 17 :: x 18 :: x 19 :: x 20 :: x 21 :: x 22 :: x 23 :: x 24 :: x 25 :: x 26 :: x 27 :: x 28 :: x 29 :: x 30 :: x 31 :: x 32 :: x 33 :: x 34 :: x 35 :: x 36 :: x 37 :: x 38 :: x 39 :: x 40 :: x 41 :: x 42 :: x 43 :: x 44 :: x 45 :: x 46 :: x 47 :: x 48 :: x 49 :: x 50 :: x 51 :: x 52 :: x 53 :: x 54 :: x 55 :: x 56 :: x 57 :: x 58 :: x 59 :: x 60 :: x 61 :: []), []⟩ := rfl
theorem actNB_of {N M T A B : Value} (L : List Value) (hn : L.length = 62) (h0 : L[0]? = some (.bool false)) (h1 : L[1]? = some (N)) (h2 : L[2]? = some (M)) (h3 : L[3]? = some (T)) (h4 : L[4]? = some (A)) (h5 : L[5]? = some (B)) : (⟨L.toArray, []⟩ : Act) = actNB N M T A B (fun q => L[q]?.getD undef) := by
  unfold actNB
  congr 2
  apply List.ext_getElem?
  intro j
  rw [List.getElem?_map]
  by_cases hi : j < 62
  · rw [List.getElem?_range hi]
    simp only [Option.map_some]
    have key : ∀ j, j < 62 → L[j]? = some (L[j]?.getD undef) := fun j hj => by
      rw [List.getElem?_eq_getElem (by omega)]; rfl
    unfold slotNB
    split
    · exact h0
    · exact h1
    · exact h2
    · exact h3
    · exact h4
    · exact h5
    · exact key _ hi
  · rw [List.getElem?_eq_none (by omega), List.getElem?_eq_none (by simp; omega)]
    rfl
theorem q_actNB {Q : Act → Prop} {N M T A B : Value} (L : List Value) (hn : L.length = 62) (h0 : L[0]? = some (.bool false)) (h1 : L[1]? = some (N)) (h2 : L[2]? = some (M)) (h3 : L[3]? = some (T)) (h4 : L[4]? = some (A)) (h5 : L[5]? = some (B)) (h : Q (actNB N M T A B (fun q => L[q]?.getD undef))) : Q ⟨L.toArray, []⟩ := by
  rw [actNB_of L hn h0 h1 h2 h3 h4 h5]; exact h
def slotNC (N M T A B E I : Value) (x : Nat → Value) : Nat → Value
  | 0 => .bool false
  | 1 => N
  | 2 => M
  | 3 => T
  | 4 => A
  | 5 => B
  | 25 => E
  | 26 => I
  | q => x q
def actNC (N M T A B E I : Value) (x : Nat → Value) : Act := ⟨((List.range 62).map (slotNC N M T A B E I x)).toArray, []⟩
theorem actNC_lit (N M T A B E I : Value) (x : Nat → Value) : actNC N M T A B E I x = ⟨List.toArray (.bool false :: N :: M :: T :: A :: B :: x 6 :: x 7 :: x 8 :: x 9 :: x 10 :: x 11 :: x 12 :: x 13 :: x 14 :: x 15 :: x 16 :: x 17 :: x 18 :: x 19 :: x 20 :: x 21 :: x 22 :: x 23 :: x 24 :: E :: I :: x 27 :: x 28 :: x 29 :: x 30 :: x 31 :: x 32 :: x 33 :: x 34 :: x 35 :: x 36 :: x 37 :: x 38 :: x 39 :: x 40 :: x 41 :: x 42 :: x 43 :: x 44 :: x 45 :: x 46 :: x 47 :: x 48 :: x 49 :: x 50 :: x 51 :: x 52 :: x 53 :: x 54 :: x 55 :: x 56 :: x 57 :: x 58 :: x 59 :: x 60 :: x 61 :: []), []⟩ := rfl
theorem actNC_of {N M T A B E I : Value} (L : List Value) (hn : L.length = 62) (h0 : L[0]? = some (.bool false)) (h1 : L[1]? = some (N)) (h2 : L[2]? = some (M)) (h3 : L[3]? = some (T)) (h4 : L[4]? = some (A)) (h5 : L[5]? = some (B)) (h25 : L[25]? = some (E)) (h26 : L[26]? = some (I)) : (⟨L.toArray, []⟩ : Act) = actNC N M T A B E I (fun q => L[q]?.getD undef) := by
  unfold actNC
  congr 2
  apply List.ext_getElem?
  intro j
  rw [List.getElem?_map]
  by_cases hi : j < 62
  · rw [List.getElem?_range hi]
    simp only [Option.map_some]
    have key : ∀ j, j < 62 → L[j]? = some (L[j]?.getD undef) := fun j hj => by
      rw [List.getElem?_eq_getElem (by omega)]; rfl
    unfold slotNC
    split
    · exact h0
    · exact h1
    · exact h2
    · exact h3
    · exact h4
    · exact h5
    · exact h25
    · exact h26
    · exact key _ hi
  · rw [List.getElem?_eq_none (by omega), List.getElem?_eq_none (by simp; omega)]
    rfl
theorem q_actNC {Q : Act → Prop} {N M T A B E I : Value} (L : List Value) (hn : L.length = 62) (h0 : L[0]? = some (.bool false)) (h1 : L[1]? = some (N)) (h2 : L[2]? = some (M)) (h3 : L[3]? = some (T)) (h4 : L[4]? = some (A)) (h5 : L[5]? = some (B)) (h25 : L[25]? = some (E)) (h26 : L[26]? = some (I)) (h : Q (actNC N M T A B E I (fun q => L[q]?.getD undef))) : Q ⟨L.toArray, []⟩ := by
  rw [actNC_of L hn h0 h1 h2 h3 h4 h5 h25 h26]; exact h
def slotND (N M T A B E I : Value) (x : Nat → Value) : Nat → Value
  | 0 => .bool false
  | 1 => N
  | 2 => M
  | 3 => T
  | 4 => A
  | 5 => B
  | 38 => E
  | 39 => I
  | q => x q
def actND (N M T A B E I : Value) (x : Nat → Value) : Act := ⟨((List.range 62).map (slotND N M T A B E I x)).toArray, []⟩
theorem actND_lit (N M T A B E I : Value) (x : Nat → Value) : actND N M T A B E I x = ⟨List.toArray (.bool false :: N :: M :: T :: A :: B :: x 6 :: x 7 :: x 8 :: x 9 :: x 10 :: x 11 :: x 12 :: x 13 :: x 14 :: x 15 :: x 16 :: x 17 :: x 18 :: x 19 :: x 20 :: x 21 :: x 22 :: x 23 :: x 24 :: x 25 :: x 26 :: x 27 :: x 28 :: x 29 :: x 30 :: x 31 :: x 32 :: x 33 :: x 34 :: x 35 :: x 36 :: x 37 :: E :: I :: x 40 :: x 41 :: x 42 :: x 43 :: x 44 :: x 45 :: x 46 :: x 47 :: x 48 :: x 49 :: x 50 :: x 51 :: x 52 :: x 53 :: x 54 :: x 55 :: x 56 :: x 57 :: x 58 :: x 59 :: x 60 :: x 61 :: []), []⟩ := rfl
theorem actND_of {N M T A B E I : Value} (L : List Value) (hn : L.length = 62) (h0 : L[0]? = some (.bool false)) (h1 : L[1]? = some (N)) (h2 : L[2]? = some (M)) (h3 : L[3]? = some (T)) (h4 : L[4]? = some (A)) (h5 : L[5]? = some (B)) (h38 : L[38]? = some (E)) (h39 : L[39]? = some (I)) : (⟨L.toArray, []⟩ : Act) = actND N M T A B E I (fun q => L[q]?.getD undef) := by
  unfold actND
  congr 2
  apply List.ext_getElem?
  intro j
  rw [List.getElem?_map]
  by_cases hi : j < 62
  · rw [List.getElem?_range hi]
    simp only [Option.map_some]
    have key : ∀ j, j < 62 → L[j]? = some (L[j]?.getD undef) := fun j hj => by
      rw [List.getElem?_eq_getElem (by omega)]; rfl
    unfold slotND
    split
    · exact h0
    · exact h1
    · exact h2
    · exact h3
    · exact h4
    · exact h5
    · exact h38
    · exact h39
    · exact key _ hi
  · rw [List.getElem?_eq_none (by omega), List.getElem?_eq_none (by simp; omega)]
    rfl
theorem q_actND {Q : Act → Prop} {N M T A B E I : Value} (L : List Value) (hn : L.length = 62) (h0 : L[0]? = some (.bool false)) (h1 : L[1]? = some (N)) (h2 : L[2]? = some (M)) (h3 : L[3]? = some (T)) (h4 : L[4]? = some (A)) (h5 : L[5]? = some (B)) (h38 : L[38]? = some (E)) (h39 : L[39]? = some (I)) (h : Q (actND N M T A B E I (fun q => L[q]?.getD undef))) : Q ⟨L.toArray, []⟩ := by
  rw [actND_of L hn h0 h1 h2 h3 h4 h5 h38 h39]; exact h
noncomputable def num1 : Code := lft (rgt (Try.f3.body.getD .skip))
noncomputable def numC1 : Code := inr (inr (rgt num1))
noncomputable def numB1 : Code := inr (lft (rgt numC1))
noncomputable def numC2 : Code := inr (inr (rgt numB1))
noncomputable def numB2 : Code := inr (lft (rgt numC2))
noncomputable def numC3 : Code := inr (inr (rgt numB2))
noncomputable def numB3 : Code := inr (lft (rgt numC3))
noncomputable def numR10 : Code := lft numB3
noncomputable def numF1 : Code := lft (rgt numB3)
noncomputable def numF2 : Code := lft (rgt (rgt numB3))
noncomputable def numIf : Code := lft (rgt (rgt (rgt numB3)))
noncomputable def numT : Code := rgt (rgt (rgt (rgt numB3)))
theorem Ext.set2 {m0 m : PM} {β : Nat} (h : Ext m0 m) (hb : m0 β = none) (o : Obj) : Ext m0 (m.set β o) := fun γ o' x => by
  rw [PM.set_ne _ _ (fun e => by subst e; rw [hb] at x; cases x)]; exact h γ o' x
theorem Ext.none {m0 m : PM} {β : Nat} (h : Ext m0 m) (hb : m β = none) : m0 β = none := by
  cases e : m0 β with
  | none => rfl
  | some o => have := h _ _ e; rw [hb] at this; cases this
/-- Two new rows. -/
def MkP (m0 m : PM) (β γ N M : Nat) : Prop := Ext m0 m ∧ m0 β = none ∧ m0 γ = none ∧ β ≠ γ ∧ BlkP m β N ∧ BlkP m γ M
theorem mk_ab {m0 m : PM} {β γ N M : Nat} (hx : Ext m0 m) (hb : m β = none) (hg : (m.set β (.cells (madeCells z25.cs.toArray (N * 7)) 25 (0, 0))) γ = none) : MkP m0 ((m.set β (.cells (madeCells z25.cs.toArray (N * 7)) 25 (0, 0))).set γ (.cells (madeCells z25.cs.toArray (M * 7)) 25 (0, 0))) β γ N M := by
  have hne : β ≠ γ := fun e => by subst e; rw [PM.set_same] at hg; cases hg
  have hg' : m γ = none := by rwa [PM.set_ne _ _ hne.symm] at hg
  have h1 := hx.none hb
  have h2 := hx.none hg'
  exact ⟨(hx.set2 h1 _).set2 h2 _, h1, h2, hne, (BlkP.zero N).same (PM.set_ne _ _ hne), BlkP.zero M⟩
theorem mk_ba {m0 m : PM} {β γ N M : Nat} (hx : Ext m0 m) (hg : m γ = none) (hb : (m.set γ (.cells (madeCells z25.cs.toArray (M * 7)) 25 (0, 0))) β = none) : MkP m0 ((m.set γ (.cells (madeCells z25.cs.toArray (M * 7)) 25 (0, 0))).set β (.cells (madeCells z25.cs.toArray (N * 7)) 25 (0, 0))) β γ N M := by
  obtain ⟨h1, h2, h3, h4, h5, h6⟩ := mk_ab (N := M) (M := N) hx hg hb
  exact ⟨h1, h3, h2, h4.symm, h6, h5⟩
section
variable [Io] {Fin : Value → World → Prop}
set_option maxRecDepth 100000 in
set_option maxHeartbeats 8000000 in
theorem r10_j {Q : QJ} {s : Gh} {m0 m : PM} {N M : Nat} {T : Value} {x : Nat → Value} (hN : N < 12) (hM : M < 12) (hx : Ext m0 m)
    (h : ∀ β γ m' x', MkP m0 m' β γ N M → Q s m' .normal (actNB (.int .i64 (N : Int)) (.int .i64 (M : Int)) T (.slice (some ⟨β, 0, none⟩) N N) (.slice (some ⟨γ, 0, none⟩) M M) x')) :
    wpJ Try.prog Fin 3 numR10 Q s m (actNA (.int .i64 (N : Int)) (.int .i64 (M : Int)) T x) := by
  rw [actNA_lit]
  refine wpJ_region_drw (id := 10) (by kernel_rfl) ?_
  simp only [List.size_toArray, List.length_cons, List.length_nil, Nat.reduceAdd, Nat.zero_add]
  refine drwJ_two (i := 0) (j := 2) (by first | kernel_rfl | decide +kernel) rfl rfl ?_ ?_
  · refine stepJ_pure rfl (fun w => run_eqv (fun K hK => by go_simp; exact hK)) (fun w => by simp [go_sem]) ?_
    walk_nrm
    refine drwJ_two (i := 1) (j := 2) (by first | kernel_rfl | decide +kernel) rfl rfl ?_ ?_
    · refine stepJ_new (by rfl) (f := fun β => .slice (some ⟨β, 0, none⟩) N N) (ob := .cells (madeCells z25.cs.toArray (N * 7)) 25) (fun w => by have E := run_mk N (by omega) w; go_simp; try (rw [E]; rfl)) (fun w => by have E := ev_mk N (by omega) w; simp [go_sem, E]) (fun β hβ hmβ => ?_)
      walk_nrm
      refine drwJ_two (i := 2) (j := 4) (by first | kernel_rfl | decide +kernel) rfl rfl ?_ ?_
      · refine stepJ_pure rfl (fun w => run_eqv (fun K hK => by go_simp; exact hK)) (fun w => by simp [go_sem]) ?_
        walk_nrm
        refine drwJ_two (i := 3) (j := 4) (by first | kernel_rfl | decide +kernel) rfl rfl ?_ ?_
        · refine stepJ_new (by rfl) (f := fun γ => .slice (some ⟨γ, 0, none⟩) M M) (ob := .cells (madeCells z25.cs.toArray (M * 7)) 25) (fun w => by have E := run_mk M (by omega) w; go_simp; try (rw [E]; rfl)) (fun w => by have E := ev_mk M (by omega) w; simp [go_sem, E]) (fun γ hγ hmγ => ?_)
          walk_nrm
          refine drwJ_one (i := 4) (by first | kernel_rfl | decide +kernel) rfl ?_
          refine stepJ_pure rfl (fun w => run_eqv (fun K hK => by go_simp; exact hK)) (fun w => by simp [go_sem]) ?_
          walk_nrm
          refine drwJ_one (i := 5) (by first | kernel_rfl | decide +kernel) rfl ?_
          refine stepJ_pure rfl (fun w => run_eqv (fun K hK => by go_simp; exact hK)) (fun w => by simp [go_sem]) ?_
          walk_nrm
          exact drwJ_done (by first | kernel_rfl | decide +kernel) (q_actNB (Q := fun a => Q s _ .normal a) _ (by rfl) (by rfl) (by rfl) (by rfl) (by rfl) (by rfl) (by rfl) (h β γ _ _ (mk_ab hx hmβ hmγ))) _
        · refine stepJ_pure rfl (fun w => run_eqv (fun K hK => by go_simp; exact hK)) (fun w => by simp [go_sem]) ?_
          walk_nrm
          refine drwJ_one (i := 3) (by first | kernel_rfl | decide +kernel) rfl ?_
          refine stepJ_new (by rfl) (f := fun γ => .slice (some ⟨γ, 0, none⟩) M M) (ob := .cells (madeCells z25.cs.toArray (M * 7)) 25) (fun w => by have E := run_mk M (by omega) w; go_simp; try (rw [E]; rfl)) (fun w => by have E := ev_mk M (by omega) w; simp [go_sem, E]) (fun γ hγ hmγ => ?_)
          walk_nrm
          refine drwJ_one (i := 5) (by first | kernel_rfl | decide +kernel) rfl ?_
          refine stepJ_pure rfl (fun w => run_eqv (fun K hK => by go_simp; exact hK)) (fun w => by simp [go_sem]) ?_
          walk_nrm
          exact drwJ_done (by first | kernel_rfl | decide +kernel) (q_actNB (Q := fun a => Q s _ .normal a) _ (by rfl) (by rfl) (by rfl) (by rfl) (by rfl) (by rfl) (by rfl) (h β γ _ _ (mk_ab hx hmβ hmγ))) _
      · refine stepJ_pure rfl (fun w => run_eqv (fun K hK => by go_simp; exact hK)) (fun w => by simp [go_sem]) ?_
        walk_nrm
        refine drwJ_one (i := 2) (by first | kernel_rfl | decide +kernel) rfl ?_
        refine stepJ_pure rfl (fun w => run_eqv (fun K hK => by go_simp; exact hK)) (fun w => by simp [go_sem]) ?_
        walk_nrm
        refine drwJ_one (i := 3) (by first | kernel_rfl | decide +kernel) rfl ?_
        refine stepJ_new (by rfl) (f := fun γ => .slice (some ⟨γ, 0, none⟩) M M) (ob := .cells (madeCells z25.cs.toArray (M * 7)) 25) (fun w => by have E := run_mk M (by omega) w; go_simp; try (rw [E]; rfl)) (fun w => by have E := ev_mk M (by omega) w; simp [go_sem, E]) (fun γ hγ hmγ => ?_)
        walk_nrm
        refine drwJ_one (i := 5) (by first | kernel_rfl | decide +kernel) rfl ?_
        refine stepJ_pure rfl (fun w => run_eqv (fun K hK => by go_simp; exact hK)) (fun w => by simp [go_sem]) ?_
        walk_nrm
        exact drwJ_done (by first | kernel_rfl | decide +kernel) (q_actNB (Q := fun a => Q s _ .normal a) _ (by rfl) (by rfl) (by rfl) (by rfl) (by rfl) (by rfl) (by rfl) (h β γ _ _ (mk_ab hx hmβ hmγ))) _
    · refine stepJ_pure rfl (fun w => run_eqv (fun K hK => by go_simp; exact hK)) (fun w => by simp [go_sem]) ?_
      walk_nrm
      refine drwJ_two (i := 1) (j := 3) (by first | kernel_rfl | decide +kernel) rfl rfl ?_ ?_
      · refine stepJ_new (by rfl) (f := fun β => .slice (some ⟨β, 0, none⟩) N N) (ob := .cells (madeCells z25.cs.toArray (N * 7)) 25) (fun w => by have E := run_mk N (by omega) w; go_simp; try (rw [E]; rfl)) (fun w => by have E := ev_mk N (by omega) w; simp [go_sem, E]) (fun β hβ hmβ => ?_)
        walk_nrm
        refine drwJ_two (i := 3) (j := 4) (by first | kernel_rfl | decide +kernel) rfl rfl ?_ ?_
        · refine stepJ_new (by rfl) (f := fun γ => .slice (some ⟨γ, 0, none⟩) M M) (ob := .cells (madeCells z25.cs.toArray (M * 7)) 25) (fun w => by have E := run_mk M (by omega) w; go_simp; try (rw [E]; rfl)) (fun w => by have E := ev_mk M (by omega) w; simp [go_sem, E]) (fun γ hγ hmγ => ?_)
          walk_nrm
          refine drwJ_one (i := 4) (by first | kernel_rfl | decide +kernel) rfl ?_
          refine stepJ_pure rfl (fun w => run_eqv (fun K hK => by go_simp; exact hK)) (fun w => by simp [go_sem]) ?_
          walk_nrm
          refine drwJ_one (i := 5) (by first | kernel_rfl | decide +kernel) rfl ?_
          refine stepJ_pure rfl (fun w => run_eqv (fun K hK => by go_simp; exact hK)) (fun w => by simp [go_sem]) ?_
          walk_nrm
          exact drwJ_done (by first | kernel_rfl | decide +kernel) (q_actNB (Q := fun a => Q s _ .normal a) _ (by rfl) (by rfl) (by rfl) (by rfl) (by rfl) (by rfl) (by rfl) (h β γ _ _ (mk_ab hx hmβ hmγ))) _
        · refine stepJ_pure rfl (fun w => run_eqv (fun K hK => by go_simp; exact hK)) (fun w => by simp [go_sem]) ?_
          walk_nrm
          refine drwJ_one (i := 3) (by first | kernel_rfl | decide +kernel) rfl ?_
          refine stepJ_new (by rfl) (f := fun γ => .slice (some ⟨γ, 0, none⟩) M M) (ob := .cells (madeCells z25.cs.toArray (M * 7)) 25) (fun w => by have E := run_mk M (by omega) w; go_simp; try (rw [E]; rfl)) (fun w => by have E := ev_mk M (by omega) w; simp [go_sem, E]) (fun γ hγ hmγ => ?_)
          walk_nrm
          refine drwJ_one (i := 5) (by first | kernel_rfl | decide +kernel) rfl ?_
          refine stepJ_pure rfl (fun w => run_eqv (fun K hK => by go_simp; exact hK)) (fun w => by simp [go_sem]) ?_
          walk_nrm
          exact drwJ_done (by first | kernel_rfl | decide +kernel) (q_actNB (Q := fun a => Q s _ .normal a) _ (by rfl) (by rfl) (by rfl) (by rfl) (by rfl) (by rfl) (by rfl) (h β γ _ _ (mk_ab hx hmβ hmγ))) _
      · refine stepJ_new (by rfl) (f := fun γ => .slice (some ⟨γ, 0, none⟩) M M) (ob := .cells (madeCells z25.cs.toArray (M * 7)) 25) (fun w => by have E := run_mk M (by omega) w; go_simp; try (rw [E]; rfl)) (fun w => by have E := ev_mk M (by omega) w; simp [go_sem, E]) (fun γ hγ hmγ => ?_)
        walk_nrm
        refine drwJ_one (i := 1) (by first | kernel_rfl | decide +kernel) rfl ?_
        refine stepJ_new (by rfl) (f := fun β => .slice (some ⟨β, 0, none⟩) N N) (ob := .cells (madeCells z25.cs.toArray (N * 7)) 25) (fun w => by have E := run_mk N (by omega) w; go_simp; try (rw [E]; rfl)) (fun w => by have E := ev_mk N (by omega) w; simp [go_sem, E]) (fun β hβ hmβ => ?_)
        walk_nrm
        refine drwJ_one (i := 4) (by first | kernel_rfl | decide +kernel) rfl ?_
        refine stepJ_pure rfl (fun w => run_eqv (fun K hK => by go_simp; exact hK)) (fun w => by simp [go_sem]) ?_
        walk_nrm
        refine drwJ_one (i := 5) (by first | kernel_rfl | decide +kernel) rfl ?_
        refine stepJ_pure rfl (fun w => run_eqv (fun K hK => by go_simp; exact hK)) (fun w => by simp [go_sem]) ?_
        walk_nrm
        exact drwJ_done (by first | kernel_rfl | decide +kernel) (q_actNB (Q := fun a => Q s _ .normal a) _ (by rfl) (by rfl) (by rfl) (by rfl) (by rfl) (by rfl) (by rfl) (h β γ _ _ (mk_ba hx hmγ hmβ))) _
  · refine stepJ_pure rfl (fun w => run_eqv (fun K hK => by go_simp; exact hK)) (fun w => by simp [go_sem]) ?_
    walk_nrm
    refine drwJ_two (i := 0) (j := 3) (by first | kernel_rfl | decide +kernel) rfl rfl ?_ ?_
    · refine stepJ_pure rfl (fun w => run_eqv (fun K hK => by go_simp; exact hK)) (fun w => by simp [go_sem]) ?_
      walk_nrm
      refine drwJ_two (i := 1) (j := 3) (by first | kernel_rfl | decide +kernel) rfl rfl ?_ ?_
      · refine stepJ_new (by rfl) (f := fun β => .slice (some ⟨β, 0, none⟩) N N) (ob := .cells (madeCells z25.cs.toArray (N * 7)) 25) (fun w => by have E := run_mk N (by omega) w; go_simp; try (rw [E]; rfl)) (fun w => by have E := ev_mk N (by omega) w; simp [go_sem, E]) (fun β hβ hmβ => ?_)
        walk_nrm
        refine drwJ_two (i := 3) (j := 4) (by first | kernel_rfl | decide +kernel) rfl rfl ?_ ?_
        · refine stepJ_new (by rfl) (f := fun γ => .slice (some ⟨γ, 0, none⟩) M M) (ob := .cells (madeCells z25.cs.toArray (M * 7)) 25) (fun w => by have E := run_mk M (by omega) w; go_simp; try (rw [E]; rfl)) (fun w => by have E := ev_mk M (by omega) w; simp [go_sem, E]) (fun γ hγ hmγ => ?_)
          walk_nrm
          refine drwJ_one (i := 4) (by first | kernel_rfl | decide +kernel) rfl ?_
          refine stepJ_pure rfl (fun w => run_eqv (fun K hK => by go_simp; exact hK)) (fun w => by simp [go_sem]) ?_
          walk_nrm
          refine drwJ_one (i := 5) (by first | kernel_rfl | decide +kernel) rfl ?_
          refine stepJ_pure rfl (fun w => run_eqv (fun K hK => by go_simp; exact hK)) (fun w => by simp [go_sem]) ?_
          walk_nrm
          exact drwJ_done (by first | kernel_rfl | decide +kernel) (q_actNB (Q := fun a => Q s _ .normal a) _ (by rfl) (by rfl) (by rfl) (by rfl) (by rfl) (by rfl) (by rfl) (h β γ _ _ (mk_ab hx hmβ hmγ))) _
        · refine stepJ_pure rfl (fun w => run_eqv (fun K hK => by go_simp; exact hK)) (fun w => by simp [go_sem]) ?_
          walk_nrm
          refine drwJ_one (i := 3) (by first | kernel_rfl | decide +kernel) rfl ?_
          refine stepJ_new (by rfl) (f := fun γ => .slice (some ⟨γ, 0, none⟩) M M) (ob := .cells (madeCells z25.cs.toArray (M * 7)) 25) (fun w => by have E := run_mk M (by omega) w; go_simp; try (rw [E]; rfl)) (fun w => by have E := ev_mk M (by omega) w; simp [go_sem, E]) (fun γ hγ hmγ => ?_)
          walk_nrm
          refine drwJ_one (i := 5) (by first | kernel_rfl | decide +kernel) rfl ?_
          refine stepJ_pure rfl (fun w => run_eqv (fun K hK => by go_simp; exact hK)) (fun w => by simp [go_sem]) ?_
          walk_nrm
          exact drwJ_done (by first | kernel_rfl | decide +kernel) (q_actNB (Q := fun a => Q s _ .normal a) _ (by rfl) (by rfl) (by rfl) (by rfl) (by rfl) (by rfl) (by rfl) (h β γ _ _ (mk_ab hx hmβ hmγ))) _
      · refine stepJ_new (by rfl) (f := fun γ => .slice (some ⟨γ, 0, none⟩) M M) (ob := .cells (madeCells z25.cs.toArray (M * 7)) 25) (fun w => by have E := run_mk M (by omega) w; go_simp; try (rw [E]; rfl)) (fun w => by have E := ev_mk M (by omega) w; simp [go_sem, E]) (fun γ hγ hmγ => ?_)
        walk_nrm
        refine drwJ_one (i := 1) (by first | kernel_rfl | decide +kernel) rfl ?_
        refine stepJ_new (by rfl) (f := fun β => .slice (some ⟨β, 0, none⟩) N N) (ob := .cells (madeCells z25.cs.toArray (N * 7)) 25) (fun w => by have E := run_mk N (by omega) w; go_simp; try (rw [E]; rfl)) (fun w => by have E := ev_mk N (by omega) w; simp [go_sem, E]) (fun β hβ hmβ => ?_)
        walk_nrm
        refine drwJ_one (i := 4) (by first | kernel_rfl | decide +kernel) rfl ?_
        refine stepJ_pure rfl (fun w => run_eqv (fun K hK => by go_simp; exact hK)) (fun w => by simp [go_sem]) ?_
        walk_nrm
        refine drwJ_one (i := 5) (by first | kernel_rfl | decide +kernel) rfl ?_
        refine stepJ_pure rfl (fun w => run_eqv (fun K hK => by go_simp; exact hK)) (fun w => by simp [go_sem]) ?_
        walk_nrm
        exact drwJ_done (by first | kernel_rfl | decide +kernel) (q_actNB (Q := fun a => Q s _ .normal a) _ (by rfl) (by rfl) (by rfl) (by rfl) (by rfl) (by rfl) (by rfl) (h β γ _ _ (mk_ba hx hmγ hmβ))) _
    · refine stepJ_new (by rfl) (f := fun γ => .slice (some ⟨γ, 0, none⟩) M M) (ob := .cells (madeCells z25.cs.toArray (M * 7)) 25) (fun w => by have E := run_mk M (by omega) w; go_simp; try (rw [E]; rfl)) (fun w => by have E := ev_mk M (by omega) w; simp [go_sem, E]) (fun γ hγ hmγ => ?_)
      walk_nrm
      refine drwJ_one (i := 0) (by first | kernel_rfl | decide +kernel) rfl ?_
      refine stepJ_pure rfl (fun w => run_eqv (fun K hK => by go_simp; exact hK)) (fun w => by simp [go_sem]) ?_
      walk_nrm
      refine drwJ_one (i := 1) (by first | kernel_rfl | decide +kernel) rfl ?_
      refine stepJ_new (by rfl) (f := fun β => .slice (some ⟨β, 0, none⟩) N N) (ob := .cells (madeCells z25.cs.toArray (N * 7)) 25) (fun w => by have E := run_mk N (by omega) w; go_simp; try (rw [E]; rfl)) (fun w => by have E := ev_mk N (by omega) w; simp [go_sem, E]) (fun β hβ hmβ => ?_)
      walk_nrm
      refine drwJ_one (i := 4) (by first | kernel_rfl | decide +kernel) rfl ?_
      refine stepJ_pure rfl (fun w => run_eqv (fun K hK => by go_simp; exact hK)) (fun w => by simp [go_sem]) ?_
      walk_nrm
      refine drwJ_one (i := 5) (by first | kernel_rfl | decide +kernel) rfl ?_
      refine stepJ_pure rfl (fun w => run_eqv (fun K hK => by go_simp; exact hK)) (fun w => by simp [go_sem]) ?_
      walk_nrm
      exact drwJ_done (by first | kernel_rfl | decide +kernel) (q_actNB (Q := fun a => Q s _ .normal a) _ (by rfl) (by rfl) (by rfl) (by rfl) (by rfl) (by rfl) (by rfl) (h β γ _ _ (mk_ba hx hmγ hmβ))) _
end
end Go.Proofs.Ytafnbmokegomaaa
