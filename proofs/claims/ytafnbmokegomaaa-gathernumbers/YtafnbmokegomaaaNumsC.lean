/-
  GatherNumbers: a round, and the three loops.
-/
import Derived.Test.YtafnbmokegomaaaNumsB
set_option linter.unusedSimpArgs false
set_option linter.unusedVariables false
set_option linter.unusedSectionVars false
namespace Go.Proofs.Ytafnbmokegomaaa
open Go.Conc Go.RowKit

section
variable [Io] {Fin : Value → World → Prop}
set_option maxRecDepth 100000 in
set_option maxHeartbeats 4000000 in
/-- what a round does -/
theorem b3_j {Q : QJ} {sh sf : Nat → Prop} {m0 m : PM} {N M T : Nat} {x : Nat → Value} (hN : N < 12) (hM : M < 12) (hx : Ext m0 m)
    (h : ∀ sh' sf' m' x', Ext m0 m' → Q (.out sh' sf' false none) m' .normal (actNA (.int .i64 (N : Int)) (.int .i64 (M : Int)) (.int .i64 (T : Int)) x')) : wpJ Try.prog Fin 3 numB3 Q (.out sh sf false none) m (actNA (.int .i64 (N : Int)) (.int .i64 (M : Int)) (.int .i64 (T : Int)) x) := by
  refine wpJ_seq ?_
  refine r10_j hN hM hx fun β γ m1 x1 hk => ?_
  obtain ⟨h1, h2, h3, h4, h5, h6⟩ := hk
  (simp only [QJ.then, QJ.inBlock, if_true, if_false, reduceIte, Nat.reduceEqDiff])
  refine wpJ_seq ?_
  refine fill1_j h5 hN fun m2 x2 b2 k2 => ?_
  (simp only [QJ.then, QJ.inBlock, if_true, if_false, reduceIte, Nat.reduceEqDiff])
  refine wpJ_seq ?_
  refine fill2_j (h6.same (k2 γ h4.symm)) hM fun m3 x3 b3 k3 => ?_
  (simp only [QJ.then, QJ.inBlock, if_true, if_false, reduceIte, Nat.reduceEqDiff])
  refine wpJ_seq ?_
  refine if_j b3 hM fun m4 x4 b4 k4 => ?_
  (simp only [QJ.then, QJ.inBlock, if_true, if_false, reduceIte, Nat.reduceEqDiff])
  have ba : BlkP m4 β N := (b2.same (k3 β h4)).same (k4 β h4)
  have hx4 : Ext m0 m4 := fun δ o e => by
    have n1 : δ ≠ β := fun e' => by subst e'; rw [h2] at e; cases e
    have n2 : δ ≠ γ := fun e' => by subst e'; rw [h3] at e; cases e
    rw [k4 δ n2, k3 δ n2, k2 δ n1]
    exact h1 δ o e
  obtain ⟨ia, ra⟩ := ba.row (cap := N)
  obtain ⟨ib, rb⟩ := b4.row (cap := M)
  rw [actNB_lit]
  ((first | refine wpJ_seq ?_ | refine wpJ_block ?_ | refine wpJ_skip ?_ | refine wpJ_label ?_ | refine wpJ_ret ?_ | refine wpJ_exit ?_ | refine opsJ_nil ?_))
  ((refine wpJ_region ?_; simp only [List.size_toArray, List.length_cons, List.length_nil, Nat.reduceAdd, Nat.zero_add, List.range, List.range.loop]))
  ((refine opsJ_pure rfl (by rfl) (fun w => run_eqv (fun K hK => by go_simp; exact hK)) (fun w => by simp [go_sem]) ?_; try walk_nrm))
  ((refine opsJ_pure rfl (by rfl) (fun w => run_eqv (fun K hK => by go_simp; exact hK)) (fun w => by simp [go_sem]) ?_; try walk_nrm))
  refine opsJ_call rfl (by rfl) rfl (by walk_nrm; exact lsame_j ra rb (by omega) (by omega)) ?_
  rintro _ m5 _ ⟨⟨sh5, sf5, rfl⟩, rfl, hx5⟩
  walk_nrm
  ((refine opsJ_pure (v := (.bool false)) rfl (by rfl) (fun w => by go_simp; try (first | rfl | decide | (simp [*, n_sh, IntKind.wrap_u64, IntKind.wrap_u32, IntKind.wrap_i32, IntKind.wrap_i64] <;> omega))) (fun w => by simp [go_sem, *]) ?_; walk_nrm))
  refine opsJ_nil ?_
  try (simp only [QJ.then, QJ.inBlock, if_true, if_false, reduceIte, Nat.reduceEqDiff])
  ((refine wpJ_cond (by rfl) ?_; simp only [if_true, if_false, reduceIte, Bool.false_eq_true]))
  ((first | refine wpJ_seq ?_ | refine wpJ_block ?_ | refine wpJ_skip ?_ | refine wpJ_label ?_ | refine wpJ_ret ?_ | refine wpJ_exit ?_ | refine opsJ_nil ?_))
  try (simp only [QJ.then, QJ.inBlock, if_true, if_false, reduceIte, Nat.reduceEqDiff])
  exact q_actNA (Q := fun a => Q _ _ .normal a) _ (by rfl) (by rfl) (by rfl) (by rfl) (by rfl) (h _ _ _ _ (hx4.trans hx5))
set_option maxRecDepth 100000 in
set_option maxHeartbeats 4000000 in
theorem b2_j {Q : QJ} {sh sf : Nat → Prop} {m0 m : PM} {N M : Nat} {T0 : Value} {x : Nat → Value} (hN : N < 12) (hM : M < 12) (hx : Ext m0 m)
    (h : ∀ sh' sf' m' T1 x', Ext m0 m' → Q (.out sh' sf' false none) m' .normal (actNA (.int .i64 (N : Int)) (.int .i64 (M : Int)) T1 x')) : wpJ Try.prog Fin 3 numB2 Q (.out sh sf false none) m (actNA (.int .i64 (N : Int)) (.int .i64 (M : Int)) T0 x) := by
  rw [actNA_lit]
  ((first | refine wpJ_seq ?_ | refine wpJ_block ?_ | refine wpJ_skip ?_ | refine wpJ_label ?_ | refine wpJ_ret ?_ | refine wpJ_exit ?_ | refine opsJ_nil ?_))
  ((refine wpJ_region ?_; simp only [List.size_toArray, List.length_cons, List.length_nil, Nat.reduceAdd, Nat.zero_add, List.range, List.range.loop]))
  ((refine opsJ_pure rfl (by rfl) (fun w => run_eqv (fun K hK => by go_simp; exact hK)) (fun w => by simp [go_sem]) ?_; try walk_nrm))
  refine opsJ_nil ?_
  (simp only [QJ.then, QJ.inBlock, if_true, if_false, reduceIte, Nat.reduceEqDiff])
  refine wpJ_block ?_
  refine wpJ_loop (fun s' m' a => ∃ i z, (∃ sh' sf', s' = .out sh' sf' false none) ∧ Ext m0 m' ∧ i ≤ 14 ∧ a = actNA (.int .i64 (N : Int)) (.int .i64 (M : Int)) (.int .i64 ((i : Nat) : Int)) z)
    (fun _ _ a => match a.tmps[3]? with
      | some (Value.int _ q) => 17 - q.toNat
      | _ => 0) ⟨0, _, ⟨_, _, rfl⟩, hx, Nat.zero_le _, actNA_of _ rfl rfl rfl rfl rfl⟩ ?_
  rintro _ m1 _ ⟨i, z, ⟨sh1, sf1, rfl⟩, hx1, hi, rfl⟩
  rw [actNA_lit]
  ((first | refine wpJ_seq ?_ | refine wpJ_block ?_ | refine wpJ_skip ?_ | refine wpJ_label ?_ | refine wpJ_ret ?_ | refine wpJ_exit ?_ | refine opsJ_nil ?_))
  ((first | refine wpJ_seq ?_ | refine wpJ_block ?_ | refine wpJ_skip ?_ | refine wpJ_label ?_ | refine wpJ_ret ?_ | refine wpJ_exit ?_ | refine opsJ_nil ?_))
  ((refine wpJ_region ?_; simp only [List.size_toArray, List.length_cons, List.length_nil, Nat.reduceAdd, Nat.zero_add, List.range, List.range.loop]))
  ((refine opsJ_pure rfl (by rfl) (fun w => run_eqv (fun K hK => by go_simp; exact hK)) (fun w => by simp [go_sem]) ?_; try walk_nrm))
  by_cases hlt : i < 12
  · have hlt0 : ((i : Nat) : Int) < 12 := by omega
    ((refine opsJ_pure (v := (.bool true)) rfl (by rfl) (fun w => by go_simp; try (first | rfl | decide | (simp [*, n_sh, IntKind.wrap_u64, IntKind.wrap_u32, IntKind.wrap_i32, IntKind.wrap_i64] <;> omega))) (fun w => by simp [go_sem, *]) ?_; walk_nrm))
    refine opsJ_nil ?_
    try (simp only [QJ.then, QJ.inBlock, if_true, if_false, reduceIte, Nat.reduceEqDiff])
    ((refine wpJ_cond (by rfl) ?_; simp only [if_true, if_false, reduceIte, Bool.false_eq_true]))
    ((first | refine wpJ_seq ?_ | refine wpJ_block ?_ | refine wpJ_skip ?_ | refine wpJ_label ?_ | refine wpJ_ret ?_ | refine wpJ_exit ?_ | refine opsJ_nil ?_))
    try (simp only [QJ.then, QJ.inBlock, if_true, if_false, reduceIte, Nat.reduceEqDiff])
    ((first | refine wpJ_seq ?_ | refine wpJ_block ?_ | refine wpJ_skip ?_ | refine wpJ_label ?_ | refine wpJ_ret ?_ | refine wpJ_exit ?_ | refine opsJ_nil ?_))
    try (simp only [QJ.then, QJ.inBlock, if_true, if_false, reduceIte, Nat.reduceEqDiff])
    refine wpJ_block ?_
    refine q_actNA (Q := fun a => wpJ _ _ _ _ _ _ _ a) _ (by rfl) (by rfl) (by rfl) (by rfl) (by rfl) ?_
    refine b3_j hN hM hx1 fun sh2 sf2 m2  x2 hx2 => ?_
    (simp only [QJ.then, QJ.inBlock, if_true, if_false, reduceIte, Nat.reduceEqDiff])
    rw [actNA_lit]
    ((refine wpJ_region ?_; simp only [List.size_toArray, List.length_cons, List.length_nil, Nat.reduceAdd, Nat.zero_add, List.range, List.range.loop]))
    ((refine opsJ_pure rfl (by rfl) (fun w => run_eqv (fun K hK => by go_simp; exact hK)) (fun w => by simp [go_sem]) ?_; try walk_nrm))
    ((refine opsJ_pure (v := (.int .i64 ((i : Int) + 3))) rfl (by rfl) (fun w => by go_simp; rw [wrapI (by omega) (by omega)]) (fun w => by simp [go_sem]) ?_; try walk_nrm))
    ((refine opsJ_pure rfl (by rfl) (fun w => run_eqv (fun K hK => by go_simp; exact hK)) (fun w => by simp [go_sem]) ?_; try walk_nrm))
    refine opsJ_nil ?_
    try (simp only [QJ.then, QJ.inBlock, if_true, if_false, reduceIte, Nat.reduceEqDiff])
    refine ⟨⟨i + 3, _, ⟨_, _, rfl⟩, hx2, by omega, actNA_of _ rfl rfl rfl rfl rfl⟩, ?_⟩
    show 17 - ((i : Int) + 3).toNat < 17 - ((i : Int)).toNat
    omega
  · have hno : ¬ ((i : Nat) : Int) < 12 := by omega
    ((refine opsJ_pure (v := (.bool false)) rfl (by rfl) (fun w => by go_simp; try (first | rfl | decide | (simp [*, n_sh, IntKind.wrap_u64, IntKind.wrap_u32, IntKind.wrap_i32, IntKind.wrap_i64] <;> omega))) (fun w => by simp [go_sem, *]) ?_; walk_nrm))
    refine opsJ_nil ?_
    try (simp only [QJ.then, QJ.inBlock, if_true, if_false, reduceIte, Nat.reduceEqDiff])
    ((refine wpJ_cond (by rfl) ?_; simp only [if_true, if_false, reduceIte, Bool.false_eq_true]))
    ((first | refine wpJ_seq ?_ | refine wpJ_block ?_ | refine wpJ_skip ?_ | refine wpJ_label ?_ | refine wpJ_ret ?_ | refine wpJ_exit ?_ | refine opsJ_nil ?_))
    try (simp only [QJ.then, QJ.inBlock, if_true, if_false, reduceIte, Nat.reduceEqDiff])
    exact q_actNA (Q := fun a => Q _ _ .normal a) _ (by rfl) (by rfl) (by rfl) (by rfl) (by rfl) (h _ _ _ _ _ hx1)
set_option maxRecDepth 100000 in
set_option maxHeartbeats 4000000 in
theorem b1_j {Q : QJ} {sh sf : Nat → Prop} {m0 m : PM} {N : Nat} {M0 T0 : Value} {x : Nat → Value} (hN : N < 12) (hx : Ext m0 m)
    (h : ∀ sh' sf' m' M1 T1 x', Ext m0 m' → Q (.out sh' sf' false none) m' .normal (actNA (.int .i64 (N : Int)) M1 T1 x')) : wpJ Try.prog Fin 3 numB1 Q (.out sh sf false none) m (actNA (.int .i64 (N : Int)) M0 T0 x) := by
  rw [actNA_lit]
  ((first | refine wpJ_seq ?_ | refine wpJ_block ?_ | refine wpJ_skip ?_ | refine wpJ_label ?_ | refine wpJ_ret ?_ | refine wpJ_exit ?_ | refine opsJ_nil ?_))
  ((refine wpJ_region ?_; simp only [List.size_toArray, List.length_cons, List.length_nil, Nat.reduceAdd, Nat.zero_add, List.range, List.range.loop]))
  ((refine opsJ_pure rfl (by rfl) (fun w => run_eqv (fun K hK => by go_simp; exact hK)) (fun w => by simp [go_sem]) ?_; try walk_nrm))
  refine opsJ_nil ?_
  (simp only [QJ.then, QJ.inBlock, if_true, if_false, reduceIte, Nat.reduceEqDiff])
  refine wpJ_block ?_
  refine wpJ_loop (fun s' m' a => ∃ i TT z, (∃ sh' sf', s' = .out sh' sf' false none) ∧ Ext m0 m' ∧ i ≤ 12 ∧ a = actNA (.int .i64 (N : Int)) (.int .i64 ((i : Nat) : Int)) TT z)
    (fun _ _ a => match a.tmps[2]? with
      | some (Value.int _ q) => 15 - q.toNat
      | _ => 0) ⟨0, _, _, ⟨_, _, rfl⟩, hx, Nat.zero_le _, actNA_of _ rfl rfl rfl rfl rfl⟩ ?_
  rintro _ m1 _ ⟨i, TT, z, ⟨sh1, sf1, rfl⟩, hx1, hi, rfl⟩
  rw [actNA_lit]
  ((first | refine wpJ_seq ?_ | refine wpJ_block ?_ | refine wpJ_skip ?_ | refine wpJ_label ?_ | refine wpJ_ret ?_ | refine wpJ_exit ?_ | refine opsJ_nil ?_))
  ((first | refine wpJ_seq ?_ | refine wpJ_block ?_ | refine wpJ_skip ?_ | refine wpJ_label ?_ | refine wpJ_ret ?_ | refine wpJ_exit ?_ | refine opsJ_nil ?_))
  ((refine wpJ_region ?_; simp only [List.size_toArray, List.length_cons, List.length_nil, Nat.reduceAdd, Nat.zero_add, List.range, List.range.loop]))
  ((refine opsJ_pure rfl (by rfl) (fun w => run_eqv (fun K hK => by go_simp; exact hK)) (fun w => by simp [go_sem]) ?_; try walk_nrm))
  by_cases hlt : i < 12
  · have hlt0 : ((i : Nat) : Int) < 12 := by omega
    ((refine opsJ_pure (v := (.bool true)) rfl (by rfl) (fun w => by go_simp; try (first | rfl | decide | (simp [*, n_sh, IntKind.wrap_u64, IntKind.wrap_u32, IntKind.wrap_i32, IntKind.wrap_i64] <;> omega))) (fun w => by simp [go_sem, *]) ?_; walk_nrm))
    refine opsJ_nil ?_
    try (simp only [QJ.then, QJ.inBlock, if_true, if_false, reduceIte, Nat.reduceEqDiff])
    ((refine wpJ_cond (by rfl) ?_; simp only [if_true, if_false, reduceIte, Bool.false_eq_true]))
    ((first | refine wpJ_seq ?_ | refine wpJ_block ?_ | refine wpJ_skip ?_ | refine wpJ_label ?_ | refine wpJ_ret ?_ | refine wpJ_exit ?_ | refine opsJ_nil ?_))
    try (simp only [QJ.then, QJ.inBlock, if_true, if_false, reduceIte, Nat.reduceEqDiff])
    ((first | refine wpJ_seq ?_ | refine wpJ_block ?_ | refine wpJ_skip ?_ | refine wpJ_label ?_ | refine wpJ_ret ?_ | refine wpJ_exit ?_ | refine opsJ_nil ?_))
    try (simp only [QJ.then, QJ.inBlock, if_true, if_false, reduceIte, Nat.reduceEqDiff])
    refine wpJ_block ?_
    refine q_actNA (Q := fun a => wpJ _ _ _ _ _ _ _ a) _ (by rfl) (by rfl) (by rfl) (by rfl) (by rfl) ?_
    refine b2_j hN hlt hx1 fun sh2 sf2 m2 T2 x2 hx2 => ?_
    (simp only [QJ.then, QJ.inBlock, if_true, if_false, reduceIte, Nat.reduceEqDiff])
    rw [actNA_lit]
    ((refine wpJ_region ?_; simp only [List.size_toArray, List.length_cons, List.length_nil, Nat.reduceAdd, Nat.zero_add, List.range, List.range.loop]))
    ((refine opsJ_pure rfl (by rfl) (fun w => run_eqv (fun K hK => by go_simp; exact hK)) (fun w => by simp [go_sem]) ?_; try walk_nrm))
    ((refine opsJ_pure (v := (.int .i64 ((i : Int) + 1))) rfl (by rfl) (fun w => by go_simp; rw [wrapI (by omega) (by omega)]) (fun w => by simp [go_sem]) ?_; try walk_nrm))
    ((refine opsJ_pure rfl (by rfl) (fun w => run_eqv (fun K hK => by go_simp; exact hK)) (fun w => by simp [go_sem]) ?_; try walk_nrm))
    refine opsJ_nil ?_
    try (simp only [QJ.then, QJ.inBlock, if_true, if_false, reduceIte, Nat.reduceEqDiff])
    refine ⟨⟨i + 1, _, _, ⟨_, _, rfl⟩, hx2, by omega, actNA_of _ rfl rfl rfl rfl rfl⟩, ?_⟩
    show 15 - ((i : Int) + 1).toNat < 15 - ((i : Int)).toNat
    omega
  · have hno : ¬ ((i : Nat) : Int) < 12 := by omega
    ((refine opsJ_pure (v := (.bool false)) rfl (by rfl) (fun w => by go_simp; try (first | rfl | decide | (simp [*, n_sh, IntKind.wrap_u64, IntKind.wrap_u32, IntKind.wrap_i32, IntKind.wrap_i64] <;> omega))) (fun w => by simp [go_sem, *]) ?_; walk_nrm))
    refine opsJ_nil ?_
    try (simp only [QJ.then, QJ.inBlock, if_true, if_false, reduceIte, Nat.reduceEqDiff])
    ((refine wpJ_cond (by rfl) ?_; simp only [if_true, if_false, reduceIte, Bool.false_eq_true]))
    ((first | refine wpJ_seq ?_ | refine wpJ_block ?_ | refine wpJ_skip ?_ | refine wpJ_label ?_ | refine wpJ_ret ?_ | refine wpJ_exit ?_ | refine opsJ_nil ?_))
    try (simp only [QJ.then, QJ.inBlock, if_true, if_false, reduceIte, Nat.reduceEqDiff])
    exact q_actNA (Q := fun a => Q _ _ .normal a) _ (by rfl) (by rfl) (by rfl) (by rfl) (by rfl) (h _ _ _ _ _ _ hx1)
set_option maxRecDepth 100000 in
set_option maxHeartbeats 4000000 in
theorem b0_j {Q : QJ} {sh sf : Nat → Prop} {m0 m : PM} {N0 M0 T0 : Value} {x : Nat → Value} (hx : Ext m0 m)
    (h : ∀ sh' sf' m' N1 M1 T1 x', Ext m0 m' → Q (.out sh' sf' false none) m' .normal (actNA N1 M1 T1 x')) : wpJ Try.prog Fin 3 num1 Q (.out sh sf false none) m (actNA N0 M0 T0 x) := by
  rw [actNA_lit]
  ((first | refine wpJ_seq ?_ | refine wpJ_block ?_ | refine wpJ_skip ?_ | refine wpJ_label ?_ | refine wpJ_ret ?_ | refine wpJ_exit ?_ | refine opsJ_nil ?_))
  ((refine wpJ_region ?_; simp only [List.size_toArray, List.length_cons, List.length_nil, Nat.reduceAdd, Nat.zero_add, List.range, List.range.loop]))
  ((refine opsJ_pure rfl (by rfl) (fun w => run_eqv (fun K hK => by go_simp; exact hK)) (fun w => by simp [go_sem]) ?_; try walk_nrm))
  refine opsJ_nil ?_
  (simp only [QJ.then, QJ.inBlock, if_true, if_false, reduceIte, Nat.reduceEqDiff])
  refine wpJ_block ?_
  refine wpJ_loop (fun s' m' a => ∃ i MM TT z, (∃ sh' sf', s' = .out sh' sf' false none) ∧ Ext m0 m' ∧ i ≤ 12 ∧ a = actNA (.int .i64 ((i : Nat) : Int)) MM TT z)
    (fun _ _ a => match a.tmps[1]? with
      | some (Value.int _ q) => 15 - q.toNat
      | _ => 0) ⟨0, _, _, _, ⟨_, _, rfl⟩, hx, Nat.zero_le _, actNA_of _ rfl rfl rfl rfl rfl⟩ ?_
  rintro _ m1 _ ⟨i, MM, TT, z, ⟨sh1, sf1, rfl⟩, hx1, hi, rfl⟩
  rw [actNA_lit]
  ((first | refine wpJ_seq ?_ | refine wpJ_block ?_ | refine wpJ_skip ?_ | refine wpJ_label ?_ | refine wpJ_ret ?_ | refine wpJ_exit ?_ | refine opsJ_nil ?_))
  ((first | refine wpJ_seq ?_ | refine wpJ_block ?_ | refine wpJ_skip ?_ | refine wpJ_label ?_ | refine wpJ_ret ?_ | refine wpJ_exit ?_ | refine opsJ_nil ?_))
  ((refine wpJ_region ?_; simp only [List.size_toArray, List.length_cons, List.length_nil, Nat.reduceAdd, Nat.zero_add, List.range, List.range.loop]))
  ((refine opsJ_pure rfl (by rfl) (fun w => run_eqv (fun K hK => by go_simp; exact hK)) (fun w => by simp [go_sem]) ?_; try walk_nrm))
  by_cases hlt : i < 12
  · have hlt0 : ((i : Nat) : Int) < 12 := by omega
    ((refine opsJ_pure (v := (.bool true)) rfl (by rfl) (fun w => by go_simp; try (first | rfl | decide | (simp [*, n_sh, IntKind.wrap_u64, IntKind.wrap_u32, IntKind.wrap_i32, IntKind.wrap_i64] <;> omega))) (fun w => by simp [go_sem, *]) ?_; walk_nrm))
    refine opsJ_nil ?_
    try (simp only [QJ.then, QJ.inBlock, if_true, if_false, reduceIte, Nat.reduceEqDiff])
    ((refine wpJ_cond (by rfl) ?_; simp only [if_true, if_false, reduceIte, Bool.false_eq_true]))
    ((first | refine wpJ_seq ?_ | refine wpJ_block ?_ | refine wpJ_skip ?_ | refine wpJ_label ?_ | refine wpJ_ret ?_ | refine wpJ_exit ?_ | refine opsJ_nil ?_))
    try (simp only [QJ.then, QJ.inBlock, if_true, if_false, reduceIte, Nat.reduceEqDiff])
    ((first | refine wpJ_seq ?_ | refine wpJ_block ?_ | refine wpJ_skip ?_ | refine wpJ_label ?_ | refine wpJ_ret ?_ | refine wpJ_exit ?_ | refine opsJ_nil ?_))
    try (simp only [QJ.then, QJ.inBlock, if_true, if_false, reduceIte, Nat.reduceEqDiff])
    refine wpJ_block ?_
    refine q_actNA (Q := fun a => wpJ _ _ _ _ _ _ _ a) _ (by rfl) (by rfl) (by rfl) (by rfl) (by rfl) ?_
    refine b1_j hlt hx1 fun sh2 sf2 m2 M2 T2 x2 hx2 => ?_
    (simp only [QJ.then, QJ.inBlock, if_true, if_false, reduceIte, Nat.reduceEqDiff])
    rw [actNA_lit]
    ((refine wpJ_region ?_; simp only [List.size_toArray, List.length_cons, List.length_nil, Nat.reduceAdd, Nat.zero_add, List.range, List.range.loop]))
    ((refine opsJ_pure rfl (by rfl) (fun w => run_eqv (fun K hK => by go_simp; exact hK)) (fun w => by simp [go_sem]) ?_; try walk_nrm))
    ((refine opsJ_pure (v := (.int .i64 ((i : Int) + 1))) rfl (by rfl) (fun w => by go_simp; rw [wrapI (by omega) (by omega)]) (fun w => by simp [go_sem]) ?_; try walk_nrm))
    ((refine opsJ_pure rfl (by rfl) (fun w => run_eqv (fun K hK => by go_simp; exact hK)) (fun w => by simp [go_sem]) ?_; try walk_nrm))
    refine opsJ_nil ?_
    try (simp only [QJ.then, QJ.inBlock, if_true, if_false, reduceIte, Nat.reduceEqDiff])
    refine ⟨⟨i + 1, _, _, _, ⟨_, _, rfl⟩, hx2, by omega, actNA_of _ rfl rfl rfl rfl rfl⟩, ?_⟩
    show 15 - ((i : Int) + 1).toNat < 15 - ((i : Int)).toNat
    omega
  · have hno : ¬ ((i : Nat) : Int) < 12 := by omega
    ((refine opsJ_pure (v := (.bool false)) rfl (by rfl) (fun w => by go_simp; try (first | rfl | decide | (simp [*, n_sh, IntKind.wrap_u64, IntKind.wrap_u32, IntKind.wrap_i32, IntKind.wrap_i64] <;> omega))) (fun w => by simp [go_sem, *]) ?_; walk_nrm))
    refine opsJ_nil ?_
    try (simp only [QJ.then, QJ.inBlock, if_true, if_false, reduceIte, Nat.reduceEqDiff])
    ((refine wpJ_cond (by rfl) ?_; simp only [if_true, if_false, reduceIte, Bool.false_eq_true]))
    ((first | refine wpJ_seq ?_ | refine wpJ_block ?_ | refine wpJ_skip ?_ | refine wpJ_label ?_ | refine wpJ_ret ?_ | refine wpJ_exit ?_ | refine opsJ_nil ?_))
    try (simp only [QJ.then, QJ.inBlock, if_true, if_false, reduceIte, Nat.reduceEqDiff])
    exact q_actNA (Q := fun a => Q _ _ .normal a) _ (by rfl) (by rfl) (by rfl) (by rfl) (by rfl) (h _ _ _ _ _ _ _ hx1)
set_option maxRecDepth 100000 in
set_option maxHeartbeats 2000000 in
/-- GatherNumbers answers true. -/
theorem numbers_j {sh sf : Nat → Prop} {m : PM} :
    CallsJ Try.prog Fin 3 #[] (.out sh sf false none) m fun s' m' v => (∃ sh' sf', s' = .out sh' sf' false none) ∧ v = .bool true ∧ Ext m m' := by
  ((refine callsJ_of Try.func3 (by rfl) rfl ?_; simp only [Try.ntmps3, List.size_toArray, List.length_cons, List.length_nil, Nat.reduceAdd, Nat.reduceSub, Array.replicate_succ, Array.replicate_zero, List.push_toArray, List.append_toArray, List.nil_append, List.cons_append]))
  ((first | refine wpJ_seq ?_ | refine wpJ_block ?_ | refine wpJ_skip ?_ | refine wpJ_label ?_ | refine wpJ_ret ?_ | refine wpJ_exit ?_ | refine opsJ_nil ?_))
  ((refine wpJ_region ?_; simp only [List.size_toArray, List.length_cons, List.length_nil, Nat.reduceAdd, Nat.zero_add, List.range, List.range.loop]))
  ((refine opsJ_pure rfl (by rfl) (fun w => run_eqv (fun K hK => by go_simp; exact hK)) (fun w => by simp [go_sem]) ?_; try walk_nrm))
  refine opsJ_nil ?_
  (simp only [QJ.then, QJ.inBlock, if_true, if_false, reduceIte, Nat.reduceEqDiff])
  refine wpJ_seq ?_
  refine q_actNA (Q := fun a => wpJ _ _ _ _ _ _ _ a) _ (by rfl) (by rfl) (by rfl) (by rfl) (by rfl) ?_
  refine b0_j (Ext.refl m) fun sh1 sf1 m1 N1 M1 T1 x1 hx1 => ?_
  (simp only [QJ.then, QJ.inBlock, if_true, if_false, reduceIte, Nat.reduceEqDiff])
  rw [actNA_lit]
  ((first | refine wpJ_seq ?_ | refine wpJ_block ?_ | refine wpJ_skip ?_ | refine wpJ_label ?_ | refine wpJ_ret ?_ | refine wpJ_exit ?_ | refine opsJ_nil ?_))
  ((refine wpJ_region ?_; simp only [List.size_toArray, List.length_cons, List.length_nil, Nat.reduceAdd, Nat.zero_add, List.range, List.range.loop]))
  refine opsJ_call rfl (by rfl) rfl (by walk_nrm; exact known_j _) ?_
  rintro _ m2 _ ⟨⟨sh2, sf2, rfl⟩, rfl, hx2⟩
  walk_nrm
  ((refine opsJ_pure rfl (by rfl) (fun w => run_eqv (fun K hK => by go_simp; exact hK)) (fun w => by simp [go_sem]) ?_; try walk_nrm))
  refine opsJ_nil ?_
  (simp only [QJ.then, QJ.inBlock, if_true, if_false, reduceIte, Nat.reduceEqDiff])
  refine wpJ_ret ?_
  exact ⟨rfl, _, resultsJ_tmp Try.results3 _, ⟨_, _, rfl⟩, rfl, hx1.trans hx2⟩
end
end Go.Proofs.Ytafnbmokegomaaa
