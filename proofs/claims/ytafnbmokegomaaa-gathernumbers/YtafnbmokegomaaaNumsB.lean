/-
  GatherNumbers: the fillings of the rows.
-/
import Derived.Test.YtafnbmokegomaaaNumsA
set_option linter.unusedSimpArgs false
set_option linter.unusedVariables false
set_option linter.unusedSectionVars false
namespace Go.Proofs.Ytafnbmokegomaaa
open Go.Conc Go.RowKit

theorem evIdx22 {a : Addr} {i : Int} {n c : Nat} {w : World} {es : Array Event} (h : 0 ≤ i ∧ i < n) : (Instr.indexAt 22 (.slice (some a) n c) (.int .i64 i)).events Try.prog w es = es := by
  simp [Instr.indexAt, Sem.events_bind, run_underlying Try.underlying22, asIntOf, h.1, h.2]
theorem size23 : (Try.prog.info? 23).map (·.size) = some 1 := by kernel_rfl
section
variable [Io] {Fin : Value → World → Prop}
set_option maxRecDepth 100000 in
set_option maxHeartbeats 4000000 in
/-- one round -/
theorem round1_j {Q : QJ} {s : Gh} {m : PM} {β K i : Nat} {N M T W : Value} {x : Nat → Value} (hb : BlkP m β K) (hK : K < 12) (hi : i ≤ K)
    (hexit : ∀ z, i = K → Q s m (.exit 6) (actNC N M T (.slice (some ⟨β, 0, none⟩) K K) W (.int .i64 (K : Int)) (.int .i64 (i : Int)) z))
    (hgo : ∀ m' z, i < K → BlkP m' β K → (∀ δ, δ ≠ β → m' δ = m δ) → Q s m' .normal (actNC N M T (.slice (some ⟨β, 0, none⟩) K K) W (.int .i64 (K : Int)) (.int .i64 (((i + 1 : Nat)) : Int)) z)) :
    wpJ Try.prog Fin 3 (inr (inr (rgt numF1))) Q s m (actNC N M T (.slice (some ⟨β, 0, none⟩) K K) W (.int .i64 (K : Int)) (.int .i64 (i : Int)) x) := by
  rw [actNC_lit]
  ((first | refine wpJ_seq ?_ | refine wpJ_block ?_ | refine wpJ_skip ?_ | refine wpJ_label ?_ | refine wpJ_ret ?_ | refine wpJ_exit ?_ | refine opsJ_nil ?_))
  ((refine wpJ_region ?_; simp only [List.size_toArray, List.length_cons, List.length_nil, Nat.reduceAdd, Nat.zero_add, List.range, List.range.loop]))
  by_cases hlt : i < K
  · have hlt0 : ((i : Nat) : Int) < ((K : Nat) : Int) := by omega
    have hi0 : 0 ≤ ((i : Nat) : Int) := by omega
    obtain ⟨C, hC, hl, hP⟩ := hb.put (f := 0) (x := 4 * (i : Int)) hlt (by decide)
    simp only [Nat.add_zero] at hl hP
    clear hexit
    ((refine opsJ_pure (v := (.bool true)) rfl (by rfl) (fun w => by go_simp; try (first | rfl | decide | (simp [*, n_sh, IntKind.wrap_u64, IntKind.wrap_u32, IntKind.wrap_i32, IntKind.wrap_i64] <;> omega))) (fun w => by simp [go_sem, *]) ?_; walk_nrm))
    refine opsJ_nil ?_
    try (simp only [QJ.then, QJ.inBlock, if_true, if_false, reduceIte, Nat.reduceEqDiff])
    ((first | refine wpJ_seq ?_ | refine wpJ_block ?_ | refine wpJ_skip ?_ | refine wpJ_label ?_ | refine wpJ_ret ?_ | refine wpJ_exit ?_ | refine opsJ_nil ?_))
    try (simp only [QJ.then, QJ.inBlock, if_true, if_false, reduceIte, Nat.reduceEqDiff])
    ((refine wpJ_cond (by rfl) ?_; simp only [if_true, if_false, reduceIte, Bool.false_eq_true]))
    ((first | refine wpJ_seq ?_ | refine wpJ_block ?_ | refine wpJ_skip ?_ | refine wpJ_label ?_ | refine wpJ_ret ?_ | refine wpJ_exit ?_ | refine opsJ_nil ?_))
    try (simp only [QJ.then, QJ.inBlock, if_true, if_false, reduceIte, Nat.reduceEqDiff])
    ((first | refine wpJ_seq ?_ | refine wpJ_block ?_ | refine wpJ_skip ?_ | refine wpJ_label ?_ | refine wpJ_ret ?_ | refine wpJ_exit ?_ | refine opsJ_nil ?_))
    try (simp only [QJ.then, QJ.inBlock, if_true, if_false, reduceIte, Nat.reduceEqDiff])
    refine wpJ_block ?_
    ((first | refine wpJ_seq ?_ | refine wpJ_block ?_ | refine wpJ_skip ?_ | refine wpJ_label ?_ | refine wpJ_ret ?_ | refine wpJ_exit ?_ | refine opsJ_nil ?_))
    ((refine wpJ_region ?_; simp only [List.size_toArray, List.length_cons, List.length_nil, Nat.reduceAdd, Nat.zero_add, List.range, List.range.loop]))
    ((refine opsJ_pure rfl (by rfl) (fun w => run_eqv (fun K hK => by go_simp; exact hK)) (fun w => by simp [go_sem]) ?_; try walk_nrm))
    ((refine opsJ_pure rfl (by rfl) (fun w => run_eqv (fun K hK => by go_simp; exact hK)) (fun w => by simp [go_sem]) ?_; try walk_nrm))
    refine opsJ_nil ?_
    try (simp only [QJ.then, QJ.inBlock, if_true, if_false, reduceIte, Nat.reduceEqDiff])
    ((refine wpJ_region ?_; simp only [List.size_toArray, List.length_cons, List.length_nil, Nat.reduceAdd, Nat.zero_add, List.range, List.range.loop]))
    ((refine opsJ_pure rfl (by rfl) (fun w => run_eqv (fun K hK => by go_simp; exact hK)) (fun w => by simp [go_sem]) ?_; try walk_nrm))
    ((refine opsJ_pure rfl (by rfl) (fun w => run_eqv (fun K hK => by go_simp; exact hK)) (fun w => by simp [go_sem]) ?_; try walk_nrm))
    ((refine opsJ_pure rfl (by rfl) (fun w => run_eqv (fun K hK => by go_simp; exact hK)) (fun w => by simp [go_sem]) ?_; try walk_nrm))
    ((refine opsJ_pure (v := (.int .i64 (4 * (i : Int)))) rfl (by rfl) (fun w => by go_simp; rw [wrapI (by omega) (by omega)]) (fun w => by simp [go_sem]) ?_; try walk_nrm))
    refine opsJ_pure (v := .int .u32 (4 * (i : Int))) rfl (by rfl) (fun w => by go_simp; rw [IntKind.wrap_u32]; omega) (fun w => by simp [go_sem]) ?_
    walk_nrm
    refine opsJ_pure (v := .pointer (some ⟨β, i * 7, none⟩)) rfl (by rfl) (fun w => by go_simp; try (first | rfl | (simp [*]; done))) (fun w => by simp [go_sem, evIdx22, *]) ?_
    walk_nrm
    refine opsJ_pure (v := .pointer (some ⟨β, i * 7, none⟩)) rfl (by rfl) (fun w => by go_simp; try (first | rfl | (simp [*]; done))) (fun w => by simp [go_sem, *]) ?_
    walk_nrm
    refine opsJ_st (v := .int .u32 (4 * (i : Int))) rfl (by rfl) rfl rfl rfl hC hl rfl size23 ?_
    try walk_nrm
    refine opsJ_nil ?_
    try (simp only [QJ.then, QJ.inBlock, if_true, if_false, reduceIte, Nat.reduceEqDiff])
    ((refine wpJ_region ?_; simp only [List.size_toArray, List.length_cons, List.length_nil, Nat.reduceAdd, Nat.zero_add, List.range, List.range.loop]))
    ((refine opsJ_pure (v := (.int .i64 ((i : Int) + 1))) rfl (by rfl) (fun w => by go_simp; rw [wrapI (by omega) (by omega)]) (fun w => by simp [go_sem]) ?_; try walk_nrm))
    ((refine opsJ_pure rfl (by rfl) (fun w => run_eqv (fun K hK => by go_simp; exact hK)) (fun w => by simp [go_sem]) ?_; try walk_nrm))
    refine opsJ_nil ?_
    try (simp only [QJ.then, QJ.inBlock, if_true, if_false, reduceIte, Nat.reduceEqDiff])
    exact q_actNC (Q := fun a => Q s _ .normal a) _ (by rfl) (by rfl) (by rfl) (by rfl) (by rfl) (by rfl) (by rfl) (by rfl) (by rfl) (hgo _ _ hlt hP fun δ hd => PM.set_ne _ _ hd)
  · have hno : ¬ ((i : Nat) : Int) < ((K : Nat) : Int) := by omega
    ((refine opsJ_pure (v := (.bool false)) rfl (by rfl) (fun w => by go_simp; try (first | rfl | decide | (simp [*, n_sh, IntKind.wrap_u64, IntKind.wrap_u32, IntKind.wrap_i32, IntKind.wrap_i64] <;> omega))) (fun w => by simp [go_sem, *]) ?_; walk_nrm))
    refine opsJ_nil ?_
    try (simp only [QJ.then, QJ.inBlock, if_true, if_false, reduceIte, Nat.reduceEqDiff])
    ((first | refine wpJ_seq ?_ | refine wpJ_block ?_ | refine wpJ_skip ?_ | refine wpJ_label ?_ | refine wpJ_ret ?_ | refine wpJ_exit ?_ | refine opsJ_nil ?_))
    try (simp only [QJ.then, QJ.inBlock, if_true, if_false, reduceIte, Nat.reduceEqDiff])
    ((refine wpJ_cond (by rfl) ?_; simp only [if_true, if_false, reduceIte, Bool.false_eq_true]))
    ((first | refine wpJ_seq ?_ | refine wpJ_block ?_ | refine wpJ_skip ?_ | refine wpJ_label ?_ | refine wpJ_ret ?_ | refine wpJ_exit ?_ | refine opsJ_nil ?_))
    try (simp only [QJ.then, QJ.inBlock, if_true, if_false, reduceIte, Nat.reduceEqDiff])
    exact q_actNC (Q := fun a => Q s m (.exit 6) a) _ (by rfl) (by rfl) (by rfl) (by rfl) (by rfl) (by rfl) (by rfl) (by rfl) (by rfl) (hexit _ (by omega))
set_option maxRecDepth 100000 in
set_option maxHeartbeats 4000000 in
/-- one row is filled -/
theorem fill1_j {Q : QJ} {s : Gh} {m : PM} {β K : Nat} {N M T W : Value} {x : Nat → Value} (hb : BlkP m β K) (hK : K < 12)
    (h : ∀ m' x', BlkP m' β K → (∀ δ, δ ≠ β → m' δ = m δ) → Q s m' .normal (actNB N M T (.slice (some ⟨β, 0, none⟩) K K) W x')) : wpJ Try.prog Fin 3 numF1 Q s m (actNB N M T (.slice (some ⟨β, 0, none⟩) K K) W x) := by
  rw [actNB_lit]
  ((first | refine wpJ_seq ?_ | refine wpJ_block ?_ | refine wpJ_skip ?_ | refine wpJ_label ?_ | refine wpJ_ret ?_ | refine wpJ_exit ?_ | refine opsJ_nil ?_))
  ((refine wpJ_region ?_; simp only [List.size_toArray, List.length_cons, List.length_nil, Nat.reduceAdd, Nat.zero_add, List.range, List.range.loop]))
  ((refine opsJ_pure rfl (by rfl) (fun w => run_eqv (fun K hK => by go_simp; exact hK)) (fun w => by simp [go_sem]) ?_; try walk_nrm))
  ((refine opsJ_pure rfl (by rfl) (fun w => run_eqv (fun K hK => by go_simp; exact hK)) (fun w => by simp [go_sem]) ?_; try walk_nrm))
  ((refine opsJ_pure rfl (by rfl) (fun w => run_eqv (fun K hK => by go_simp; exact hK)) (fun w => by simp [go_sem]) ?_; try walk_nrm))
  refine opsJ_nil ?_
  (simp only [QJ.then, QJ.inBlock, if_true, if_false, reduceIte, Nat.reduceEqDiff])
  refine wpJ_block ?_
  refine wpJ_loop (fun s' m' a => ∃ i z, s' = s ∧ BlkP m' β K ∧ (∀ δ, δ ≠ β → m' δ = m δ) ∧ i ≤ K ∧ a = actNC N M T (.slice (some ⟨β, 0, none⟩) K K) W (.int .i64 (K : Int)) (.int .i64 (i : Int)) z)
    (fun _ _ a => match a.tmps[26]? with
      | some (Value.int _ q) => K - q.toNat
      | _ => 0) ⟨0, _, rfl, hb, fun _ _ => rfl, Nat.zero_le _, actNC_of _ rfl rfl rfl rfl rfl rfl rfl rfl rfl⟩ ?_
  rintro _ m1 _ ⟨i, z, rfl, hb1, hs1, hi, rfl⟩
  refine round1_j hb1 hK hi (fun z e => ?_) (fun m2 z hlt hb2 hs2 => ?_)
  · subst e
    (simp only [QJ.then, QJ.inBlock, if_true, if_false, reduceIte, Nat.reduceEqDiff])
    exact q_actNB (Q := fun a => Q _ _ .normal a) _ (by rfl) (by rfl) (by rfl) (by rfl) (by rfl) (by rfl) (by rfl) (h _ _ hb1 hs1)
  · change _ ∧ _
    refine ⟨⟨i + 1, z, rfl, hb2, fun δ hd => (hs2 δ hd).trans (hs1 δ hd), hlt, rfl⟩, ?_⟩
    show K - (((i + 1 : Nat) : Int)).toNat < K - (((i : Nat) : Int)).toNat
    omega
set_option maxRecDepth 100000 in
set_option maxHeartbeats 4000000 in
/-- one round -/
theorem round2_j {Q : QJ} {s : Gh} {m : PM} {γ K i : Nat} {N M T W : Value} {x : Nat → Value} (hb : BlkP m γ K) (hK : K < 12) (hi : i ≤ K)
    (hexit : ∀ z, i = K → Q s m (.exit 8) (actND N M T W (.slice (some ⟨γ, 0, none⟩) K K) (.int .i64 (K : Int)) (.int .i64 (i : Int)) z))
    (hgo : ∀ m' z, i < K → BlkP m' γ K → (∀ δ, δ ≠ γ → m' δ = m δ) → Q s m' .normal (actND N M T W (.slice (some ⟨γ, 0, none⟩) K K) (.int .i64 (K : Int)) (.int .i64 (((i + 1 : Nat)) : Int)) z)) :
    wpJ Try.prog Fin 3 (inr (inr (rgt numF2))) Q s m (actND N M T W (.slice (some ⟨γ, 0, none⟩) K K) (.int .i64 (K : Int)) (.int .i64 (i : Int)) x) := by
  rw [actND_lit]
  ((first | refine wpJ_seq ?_ | refine wpJ_block ?_ | refine wpJ_skip ?_ | refine wpJ_label ?_ | refine wpJ_ret ?_ | refine wpJ_exit ?_ | refine opsJ_nil ?_))
  ((refine wpJ_region ?_; simp only [List.size_toArray, List.length_cons, List.length_nil, Nat.reduceAdd, Nat.zero_add, List.range, List.range.loop]))
  by_cases hlt : i < K
  · have hlt0 : ((i : Nat) : Int) < ((K : Nat) : Int) := by omega
    have hi0 : 0 ≤ ((i : Nat) : Int) := by omega
    obtain ⟨C, hC, hl, hP⟩ := hb.put (f := 0) (x := 4 * (i : Int)) hlt (by decide)
    simp only [Nat.add_zero] at hl hP
    clear hexit
    ((refine opsJ_pure (v := (.bool true)) rfl (by rfl) (fun w => by go_simp; try (first | rfl | decide | (simp [*, n_sh, IntKind.wrap_u64, IntKind.wrap_u32, IntKind.wrap_i32, IntKind.wrap_i64] <;> omega))) (fun w => by simp [go_sem, *]) ?_; walk_nrm))
    refine opsJ_nil ?_
    try (simp only [QJ.then, QJ.inBlock, if_true, if_false, reduceIte, Nat.reduceEqDiff])
    ((first | refine wpJ_seq ?_ | refine wpJ_block ?_ | refine wpJ_skip ?_ | refine wpJ_label ?_ | refine wpJ_ret ?_ | refine wpJ_exit ?_ | refine opsJ_nil ?_))
    try (simp only [QJ.then, QJ.inBlock, if_true, if_false, reduceIte, Nat.reduceEqDiff])
    ((refine wpJ_cond (by rfl) ?_; simp only [if_true, if_false, reduceIte, Bool.false_eq_true]))
    ((first | refine wpJ_seq ?_ | refine wpJ_block ?_ | refine wpJ_skip ?_ | refine wpJ_label ?_ | refine wpJ_ret ?_ | refine wpJ_exit ?_ | refine opsJ_nil ?_))
    try (simp only [QJ.then, QJ.inBlock, if_true, if_false, reduceIte, Nat.reduceEqDiff])
    ((first | refine wpJ_seq ?_ | refine wpJ_block ?_ | refine wpJ_skip ?_ | refine wpJ_label ?_ | refine wpJ_ret ?_ | refine wpJ_exit ?_ | refine opsJ_nil ?_))
    try (simp only [QJ.then, QJ.inBlock, if_true, if_false, reduceIte, Nat.reduceEqDiff])
    refine wpJ_block ?_
    ((first | refine wpJ_seq ?_ | refine wpJ_block ?_ | refine wpJ_skip ?_ | refine wpJ_label ?_ | refine wpJ_ret ?_ | refine wpJ_exit ?_ | refine opsJ_nil ?_))
    ((refine wpJ_region ?_; simp only [List.size_toArray, List.length_cons, List.length_nil, Nat.reduceAdd, Nat.zero_add, List.range, List.range.loop]))
    ((refine opsJ_pure rfl (by rfl) (fun w => run_eqv (fun K hK => by go_simp; exact hK)) (fun w => by simp [go_sem]) ?_; try walk_nrm))
    ((refine opsJ_pure rfl (by rfl) (fun w => run_eqv (fun K hK => by go_simp; exact hK)) (fun w => by simp [go_sem]) ?_; try walk_nrm))
    refine opsJ_nil ?_
    try (simp only [QJ.then, QJ.inBlock, if_true, if_false, reduceIte, Nat.reduceEqDiff])
    ((refine wpJ_region ?_; simp only [List.size_toArray, List.length_cons, List.length_nil, Nat.reduceAdd, Nat.zero_add, List.range, List.range.loop]))
    ((refine opsJ_pure rfl (by rfl) (fun w => run_eqv (fun K hK => by go_simp; exact hK)) (fun w => by simp [go_sem]) ?_; try walk_nrm))
    ((refine opsJ_pure rfl (by rfl) (fun w => run_eqv (fun K hK => by go_simp; exact hK)) (fun w => by simp [go_sem]) ?_; try walk_nrm))
    ((refine opsJ_pure rfl (by rfl) (fun w => run_eqv (fun K hK => by go_simp; exact hK)) (fun w => by simp [go_sem]) ?_; try walk_nrm))
    ((refine opsJ_pure (v := (.int .i64 (4 * (i : Int)))) rfl (by rfl) (fun w => by go_simp; rw [wrapI (by omega) (by omega)]) (fun w => by simp [go_sem]) ?_; try walk_nrm))
    refine opsJ_pure (v := .int .u32 (4 * (i : Int))) rfl (by rfl) (fun w => by go_simp; rw [IntKind.wrap_u32]; omega) (fun w => by simp [go_sem]) ?_
    walk_nrm
    refine opsJ_pure (v := .pointer (some ⟨γ, i * 7, none⟩)) rfl (by rfl) (fun w => by go_simp; try (first | rfl | (simp [*]; done))) (fun w => by simp [go_sem, evIdx22, *]) ?_
    walk_nrm
    refine opsJ_pure (v := .pointer (some ⟨γ, i * 7, none⟩)) rfl (by rfl) (fun w => by go_simp; try (first | rfl | (simp [*]; done))) (fun w => by simp [go_sem, *]) ?_
    walk_nrm
    refine opsJ_st (v := .int .u32 (4 * (i : Int))) rfl (by rfl) rfl rfl rfl hC hl rfl size23 ?_
    try walk_nrm
    refine opsJ_nil ?_
    try (simp only [QJ.then, QJ.inBlock, if_true, if_false, reduceIte, Nat.reduceEqDiff])
    ((refine wpJ_region ?_; simp only [List.size_toArray, List.length_cons, List.length_nil, Nat.reduceAdd, Nat.zero_add, List.range, List.range.loop]))
    ((refine opsJ_pure (v := (.int .i64 ((i : Int) + 1))) rfl (by rfl) (fun w => by go_simp; rw [wrapI (by omega) (by omega)]) (fun w => by simp [go_sem]) ?_; try walk_nrm))
    ((refine opsJ_pure rfl (by rfl) (fun w => run_eqv (fun K hK => by go_simp; exact hK)) (fun w => by simp [go_sem]) ?_; try walk_nrm))
    refine opsJ_nil ?_
    try (simp only [QJ.then, QJ.inBlock, if_true, if_false, reduceIte, Nat.reduceEqDiff])
    exact q_actND (Q := fun a => Q s _ .normal a) _ (by rfl) (by rfl) (by rfl) (by rfl) (by rfl) (by rfl) (by rfl) (by rfl) (by rfl) (hgo _ _ hlt hP fun δ hd => PM.set_ne _ _ hd)
  · have hno : ¬ ((i : Nat) : Int) < ((K : Nat) : Int) := by omega
    ((refine opsJ_pure (v := (.bool false)) rfl (by rfl) (fun w => by go_simp; try (first | rfl | decide | (simp [*, n_sh, IntKind.wrap_u64, IntKind.wrap_u32, IntKind.wrap_i32, IntKind.wrap_i64] <;> omega))) (fun w => by simp [go_sem, *]) ?_; walk_nrm))
    refine opsJ_nil ?_
    try (simp only [QJ.then, QJ.inBlock, if_true, if_false, reduceIte, Nat.reduceEqDiff])
    ((first | refine wpJ_seq ?_ | refine wpJ_block ?_ | refine wpJ_skip ?_ | refine wpJ_label ?_ | refine wpJ_ret ?_ | refine wpJ_exit ?_ | refine opsJ_nil ?_))
    try (simp only [QJ.then, QJ.inBlock, if_true, if_false, reduceIte, Nat.reduceEqDiff])
    ((refine wpJ_cond (by rfl) ?_; simp only [if_true, if_false, reduceIte, Bool.false_eq_true]))
    ((first | refine wpJ_seq ?_ | refine wpJ_block ?_ | refine wpJ_skip ?_ | refine wpJ_label ?_ | refine wpJ_ret ?_ | refine wpJ_exit ?_ | refine opsJ_nil ?_))
    try (simp only [QJ.then, QJ.inBlock, if_true, if_false, reduceIte, Nat.reduceEqDiff])
    exact q_actND (Q := fun a => Q s m (.exit 8) a) _ (by rfl) (by rfl) (by rfl) (by rfl) (by rfl) (by rfl) (by rfl) (by rfl) (by rfl) (hexit _ (by omega))
set_option maxRecDepth 100000 in
set_option maxHeartbeats 4000000 in
/-- one row is filled -/
theorem fill2_j {Q : QJ} {s : Gh} {m : PM} {γ K : Nat} {N M T W : Value} {x : Nat → Value} (hb : BlkP m γ K) (hK : K < 12)
    (h : ∀ m' x', BlkP m' γ K → (∀ δ, δ ≠ γ → m' δ = m δ) → Q s m' .normal (actNB N M T W (.slice (some ⟨γ, 0, none⟩) K K) x')) : wpJ Try.prog Fin 3 numF2 Q s m (actNB N M T W (.slice (some ⟨γ, 0, none⟩) K K) x) := by
  rw [actNB_lit]
  ((first | refine wpJ_seq ?_ | refine wpJ_block ?_ | refine wpJ_skip ?_ | refine wpJ_label ?_ | refine wpJ_ret ?_ | refine wpJ_exit ?_ | refine opsJ_nil ?_))
  ((refine wpJ_region ?_; simp only [List.size_toArray, List.length_cons, List.length_nil, Nat.reduceAdd, Nat.zero_add, List.range, List.range.loop]))
  ((refine opsJ_pure rfl (by rfl) (fun w => run_eqv (fun K hK => by go_simp; exact hK)) (fun w => by simp [go_sem]) ?_; try walk_nrm))
  ((refine opsJ_pure rfl (by rfl) (fun w => run_eqv (fun K hK => by go_simp; exact hK)) (fun w => by simp [go_sem]) ?_; try walk_nrm))
  ((refine opsJ_pure rfl (by rfl) (fun w => run_eqv (fun K hK => by go_simp; exact hK)) (fun w => by simp [go_sem]) ?_; try walk_nrm))
  refine opsJ_nil ?_
  (simp only [QJ.then, QJ.inBlock, if_true, if_false, reduceIte, Nat.reduceEqDiff])
  refine wpJ_block ?_
  refine wpJ_loop (fun s' m' a => ∃ i z, s' = s ∧ BlkP m' γ K ∧ (∀ δ, δ ≠ γ → m' δ = m δ) ∧ i ≤ K ∧ a = actND N M T W (.slice (some ⟨γ, 0, none⟩) K K) (.int .i64 (K : Int)) (.int .i64 (i : Int)) z)
    (fun _ _ a => match a.tmps[39]? with
      | some (Value.int _ q) => K - q.toNat
      | _ => 0) ⟨0, _, rfl, hb, fun _ _ => rfl, Nat.zero_le _, actND_of _ rfl rfl rfl rfl rfl rfl rfl rfl rfl⟩ ?_
  rintro _ m1 _ ⟨i, z, rfl, hb1, hs1, hi, rfl⟩
  refine round2_j hb1 hK hi (fun z e => ?_) (fun m2 z hlt hb2 hs2 => ?_)
  · subst e
    (simp only [QJ.then, QJ.inBlock, if_true, if_false, reduceIte, Nat.reduceEqDiff])
    exact q_actNB (Q := fun a => Q _ _ .normal a) _ (by rfl) (by rfl) (by rfl) (by rfl) (by rfl) (by rfl) (by rfl) (h _ _ hb1 hs1)
  · change _ ∧ _
    refine ⟨⟨i + 1, z, rfl, hb2, fun δ hd => (hs2 δ hd).trans (hs1 δ hd), hlt, rfl⟩, ?_⟩
    show K - (((i + 1 : Nat) : Int)).toNat < K - (((i : Nat) : Int)).toNat
    omega
set_option maxRecDepth 100000 in
set_option maxHeartbeats 4000000 in
/-- one Value is stored, if it is there -/
theorem if_j {Q : QJ} {s : Gh} {m : PM} {γ K T : Nat} {N A : Value} {x : Nat → Value} (hb : BlkP m γ K) (hK : K < 12)
    (h : ∀ m' x', BlkP m' γ K → (∀ δ, δ ≠ γ → m' δ = m δ) → Q s m' .normal (actNB N (.int .i64 (K : Int)) (.int .i64 (T : Int)) A (.slice (some ⟨γ, 0, none⟩) K K) x')) :
    wpJ Try.prog Fin 3 numIf Q s m (actNB N (.int .i64 (K : Int)) (.int .i64 (T : Int)) A (.slice (some ⟨γ, 0, none⟩) K K) x) := by
  rw [actNB_lit]
  ((first | refine wpJ_seq ?_ | refine wpJ_block ?_ | refine wpJ_skip ?_ | refine wpJ_label ?_ | refine wpJ_ret ?_ | refine wpJ_exit ?_ | refine opsJ_nil ?_))
  ((refine wpJ_region ?_; simp only [List.size_toArray, List.length_cons, List.length_nil, Nat.reduceAdd, Nat.zero_add, List.range, List.range.loop]))
  ((refine opsJ_pure rfl (by rfl) (fun w => run_eqv (fun K hK => by go_simp; exact hK)) (fun w => by simp [go_sem]) ?_; try walk_nrm))
  ((refine opsJ_pure rfl (by rfl) (fun w => run_eqv (fun K hK => by go_simp; exact hK)) (fun w => by simp [go_sem]) ?_; try walk_nrm))
  by_cases hlt : T < K
  · have hlt0 : ((T : Nat) : Int) < ((K : Nat) : Int) := by omega
    have hi0 : 0 ≤ ((T : Nat) : Int) := by omega
    obtain ⟨C, hC, hl, hP⟩ := hb.put (f := 1) (x := 9) hlt (by decide)
    ((refine opsJ_pure (v := (.bool true)) rfl (by rfl) (fun w => by go_simp; try (first | rfl | decide | (simp [*, n_sh, IntKind.wrap_u64, IntKind.wrap_u32, IntKind.wrap_i32, IntKind.wrap_i64] <;> omega))) (fun w => by simp [go_sem, *]) ?_; walk_nrm))
    refine opsJ_nil ?_
    try (simp only [QJ.then, QJ.inBlock, if_true, if_false, reduceIte, Nat.reduceEqDiff])
    ((refine wpJ_cond (by rfl) ?_; simp only [if_true, if_false, reduceIte, Bool.false_eq_true]))
    ((refine wpJ_region ?_; simp only [List.size_toArray, List.length_cons, List.length_nil, Nat.reduceAdd, Nat.zero_add, List.range, List.range.loop]))
    ((refine opsJ_pure rfl (by rfl) (fun w => run_eqv (fun K hK => by go_simp; exact hK)) (fun w => by simp [go_sem]) ?_; try walk_nrm))
    ((refine opsJ_pure rfl (by rfl) (fun w => run_eqv (fun K hK => by go_simp; exact hK)) (fun w => by simp [go_sem]) ?_; try walk_nrm))
    refine opsJ_pure (v := .pointer (some ⟨γ, T * 7, none⟩)) rfl (by rfl) (fun w => by go_simp; try (first | rfl | (simp [*]; done))) (fun w => by simp [go_sem, evIdx22, *]) ?_
    walk_nrm
    refine opsJ_pure (v := .pointer (some ⟨γ, T * 7 + 1, none⟩)) rfl (by rfl) (fun w => by go_simp; try (first | rfl | (simp [*]; done))) (fun w => by simp [go_sem, *]) ?_
    walk_nrm
    refine opsJ_st (v := .int .u32 9) rfl (by rfl) rfl rfl rfl hC hl rfl size23 ?_
    try walk_nrm
    refine opsJ_nil ?_
    try (simp only [QJ.then, QJ.inBlock, if_true, if_false, reduceIte, Nat.reduceEqDiff])
    exact q_actNB (Q := fun a => Q s _ .normal a) _ (by rfl) (by rfl) (by rfl) (by rfl) (by rfl) (by rfl) (by rfl) (h _ _ hP fun δ hd => PM.set_ne _ _ hd)
  · have hno : ¬ ((T : Nat) : Int) < ((K : Nat) : Int) := by omega
    ((refine opsJ_pure (v := (.bool false)) rfl (by rfl) (fun w => by go_simp; try (first | rfl | decide | (simp [*, n_sh, IntKind.wrap_u64, IntKind.wrap_u32, IntKind.wrap_i32, IntKind.wrap_i64] <;> omega))) (fun w => by simp [go_sem, *]) ?_; walk_nrm))
    refine opsJ_nil ?_
    try (simp only [QJ.then, QJ.inBlock, if_true, if_false, reduceIte, Nat.reduceEqDiff])
    ((refine wpJ_cond (by rfl) ?_; simp only [if_true, if_false, reduceIte, Bool.false_eq_true]))
    ((first | refine wpJ_seq ?_ | refine wpJ_block ?_ | refine wpJ_skip ?_ | refine wpJ_label ?_ | refine wpJ_ret ?_ | refine wpJ_exit ?_ | refine opsJ_nil ?_))
    try (simp only [QJ.then, QJ.inBlock, if_true, if_false, reduceIte, Nat.reduceEqDiff])
    exact q_actNB (Q := fun a => Q s m .normal a) _ (by rfl) (by rfl) (by rfl) (by rfl) (by rfl) (by rfl) (by rfl) (h m _ hb fun _ _ => rfl)
end
end Go.Proofs.Ytafnbmokegomaaa
