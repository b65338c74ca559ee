/-
  same (of the laws), over Pairs and Agree.
-/
import Derived.Test.YtafnbmokegomaaaSame
set_option linter.unusedSimpArgs false
set_option linter.unusedVariables false
set_option linter.unusedSectionVars false
namespace Go.Proofs.Ytafnbmokegomaaa
open Go.Conc Go.RowKit

theorem evEqb (a b : Bool) (w : World) (es : Array Event) : (binOp .eql 4 (.bool a) (.bool b)).events Try.prog w es = es := by
  have h := events_equalIn_bool (P := Try.prog) w es 9999 4 a b Try.underlying4
  have e : (binOp .eql 4 (.bool a) (.bool b)).events Try.prog w es = (Op.equalIn 10000 4 (.bool a) (.bool b)).events Try.prog w es := by
    simp only [binOp]
    simp [Op.equal, Op.maxDepth, Sem.events_bind]
  rw [e, h]
section
variable [Io] {Fin : Value → World → Prop}
set_option maxRecDepth 100000 in
set_option maxHeartbeats 4000000 in
theorem lsame_j {sh sf : Nat → Prop} {A B : Value} {m : PM} {nA nB : Nat} {x y : Nat → Rt} (hA : RowP m A nA x) (hB : RowP m B nB y) (ha : nA < 1000000000000) (hb : nB < 1000000000000) : CallsJ Try.prog Fin 6 #[A, B] (.out sh sf false none) m
      fun s' m' v => (∃ sh' sf', s' = .out sh' sf' false none) ∧ v = .bool true ∧ Ext m m' := by
  obtain ⟨⟨ba, capA, rfl⟩, -⟩ := id hA
  obtain ⟨⟨bb, capB, rfl⟩, -⟩ := id hB
  ((refine callsJ_of Try.func6 (by rfl) rfl ?_; simp only [Try.ntmps6, List.size_toArray, List.length_cons, List.length_nil, Nat.reduceAdd, Nat.reduceSub, Array.replicate_succ, Array.replicate_zero, List.push_toArray, List.append_toArray, List.nil_append, List.cons_append]))
  ((first | refine wpJ_seq ?_ | refine wpJ_block ?_ | refine wpJ_skip ?_ | refine wpJ_label ?_ | refine wpJ_ret ?_ | refine wpJ_exit ?_ | refine opsJ_nil ?_))
  ((refine wpJ_region ?_; simp only [List.size_toArray, List.length_cons, List.length_nil, Nat.reduceAdd, Nat.zero_add, List.range, List.range.loop]))
  ((refine opsJ_pure rfl (by rfl) (fun w => run_eqv (fun K hK => by go_simp; exact hK)) (fun w => by simp [go_sem]) ?_; try walk_nrm))
  refine opsJ_nil ?_
  (simp only [QJ.then, QJ.inBlock, if_true, if_false, reduceIte, Nat.reduceEqDiff])
  ((first | refine wpJ_seq ?_ | refine wpJ_block ?_ | refine wpJ_skip ?_ | refine wpJ_label ?_ | refine wpJ_ret ?_ | refine wpJ_exit ?_ | refine opsJ_nil ?_))
  ((refine wpJ_region ?_; simp only [List.size_toArray, List.length_cons, List.length_nil, Nat.reduceAdd, Nat.zero_add, List.range, List.range.loop]))
  ((refine opsJ_pure rfl (by rfl) (fun w => run_eqv (fun K hK => by go_simp; exact hK)) (fun w => by simp [go_sem]) ?_; try walk_nrm))
  ((refine opsJ_pure rfl (by rfl) (fun w => run_eqv (fun K hK => by go_simp; exact hK)) (fun w => by simp [go_sem]) ?_; try walk_nrm))
  refine opsJ_call rfl (by rfl) rfl (by walk_nrm; exact pairs_m hA hB ha hb) ?_
  rintro _ m1 _ ⟨⟨sh1, sf1, rfl⟩, v, l, rfl, hl, hv, -, hx1⟩
  walk_nrm
  ((refine opsJ_pure rfl (by rfl) (fun w => run_eqv (fun K hK => by go_simp; exact hK)) (fun w => by simp [go_sem]) ?_; try walk_nrm))
  ((refine opsJ_pure rfl (by rfl) (fun w => run_eqv (fun K hK => by go_simp; exact hK)) (fun w => by simp [go_sem]) ?_; try walk_nrm))
  ((refine opsJ_pure rfl (by rfl) (fun w => run_eqv (fun K hK => by go_simp; exact hK)) (fun w => by simp [go_sem]) ?_; try walk_nrm))
  ((refine opsJ_pure rfl (by rfl) (fun w => run_eqv (fun K hK => by go_simp; exact hK)) (fun w => by simp [go_sem]) ?_; try walk_nrm))
  ((refine opsJ_pure rfl (by rfl) (fun w => run_eqv (fun K hK => by go_simp; exact hK)) (fun w => by simp [go_sem]) ?_; try walk_nrm))
  refine opsJ_nil ?_
  (simp only [QJ.then, QJ.inBlock, if_true, if_false, reduceIte, Nat.reduceEqDiff])
  ((first | refine wpJ_seq ?_ | refine wpJ_block ?_ | refine wpJ_skip ?_ | refine wpJ_label ?_ | refine wpJ_ret ?_ | refine wpJ_exit ?_ | refine opsJ_nil ?_))
  ((refine wpJ_region ?_; simp only [List.size_toArray, List.length_cons, List.length_nil, Nat.reduceAdd, Nat.zero_add, List.range, List.range.loop]))
  ((refine opsJ_pure rfl (by rfl) (fun w => run_eqv (fun K hK => by go_simp; exact hK)) (fun w => by simp [go_sem]) ?_; try walk_nrm))
  ((refine opsJ_pure rfl (by rfl) (fun w => run_eqv (fun K hK => by go_simp; exact hK)) (fun w => by simp [go_sem]) ?_; try walk_nrm))
  refine opsJ_call rfl (by rfl) rfl (by walk_nrm; exact agree_m (hA.ext hx1) (hB.ext hx1) ha hb) ?_
  rintro _ m2 _ ⟨⟨sh2, sf2, rfl⟩, rfl, hx2⟩
  replace hv := hv.kept (m' := m2) fun g o _ e => hx2 _ _ e
  replace hA := (hA.ext hx1).ext hx2
  replace hB := (hB.ext hx1).ext hx2
  replace hx2 := hx1.trans hx2
  clear hx1
  walk_nrm
  ((refine opsJ_pure rfl (by rfl) (fun w => run_eqv (fun K hK => by go_simp; exact hK)) (fun w => by simp [go_sem]) ?_; try walk_nrm))
  ((refine opsJ_pure rfl (by rfl) (fun w => run_eqv (fun K hK => by go_simp; exact hK)) (fun w => by simp [go_sem]) ?_; try walk_nrm))
  ((refine opsJ_pure rfl (by rfl) (fun w => run_eqv (fun K hK => by go_simp; exact hK)) (fun w => by simp [go_sem]) ?_; try walk_nrm))
  ((refine opsJ_pure rfl (by rfl) (fun w => run_eqv (fun K hK => by go_simp; exact hK)) (fun w => by simp [go_sem]) ?_; try walk_nrm))
  ((refine opsJ_pure rfl (by rfl) (fun w => run_eqv (fun K hK => by go_simp; exact hK)) (fun w => by simp [go_sem]) ?_; try walk_nrm))
  refine opsJ_nil ?_
  (simp only [QJ.then, QJ.inBlock, if_true, if_false, reduceIte, Nat.reduceEqDiff])
  ((first | refine wpJ_seq ?_ | refine wpJ_block ?_ | refine wpJ_skip ?_ | refine wpJ_label ?_ | refine wpJ_ret ?_ | refine wpJ_exit ?_ | refine opsJ_nil ?_))
  ((refine wpJ_region ?_; simp only [List.size_toArray, List.length_cons, List.length_nil, Nat.reduceAdd, Nat.zero_add, List.range, List.range.loop]))
  ((refine opsJ_pure rfl (by rfl) (fun w => run_eqv (fun K hK => by go_simp; exact hK)) (fun w => by simp [go_sem]) ?_; try walk_nrm))
  ((refine opsJ_pure rfl (by rfl) (fun w => run_eqv (fun K hK => by go_simp; exact hK)) (fun w => by simp [go_sem]) ?_; try walk_nrm))
  ((refine opsJ_pure rfl (by rfl) (fun w => run_eqv (fun K hK => by go_simp; exact hK)) (fun w => by simp [go_sem]) ?_; try walk_nrm))
  ((refine opsJ_pure rfl (by rfl) (fun w => run_eqv (fun K hK => by go_simp; exact hK)) (fun w => by simp [go_sem]) ?_; try walk_nrm))
  refine opsJ_pure (v := .int .i64 ((min nA nB : Nat) : Int)) rfl (by rfl) (fun w => by go_simp; split <;> omega) (fun w => by simp [go_sem, evMin]) ?_
  walk_nrm
  ((refine opsJ_pure rfl (by rfl) (fun w => run_eqv (fun K hK => by go_simp; exact hK)) (fun w => by simp [go_sem]) ?_; try walk_nrm))
  refine opsJ_nil ?_
  (simp only [QJ.then, QJ.inBlock, if_true, if_false, reduceIte, Nat.reduceEqDiff])
  have hn3 : decide (nA = nB) = decide (l = 0) := by congr 1; apply propext; omega
  have hn1 : min nA nB ≤ nA := Nat.min_le_left _ _
  have hn2 : min nA nB ≤ nB := Nat.min_le_right _ _
  rw [hn3]
  generalize min nA nB = n0 at *
  have hvs : ∃ bv cv, v = .slice bv n0 cv := by
    rcases hv.2 with ⟨h1, h2⟩ | ⟨g, cap, cur, h1, _⟩
    · exact ⟨none, 0, by rw [h1, h2]⟩
    · exact ⟨_, _, h1⟩
  obtain ⟨bv, cv, rfl⟩ := hvs
  ((first | refine wpJ_seq ?_ | refine wpJ_block ?_ | refine wpJ_skip ?_ | refine wpJ_label ?_ | refine wpJ_ret ?_ | refine wpJ_exit ?_ | refine opsJ_nil ?_))
  ((first | refine wpJ_seq ?_ | refine wpJ_block ?_ | refine wpJ_skip ?_ | refine wpJ_label ?_ | refine wpJ_ret ?_ | refine wpJ_exit ?_ | refine opsJ_nil ?_))
  ((refine wpJ_region ?_; simp only [List.size_toArray, List.length_cons, List.length_nil, Nat.reduceAdd, Nat.zero_add, List.range, List.range.loop]))
  ((refine opsJ_pure rfl (by rfl) (fun w => run_eqv (fun K hK => by go_simp; exact hK)) (fun w => by simp [go_sem]) ?_; try walk_nrm))
  ((refine opsJ_pure rfl (by rfl) (fun w => run_eqv (fun K hK => by go_simp; exact hK)) (fun w => by simp [go_sem]) ?_; try walk_nrm))
  ((refine opsJ_pure rfl (by rfl) (fun w => run_eqv (fun K hK => by go_simp; exact hK)) (fun w => by simp [go_sem]) ?_; try walk_nrm))
  ((refine opsJ_pure (v := (.bool false)) rfl (by rfl) (fun w => by go_simp; try (first | rfl | decide | (simp [*, n_sh, IntKind.wrap_u64, IntKind.wrap_u32, IntKind.wrap_i32, IntKind.wrap_i64] <;> omega))) (fun w => by simp [go_sem, *]) ?_; walk_nrm))
  ((refine opsJ_pure rfl (by rfl) (fun w => run_eqv (fun K hK => by go_simp; exact hK)) (fun w => by simp [go_sem]) ?_; try walk_nrm))
  ((refine opsJ_pure rfl (by rfl) (fun w => run_eqv (fun K hK => by go_simp; exact hK)) (fun w => by simp [go_sem]) ?_; try walk_nrm))
  ((refine opsJ_pure rfl (by rfl) (fun w => run_eqv (fun K hK => by go_simp; exact hK)) (fun w => by simp [go_sem]) ?_; try walk_nrm))
  ((refine opsJ_pure rfl (by rfl) (fun w => run_eqv (fun K hK => by go_simp; exact hK)) (fun w => by simp [go_sem]) ?_; try walk_nrm))
  ((refine opsJ_pure rfl (by rfl) (fun w => run_eqv (fun K hK => by go_simp; exact hK)) (fun w => by simp [go_sem]) ?_; try walk_nrm))
  ((refine opsJ_pure rfl (by rfl) (fun w => run_eqv (fun K hK => by go_simp; exact hK)) (fun w => by simp [go_sem]) ?_; try walk_nrm))
  ((refine opsJ_pure (v := (.int .i64 ((nA : Int) + (nB : Int)))) rfl (by rfl) (fun w => by go_simp; rw [wrapI (by omega) (by omega)]) (fun w => by simp [go_sem]) ?_; try walk_nrm))
  ((refine opsJ_pure rfl (by rfl) (fun w => run_eqv (fun K hK => by go_simp; exact hK)) (fun w => by simp [go_sem]) ?_; try walk_nrm))
  ((refine opsJ_pure (v := (.int .i64 (2 * (n0 : Int)))) rfl (by rfl) (fun w => by go_simp; rw [wrapI (by omega) (by omega)]) (fun w => by simp [go_sem]) ?_; try walk_nrm))
  ((refine opsJ_pure (v := (.int .i64 ((nA : Int) + (nB : Int) - 2 * (n0 : Int)))) rfl (by rfl) (fun w => by go_simp; rw [wrapI (by omega) (by omega)]) (fun w => by simp [go_sem]) ?_; try walk_nrm))
  have hl' : (l : Int) = (nA : Int) + (nB : Int) - 2 * (n0 : Int) := by omega
  ((refine opsJ_pure (v := (.bool false)) rfl (by rfl) (fun w => by go_simp; try simp [← hl']) (fun w => by simp [go_sem]) ?_; try walk_nrm))
  ((refine opsJ_pure rfl (by rfl) (fun w => run_eqv (fun K hK => by go_simp; exact hK)) (fun w => by simp [go_sem]) ?_; try walk_nrm))
  refine opsJ_nil ?_
  (simp only [QJ.then, QJ.inBlock, if_true, if_false, reduceIte, Nat.reduceEqDiff])
  ((refine wpJ_cond (by rfl) ?_; simp only [if_true, if_false, reduceIte, Bool.false_eq_true]))
  ((first | refine wpJ_seq ?_ | refine wpJ_block ?_ | refine wpJ_skip ?_ | refine wpJ_label ?_ | refine wpJ_ret ?_ | refine wpJ_exit ?_ | refine opsJ_nil ?_))
  (simp only [QJ.then, QJ.inBlock, if_true, if_false, reduceIte, Nat.reduceEqDiff])
  ((first | refine wpJ_seq ?_ | refine wpJ_block ?_ | refine wpJ_skip ?_ | refine wpJ_label ?_ | refine wpJ_ret ?_ | refine wpJ_exit ?_ | refine opsJ_nil ?_))
  ((refine wpJ_region ?_; simp only [List.size_toArray, List.length_cons, List.length_nil, Nat.reduceAdd, Nat.zero_add, List.range, List.range.loop]))
  ((refine opsJ_pure rfl (by rfl) (fun w => run_eqv (fun K hK => by go_simp; exact hK)) (fun w => by simp [go_sem]) ?_; try walk_nrm))
  refine opsJ_nil ?_
  (simp only [QJ.then, QJ.inBlock, if_true, if_false, reduceIte, Nat.reduceEqDiff])
  ((first | refine wpJ_seq ?_ | refine wpJ_block ?_ | refine wpJ_skip ?_ | refine wpJ_label ?_ | refine wpJ_ret ?_ | refine wpJ_exit ?_ | refine opsJ_nil ?_))
  ((first | refine wpJ_seq ?_ | refine wpJ_block ?_ | refine wpJ_skip ?_ | refine wpJ_label ?_ | refine wpJ_ret ?_ | refine wpJ_exit ?_ | refine opsJ_nil ?_))
  ((refine wpJ_region ?_; simp only [List.size_toArray, List.length_cons, List.length_nil, Nat.reduceAdd, Nat.zero_add, List.range, List.range.loop]))
  ((refine opsJ_pure rfl (by rfl) (fun w => run_eqv (fun K hK => by go_simp; exact hK)) (fun w => by simp [go_sem]) ?_; try walk_nrm))
  ((refine opsJ_pure rfl (by rfl) (fun w => run_eqv (fun K hK => by go_simp; exact hK)) (fun w => by simp [go_sem]) ?_; try walk_nrm))
  ((refine opsJ_pure rfl (by rfl) (fun w => run_eqv (fun K hK => by go_simp; exact hK)) (fun w => by simp [go_sem]) ?_; try walk_nrm))
  refine opsJ_nil ?_
  (simp only [QJ.then, QJ.inBlock, if_true, if_false, reduceIte, Nat.reduceEqDiff])
  refine wpJ_block ?_
  refine wpJ_loop (fun s' m' a => ∃ i z, s' = .out sh2 sf2 false none ∧ m' = m2 ∧ i ≤ n0 ∧ a = actS (.slice ba nA capA) (.slice bb nB capB) (.slice bv n0 cv) (.int .i64 (l : Int)) (.int .i64 (((agr (ofB x y) n0).2 : Nat) : Int)) (.bool ((agr (ofB x y) n0).1 && decide (l = 0))) (.int .i64 ((n0 : Nat) : Int)) (.int .i64 (((agr (ofB x y) i).2 : Nat) : Int)) (.int .i64 ((n0 : Nat) : Int)) (.int .i64 ((i : Nat) : Int)) z)
    (fun _ _ a => match a.tmps[47]? with
      | some (Value.int _ q) => n0 - q.toNat
      | _ => 0) ⟨0, _, rfl, rfl, Nat.zero_le _, actS_of _ rfl rfl rfl rfl rfl rfl rfl rfl rfl rfl rfl rfl⟩ ?_
  rintro _ _ _ ⟨i, z, rfl, rfl, hi, rfl⟩
  have hbig : n0 < 1000000000000 := by omega
  refine round_j hA hB hv hn1 hn2 hbig hi (fun z h => ?_) (fun z h => ?_)
  · subst h
    clear hl' hl
    (simp only [QJ.then, QJ.inBlock, if_true, if_false, reduceIte, Nat.reduceEqDiff])
    rw [actS_lit]
    ((first | refine wpJ_seq ?_ | refine wpJ_block ?_ | refine wpJ_skip ?_ | refine wpJ_label ?_ | refine wpJ_ret ?_ | refine wpJ_exit ?_ | refine opsJ_nil ?_))
    ((refine wpJ_region ?_; simp only [List.size_toArray, List.length_cons, List.length_nil, Nat.reduceAdd, Nat.zero_add, List.range, List.range.loop]))
    have hqle := agr_le (ofB x y) i
    by_cases hq : (agr (ofB x y) i).1 = true
    · have hq2 : (((agr (ofB x y) i).2 : Nat) : Int) = ((i : Nat) : Int) := by rw [(agr_iff _ _).1 hq]
      by_cases hl0 : l = 0
      · subst hl0
        rw [hq]
        ((refine opsJ_pure rfl (by rfl) (fun w => run_eqv (fun K hK => by go_simp; exact hK)) (fun w => by simp [go_sem]) ?_; try walk_nrm))
        ((refine opsJ_pure rfl (by rfl) (fun w => run_eqv (fun K hK => by go_simp; exact hK)) (fun w => by simp [go_sem]) ?_; try walk_nrm))
        ((refine opsJ_pure (v := (.bool true)) rfl (by rfl) (fun w => by go_simp; try (first | rfl | decide | (simp [*, n_sh, IntKind.wrap_u64, IntKind.wrap_u32, IntKind.wrap_i32, IntKind.wrap_i64] <;> omega))) (fun w => by simp [go_sem, *]) ?_; walk_nrm))
        ((refine opsJ_pure rfl (by rfl) (fun w => run_eqv (fun K hK => by go_simp; exact hK)) (fun w => by simp [go_sem]) ?_; try walk_nrm))
        ((refine opsJ_pure rfl (by rfl) (fun w => run_eqv (fun K hK => by go_simp; exact hK)) (fun w => by simp [go_sem]) ?_; try walk_nrm))
        ((refine opsJ_pure rfl (by rfl) (fun w => run_eqv (fun K hK => by go_simp; exact hK)) (fun w => by simp [go_sem]) ?_; try walk_nrm))
        ((refine opsJ_pure rfl (by rfl) (fun w => run_eqv (fun K hK => by go_simp; exact hK)) (fun w => by simp [go_sem]) ?_; try walk_nrm))
        ((refine opsJ_pure (v := (.bool true)) rfl (by rfl) (fun w => by go_simp; try (first | rfl | decide | (simp [*, n_sh, IntKind.wrap_u64, IntKind.wrap_u32, IntKind.wrap_i32, IntKind.wrap_i64] <;> omega))) (fun w => by simp [go_sem, *]) ?_; walk_nrm))
        ((refine opsJ_pure rfl (by rfl) (fun w => run_eqv (fun K hK => by go_simp; exact hK)) (fun w => by simp [go_sem]) ?_; try walk_nrm))
        ((refine opsJ_pure rfl (by rfl) (fun w => run_eqv (fun K hK => by go_simp; exact hK)) (fun w => by simp [go_sem]) ?_; try walk_nrm))
        ((refine opsJ_pure (v := (.bool true)) rfl (by rfl) (fun w => by go_simp; try (first | rfl | decide | (simp [*, n_sh, IntKind.wrap_u64, IntKind.wrap_u32, IntKind.wrap_i32, IntKind.wrap_i64] <;> omega))) (fun w => by simp [go_sem, *]) ?_; walk_nrm))
        ((refine opsJ_pure rfl (by rfl) (fun w => run_eqv (fun K hK => by go_simp; exact hK)) (fun w => by simp [go_sem]) ?_; try walk_nrm))
        ((refine opsJ_pure (v := (.bool true)) rfl (by rfl) (fun w => by go_simp; try (first | rfl | decide)) (fun w => by simp [go_sem, evEqb]) ?_; walk_nrm))
        ((refine opsJ_pure rfl (by rfl) (fun w => run_eqv (fun K hK => by go_simp; exact hK)) (fun w => by simp [go_sem]) ?_; try walk_nrm))
        ((refine opsJ_pure rfl (by rfl) (fun w => run_eqv (fun K hK => by go_simp; exact hK)) (fun w => by simp [go_sem]) ?_; try walk_nrm))
        refine opsJ_nil ?_
        (simp only [QJ.then, QJ.inBlock, if_true, if_false, reduceIte, Nat.reduceEqDiff])
        refine wpJ_ret ?_
        exact ⟨rfl, _, resultsJ_tmp Try.results6 _, ⟨_, _, rfl⟩, rfl, hx2⟩
      · have hl1 : ¬ ((l : Nat) : Int) = 0 := by omega
        rw [hq, decide_eq_false hl0]
        ((refine opsJ_pure rfl (by rfl) (fun w => run_eqv (fun K hK => by go_simp; exact hK)) (fun w => by simp [go_sem]) ?_; try walk_nrm))
        ((refine opsJ_pure rfl (by rfl) (fun w => run_eqv (fun K hK => by go_simp; exact hK)) (fun w => by simp [go_sem]) ?_; try walk_nrm))
        ((refine opsJ_pure (v := (.bool true)) rfl (by rfl) (fun w => by go_simp; try (first | rfl | decide | (simp [*, n_sh, IntKind.wrap_u64, IntKind.wrap_u32, IntKind.wrap_i32, IntKind.wrap_i64] <;> omega))) (fun w => by simp [go_sem, *]) ?_; walk_nrm))
        ((refine opsJ_pure rfl (by rfl) (fun w => run_eqv (fun K hK => by go_simp; exact hK)) (fun w => by simp [go_sem]) ?_; try walk_nrm))
        ((refine opsJ_pure rfl (by rfl) (fun w => run_eqv (fun K hK => by go_simp; exact hK)) (fun w => by simp [go_sem]) ?_; try walk_nrm))
        ((refine opsJ_pure rfl (by rfl) (fun w => run_eqv (fun K hK => by go_simp; exact hK)) (fun w => by simp [go_sem]) ?_; try walk_nrm))
        ((refine opsJ_pure rfl (by rfl) (fun w => run_eqv (fun K hK => by go_simp; exact hK)) (fun w => by simp [go_sem]) ?_; try walk_nrm))
        ((refine opsJ_pure (v := (.bool true)) rfl (by rfl) (fun w => by go_simp; try (first | rfl | decide | (simp [*, n_sh, IntKind.wrap_u64, IntKind.wrap_u32, IntKind.wrap_i32, IntKind.wrap_i64] <;> omega))) (fun w => by simp [go_sem, *]) ?_; walk_nrm))
        ((refine opsJ_pure rfl (by rfl) (fun w => run_eqv (fun K hK => by go_simp; exact hK)) (fun w => by simp [go_sem]) ?_; try walk_nrm))
        ((refine opsJ_pure rfl (by rfl) (fun w => run_eqv (fun K hK => by go_simp; exact hK)) (fun w => by simp [go_sem]) ?_; try walk_nrm))
        ((refine opsJ_pure (v := (.bool false)) rfl (by rfl) (fun w => by go_simp; try (first | rfl | decide | (simp [*, n_sh, IntKind.wrap_u64, IntKind.wrap_u32, IntKind.wrap_i32, IntKind.wrap_i64] <;> omega))) (fun w => by simp [go_sem, *]) ?_; walk_nrm))
        ((refine opsJ_pure rfl (by rfl) (fun w => run_eqv (fun K hK => by go_simp; exact hK)) (fun w => by simp [go_sem]) ?_; try walk_nrm))
        ((refine opsJ_pure (v := (.bool true)) rfl (by rfl) (fun w => by go_simp; try (first | rfl | decide)) (fun w => by simp [go_sem, evEqb]) ?_; walk_nrm))
        ((refine opsJ_pure rfl (by rfl) (fun w => run_eqv (fun K hK => by go_simp; exact hK)) (fun w => by simp [go_sem]) ?_; try walk_nrm))
        ((refine opsJ_pure rfl (by rfl) (fun w => run_eqv (fun K hK => by go_simp; exact hK)) (fun w => by simp [go_sem]) ?_; try walk_nrm))
        refine opsJ_nil ?_
        (simp only [QJ.then, QJ.inBlock, if_true, if_false, reduceIte, Nat.reduceEqDiff])
        refine wpJ_ret ?_
        exact ⟨rfl, _, resultsJ_tmp Try.results6 _, ⟨_, _, rfl⟩, rfl, hx2⟩
    · have hq1 : ¬ (((agr (ofB x y) i).2 : Nat) : Int) = ((i : Nat) : Int) := fun e => hq ((agr_iff _ _).2 (by omega))
      have hqf : (agr (ofB x y) i).1 = false := by simpa using hq
      rw [hqf]
      change OpsJ _ _ _ _ _ _ _ _ ⟨_, _⟩
      ((refine opsJ_pure rfl (by rfl) (fun w => run_eqv (fun K hK => by go_simp; exact hK)) (fun w => by simp [go_sem]) ?_; try walk_nrm))
      ((refine opsJ_pure rfl (by rfl) (fun w => run_eqv (fun K hK => by go_simp; exact hK)) (fun w => by simp [go_sem]) ?_; try walk_nrm))
      ((refine opsJ_pure (v := (.bool true)) rfl (by rfl) (fun w => by go_simp; try (first | rfl | decide | (simp [*, n_sh, IntKind.wrap_u64, IntKind.wrap_u32, IntKind.wrap_i32, IntKind.wrap_i64] <;> omega))) (fun w => by simp [go_sem, *]) ?_; walk_nrm))
      ((refine opsJ_pure rfl (by rfl) (fun w => run_eqv (fun K hK => by go_simp; exact hK)) (fun w => by simp [go_sem]) ?_; try walk_nrm))
      ((refine opsJ_pure rfl (by rfl) (fun w => run_eqv (fun K hK => by go_simp; exact hK)) (fun w => by simp [go_sem]) ?_; try walk_nrm))
      ((refine opsJ_pure rfl (by rfl) (fun w => run_eqv (fun K hK => by go_simp; exact hK)) (fun w => by simp [go_sem]) ?_; try walk_nrm))
      ((refine opsJ_pure rfl (by rfl) (fun w => run_eqv (fun K hK => by go_simp; exact hK)) (fun w => by simp [go_sem]) ?_; try walk_nrm))
      ((refine opsJ_pure (v := (.bool false)) rfl (by rfl) (fun w => by go_simp; try (first | rfl | decide | (simp [*, n_sh, IntKind.wrap_u64, IntKind.wrap_u32, IntKind.wrap_i32, IntKind.wrap_i64] <;> omega))) (fun w => by simp [go_sem, *]) ?_; walk_nrm))
      ((refine opsJ_pure rfl (by rfl) (fun w => run_eqv (fun K hK => by go_simp; exact hK)) (fun w => by simp [go_sem]) ?_; try walk_nrm))
      ((refine opsJ_unwanted rfl (by rfl) ?_; try walk_nrm))
      ((refine opsJ_unwanted rfl (by rfl) ?_; try walk_nrm))
      ((refine opsJ_pure rfl (by rfl) (fun w => run_eqv (fun K hK => by go_simp; exact hK)) (fun w => by simp [go_sem]) ?_; try walk_nrm))
      ((refine opsJ_pure (v := (.bool true)) rfl (by rfl) (fun w => by go_simp; try (first | rfl | decide)) (fun w => by simp [go_sem, evEqb]) ?_; walk_nrm))
      ((refine opsJ_pure rfl (by rfl) (fun w => run_eqv (fun K hK => by go_simp; exact hK)) (fun w => by simp [go_sem]) ?_; try walk_nrm))
      ((refine opsJ_pure rfl (by rfl) (fun w => run_eqv (fun K hK => by go_simp; exact hK)) (fun w => by simp [go_sem]) ?_; try walk_nrm))
      refine opsJ_nil ?_
      (simp only [QJ.then, QJ.inBlock, if_true, if_false, reduceIte, Nat.reduceEqDiff])
      refine wpJ_ret ?_
      exact ⟨rfl, _, resultsJ_tmp Try.results6 _, ⟨_, _, rfl⟩, rfl, hx2⟩
  · change _ ∧ _
    refine ⟨⟨i + 1, z, rfl, rfl, h, rfl⟩, ?_⟩
    show n0 - (((i + 1 : Nat) : Int)).toNat < n0 - (((i : Nat) : Int)).toNat
    omega
end
end Go.Proofs.Ytafnbmokegomaaa
