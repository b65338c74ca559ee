/-
  meet's loop: what is done with what was received.
-/
import Derived.Test.YtafnbmokegomaaaLoop
set_option linter.unusedSimpArgs false
set_option linter.unusedVariables false
set_option linter.unnecessarySimpa false
set_option linter.unusedSectionVars false
namespace Go.Proofs.Ytafnbmokegomaaa
open Go.Conc Go.RowKit
open Go.ConcR (KK wgBlock WgAt stA smA rd wr)

def cthn : Code → Code
  | .cond _ x _ => x
  | c => c
def celse : Code → Code
  | .cond _ _ y => y
  | c => c
noncomputable def reg12 : Code := lft (cthn (rgt (inr part2)))

theorem wpJ_seq_l {P : Program} [Io] {Fin : Value → World → Prop} {fn : FuncId} {Q : QJ} {s : Gh} {m : PM} {a : Act} {c y : Code} (x : Code) (e : c = .seq x y) (h : wpJ P Fin fn x (QJ.then (fun s' m' a' => wpJ P Fin fn y Q s' m' a') Q) s m a) : wpJ P Fin fn c Q s m a := by
  rw [e]; exact wpJ_seq h

theorem wpJ_cond_l {P : Program} [Io] {Fin : Value → World → Prop} {fn : FuncId} {Q : QJ} {s : Gh} {m : PM} {a : Act} {c : Code} {o : Operand} {t : Bool} (x y : Code) (e : c = .cond o x y) (hc : a.eval o = .bool t) (h : wpJ P Fin fn (if t then x else y) Q s m a) : wpJ P Fin fn c Q s m a := by
  rw [e]; exact wpJ_cond hc h

section
variable [Io] {Fin : Value → World → Prop}
set_option maxRecDepth 100000 in
set_option maxHeartbeats 8000000 in
theorem part2_j {Q : QJ} {s : Gh} {m : PM} {A B M : Value} {W b0 b1 c0 c1 : Nat} {n0 n1 : Rt} {w0 w1 e0 e1 : Bool} {l : Int} {x : Nat → Value} {K : PM → Prop} (hb : b0 ≠ b1) (h0 : m b0 = some (.cells (stC c0 n0 w0 e0) 55 (0, 0))) (h1 : m b1 = some (.cells (stC c1 n1 w1 e1) 55 (0, 0)))
    (hl : 0 ≤ l ∧ l < 4611686018427387904)
    (hP : w0 = true → w1 = true → ∀ x', wpJ Try.prog Fin 10 reg12 (QJ.then (fun s' m' a' => s' = s ∧ (∃ x'', a' = actL A B M W b0 b1 l x'') ∧ m' b0 = some (.cells (stC c0 n0 w0 e0) 55 (0, 0)) ∧ m' b1 = some (.cells (stC c1 n1 w1 e1) 55 (0, 0)) ∧ K m') (fun _ _ _ _ => False)) s m (actL A B M W b0 b1 l x'))
    (hP' : w0 = true → w1 = true → ∀ m' m'' x', K m' → m'' b0 = some (.cells (stC c0 n0 false e0) 55 (0, 0)) → m'' b1 = some (.cells (stC c1 n1 false e1) 55 (0, 0)) → ExtBut (fun β => β = b0 ∨ β = b1) m' m'' → Q s m'' .normal (actL A B M W b0 b1 l x'))
    (hE : (w0 && w1) = false → e0 = true → e1 = true → ∀ x', Q s m (.exit 0) (actL A B M W b0 b1 l x'))
    (hL : (w0 && w1) = false → (e0 && e1) = false → (e0 && w1 || e1 && w0) = true → ∀ m'' x', m'' b0 = some (.cells (stC c0 n0 false e0) 55 (0, 0)) → m'' b1 = some (.cells (stC c1 n1 false e1) 55 (0, 0)) → ExtBut (fun β => β = b0 ∨ β = b1) m m'' → Q s m'' .normal (actL A B M W b0 b1 (l + 1) x'))
    (hN : (w0 && w1) = false → (e0 && e1) = false → (e0 && w1 || e1 && w0) = false → ∀ x', Q s m .normal (actL A B M W b0 b1 l x')) :
    wpJ Try.prog Fin 10 part2 Q s m (actL A B M W b0 b1 l x) := by
  have put2 : ∀ (m0 : PM) (w0 w1 : Bool), m0 b0 = some (.cells (stC c0 n0 w0 e0) 55 (0, 0)) → m0 b1 = some (.cells (stC c1 n1 w1 e1) 55 (0, 0)) →
      let m1 := m0.set b0 (.cells ((stC c0 n0 w0 e0).setIfInBounds 8 (.bool false)) 55 (0, 0)); let m2 := m1.set b1 (.cells ((stC c1 n1 w1 e1).setIfInBounds 8 (.bool false)) 55 (0, 0))
      m1 b1 = some (.cells (stC c1 n1 w1 e1) 55 (0, 0)) ∧ m2 b0 = some (.cells (stC c0 n0 false e0) 55 (0, 0)) ∧ m2 b1 = some (.cells (stC c1 n1 false e1) 55 (0, 0)) ∧ ExtBut (fun β => β = b0 ∨ β = b1) m0 m2 := by
    intro m0 w0 w1 k0 k1
    refine ⟨?_, ?_, PM.set_same _ _ _, fun β o hn e => ?_⟩
    · rw [PM.set_ne _ _ hb.symm]; exact k1
    · rw [PM.set_ne _ _ hb]; exact PM.set_same _ _ _
    · rw [PM.set_ne _ _ (fun h => hn (.inr h)), PM.set_ne _ _ (fun h => hn (.inl h))]; exact e
  have part13 : ∀ (l' : Int) (m0 : PM) (w0 w1 : Bool) (x0 : Nat → Value), m0 b0 = some (.cells (stC c0 n0 w0 e0) 55 (0, 0)) → m0 b1 = some (.cells (stC c1 n1 w1 e1) 55 (0, 0)) → (∀ m2 x', m2 b0 = some (.cells (stC c0 n0 false e0) 55 (0, 0)) → m2 b1 = some (.cells (stC c1 n1 false e1) 55 (0, 0)) → ExtBut (fun β => β = b0 ∨ β = b1) m0 m2 → Q s m2 .normal (actL A B M W b0 b1 l' x')) →
      wpJ Try.prog Fin 10 (rgt (cthn (rgt (inr part2)))) (QJ.inBlock 3 Q) s m0 (actL A B M W b0 b1 l' x0) := by
    intro l' m0 w0 w1 x0 k0 k1 hq
    obtain ⟨p1, p2, p3, p4⟩ := put2 m0 w0 w1 k0 k1
    rw [actL_lit]
    refine wpJ_region (id := 13) ?_
    simp only [List.size_toArray, List.length_cons, List.length_nil, Nat.reduceAdd, Nat.zero_add, List.range, List.range.loop]
    ((refine opsJ_pure rfl (by rfl) (fun w => run_eqv (fun K hK => by go_simp; exact hK)) (fun w => by simp [go_sem]) ?_; try walk_nrm))
    ((refine opsJ_pure rfl (by rfl) (fun w => run_eqv (fun K hK => by go_simp; exact hK)) (fun w => by simp [go_sem]) ?_; try walk_nrm))
    ((refine opsJ_pure rfl (by rfl) (fun w => run_eqv (fun K hK => by go_simp; exact hK)) (fun w => by simp [go_sem]) ?_; try walk_nrm))
    ((refine opsJ_pure rfl (by rfl) (fun w => run_eqv (fun K hK => by go_simp; exact hK)) (fun w => by simp [go_sem]) ?_; try walk_nrm))
    ((refine opsJ_st (v := (.bool false)) rfl (by rfl) rfl rfl rfl k0 (of_decide_eq_true rfl) rfl size4 ?_; try walk_nrm))
    ((refine opsJ_pure rfl (by rfl) (fun w => run_eqv (fun K hK => by go_simp; exact hK)) (fun w => by simp [go_sem]) ?_; try walk_nrm))
    ((refine opsJ_pure rfl (by rfl) (fun w => run_eqv (fun K hK => by go_simp; exact hK)) (fun w => by simp [go_sem]) ?_; try walk_nrm))
    ((refine opsJ_st (v := (.bool false)) rfl (by rfl) rfl rfl rfl p1 (of_decide_eq_true rfl) rfl size4 ?_; try walk_nrm))
    refine opsJ_nil ?_
    (simp only [QJ.then, QJ.inBlock, if_true, if_false, reduceIte, Nat.reduceEqDiff])
    exact q_actL (Q := fun a => Q s _ .normal a) (l := l') _ (by rfl) (by rfl) (by rfl) (by rfl) (by rfl) (by rfl) (by rfl) (by rfl) (by rfl) (by rfl) (by rfl) (by rfl) (hq _ _ p2 p3 p4)
  have hT : (w0 && w1) = false → ∀ x', wpJ Try.prog Fin 10 (celse (rgt (inr part2))) (QJ.inBlock 3 Q) s m (actL A B M W b0 b1 l x') := by
    intro hnw x'
    obtain ⟨p1, p2, p3, p4⟩ := put2 m w0 w1 h0 h1
    rw [actL_lit]
    refine wpJ_seq_l (lft (celse (rgt (inr part2)))) rfl ?_
    refine wpJ_region (id := 14) ?_
    simp only [List.size_toArray, List.length_cons, List.length_nil, Nat.reduceAdd, Nat.zero_add, List.range, List.range.loop]
    ((refine opsJ_pure rfl (by rfl) (fun w => run_eqv (fun K hK => by go_simp; exact hK)) (fun w => by simp [go_sem]) ?_; try walk_nrm))
    ((refine opsJ_pure rfl (by rfl) (fun w => run_eqv (fun K hK => by go_simp; exact hK)) (fun w => by simp [go_sem]) ?_; try walk_nrm))
    ((refine opsJ_pure rfl (by rfl) (fun w => run_eqv (fun K hK => by go_simp; exact hK)) (fun w => by simp [go_sem]) ?_; try walk_nrm))
    ((refine opsJ_ld (v := (.bool e0)) rfl (by rfl) rfl rfl h0 (by rfl) Try.underlying4 rfl ?_; try walk_nrm))
    ((refine opsJ_pure rfl (by rfl) (fun w => run_eqv (fun K hK => by go_simp; exact hK)) (fun w => by simp [go_sem]) ?_; try walk_nrm))
    cases e0 with
    | true =>
      cases e1 with
      | true =>
        ((refine opsJ_pure rfl (by rfl) (fun w => run_eqv (fun K hK => by go_simp; exact hK)) (fun w => by simp [go_sem]) ?_; try walk_nrm))
        ((refine opsJ_pure rfl (by rfl) (fun w => run_eqv (fun K hK => by go_simp; exact hK)) (fun w => by simp [go_sem]) ?_; try walk_nrm))
        ((refine opsJ_pure rfl (by rfl) (fun w => run_eqv (fun K hK => by go_simp; exact hK)) (fun w => by simp [go_sem]) ?_; try walk_nrm))
        ((refine opsJ_ld (v := (.bool true)) rfl (by rfl) rfl rfl h1 (by rfl) Try.underlying4 rfl ?_; try walk_nrm))
        ((refine opsJ_pure rfl (by rfl) (fun w => run_eqv (fun K hK => by go_simp; exact hK)) (fun w => by simp [go_sem]) ?_; try walk_nrm))
        ((refine opsJ_pure rfl (by rfl) (fun w => run_eqv (fun K hK => by go_simp; exact hK)) (fun w => by simp [go_sem]) ?_; try walk_nrm))
        refine opsJ_nil ?_
        (simp only [QJ.then, QJ.inBlock, if_true, if_false, reduceIte, Nat.reduceEqDiff])
        ((refine wpJ_cond (by rfl) ?_; simp only [if_true, if_false, reduceIte, Bool.false_eq_true]))
        refine wpJ_exit ?_
        (simp only [QJ.then, QJ.inBlock, if_true, if_false, reduceIte, Nat.reduceEqDiff])
        exact q_actL (Q := fun a => Q s _ (.exit 0) a) (l := l) _ (by rfl) (by rfl) (by rfl) (by rfl) (by rfl) (by rfl) (by rfl) (by rfl) (by rfl) (by rfl) (by rfl) (by rfl) (hE (by simpa using hnw) rfl rfl _)
      | false =>
        ((refine opsJ_pure rfl (by rfl) (fun w => run_eqv (fun K hK => by go_simp; exact hK)) (fun w => by simp [go_sem]) ?_; try walk_nrm))
        ((refine opsJ_pure rfl (by rfl) (fun w => run_eqv (fun K hK => by go_simp; exact hK)) (fun w => by simp [go_sem]) ?_; try walk_nrm))
        ((refine opsJ_pure rfl (by rfl) (fun w => run_eqv (fun K hK => by go_simp; exact hK)) (fun w => by simp [go_sem]) ?_; try walk_nrm))
        ((refine opsJ_ld (v := (.bool false)) rfl (by rfl) rfl rfl h1 (by rfl) Try.underlying4 rfl ?_; try walk_nrm))
        ((refine opsJ_pure rfl (by rfl) (fun w => run_eqv (fun K hK => by go_simp; exact hK)) (fun w => by simp [go_sem]) ?_; try walk_nrm))
        ((refine opsJ_pure rfl (by rfl) (fun w => run_eqv (fun K hK => by go_simp; exact hK)) (fun w => by simp [go_sem]) ?_; try walk_nrm))
        refine opsJ_nil ?_
        (simp only [QJ.then, QJ.inBlock, if_true, if_false, reduceIte, Nat.reduceEqDiff])
        ((refine wpJ_cond (by rfl) ?_; simp only [if_true, if_false, reduceIte, Bool.false_eq_true]))
        refine wpJ_seq ?_
        refine wpJ_seq ?_
        ((refine wpJ_region ?_; simp only [List.size_toArray, List.length_cons, List.length_nil, Nat.reduceAdd, Nat.zero_add, List.range, List.range.loop]))
        ((refine opsJ_pure rfl (by rfl) (fun w => run_eqv (fun K hK => by go_simp; exact hK)) (fun w => by simp [go_sem]) ?_; try walk_nrm))
        ((refine opsJ_pure rfl (by rfl) (fun w => run_eqv (fun K hK => by go_simp; exact hK)) (fun w => by simp [go_sem]) ?_; try walk_nrm))
        ((refine opsJ_pure rfl (by rfl) (fun w => run_eqv (fun K hK => by go_simp; exact hK)) (fun w => by simp [go_sem]) ?_; try walk_nrm))
        ((refine opsJ_ld (v := (.bool true)) rfl (by rfl) rfl rfl h0 (by rfl) Try.underlying4 rfl ?_; try walk_nrm))
        ((refine opsJ_pure rfl (by rfl) (fun w => run_eqv (fun K hK => by go_simp; exact hK)) (fun w => by simp [go_sem]) ?_; try walk_nrm))
        ((refine opsJ_pure rfl (by rfl) (fun w => run_eqv (fun K hK => by go_simp; exact hK)) (fun w => by simp [go_sem]) ?_; try walk_nrm))
        ((refine opsJ_pure rfl (by rfl) (fun w => run_eqv (fun K hK => by go_simp; exact hK)) (fun w => by simp [go_sem]) ?_; try walk_nrm))
        ((refine opsJ_pure rfl (by rfl) (fun w => run_eqv (fun K hK => by go_simp; exact hK)) (fun w => by simp [go_sem]) ?_; try walk_nrm))
        ((refine opsJ_ld (v := (.bool w1)) rfl (by rfl) rfl rfl h1 (by rfl) Try.underlying4 rfl ?_; try walk_nrm))
        ((refine opsJ_pure rfl (by rfl) (fun w => run_eqv (fun K hK => by go_simp; exact hK)) (fun w => by simp [go_sem]) ?_; try walk_nrm))
        ((refine opsJ_pure rfl (by rfl) (fun w => run_eqv (fun K hK => by go_simp; exact hK)) (fun w => by simp [go_sem]) ?_; try walk_nrm))
        refine opsJ_nil ?_
        (simp only [QJ.then, QJ.inBlock, if_true, if_false, reduceIte, Nat.reduceEqDiff])
        cases w1 with
        | true =>
          ((refine wpJ_cond (by rfl) ?_; simp only [if_true, if_false, reduceIte, Bool.false_eq_true]))
          refine wpJ_skip ?_
          (simp only [QJ.then, QJ.inBlock, if_true, if_false, reduceIte, Nat.reduceEqDiff])
          ((refine wpJ_cond (by rfl) ?_; simp only [if_true, if_false, reduceIte, Bool.false_eq_true]))
          ((first | refine wpJ_seq ?_ | refine wpJ_block ?_ | refine wpJ_skip ?_ | refine wpJ_label ?_ | refine wpJ_ret ?_ | refine wpJ_exit ?_ | refine opsJ_nil ?_))
          ((refine wpJ_region ?_; simp only [List.size_toArray, List.length_cons, List.length_nil, Nat.reduceAdd, Nat.zero_add, List.range, List.range.loop]))
          ((refine opsJ_pure rfl (by rfl) (fun w => run_eqv (fun K hK => by go_simp; exact hK)) (fun w => by simp [go_sem]) ?_; try walk_nrm))
          refine opsJ_pure (v := .int .i64 (l + 1)) rfl (by rfl) (fun w => by go_simp; rw [wrapI (by omega) (by omega)]) (fun w => by simp [go_sem]) ?_
          walk_nrm
          ((refine opsJ_pure rfl (by rfl) (fun w => run_eqv (fun K hK => by go_simp; exact hK)) (fun w => by simp [go_sem]) ?_; try walk_nrm))
          refine opsJ_nil ?_
          (simp only [QJ.then, QJ.inBlock, if_true, if_false, reduceIte, Nat.reduceEqDiff])
          ((refine wpJ_region ?_; simp only [List.size_toArray, List.length_cons, List.length_nil, Nat.reduceAdd, Nat.zero_add, List.range, List.range.loop]))
          ((refine opsJ_pure rfl (by rfl) (fun w => run_eqv (fun K hK => by go_simp; exact hK)) (fun w => by simp [go_sem]) ?_; try walk_nrm))
          ((refine opsJ_pure rfl (by rfl) (fun w => run_eqv (fun K hK => by go_simp; exact hK)) (fun w => by simp [go_sem]) ?_; try walk_nrm))
          ((refine opsJ_pure rfl (by rfl) (fun w => run_eqv (fun K hK => by go_simp; exact hK)) (fun w => by simp [go_sem]) ?_; try walk_nrm))
          ((refine opsJ_pure rfl (by rfl) (fun w => run_eqv (fun K hK => by go_simp; exact hK)) (fun w => by simp [go_sem]) ?_; try walk_nrm))
          ((refine opsJ_st (v := (.bool false)) rfl (by rfl) rfl rfl rfl h0 (of_decide_eq_true rfl) rfl size4 ?_; try walk_nrm))
          ((refine opsJ_pure rfl (by rfl) (fun w => run_eqv (fun K hK => by go_simp; exact hK)) (fun w => by simp [go_sem]) ?_; try walk_nrm))
          ((refine opsJ_pure rfl (by rfl) (fun w => run_eqv (fun K hK => by go_simp; exact hK)) (fun w => by simp [go_sem]) ?_; try walk_nrm))
          ((refine opsJ_st (v := (.bool false)) rfl (by rfl) rfl rfl rfl p1 (of_decide_eq_true rfl) rfl size4 ?_; try walk_nrm))
          refine opsJ_nil ?_
          (simp only [QJ.then, QJ.inBlock, if_true, if_false, reduceIte, Nat.reduceEqDiff])
          exact q_actL (Q := fun a => Q s _ .normal a) (l := l + 1) _ (by rfl) (by rfl) (by rfl) (by rfl) (by rfl) (by rfl) (by rfl) (by rfl) (by rfl) (by rfl) (by rfl) (by rfl) (hL (by simpa using hnw) (by simp) (by simp) _ _ p2 p3 p4)
        | false =>
          ((refine wpJ_cond (by rfl) ?_; simp only [if_true, if_false, reduceIte, Bool.false_eq_true]))
          ((refine wpJ_region ?_; simp only [List.size_toArray, List.length_cons, List.length_nil, Nat.reduceAdd, Nat.zero_add, List.range, List.range.loop]))
          ((refine opsJ_pure rfl (by rfl) (fun w => run_eqv (fun K hK => by go_simp; exact hK)) (fun w => by simp [go_sem]) ?_; try walk_nrm))
          ((refine opsJ_pure rfl (by rfl) (fun w => run_eqv (fun K hK => by go_simp; exact hK)) (fun w => by simp [go_sem]) ?_; try walk_nrm))
          ((refine opsJ_pure rfl (by rfl) (fun w => run_eqv (fun K hK => by go_simp; exact hK)) (fun w => by simp [go_sem]) ?_; try walk_nrm))
          ((refine opsJ_ld (v := (.bool false)) rfl (by rfl) rfl rfl h1 (by rfl) Try.underlying4 rfl ?_; try walk_nrm))
          ((refine opsJ_pure rfl (by rfl) (fun w => run_eqv (fun K hK => by go_simp; exact hK)) (fun w => by simp [go_sem]) ?_; try walk_nrm))
          ((refine opsJ_unwanted rfl (by rfl) ?_; try walk_nrm))
          ((refine opsJ_unwanted rfl (by rfl) ?_; try walk_nrm))
          ((refine opsJ_unwanted rfl (by rfl) ?_; try walk_nrm))
          ((refine opsJ_unwanted rfl (by rfl) ?_; try walk_nrm))
          ((refine opsJ_pure rfl (by rfl) (fun w => run_eqv (fun K hK => by go_simp; exact hK)) (fun w => by simp [go_sem]) ?_; try walk_nrm))
          ((refine opsJ_pure rfl (by rfl) (fun w => run_eqv (fun K hK => by go_simp; exact hK)) (fun w => by simp [go_sem]) ?_; try walk_nrm))
          refine opsJ_nil ?_
          (simp only [QJ.then, QJ.inBlock, if_true, if_false, reduceIte, Nat.reduceEqDiff])
          ((refine wpJ_cond (by rfl) ?_; simp only [if_true, if_false, reduceIte, Bool.false_eq_true]))
          refine wpJ_skip ?_
          (simp only [QJ.then, QJ.inBlock, if_true, if_false, reduceIte, Nat.reduceEqDiff])
          exact q_actL (Q := fun a => Q s _ .normal a) (l := l) _ (by rfl) (by rfl) (by rfl) (by rfl) (by rfl) (by rfl) (by rfl) (by rfl) (by rfl) (by rfl) (by rfl) (by rfl) (hN (by simpa using hnw) (by simp) (by simp) _)
    | false =>
      cases e1 with
      | true =>
        ((refine opsJ_unwanted rfl (by rfl) ?_; try walk_nrm))
        ((refine opsJ_unwanted rfl (by rfl) ?_; try walk_nrm))
        ((refine opsJ_unwanted rfl (by rfl) ?_; try walk_nrm))
        ((refine opsJ_unwanted rfl (by rfl) ?_; try walk_nrm))
        ((refine opsJ_pure rfl (by rfl) (fun w => run_eqv (fun K hK => by go_simp; exact hK)) (fun w => by simp [go_sem]) ?_; try walk_nrm))
        ((refine opsJ_pure rfl (by rfl) (fun w => run_eqv (fun K hK => by go_simp; exact hK)) (fun w => by simp [go_sem]) ?_; try walk_nrm))
        refine opsJ_nil ?_
        (simp only [QJ.then, QJ.inBlock, if_true, if_false, reduceIte, Nat.reduceEqDiff])
        ((refine wpJ_cond (by rfl) ?_; simp only [if_true, if_false, reduceIte, Bool.false_eq_true]))
        refine wpJ_seq ?_
        refine wpJ_seq ?_
        ((refine wpJ_region ?_; simp only [List.size_toArray, List.length_cons, List.length_nil, Nat.reduceAdd, Nat.zero_add, List.range, List.range.loop]))
        ((refine opsJ_pure rfl (by rfl) (fun w => run_eqv (fun K hK => by go_simp; exact hK)) (fun w => by simp [go_sem]) ?_; try walk_nrm))
        ((refine opsJ_pure rfl (by rfl) (fun w => run_eqv (fun K hK => by go_simp; exact hK)) (fun w => by simp [go_sem]) ?_; try walk_nrm))
        ((refine opsJ_pure rfl (by rfl) (fun w => run_eqv (fun K hK => by go_simp; exact hK)) (fun w => by simp [go_sem]) ?_; try walk_nrm))
        ((refine opsJ_ld (v := (.bool false)) rfl (by rfl) rfl rfl h0 (by rfl) Try.underlying4 rfl ?_; try walk_nrm))
        ((refine opsJ_pure rfl (by rfl) (fun w => run_eqv (fun K hK => by go_simp; exact hK)) (fun w => by simp [go_sem]) ?_; try walk_nrm))
        ((refine opsJ_unwanted rfl (by rfl) ?_; try walk_nrm))
        ((refine opsJ_unwanted rfl (by rfl) ?_; try walk_nrm))
        ((refine opsJ_unwanted rfl (by rfl) ?_; try walk_nrm))
        ((refine opsJ_unwanted rfl (by rfl) ?_; try walk_nrm))
        ((refine opsJ_pure rfl (by rfl) (fun w => run_eqv (fun K hK => by go_simp; exact hK)) (fun w => by simp [go_sem]) ?_; try walk_nrm))
        ((refine opsJ_pure rfl (by rfl) (fun w => run_eqv (fun K hK => by go_simp; exact hK)) (fun w => by simp [go_sem]) ?_; try walk_nrm))
        refine opsJ_nil ?_
        (simp only [QJ.then, QJ.inBlock, if_true, if_false, reduceIte, Nat.reduceEqDiff])
        ((refine wpJ_cond (by rfl) ?_; simp only [if_true, if_false, reduceIte, Bool.false_eq_true]))
        ((refine wpJ_region ?_; simp only [List.size_toArray, List.length_cons, List.length_nil, Nat.reduceAdd, Nat.zero_add, List.range, List.range.loop]))
        ((refine opsJ_pure rfl (by rfl) (fun w => run_eqv (fun K hK => by go_simp; exact hK)) (fun w => by simp [go_sem]) ?_; try walk_nrm))
        ((refine opsJ_pure rfl (by rfl) (fun w => run_eqv (fun K hK => by go_simp; exact hK)) (fun w => by simp [go_sem]) ?_; try walk_nrm))
        ((refine opsJ_pure rfl (by rfl) (fun w => run_eqv (fun K hK => by go_simp; exact hK)) (fun w => by simp [go_sem]) ?_; try walk_nrm))
        ((refine opsJ_ld (v := (.bool true)) rfl (by rfl) rfl rfl h1 (by rfl) Try.underlying4 rfl ?_; try walk_nrm))
        ((refine opsJ_pure rfl (by rfl) (fun w => run_eqv (fun K hK => by go_simp; exact hK)) (fun w => by simp [go_sem]) ?_; try walk_nrm))
        ((refine opsJ_pure rfl (by rfl) (fun w => run_eqv (fun K hK => by go_simp; exact hK)) (fun w => by simp [go_sem]) ?_; try walk_nrm))
        ((refine opsJ_pure rfl (by rfl) (fun w => run_eqv (fun K hK => by go_simp; exact hK)) (fun w => by simp [go_sem]) ?_; try walk_nrm))
        ((refine opsJ_pure rfl (by rfl) (fun w => run_eqv (fun K hK => by go_simp; exact hK)) (fun w => by simp [go_sem]) ?_; try walk_nrm))
        ((refine opsJ_ld (v := (.bool w0)) rfl (by rfl) rfl rfl h0 (by rfl) Try.underlying4 rfl ?_; try walk_nrm))
        ((refine opsJ_pure rfl (by rfl) (fun w => run_eqv (fun K hK => by go_simp; exact hK)) (fun w => by simp [go_sem]) ?_; try walk_nrm))
        ((refine opsJ_pure rfl (by rfl) (fun w => run_eqv (fun K hK => by go_simp; exact hK)) (fun w => by simp [go_sem]) ?_; try walk_nrm))
        refine opsJ_nil ?_
        (simp only [QJ.then, QJ.inBlock, if_true, if_false, reduceIte, Nat.reduceEqDiff])
        cases w0 with
        | true =>
          ((refine wpJ_cond (by rfl) ?_; simp only [if_true, if_false, reduceIte, Bool.false_eq_true]))
          ((first | refine wpJ_seq ?_ | refine wpJ_block ?_ | refine wpJ_skip ?_ | refine wpJ_label ?_ | refine wpJ_ret ?_ | refine wpJ_exit ?_ | refine opsJ_nil ?_))
          ((refine wpJ_region ?_; simp only [List.size_toArray, List.length_cons, List.length_nil, Nat.reduceAdd, Nat.zero_add, List.range, List.range.loop]))
          ((refine opsJ_pure rfl (by rfl) (fun w => run_eqv (fun K hK => by go_simp; exact hK)) (fun w => by simp [go_sem]) ?_; try walk_nrm))
          refine opsJ_pure (v := .int .i64 (l + 1)) rfl (by rfl) (fun w => by go_simp; rw [wrapI (by omega) (by omega)]) (fun w => by simp [go_sem]) ?_
          walk_nrm
          ((refine opsJ_pure rfl (by rfl) (fun w => run_eqv (fun K hK => by go_simp; exact hK)) (fun w => by simp [go_sem]) ?_; try walk_nrm))
          refine opsJ_nil ?_
          (simp only [QJ.then, QJ.inBlock, if_true, if_false, reduceIte, Nat.reduceEqDiff])
          ((refine wpJ_region ?_; simp only [List.size_toArray, List.length_cons, List.length_nil, Nat.reduceAdd, Nat.zero_add, List.range, List.range.loop]))
          ((refine opsJ_pure rfl (by rfl) (fun w => run_eqv (fun K hK => by go_simp; exact hK)) (fun w => by simp [go_sem]) ?_; try walk_nrm))
          ((refine opsJ_pure rfl (by rfl) (fun w => run_eqv (fun K hK => by go_simp; exact hK)) (fun w => by simp [go_sem]) ?_; try walk_nrm))
          ((refine opsJ_pure rfl (by rfl) (fun w => run_eqv (fun K hK => by go_simp; exact hK)) (fun w => by simp [go_sem]) ?_; try walk_nrm))
          ((refine opsJ_pure rfl (by rfl) (fun w => run_eqv (fun K hK => by go_simp; exact hK)) (fun w => by simp [go_sem]) ?_; try walk_nrm))
          ((refine opsJ_st (v := (.bool false)) rfl (by rfl) rfl rfl rfl h0 (of_decide_eq_true rfl) rfl size4 ?_; try walk_nrm))
          ((refine opsJ_pure rfl (by rfl) (fun w => run_eqv (fun K hK => by go_simp; exact hK)) (fun w => by simp [go_sem]) ?_; try walk_nrm))
          ((refine opsJ_pure rfl (by rfl) (fun w => run_eqv (fun K hK => by go_simp; exact hK)) (fun w => by simp [go_sem]) ?_; try walk_nrm))
          ((refine opsJ_st (v := (.bool false)) rfl (by rfl) rfl rfl rfl p1 (of_decide_eq_true rfl) rfl size4 ?_; try walk_nrm))
          refine opsJ_nil ?_
          (simp only [QJ.then, QJ.inBlock, if_true, if_false, reduceIte, Nat.reduceEqDiff])
          exact q_actL (Q := fun a => Q s _ .normal a) (l := l + 1) _ (by rfl) (by rfl) (by rfl) (by rfl) (by rfl) (by rfl) (by rfl) (by rfl) (by rfl) (by rfl) (by rfl) (by rfl) (hL (by simpa using hnw) (by simp) (by simp) _ _ p2 p3 p4)
        | false =>
          ((refine wpJ_cond (by rfl) ?_; simp only [if_true, if_false, reduceIte, Bool.false_eq_true]))
          refine wpJ_skip ?_
          (simp only [QJ.then, QJ.inBlock, if_true, if_false, reduceIte, Nat.reduceEqDiff])
          exact q_actL (Q := fun a => Q s _ .normal a) (l := l) _ (by rfl) (by rfl) (by rfl) (by rfl) (by rfl) (by rfl) (by rfl) (by rfl) (by rfl) (by rfl) (by rfl) (by rfl) (hN (by simpa using hnw) (by simp) (by simp) _)
      | false =>
        ((refine opsJ_unwanted rfl (by rfl) ?_; try walk_nrm))
        ((refine opsJ_unwanted rfl (by rfl) ?_; try walk_nrm))
        ((refine opsJ_unwanted rfl (by rfl) ?_; try walk_nrm))
        ((refine opsJ_unwanted rfl (by rfl) ?_; try walk_nrm))
        ((refine opsJ_pure rfl (by rfl) (fun w => run_eqv (fun K hK => by go_simp; exact hK)) (fun w => by simp [go_sem]) ?_; try walk_nrm))
        ((refine opsJ_pure rfl (by rfl) (fun w => run_eqv (fun K hK => by go_simp; exact hK)) (fun w => by simp [go_sem]) ?_; try walk_nrm))
        refine opsJ_nil ?_
        (simp only [QJ.then, QJ.inBlock, if_true, if_false, reduceIte, Nat.reduceEqDiff])
        ((refine wpJ_cond (by rfl) ?_; simp only [if_true, if_false, reduceIte, Bool.false_eq_true]))
        refine wpJ_seq ?_
        refine wpJ_seq ?_
        ((refine wpJ_region ?_; simp only [List.size_toArray, List.length_cons, List.length_nil, Nat.reduceAdd, Nat.zero_add, List.range, List.range.loop]))
        ((refine opsJ_pure rfl (by rfl) (fun w => run_eqv (fun K hK => by go_simp; exact hK)) (fun w => by simp [go_sem]) ?_; try walk_nrm))
        ((refine opsJ_pure rfl (by rfl) (fun w => run_eqv (fun K hK => by go_simp; exact hK)) (fun w => by simp [go_sem]) ?_; try walk_nrm))
        ((refine opsJ_pure rfl (by rfl) (fun w => run_eqv (fun K hK => by go_simp; exact hK)) (fun w => by simp [go_sem]) ?_; try walk_nrm))
        ((refine opsJ_ld (v := (.bool false)) rfl (by rfl) rfl rfl h0 (by rfl) Try.underlying4 rfl ?_; try walk_nrm))
        ((refine opsJ_pure rfl (by rfl) (fun w => run_eqv (fun K hK => by go_simp; exact hK)) (fun w => by simp [go_sem]) ?_; try walk_nrm))
        ((refine opsJ_unwanted rfl (by rfl) ?_; try walk_nrm))
        ((refine opsJ_unwanted rfl (by rfl) ?_; try walk_nrm))
        ((refine opsJ_unwanted rfl (by rfl) ?_; try walk_nrm))
        ((refine opsJ_unwanted rfl (by rfl) ?_; try walk_nrm))
        ((refine opsJ_pure rfl (by rfl) (fun w => run_eqv (fun K hK => by go_simp; exact hK)) (fun w => by simp [go_sem]) ?_; try walk_nrm))
        ((refine opsJ_pure rfl (by rfl) (fun w => run_eqv (fun K hK => by go_simp; exact hK)) (fun w => by simp [go_sem]) ?_; try walk_nrm))
        refine opsJ_nil ?_
        (simp only [QJ.then, QJ.inBlock, if_true, if_false, reduceIte, Nat.reduceEqDiff])
        ((refine wpJ_cond (by rfl) ?_; simp only [if_true, if_false, reduceIte, Bool.false_eq_true]))
        ((refine wpJ_region ?_; simp only [List.size_toArray, List.length_cons, List.length_nil, Nat.reduceAdd, Nat.zero_add, List.range, List.range.loop]))
        ((refine opsJ_pure rfl (by rfl) (fun w => run_eqv (fun K hK => by go_simp; exact hK)) (fun w => by simp [go_sem]) ?_; try walk_nrm))
        ((refine opsJ_pure rfl (by rfl) (fun w => run_eqv (fun K hK => by go_simp; exact hK)) (fun w => by simp [go_sem]) ?_; try walk_nrm))
        ((refine opsJ_pure rfl (by rfl) (fun w => run_eqv (fun K hK => by go_simp; exact hK)) (fun w => by simp [go_sem]) ?_; try walk_nrm))
        ((refine opsJ_ld (v := (.bool false)) rfl (by rfl) rfl rfl h1 (by rfl) Try.underlying4 rfl ?_; try walk_nrm))
        ((refine opsJ_pure rfl (by rfl) (fun w => run_eqv (fun K hK => by go_simp; exact hK)) (fun w => by simp [go_sem]) ?_; try walk_nrm))
        ((refine opsJ_unwanted rfl (by rfl) ?_; try walk_nrm))
        ((refine opsJ_unwanted rfl (by rfl) ?_; try walk_nrm))
        ((refine opsJ_unwanted rfl (by rfl) ?_; try walk_nrm))
        ((refine opsJ_unwanted rfl (by rfl) ?_; try walk_nrm))
        ((refine opsJ_pure rfl (by rfl) (fun w => run_eqv (fun K hK => by go_simp; exact hK)) (fun w => by simp [go_sem]) ?_; try walk_nrm))
        ((refine opsJ_pure rfl (by rfl) (fun w => run_eqv (fun K hK => by go_simp; exact hK)) (fun w => by simp [go_sem]) ?_; try walk_nrm))
        refine opsJ_nil ?_
        (simp only [QJ.then, QJ.inBlock, if_true, if_false, reduceIte, Nat.reduceEqDiff])
        ((refine wpJ_cond (by rfl) ?_; simp only [if_true, if_false, reduceIte, Bool.false_eq_true]))
        refine wpJ_skip ?_
        (simp only [QJ.then, QJ.inBlock, if_true, if_false, reduceIte, Nat.reduceEqDiff])
        exact q_actL (Q := fun a => Q s _ .normal a) (l := l) _ (by rfl) (by rfl) (by rfl) (by rfl) (by rfl) (by rfl) (by rfl) (by rfl) (by rfl) (by rfl) (by rfl) (by rfl) (hN (by simpa using hnw) (by simp) (by simp) _)
  rw [actL_lit]
  refine wpJ_block (id := 3) ?_
  refine wpJ_seq_l (lft (inr part2)) rfl ?_
  refine wpJ_region (id := 11) ?_
  simp only [List.size_toArray, List.length_cons, List.length_nil, Nat.reduceAdd, Nat.zero_add, List.range, List.range.loop]
  ((refine opsJ_pure rfl (by rfl) (fun w => run_eqv (fun K hK => by go_simp; exact hK)) (fun w => by simp [go_sem]) ?_; try walk_nrm))
  ((refine opsJ_pure rfl (by rfl) (fun w => run_eqv (fun K hK => by go_simp; exact hK)) (fun w => by simp [go_sem]) ?_; try walk_nrm))
  ((refine opsJ_pure rfl (by rfl) (fun w => run_eqv (fun K hK => by go_simp; exact hK)) (fun w => by simp [go_sem]) ?_; try walk_nrm))
  ((refine opsJ_ld (v := (.bool w0)) rfl (by rfl) rfl rfl h0 (by rfl) Try.underlying4 rfl ?_; try walk_nrm))
  ((refine opsJ_pure rfl (by rfl) (fun w => run_eqv (fun K hK => by go_simp; exact hK)) (fun w => by simp [go_sem]) ?_; try walk_nrm))
  cases w0 with
  | true =>
    ((refine opsJ_pure rfl (by rfl) (fun w => run_eqv (fun K hK => by go_simp; exact hK)) (fun w => by simp [go_sem]) ?_; try walk_nrm))
    ((refine opsJ_pure rfl (by rfl) (fun w => run_eqv (fun K hK => by go_simp; exact hK)) (fun w => by simp [go_sem]) ?_; try walk_nrm))
    ((refine opsJ_pure rfl (by rfl) (fun w => run_eqv (fun K hK => by go_simp; exact hK)) (fun w => by simp [go_sem]) ?_; try walk_nrm))
    ((refine opsJ_ld (v := (.bool w1)) rfl (by rfl) rfl rfl h1 (by rfl) Try.underlying4 rfl ?_; try walk_nrm))
    ((refine opsJ_pure rfl (by rfl) (fun w => run_eqv (fun K hK => by go_simp; exact hK)) (fun w => by simp [go_sem]) ?_; try walk_nrm))
    ((refine opsJ_pure rfl (by rfl) (fun w => run_eqv (fun K hK => by go_simp; exact hK)) (fun w => by simp [go_sem]) ?_; try walk_nrm))
    refine opsJ_nil ?_
    (simp only [QJ.then, QJ.inBlock, if_true, if_false, reduceIte, Nat.reduceEqDiff])
    cases w1 with
    | true =>
      refine wpJ_cond_l (t := true) (cthn (rgt (inr part2))) (celse (rgt (inr part2))) rfl (by rfl) ?_
      simp only [if_true]
      refine wpJ_seq_l reg12 rfl ?_
      refine wpJ_mono (q_actL (Q := fun a => wpJ Try.prog Fin 10 reg12 _ s m a) (l := l) _ (by rfl) (by rfl) (by rfl) (by rfl) (by rfl) (by rfl) (by rfl) (by rfl) (by rfl) (by rfl) (by rfl) (by rfl) (hP rfl rfl _)) fun s' m' e a' hq => ?_
      cases e with
      | normal =>
        obtain ⟨rfl, ⟨x'', rfl⟩, k0, k1, hK⟩ := hq
        exact part13 l m' true true x'' k0 k1 fun m2 x3 a1 a2 a3 => hP' rfl rfl m' m2 x3 hK a1 a2 a3
      | exit id => exact hq.elim
      | ret => exact hq.elim
      | goto l => exact hq.elim
      | panic ch => exact hq.elim
      | outgrown => exact hq.elim
    | false =>
      refine wpJ_cond_l (t := false) (cthn (rgt (inr part2))) (celse (rgt (inr part2))) rfl (by rfl) ?_
      simp only [if_false, Bool.false_eq_true]
      exact q_actL (Q := fun a => wpJ Try.prog Fin 10 (celse (rgt (inr part2))) (QJ.inBlock 3 Q) s m a) (l := l) _ (by rfl) (by rfl) (by rfl) (by rfl) (by rfl) (by rfl) (by rfl) (by rfl) (by rfl) (by rfl) (by rfl) (by rfl) (hT (by simp) _)
  | false =>
    ((refine opsJ_unwanted rfl (by rfl) ?_; try walk_nrm))
    ((refine opsJ_unwanted rfl (by rfl) ?_; try walk_nrm))
    ((refine opsJ_unwanted rfl (by rfl) ?_; try walk_nrm))
    ((refine opsJ_unwanted rfl (by rfl) ?_; try walk_nrm))
    ((refine opsJ_pure rfl (by rfl) (fun w => run_eqv (fun K hK => by go_simp; exact hK)) (fun w => by simp [go_sem]) ?_; try walk_nrm))
    ((refine opsJ_pure rfl (by rfl) (fun w => run_eqv (fun K hK => by go_simp; exact hK)) (fun w => by simp [go_sem]) ?_; try walk_nrm))
    refine opsJ_nil ?_
    (simp only [QJ.then, QJ.inBlock, if_true, if_false, reduceIte, Nat.reduceEqDiff])
    refine wpJ_cond_l (t := false) (cthn (rgt (inr part2))) (celse (rgt (inr part2))) rfl (by rfl) ?_
    simp only [if_false, Bool.false_eq_true]
    exact q_actL (Q := fun a => wpJ Try.prog Fin 10 (celse (rgt (inr part2))) (QJ.inBlock 3 Q) s m a) (l := l) _ (by rfl) (by rfl) (by rfl) (by rfl) (by rfl) (by rfl) (by rfl) (by rfl) (by rfl) (by rfl) (by rfl) (by rfl) (hT (by simp) _)
end
end Go.Proofs.Ytafnbmokegomaaa
