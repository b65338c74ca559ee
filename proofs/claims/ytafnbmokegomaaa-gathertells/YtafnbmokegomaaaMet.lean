/-
  A CALL OF A FUNCTION VALUE; the two closures that meet is handed.
-/
import Derived.Test.YtafnbmokegomaaaFns
set_option linter.unusedSimpArgs false
set_option linter.unusedVariables false
set_option linter.unusedSectionVars false
namespace Go.Proofs.Ytafnbmokegomaaa
open Go.Conc Go.RowKit

section
variable {P : Program} [Io] {Fin : Value → World → Prop} {fn : FuncId} {Q : QJ} {s : Gh} {m : PM} {a : Act}

theorem run_call_value {o : Oper} {x : Operand} {f : FuncId} {cap : Array Value} {g : Func} {args : Array Operand} {ats : Array TypeId} (hop : o.op = .call { callee := .value x, args, argTypes := ats }) (hx : a.eval x = .func (.func f) #[] cap)
    (hf : P.funcs[f]? = some g) (hname : (g.name == "runtime.NumGoroutine") = false) (hb : g.body.isNone = false) (w : World) (es : Array Event) :
    (execOp a.eval o).run P w = .ok (.enter f (args.map a.eval ++ cap)) w ∧ (execOp a.eval o).events P w es = es := by
  have h1 : ¬ g.name = "runtime.NumGoroutine" := by simpa using hname
  have h2 : ¬ g.body = none := by cases hx : g.body <;> simp_all
  constructor
  · unfold execOp
    simp [hop, resolve, Deferred.ofValue, invoke, callFunc, hf, h1, h2, hx]
  · unfold execOp
    simp [hop, resolve, Deferred.ofValue, invoke, callFunc, hf, h1, h2, hx, Sem.events_bind]

/-- Through the call of a function value. -/
theorem JM.callV {b : Frame} {k : List Item} {cs : List Frame} {ops : Array Oper} {i : Nat} {rest : List Nat} {o : Oper} {x : Operand} {f : FuncId} {cap : Array Value} {args : Array Operand} {ats : Array TypeId} {Post : Gh → PM → Value → Prop}
    (ho : ops[i]? = some o) (hw : Region.wanted o (yielded ops a.tmps) = true) (hk : b.kind ≠ .early) (hop : o.op = .call { callee := .value x, args, argTypes := ats }) (hx : a.eval x = .func (.func f) #[] cap)
    (hcall : CallsJ P Fin f (args.map a.eval ++ cap) s m Post)
    (hnext : ∀ s' m' v, Post s' m' v → JM P Fin s' m' (G (b.at (a.put o.dst v) (.inRegion ops rest :: k)) cs)) :
    JM P Fin s m (G (b.at a (.inRegion ops (i :: rest) :: k)) cs) := by
  obtain ⟨fn, c, hf, hname, hbody, hwp⟩ := hcall
  have hfin : ∀ v, (b.at a (.inRegion ops (i :: rest) :: k)).finish v = b.at (a.put o.dst v) (.inRegion ops rest :: k) := fun v => by rw [Frame.finish_at, ho]; rfl
  have hleave : ∀ (s' : Gh) (m' : PM) (a' : Act) (todo : List Item), (a'.defers = [] ∧ ∃ v, ResultsJ P fn a'.tmps v ∧ Post s' m' v) →
      JM P Fin s' m' (G { (base f).at a' todo with mode := .returning } (b.at a (.inRegion ops (i :: rest) :: k) :: cs)) := by
    rintro s' m' a' todo ⟨hd, v, hr, hp⟩
    refine .quiet rfl (fun w => ?_) (hnext s' m' v hp)
    rw [stepG_leave (b := base f) rfl hd hf (hr w).1 (hr w).2, hfin]
  have hb' : fn.body.isNone = false := by rw [hbody]; rfl
  refine .quiet rfl (g' := G ((base f).at { tmps := (args.map a.eval ++ cap) ++ Array.replicate (fn.ntmps - (args.map a.eval ++ cap).size) undef, defers := [] } [.code c]) (b.at a (.inRegion ops (i :: rest) :: k) :: cs)) (fun w => ?_) ?_
  · obtain ⟨e1, e2⟩ := run_call_value (P := P) hop hx hf hname hb' w #[]
    rw [stepG_enter ho hw hk e1, enter_at _ hf hbody]
    have : listed P b.fn a o w = #[] := by unfold listed; rw [e2]; exact seen_none P _
    rw [this]
  · refine hwp (base f) [] _ rfl (by simp [base]) fun s' m' e a' q => ?_
    cases e with
    | normal => exact .quiet rfl (fun _ => stepG_end) (hleave s' m' a' [] q)
    | ret => exact fun todo => hleave s' m' a' todo q
    | exit id => exact q.elim
    | goto l => exact q.elim
    | panic ch => exact q.elim
    | outgrown => exact q.elim
end


section
variable [Io] {Fin : Value → World → Prop}
theorem wrapI {x : Int} (h : -9223372036854775808 ≤ x) (h' : x < 9223372036854775808) : IntKind.i64.wrap x = x := by
  rw [IntKind.wrap_i64]; omega
/-- a variable of its own: a bool, a number -/
def bC (b : Bool) : Array Value := #[.bool b]
def nC (n : Int) : Array Value := #[.int .i64 n]

set_option maxRecDepth 100000 in
set_option maxHeartbeats 1600000 in
/-- Agree's closure. -/
theorem met_agree (s : Gh) (m : PM) (x y : Rt) (bb bn : Nat) (al : Bool) (n : Int) (hb : m bb = some (.cells (bC al) 4 (0, 0))) (hn : m bn = some (.cells (nC n) 3 (0, 0))) (hne : bb ≠ bn) (h0 : 0 ≤ n) (h1 : n < 4611686018427387904) :
    CallsJ Try.prog Fin 11 #[.agg x.cs.toArray, .agg y.cs.toArray, .pointer (some ⟨bb, 0, none⟩), .pointer (some ⟨bn, 0, none⟩)] s m
      fun s' m' v => s' = s ∧ m' bb = some (.cells (bC (al && x.eq y)) 4 (0, 0)) ∧ m' bn = some (.cells (nC (if al && x.eq y then n + 1 else n)) 3 (0, 0)) ∧ ExtBut (fun β => β = bb ∨ β = bn) m m' := by
  ((refine callsJ_of Try.func11 (by rfl) rfl ?_; simp only [Try.ntmps11, List.size_toArray, List.length_cons, List.length_nil, Nat.reduceAdd, Nat.reduceSub, Array.replicate_succ, Array.replicate_zero, List.push_toArray, List.append_toArray, List.nil_append, List.cons_append]))
  ((first | refine wpJ_seq ?_ | refine wpJ_block ?_ | refine wpJ_skip ?_ | refine wpJ_label ?_ | refine wpJ_ret ?_ | refine wpJ_exit ?_ | refine opsJ_nil ?_))
  ((refine wpJ_region ?_; simp only [List.size_toArray, List.length_cons, List.length_nil, Nat.reduceAdd, Nat.zero_add, List.range, List.range.loop]))
  ((refine opsJ_new rfl (by rfl) (f := fun γ => (.pointer (some ⟨γ, 0, none⟩))) (ob := (.cells x.cs.toArray 25)) (fun w => by go_simp) (fun w => by simp [go_sem]) (fun γ hγ hmγ => ?_); try walk_nrm))
  have k1 : γ ≠ bb := fun e => by subst e; rw [hb] at hmγ; cases hmγ
  have k2 : γ ≠ bn := fun e => by subst e; rw [hn] at hmγ; cases hmγ
  have e1 : (m.set γ (.cells x.cs.toArray 25)) γ = some (.cells x.cs.toArray 25 (0, 0)) := PM.set_same _ _ _
  have eb : (m.set γ (.cells x.cs.toArray 25)) bb = some (.cells (bC al) 4 (0, 0)) := by rw [PM.set_ne _ _ k1.symm]; exact hb
  have en : (m.set γ (.cells x.cs.toArray 25)) bn = some (.cells (nC n) 3 (0, 0)) := by rw [PM.set_ne _ _ k2.symm]; exact hn
  have hx : Ext m (m.set γ (.cells x.cs.toArray 25)) := Ext.set hmγ _
  generalize (m.set γ (.cells x.cs.toArray 25)) = m1 at e1 eb en hx ⊢
  ((refine opsJ_new rfl (by rfl) (f := fun δ => (.pointer (some ⟨δ, 0, none⟩))) (ob := (.cells y.cs.toArray 25)) (fun w => by go_simp) (fun w => by simp [go_sem]) (fun δ hδ hmδ => ?_); try walk_nrm))
  have k3 : δ ≠ bb := fun e => by subst e; rw [eb] at hmδ; cases hmδ
  have k4 : δ ≠ bn := fun e => by subst e; rw [en] at hmδ; cases hmδ
  have k5 : δ ≠ γ := fun e => by subst e; rw [e1] at hmδ; cases hmδ
  have f1 : (m1.set δ (.cells y.cs.toArray 25)) γ = some (.cells x.cs.toArray 25 (0, 0)) := by rw [PM.set_ne _ _ k5.symm]; exact e1
  have f2 : (m1.set δ (.cells y.cs.toArray 25)) δ = some (.cells y.cs.toArray 25 (0, 0)) := PM.set_same _ _ _
  have fb : (m1.set δ (.cells y.cs.toArray 25)) bb = some (.cells (bC al) 4 (0, 0)) := by rw [PM.set_ne _ _ k3.symm]; exact eb
  have fn : (m1.set δ (.cells y.cs.toArray 25)) bn = some (.cells (nC n) 3 (0, 0)) := by rw [PM.set_ne _ _ k4.symm]; exact en
  replace hx : Ext m (m1.set δ (.cells y.cs.toArray 25)) := hx.trans (Ext.set hmδ _)
  generalize (m1.set δ (.cells y.cs.toArray 25)) = m2 at f1 f2 fb fn hx ⊢
  clear e1 eb en hmδ hmγ
  ((first | refine wpJ_seq ?_ | refine wpJ_block ?_ | refine wpJ_skip ?_ | refine wpJ_label ?_ | refine wpJ_ret ?_ | refine wpJ_exit ?_ | refine opsJ_nil ?_))
  (simp only [QJ.then, QJ.inBlock, if_true, if_false, reduceIte, Nat.reduceEqDiff])
  ((first | refine wpJ_seq ?_ | refine wpJ_block ?_ | refine wpJ_skip ?_ | refine wpJ_label ?_ | refine wpJ_ret ?_ | refine wpJ_exit ?_ | refine opsJ_nil ?_))
  ((refine wpJ_region ?_; simp only [List.size_toArray, List.length_cons, List.length_nil, Nat.reduceAdd, Nat.zero_add, List.range, List.range.loop]))
  ((refine opsJ_ld (v := (.bool al)) rfl (by rfl) rfl rfl fb (by rfl) Try.underlying4 rfl ?_; try walk_nrm))
  ((refine opsJ_pure rfl (by rfl) (fun w => run_eqv (fun K hK => by go_simp; exact hK)) (fun w => by simp [go_sem]) ?_; try walk_nrm))
  cases al with
  | false =>
    ((refine opsJ_unwanted rfl (by rfl) ?_; try walk_nrm))
    ((refine opsJ_unwanted rfl (by rfl) ?_; try walk_nrm))
    ((refine opsJ_unwanted rfl (by rfl) ?_; try walk_nrm))
    ((refine opsJ_pure rfl (by rfl) (fun w => run_eqv (fun K hK => by go_simp; exact hK)) (fun w => by simp [go_sem]) ?_; try walk_nrm))
    ((refine opsJ_st (v := (.bool false)) rfl (by rfl) rfl rfl rfl fb (of_decide_eq_true rfl) rfl size4 ?_; try walk_nrm))
    have p1 : (bC false).setIfInBounds 0 (.bool false) = bC false := rfl
    rw [p1]
    have g1 : (m2.set bb (.cells (bC false) 4 (0, 0))) bb = some (.cells (bC false) 4 (0, 0)) := PM.set_same _ _ _
    have g2 : (m2.set bb (.cells (bC false) 4 (0, 0))) bn = some (.cells (nC n) 3 (0, 0)) := by rw [PM.set_ne _ _ hne.symm]; exact fn
    have hx' : ExtBut (fun β => β = bb ∨ β = bn) m (m2.set bb (.cells (bC false) 4 (0, 0))) := fun β o h e => by rw [PM.set_ne _ _ (fun e => h (.inl e))]; exact hx β o e
    generalize (m2.set bb (.cells (bC false) 4 (0, 0))) = m3 at g1 g2 hx' ⊢
    ((first | refine wpJ_seq ?_ | refine wpJ_block ?_ | refine wpJ_skip ?_ | refine wpJ_label ?_ | refine wpJ_ret ?_ | refine wpJ_exit ?_ | refine opsJ_nil ?_))
    (simp only [QJ.then, QJ.inBlock, if_true, if_false, reduceIte, Nat.reduceEqDiff])
    ((first | refine wpJ_seq ?_ | refine wpJ_block ?_ | refine wpJ_skip ?_ | refine wpJ_label ?_ | refine wpJ_ret ?_ | refine wpJ_exit ?_ | refine opsJ_nil ?_))
    ((refine wpJ_region ?_; simp only [List.size_toArray, List.length_cons, List.length_nil, Nat.reduceAdd, Nat.zero_add, List.range, List.range.loop]))
    ((refine opsJ_ld (v := (.bool false)) rfl (by rfl) rfl rfl g1 (by rfl) Try.underlying4 rfl ?_; try walk_nrm))
    ((first | refine wpJ_seq ?_ | refine wpJ_block ?_ | refine wpJ_skip ?_ | refine wpJ_label ?_ | refine wpJ_ret ?_ | refine wpJ_exit ?_ | refine opsJ_nil ?_))
    (simp only [QJ.then, QJ.inBlock, if_true, if_false, reduceIte, Nat.reduceEqDiff])
    ((refine wpJ_cond (by rfl) ?_; simp only [if_true, if_false, reduceIte, Bool.false_eq_true]))
    ((first | refine wpJ_seq ?_ | refine wpJ_block ?_ | refine wpJ_skip ?_ | refine wpJ_label ?_ | refine wpJ_ret ?_ | refine wpJ_exit ?_ | refine opsJ_nil ?_))
    exact ⟨rfl, _, resultsJ_none Try.results11 _, rfl, g1, g2, hx'⟩
  | true =>
    ((refine opsJ_ldN rfl (by rfl) rfl rfl f1 (cs := x.cs) (fun j v h => by first | (rw [Nat.zero_add, List.getElem?_toArray]; exact h) | simpa using h) Try.underlying25 rfl size25 ?_; try walk_nrm))
    ((refine opsJ_ldN rfl (by rfl) rfl rfl f2 (cs := y.cs) (fun j v h => by first | (rw [Nat.zero_add, List.getElem?_toArray]; exact h) | simpa using h) Try.underlying25 rfl size25 ?_; try walk_nrm))
    ((refine opsJ_call rfl (by rfl) rfl (by walk_nrm; exact (same_j x y s m2)) ?_))
    rintro _ m3 _ ⟨rfl, rfl, hE⟩
    try walk_nrm
    ((refine opsJ_pure rfl (by rfl) (fun w => run_eqv (fun K hK => by go_simp; exact hK)) (fun w => by simp [go_sem]) ?_; try walk_nrm))
    ((refine opsJ_st (v := (.bool (x.eq y))) rfl (by rfl) rfl rfl rfl (hE _ _ fb) (of_decide_eq_true rfl) rfl size4 ?_; try walk_nrm))
    have p1 : (bC true).setIfInBounds 0 (.bool (x.eq y)) = bC (x.eq y) := rfl
    rw [p1]
    have g1 : (m3.set bb (.cells (bC (x.eq y)) 4 (0, 0))) bb = some (.cells (bC (x.eq y)) 4 (0, 0)) := PM.set_same _ _ _
    have g2 : (m3.set bb (.cells (bC (x.eq y)) 4 (0, 0))) bn = some (.cells (nC n) 3 (0, 0)) := by rw [PM.set_ne _ _ hne.symm]; exact hE _ _ fn
    have hx' : ExtBut (fun β => β = bb ∨ β = bn) m (m3.set bb (.cells (bC (x.eq y)) 4 (0, 0))) := fun β o h e => by rw [PM.set_ne _ _ (fun e => h (.inl e))]; exact hE _ _ (hx β o e)
    generalize (m3.set bb (.cells (bC (x.eq y)) 4 (0, 0))) = m4 at g1 g2 hx' ⊢
    ((first | refine wpJ_seq ?_ | refine wpJ_block ?_ | refine wpJ_skip ?_ | refine wpJ_label ?_ | refine wpJ_ret ?_ | refine wpJ_exit ?_ | refine opsJ_nil ?_))
    (simp only [QJ.then, QJ.inBlock, if_true, if_false, reduceIte, Nat.reduceEqDiff])
    ((first | refine wpJ_seq ?_ | refine wpJ_block ?_ | refine wpJ_skip ?_ | refine wpJ_label ?_ | refine wpJ_ret ?_ | refine wpJ_exit ?_ | refine opsJ_nil ?_))
    ((refine wpJ_region ?_; simp only [List.size_toArray, List.length_cons, List.length_nil, Nat.reduceAdd, Nat.zero_add, List.range, List.range.loop]))
    ((refine opsJ_ld (v := (.bool (x.eq y))) rfl (by rfl) rfl rfl g1 (by rfl) Try.underlying4 rfl ?_; try walk_nrm))
    ((first | refine wpJ_seq ?_ | refine wpJ_block ?_ | refine wpJ_skip ?_ | refine wpJ_label ?_ | refine wpJ_ret ?_ | refine wpJ_exit ?_ | refine opsJ_nil ?_))
    (simp only [QJ.then, QJ.inBlock, if_true, if_false, reduceIte, Nat.reduceEqDiff])
    have hcc : (true && x.eq y) = x.eq y := Bool.true_and _
    rw [hcc]
    generalize x.eq y = cc at g1 g2 hx' ⊢
    cases cc with
    | false =>
      ((refine wpJ_cond (by rfl) ?_; simp only [if_true, if_false, reduceIte, Bool.false_eq_true]))
      ((first | refine wpJ_seq ?_ | refine wpJ_block ?_ | refine wpJ_skip ?_ | refine wpJ_label ?_ | refine wpJ_ret ?_ | refine wpJ_exit ?_ | refine opsJ_nil ?_))
      exact ⟨rfl, _, resultsJ_none Try.results11 _, rfl, g1, g2, hx'⟩
    | true =>
      ((refine wpJ_cond (by rfl) ?_; simp only [if_true, if_false, reduceIte, Bool.false_eq_true]))
      ((refine wpJ_region ?_; simp only [List.size_toArray, List.length_cons, List.length_nil, Nat.reduceAdd, Nat.zero_add, List.range, List.range.loop]))
      ((refine opsJ_ld (v := (.int .i64 n)) rfl (by rfl) rfl rfl g2 (by rfl) Try.underlying3 rfl ?_; try walk_nrm))
      ((refine opsJ_pure rfl (by rfl) (fun w => run_eqv (fun K hK => by go_simp; exact hK)) (fun w => by simp [go_sem]) ?_; try walk_nrm))
      rw [wrapI (by omega) (by omega)]
      ((refine opsJ_st (v := (.int .i64 (n + 1))) rfl (by rfl) rfl rfl rfl g2 (of_decide_eq_true rfl) rfl size3 ?_; try walk_nrm))
      ((first | refine wpJ_seq ?_ | refine wpJ_block ?_ | refine wpJ_skip ?_ | refine wpJ_label ?_ | refine wpJ_ret ?_ | refine wpJ_exit ?_ | refine opsJ_nil ?_))
      refine ⟨rfl, _, resultsJ_none Try.results11 _, rfl, ?_, PM.set_same _ _ _, fun β o h e => ?_⟩
      · rw [PM.set_ne _ _ hne]; exact g1
      · rw [PM.set_ne _ _ (fun e => h (.inr e))]; exact hx' β o h e
end
end Go.Proofs.Ytafnbmokegomaaa
