/-
  begin: a channel, the group's count, a sender; a stream.
-/
import Derived.Test.YtafnbmokegomaaaWgAdd
import Derived.Conc.Own2
set_option linter.unusedSimpArgs false
set_option linter.unusedVariables false
set_option linter.unusedSectionVars false
namespace Go.Proofs.Ytafnbmokegomaaa
open Go.Conc Go.RowKit
open Go.ConcR (KK wgBlock WgAt stA smA rd wr)

section
variable [Io] {Fin : Value → World → Prop} {fn : FuncId} {Q : QJ} {s : Gh} {m : PM} {a : Act} {ops : Array Oper} {i : Nat} {rest : List Nat} {o : Oper} {xs : Array Operand} {ats : Array TypeId}

theorem spawn_at {b : Frame} {k : List Item} {cs : List Frame} {f : FuncId} (ho : ops[i]? = some o) (hw : Region.wanted o (yielded ops a.tmps) = true) (hk : b.kind ≠ .early) (hop : o.op = .go { callee := .value (.func f), args := xs, argTypes := ats }) (w : World) :
    stepG Try.prog true (G (b.at a (.inRegion ops (i :: rest) :: k)) cs) w = .spawn (G (b.at (a.put o.dst undef) (.inRegion ops rest :: k)) cs) (born Try.prog (dcall f (xs.map a.eval))) w #[] := by
  have ef : a.eval (.func f) = .func (.func f) #[] #[] := rfl
  have hr : (execOp a.eval o).run Try.prog w = .ok (.spawn (dcall f (xs.map a.eval))) w := by
    unfold execOp
    simp [hop, resolve, Deferred.ofValue, ef, dcall]
  have he : (execOp a.eval o).events Try.prog w #[] = #[] := by
    unfold execOp
    simp [hop, resolve, Deferred.ofValue, ef, Sem.events_bind]
  rw [stepG_spawn ho hw hk hr rfl]
  congr 1
  unfold listed
  rw [he]; exact seen_none _ _

theorem opsJ_fork {sh sf : Nat → Prop} {W c : Nat} {n : Bool → Nat} {it : Bool → Nat → Value} {z : Value} {rows m' : PM} {f : FuncId} (ho : ops[i]? = some o) (hw : Region.wanted o (yielded ops a.tmps) = true) (hop : o.op = .go { callee := .value (.func f), args := xs, argTypes := ats })
    (hlt : ∀ β o, rows β = some o → β < W) (hrows : ∀ β o, rows β = some o → m β = some o) (hc : m c = some (.chan 64 #[] false 0 0 false)) (hcW : W < c) (hm : ∀ β o, m' β = some o → m β = some o ∧ β ≠ c ∧ rows β = none) (hsh : sf W)
    (hsnd : ∃ k, Snd (mkX Try.prog Fin sh W n it z rows) false c k (.snd 0) none (born Try.prog (dcall f (xs.map a.eval))))
    (h : OpsJ Try.prog Fin fn ops rest Q (.inn sh (mkX Try.prog Fin sh W n it z rows) (p0 c)) m' (a.put o.dst undef)) : OpsJ Try.prog Fin fn ops (i :: rest) Q (.out sh sf false (some (W, 1))) m a := by
  intro b k cs hb hk hc'
  exact .fork rfl hlt hrows hc hcW hm hsh ⟨_, _, fun w => spawn_at ho hw hk hop w, hsnd, h b k cs hb hk hc'⟩

theorem opsJ_go {sh : Nat → Prop} {X : Cfg} {p : Ph} {c : Nat} {m' : PM} {f : FuncId} (ho : ops[i]? = some o) (hw : Region.wanted o (yielded ops a.tmps) = true) (hop : o.op = .go { callee := .value (.func f), args := xs, argTypes := ats })
    (h2 : p.two = false) (ha : p.ad = true) (hd : p.df = false) (hpw : p.w = 0) (hN : X.N0 ≤ c) (hc : m c = some (.chan 64 #[] false 0 0 false)) (hm : ∀ β o, m' β = some o → m β = some o ∧ β ≠ c)
    (hsnd : ∃ k, Snd X true c k (.snd 0) none (born Try.prog (dcall f (xs.map a.eval))))
    (h : OpsJ Try.prog Fin fn ops rest Q (.inn sh X { p with two := true, c := updB p.c true c }) m' (a.put o.dst undef)) : OpsJ Try.prog Fin fn ops (i :: rest) Q (.inn sh X p) m a := by
  intro b k cs hb hk hc'
  exact .go h2 ha hd hpw rfl hN hc hm ⟨_, _, fun w => spawn_at ho hw hk hop w, fun _ _ => hsnd, h b k cs hb hk hc'⟩

theorem info25b : (Try.prog.info? 25).map (fun i => i.bytes) = some 40 := by kernel_rfl

theorem opsJ_chan (ho : ops[i]? = some o) (hw : Region.wanted o (yielded ops a.tmps) = true) {x : Operand} (hop : o.op = .makeChan 56 x) (hx : a.eval x = .int .i64 64) (h : ∀ β, s.low ≤ β → m β = none → OpsJ Try.prog Fin fn ops rest Q s (m.set β (.chan 64 #[] false 0 0 false)) (a.put o.dst (.chan (some β)))) :
    OpsJ Try.prog Fin fn ops (i :: rest) Q s m a := by
  cases hi : Try.prog.info? 25 with
  | none => have := info25b; rw [hi] at this; cases this
  | some ti =>
    have hb : ti.bytes = 40 := by have := info25b; rw [hi] at this; simpa using this
    have e1 := fun w => run_makeChan (P := Try.prog) (w := w) Try.underlying56 hi .i64 64 (by decide) (by rw [hb]; decide)
    have e2 := fun w es => events_makeChan (P := Try.prog) (w := w) Try.underlying56 hi .i64 64 (by decide) (by rw [hb]; decide) es
    refine opsJ_new ho hw (f := fun β => .chan (some β)) (ob := .chan 64 #[] false 0 0 false) (fun w => ?_) (fun w => ?_) h
    · unfold execOp
      simp only [hop, hx, Sem.run_bind]
      have : (Instr.makeChan 56 (.int .i64 64)).run Try.prog w = .ok (.chan (some w.heap.size)) (w.alloc (.chan 64 #[] false 0 0 false)) := e1 w
      rw [this]; rfl
    · unfold execOp
      simp only [hop, hx, Sem.events_bind]
      have h1 : (Instr.makeChan 56 (.int .i64 64)).run Try.prog w = .ok (.chan (some w.heap.size)) (w.alloc (.chan 64 #[] false 0 0 false)) := e1 w
      have h2 : (Instr.makeChan 56 (.int .i64 64)).events Try.prog w #[] = #[] := e2 w #[]
      rw [h1, h2]; rfl

/-- What is left where the rows are put by. -/
def PM.less (m rows : PM) : PM := fun γ => match rows γ with
  | none => m γ
  | some _ => none
theorem PM.less_some {m rows : PM} {γ : Nat} {o : Obj} : (m.less rows) γ = some o ↔ m γ = some o ∧ rows γ = none := by
  unfold PM.less
  cases h : rows γ <;> simp

/-- Nobody's Rt. -/
def r0 : Rt := ⟨0, 0, 0, false, 0, 0, 0⟩

set_option maxRecDepth 100000 in
set_option maxHeartbeats 2000000 in
/-- The first begin. -/
theorem begin1 {sh sf : Nat → Prop} {W : Nat} {n : Bool → Nat} {it : Bool → Nat → Value} {z : Value} {rows : PM} (row : Value) (m : PM) (hlt : ∀ β o, rows β = some o → β < W) (hrows : ∀ β o, rows β = some o → m β = some o) (hsh : sf W)
    (hsnd : ∀ c, W < c → ∃ k, Snd (mkX Try.prog Fin sh W n it z rows) false c k (.snd 0) none (born Try.prog (dcall 19 #[row, .chan (some c), .pointer (some ⟨W, 0, none⟩)]))) :
    CallsJ Try.prog Fin 14 #[row, .pointer (some ⟨W, 0, none⟩)] (.out sh sf false (some (W, 0))) m
      fun s' m' v => ∃ c β, s' = .inn sh (mkX Try.prog Fin sh W n it z rows) (p0 c) ∧ W < c ∧ v = .pointer (some ⟨β, 0, none⟩) ∧ m' β = some (.cells (stC c r0 false false) 55 (0, 0)) ∧ (∀ γ o, m' γ = some o → γ = β ∨ (m γ = some o ∧ rows γ = none)) ∧ (∀ γ o, m γ = some o → rows γ = none → m' γ = some o) ∧ m β = none := by
  ((refine callsJ_of Try.func14 (by rfl) rfl ?_; simp only [Try.ntmps14, List.size_toArray, List.length_cons, List.length_nil, Nat.reduceAdd, Nat.reduceSub, Array.replicate_succ, Array.replicate_zero, List.push_toArray, List.append_toArray, List.nil_append, List.cons_append]))
  ((first | refine wpJ_seq ?_ | refine wpJ_block ?_ | refine wpJ_skip ?_ | refine wpJ_label ?_ | refine wpJ_ret ?_ | refine wpJ_exit ?_ | refine opsJ_nil ?_))
  ((refine wpJ_region ?_; simp only [List.size_toArray, List.length_cons, List.length_nil, Nat.reduceAdd, Nat.zero_add, List.range, List.range.loop]))
  ((refine opsJ_pure rfl (by rfl) (fun w => run_eqv (fun K hK => by go_simp; exact hK)) (fun w => by simp [go_sem]) ?_; try walk_nrm))
  ((first | refine wpJ_seq ?_ | refine wpJ_block ?_ | refine wpJ_skip ?_ | refine wpJ_label ?_ | refine wpJ_ret ?_ | refine wpJ_exit ?_ | refine opsJ_nil ?_))
  (simp only [QJ.then, QJ.inBlock, if_true, if_false, reduceIte, Nat.reduceEqDiff])
  ((first | refine wpJ_seq ?_ | refine wpJ_block ?_ | refine wpJ_skip ?_ | refine wpJ_label ?_ | refine wpJ_ret ?_ | refine wpJ_exit ?_ | refine opsJ_nil ?_))
  ((refine wpJ_region ?_; simp only [List.size_toArray, List.length_cons, List.length_nil, Nat.reduceAdd, Nat.zero_add, List.range, List.range.loop]))
  refine opsJ_chan rfl (by rfl) rfl rfl fun c hc hmc => ?_
  walk_nrm
  ((refine opsJ_pure rfl (by rfl) (fun w => run_eqv (fun K hK => by go_simp; exact hK)) (fun w => by simp [go_sem]) ?_; try walk_nrm))
  ((first | refine wpJ_seq ?_ | refine wpJ_block ?_ | refine wpJ_skip ?_ | refine wpJ_label ?_ | refine wpJ_ret ?_ | refine wpJ_exit ?_ | refine opsJ_nil ?_))
  (simp only [QJ.then, QJ.inBlock, if_true, if_false, reduceIte, Nat.reduceEqDiff])
  ((first | refine wpJ_seq ?_ | refine wpJ_block ?_ | refine wpJ_skip ?_ | refine wpJ_label ?_ | refine wpJ_ret ?_ | refine wpJ_exit ?_ | refine opsJ_nil ?_))
  ((refine wpJ_region ?_; simp only [List.size_toArray, List.length_cons, List.length_nil, Nat.reduceAdd, Nat.zero_add, List.range, List.range.loop]))
  ((refine opsJ_pure rfl (by rfl) (fun w => run_eqv (fun K hK => by go_simp; exact hK)) (fun w => by simp [go_sem]) ?_; try walk_nrm))
  refine opsJ_callD rfl (by rfl) rfl (by walk_nrm; exact add_j (s := .out sh sf true (some (W, 0))) rfl rfl ctxOut _) ?_
  rintro s1 m1 _ ⟨rfl, rfl⟩
  walk_nrm
  ((first | refine wpJ_seq ?_ | refine wpJ_block ?_ | refine wpJ_skip ?_ | refine wpJ_label ?_ | refine wpJ_ret ?_ | refine wpJ_exit ?_ | refine opsJ_nil ?_))
  (simp only [QJ.then, QJ.inBlock, if_true, if_false, reduceIte, Nat.reduceEqDiff])
  ((first | refine wpJ_seq ?_ | refine wpJ_block ?_ | refine wpJ_skip ?_ | refine wpJ_label ?_ | refine wpJ_ret ?_ | refine wpJ_exit ?_ | refine opsJ_nil ?_))
  ((refine wpJ_region ?_; simp only [List.size_toArray, List.length_cons, List.length_nil, Nat.reduceAdd, Nat.zero_add, List.range, List.range.loop]))
  ((refine opsJ_pure rfl (by rfl) (fun w => run_eqv (fun K hK => by go_simp; exact hK)) (fun w => by simp [go_sem]) ?_; try walk_nrm))
  ((refine opsJ_pure rfl (by rfl) (fun w => run_eqv (fun K hK => by go_simp; exact hK)) (fun w => by simp [go_sem]) ?_; try walk_nrm))
  ((refine opsJ_pure rfl (by rfl) (fun w => run_eqv (fun K hK => by go_simp; exact hK)) (fun w => by simp [go_sem]) ?_; try walk_nrm))
  refine opsJ_fork (m' := m.less rows) rfl (by rfl) rfl hlt (fun β o e => ?_) (PM.set_same _ _ _) hc (fun β o e => ?_) hsh (by
    have := hsnd c hc
    simpa [Act.eval] using this) ?_
  · rw [PM.set_ne _ _ (fun h => by rw [h] at e; have := hrows _ _ e; rw [hmc] at this; cases this)]; exact hrows β o e
  · obtain ⟨e1, e2⟩ := PM.less_some.1 e
    have hne : β ≠ c := fun h => by rw [h, hmc] at e1; cases e1
    exact ⟨by rw [PM.set_ne _ _ hne]; exact e1, hne, e2⟩
  walk_nrm
  ((first | refine wpJ_seq ?_ | refine wpJ_block ?_ | refine wpJ_skip ?_ | refine wpJ_label ?_ | refine wpJ_ret ?_ | refine wpJ_exit ?_ | refine opsJ_nil ?_))
  (simp only [QJ.then, QJ.inBlock, if_true, if_false, reduceIte, Nat.reduceEqDiff])
  ((first | refine wpJ_seq ?_ | refine wpJ_block ?_ | refine wpJ_skip ?_ | refine wpJ_label ?_ | refine wpJ_ret ?_ | refine wpJ_exit ?_ | refine opsJ_nil ?_))
  ((refine wpJ_region ?_; simp only [List.size_toArray, List.length_cons, List.length_nil, Nat.reduceAdd, Nat.zero_add, List.range, List.range.loop]))
  ((refine opsJ_pure rfl (by rfl) (fun w => run_eqv (fun K hK => by go_simp; exact hK)) (fun w => by simp [go_sem]) ?_; try walk_nrm))
  ((refine opsJ_pure rfl (by rfl) (fun w => run_eqv (fun K hK => by go_simp; exact hK)) (fun w => by simp [go_sem]) ?_; try walk_nrm))
  refine opsJ_new rfl (by rfl) (f := fun β => .pointer (some ⟨β, 0, none⟩)) (ob := .cells (stC c r0 false false) 55) (fun w => by go_simp; rfl) (fun w => by simp [go_sem]) (fun β hβ hmβ => ?_)
  walk_nrm
  ((refine opsJ_pure rfl (by rfl) (fun w => run_eqv (fun K hK => by go_simp; exact hK)) (fun w => by simp [go_sem]) ?_; try walk_nrm))
  ((first | refine wpJ_seq ?_ | refine wpJ_block ?_ | refine wpJ_skip ?_ | refine wpJ_label ?_ | refine wpJ_ret ?_ | refine wpJ_exit ?_ | refine opsJ_nil ?_))
  (simp only [QJ.then, QJ.inBlock, if_true, if_false, reduceIte, Nat.reduceEqDiff])
  ((first | refine wpJ_seq ?_ | refine wpJ_block ?_ | refine wpJ_skip ?_ | refine wpJ_label ?_ | refine wpJ_ret ?_ | refine wpJ_exit ?_ | refine opsJ_nil ?_))
  refine ⟨rfl, _, resultsJ_tmp Try.results14 _, c, β, rfl, hc, rfl, PM.set_same _ _ _, fun γ o e => ?_, fun γ o e1 e2 => ?_, ?_⟩
  · by_cases h : γ = β
    · exact .inl h
    · rw [PM.set_ne _ _ h] at e
      exact .inr (PM.less_some.1 e)
  · have e' : (m.less rows) γ = some o := PM.less_some.2 ⟨e1, e2⟩
    rw [PM.set_ne _ _ (fun h => by rw [h, hmβ] at e'; cases e')]; exact e'
  · have hr : rows β = none := by
      cases e : rows β with
      | none => rfl
      | some o =>
        have h1 := hlt β o e
        have h2 : W ≤ β := hβ
        omega
    unfold PM.less at hmβ
    rw [hr] at hmβ
    exact hmβ

set_option maxRecDepth 100000 in
set_option maxHeartbeats 2000000 in
/-- The second begin. -/
theorem begin2 {sh : Nat → Prop} {W c0 : Nat} {n : Bool → Nat} {it : Bool → Nat → Value} {z : Value} {rows : PM} (row : Value) (m : PM) (hrows : ∀ β o, rows β = some o → β < W)
    (hsnd : ∀ c, W ≤ c → ∃ k, Snd (mkX Try.prog Fin sh W n it z rows) true c k (.snd 0) none (born Try.prog (dcall 19 #[row, .chan (some c), .pointer (some ⟨W, 0, none⟩)]))) :
    CallsJ Try.prog Fin 14 #[row, .pointer (some ⟨W, 0, none⟩)] (.inn sh (mkX Try.prog Fin sh W n it z rows) (p0 c0)) m
      fun s' m' v => ∃ c β, s' = .inn sh (mkX Try.prog Fin sh W n it z rows) { p0 c0 with two := true, ad := true, c := updB (p0 c0).c true c } ∧ v = .pointer (some ⟨β, 0, none⟩) ∧ m' β = some (.cells (stC c r0 false false) 55 (0, 0)) ∧ (∀ γ o, m' γ = some o → γ = β ∨ m γ = some o) ∧ (∀ γ o, m γ = some o → m' γ = some o) ∧ m β = none ∧ W ≤ β := by
  ((refine callsJ_of Try.func14 (by rfl) rfl ?_; simp only [Try.ntmps14, List.size_toArray, List.length_cons, List.length_nil, Nat.reduceAdd, Nat.reduceSub, Array.replicate_succ, Array.replicate_zero, List.push_toArray, List.append_toArray, List.nil_append, List.cons_append]))
  ((first | refine wpJ_seq ?_ | refine wpJ_block ?_ | refine wpJ_skip ?_ | refine wpJ_label ?_ | refine wpJ_ret ?_ | refine wpJ_exit ?_ | refine opsJ_nil ?_))
  ((refine wpJ_region ?_; simp only [List.size_toArray, List.length_cons, List.length_nil, Nat.reduceAdd, Nat.zero_add, List.range, List.range.loop]))
  ((refine opsJ_pure rfl (by rfl) (fun w => run_eqv (fun K hK => by go_simp; exact hK)) (fun w => by simp [go_sem]) ?_; try walk_nrm))
  ((first | refine wpJ_seq ?_ | refine wpJ_block ?_ | refine wpJ_skip ?_ | refine wpJ_label ?_ | refine wpJ_ret ?_ | refine wpJ_exit ?_ | refine opsJ_nil ?_))
  (simp only [QJ.then, QJ.inBlock, if_true, if_false, reduceIte, Nat.reduceEqDiff])
  ((first | refine wpJ_seq ?_ | refine wpJ_block ?_ | refine wpJ_skip ?_ | refine wpJ_label ?_ | refine wpJ_ret ?_ | refine wpJ_exit ?_ | refine opsJ_nil ?_))
  ((refine wpJ_region ?_; simp only [List.size_toArray, List.length_cons, List.length_nil, Nat.reduceAdd, Nat.zero_add, List.range, List.range.loop]))
  refine opsJ_chan rfl (by rfl) rfl rfl fun c hc hmc => ?_
  walk_nrm
  ((refine opsJ_pure rfl (by rfl) (fun w => run_eqv (fun K hK => by go_simp; exact hK)) (fun w => by simp [go_sem]) ?_; try walk_nrm))
  ((first | refine wpJ_seq ?_ | refine wpJ_block ?_ | refine wpJ_skip ?_ | refine wpJ_label ?_ | refine wpJ_ret ?_ | refine wpJ_exit ?_ | refine opsJ_nil ?_))
  (simp only [QJ.then, QJ.inBlock, if_true, if_false, reduceIte, Nat.reduceEqDiff])
  ((first | refine wpJ_seq ?_ | refine wpJ_block ?_ | refine wpJ_skip ?_ | refine wpJ_label ?_ | refine wpJ_ret ?_ | refine wpJ_exit ?_ | refine opsJ_nil ?_))
  ((refine wpJ_region ?_; simp only [List.size_toArray, List.length_cons, List.length_nil, Nat.reduceAdd, Nat.zero_add, List.range, List.range.loop]))
  ((refine opsJ_pure rfl (by rfl) (fun w => run_eqv (fun K hK => by go_simp; exact hK)) (fun w => by simp [go_sem]) ?_; try walk_nrm))
  refine opsJ_callD rfl (by rfl) rfl (by walk_nrm; exact add_j (s := .inn sh (mkX Try.prog Fin sh W n it z rows) { p0 c0 with df := true }) rfl rfl (ctxInn rfl rfl rfl rfl rfl) _) ?_
  rintro s1 m1 _ ⟨rfl, rfl⟩
  walk_nrm
  ((first | refine wpJ_seq ?_ | refine wpJ_block ?_ | refine wpJ_skip ?_ | refine wpJ_label ?_ | refine wpJ_ret ?_ | refine wpJ_exit ?_ | refine opsJ_nil ?_))
  (simp only [QJ.then, QJ.inBlock, if_true, if_false, reduceIte, Nat.reduceEqDiff])
  ((first | refine wpJ_seq ?_ | refine wpJ_block ?_ | refine wpJ_skip ?_ | refine wpJ_label ?_ | refine wpJ_ret ?_ | refine wpJ_exit ?_ | refine opsJ_nil ?_))
  ((refine wpJ_region ?_; simp only [List.size_toArray, List.length_cons, List.length_nil, Nat.reduceAdd, Nat.zero_add, List.range, List.range.loop]))
  ((refine opsJ_pure rfl (by rfl) (fun w => run_eqv (fun K hK => by go_simp; exact hK)) (fun w => by simp [go_sem]) ?_; try walk_nrm))
  ((refine opsJ_pure rfl (by rfl) (fun w => run_eqv (fun K hK => by go_simp; exact hK)) (fun w => by simp [go_sem]) ?_; try walk_nrm))
  ((refine opsJ_pure rfl (by rfl) (fun w => run_eqv (fun K hK => by go_simp; exact hK)) (fun w => by simp [go_sem]) ?_; try walk_nrm))
  refine opsJ_go (p := { p0 c0 with ad := true }) (m' := m) rfl (by rfl) rfl rfl rfl rfl rfl hc (PM.set_same _ _ _) (fun β o e => ?_) (by
    have := hsnd c hc
    simpa [Act.eval] using this) ?_
  · have hne : β ≠ c := fun h => by rw [h, hmc] at e; cases e
    exact ⟨by rw [PM.set_ne _ _ hne]; exact e, hne⟩
  walk_nrm
  ((first | refine wpJ_seq ?_ | refine wpJ_block ?_ | refine wpJ_skip ?_ | refine wpJ_label ?_ | refine wpJ_ret ?_ | refine wpJ_exit ?_ | refine opsJ_nil ?_))
  (simp only [QJ.then, QJ.inBlock, if_true, if_false, reduceIte, Nat.reduceEqDiff])
  ((first | refine wpJ_seq ?_ | refine wpJ_block ?_ | refine wpJ_skip ?_ | refine wpJ_label ?_ | refine wpJ_ret ?_ | refine wpJ_exit ?_ | refine opsJ_nil ?_))
  ((refine wpJ_region ?_; simp only [List.size_toArray, List.length_cons, List.length_nil, Nat.reduceAdd, Nat.zero_add, List.range, List.range.loop]))
  ((refine opsJ_pure rfl (by rfl) (fun w => run_eqv (fun K hK => by go_simp; exact hK)) (fun w => by simp [go_sem]) ?_; try walk_nrm))
  ((refine opsJ_pure rfl (by rfl) (fun w => run_eqv (fun K hK => by go_simp; exact hK)) (fun w => by simp [go_sem]) ?_; try walk_nrm))
  refine opsJ_new rfl (by rfl) (f := fun β => .pointer (some ⟨β, 0, none⟩)) (ob := .cells (stC c r0 false false) 55) (fun w => by go_simp; rfl) (fun w => by simp [go_sem]) (fun β hβ hmβ => ?_)
  walk_nrm
  ((refine opsJ_pure rfl (by rfl) (fun w => run_eqv (fun K hK => by go_simp; exact hK)) (fun w => by simp [go_sem]) ?_; try walk_nrm))
  ((first | refine wpJ_seq ?_ | refine wpJ_block ?_ | refine wpJ_skip ?_ | refine wpJ_label ?_ | refine wpJ_ret ?_ | refine wpJ_exit ?_ | refine opsJ_nil ?_))
  (simp only [QJ.then, QJ.inBlock, if_true, if_false, reduceIte, Nat.reduceEqDiff])
  ((first | refine wpJ_seq ?_ | refine wpJ_block ?_ | refine wpJ_skip ?_ | refine wpJ_label ?_ | refine wpJ_ret ?_ | refine wpJ_exit ?_ | refine opsJ_nil ?_))
  refine ⟨rfl, _, resultsJ_tmp Try.results14 _, c, β, rfl, rfl, PM.set_same _ _ _, fun γ o e => ?_, fun γ o e1 => ?_, hmβ, hβ⟩
  · by_cases h : γ = β
    · exact .inl h
    · rw [PM.set_ne _ _ h] at e
      exact .inr e
  · rw [PM.set_ne _ _ (fun h => by rw [h, hmβ] at e1; cases e1)]; exact e1
end
end Go.Proofs.Ytafnbmokegomaaa
