/-
  THE GROUP's Wait, AS GOROUTINE 0 CALLS IT: its atomic steps.
-/
import Derived.Test.YtafnbmokegomaaaWgAdd
set_option linter.unusedSimpArgs false
set_option linter.unusedVariables false
set_option linter.unusedSectionVars false
namespace Go.Proofs.Ytafnbmokegomaaa
open Go.Conc Go.RowKit
open Go.ConcR (KK wgBlock WgAt stA smA rd wr)

section
variable [Io] {Fin : Value → World → Prop} {fn : FuncId} {Q : QJ} {m : PM} {a : Act} {ops : Array Oper} {i : Nat} {rest : List Nat} {o : Oper} {ats : Array TypeId} {sh : Nat → Prop} {X : Cfg} {p : Ph}

/-- The wait may go on: all ends are met. -/
structure WaitAt (X : Cfg) (p : Ph) : Prop where
  ty : X.ty = WTy
  two : p.two = true
  e : ∀ b, p.e b = true
  df : p.df = true

theorem opsJ_uld (C : WaitAt X p) (bd : Nat) (hb : (p.w = 0 ∧ bd = 2) ∨ p.w = 10 + bd) {x : Operand} (ho : ops[i]? = some o) (hw : Region.wanted o (yielded ops a.tmps) = true) (hop : o.op = .call { callee := .value (.func 39), args := #[x], argTypes := ats })
    (hx : a.eval x = .pointer (some (stA X.Wg))) (h : ∀ v : Nat, v ≤ bd → OpsJ Try.prog Fin fn ops rest Q (.inn sh X { p with w := if v = 0 then 2 else 10 + v }) m (a.put o.dst (.int .u64 (v * KK)))) : OpsJ Try.prog Fin fn ops (i :: rest) Q (.inn sh X p) m a := by
  intro b k cs hbf hk hc
  obtain ⟨fx, h1, h2, h3, h4, h5⟩ := e39.ex
  refine .ld C.two C.e C.df bd hb rfl fun v hv => ⟨G (b.at (a.put o.dst (.int .u64 (v * KK))) (.inRegion ops rest :: k)) cs, fun w hwg => ?_, h v hv b k cs hbf hk hc⟩
  rw [C.ty] at hwg
  obtain ⟨c1, c2, _, _⟩ := wg_cells hwg
  exact stepG_load_atomic (P := Try.prog) (main := true) (b := b) (kk := k) (cs := cs) (w := w) (rest := rest) ho hw hk hop h1 h2 h3 h4 .u64 h5 hx c1

theorem opsJ_look (C : WaitAt X p) (hb : p.w = 2) {x : Operand} (ho : ops[i]? = some o) (hw : Region.wanted o (yielded ops a.tmps) = true) (hop : o.op = .call { callee := .value (.func 39), args := #[x], argTypes := ats })
    (hx : a.eval x = .pointer (some (stA X.Wg))) (h : OpsJ Try.prog Fin fn ops rest Q (.inn sh X p) m (a.put o.dst (.int .u64 0))) : OpsJ Try.prog Fin fn ops (i :: rest) Q (.inn sh X p) m a := by
  intro b k cs hbf hk hc
  obtain ⟨fx, h1, h2, h3, h4, h5⟩ := e39.ex
  refine .look C.two C.e C.df hb rfl ⟨G (b.at (a.put o.dst (.int .u64 0)) (.inRegion ops rest :: k)) cs, fun w hwg => ?_, h b k cs hbf hk hc⟩
  rw [C.ty] at hwg
  obtain ⟨c1, c2, _, _⟩ := wg_cells hwg
  exact stepG_load_atomic (P := Try.prog) (main := true) (b := b) (kk := k) (cs := cs) (w := w) (rest := rest) ho hw hk hop h1 h2 h3 h4 .u64 h5 hx c1

theorem opsJ_ucas (C : WaitAt X p) (v0 : Nat) (hb : p.w = 10 + v0) (hv0 : v0 ≠ 0) {x y z : Operand} (ho : ops[i]? = some o) (hw : Region.wanted o (yielded ops a.tmps) = true) (hop : o.op = .call { callee := .value (.func 40), args := #[x, y, z], argTypes := ats })
    (hx : a.eval x = .pointer (some (stA X.Wg))) (hy : a.eval y = .int .u64 (v0 * KK)) (hz : a.eval z = .int .u64 (v0 * KK + 1)) (hit : OpsJ Try.prog Fin fn ops rest Q (.inn sh X { p with w := 1 }) m (a.put o.dst (.bool true)))
    (miss : ∀ v : Nat, v < v0 → OpsJ Try.prog Fin fn ops rest Q (.inn sh X { p with w := 10 + v }) m (a.put o.dst (.bool false))) : OpsJ Try.prog Fin fn ops (i :: rest) Q (.inn sh X p) m a := by
  intro b k cs hbf hk hc
  obtain ⟨fx, h1, h2, h3, h4, h5⟩ := e40.ex
  refine .cas C.two C.e C.df v0 hb hv0 rfl ⟨G (b.at (a.put o.dst (.bool true)) (.inRegion ops rest :: k)) cs, fun w hwg => ?_, hit b k cs hbf hk hc⟩ fun v hv => ⟨G (b.at (a.put o.dst (.bool false)) (.inRegion ops rest :: k)) cs, fun w hwg => ?_, miss v hv b k cs hbf hk hc⟩
  · rw [C.ty] at hwg
    obtain ⟨c1, c2, _, _⟩ := wg_cells hwg
    exact stepG_cas_hit (P := Try.prog) (main := true) (b := b) (kk := k) (cs := cs) (w := w) (rest := rest) ho hw hk hop h1 h2 h3 h4 .u64 h5 hx hy hz c1 c2
  · rw [C.ty] at hwg
    obtain ⟨c1, c2, _, _⟩ := wg_cells hwg
    exact stepG_cas_miss (P := Try.prog) (main := true) (b := b) (kk := k) (cs := cs) (w := w) (rest := rest) ho hw hk hop h1 h2 h3 h4 .u64 h5 hx hy hz c1 c2 (fun h => by
      have h' : (v : Int) * 4294967296 = (v0 : Int) * 4294967296 := h
      omega)

/-- Uint64.Load, three ways. -/
theorem uload_j (C : WaitAt X p) (bd : Nat) (hb : (p.w = 0 ∧ bd = 2) ∨ p.w = 10 + bd) (m : PM) : CallsJ Try.prog Fin 21 #[.pointer (some ⟨X.Wg, 0, none⟩)] (.inn sh X p) m fun s' m' r => m' = m ∧ ∃ v : Nat, v ≤ bd ∧ s' = .inn sh X { p with w := if v = 0 then 2 else 10 + v } ∧ r = .int .u64 (v * KK) := by
  ((refine callsJ_of Try.func21 (by rfl) rfl ?_; simp only [Try.ntmps21, List.size_toArray, List.length_cons, List.length_nil, Nat.reduceAdd, Nat.reduceSub, Array.replicate_succ, Array.replicate_zero, List.push_toArray, List.append_toArray, List.nil_append, List.cons_append]))
  ((first | refine wpJ_seq ?_ | refine wpJ_block ?_ | refine wpJ_skip ?_ | refine wpJ_label ?_ | refine wpJ_ret ?_ | refine wpJ_exit ?_ | refine opsJ_nil ?_))
  ((refine wpJ_region ?_; simp only [List.size_toArray, List.length_cons, List.length_nil, Nat.reduceAdd, Nat.zero_add, List.range, List.range.loop]))
  ((refine opsJ_pure rfl (by rfl) (fun w => run_eqv (fun K hK => by go_simp; exact hK)) (fun w => by simp [go_sem]) ?_; try walk_nrm))
  ((first | refine wpJ_seq ?_ | refine wpJ_block ?_ | refine wpJ_skip ?_ | refine wpJ_label ?_ | refine wpJ_ret ?_ | refine wpJ_exit ?_ | refine opsJ_nil ?_))
  (simp only [QJ.then, QJ.inBlock, if_true, if_false, reduceIte, Nat.reduceEqDiff])
  ((first | refine wpJ_seq ?_ | refine wpJ_block ?_ | refine wpJ_skip ?_ | refine wpJ_label ?_ | refine wpJ_ret ?_ | refine wpJ_exit ?_ | refine opsJ_nil ?_))
  ((refine wpJ_region ?_; simp only [List.size_toArray, List.length_cons, List.length_nil, Nat.reduceAdd, Nat.zero_add, List.range, List.range.loop]))
  ((refine opsJ_pure rfl (by rfl) (fun w => run_eqv (fun K hK => by go_simp; exact hK)) (fun w => by simp [go_sem]) ?_; try walk_nrm))
  ((refine opsJ_pure rfl (by rfl) (fun w => run_eqv (fun K hK => by go_simp; exact hK)) (fun w => by simp [go_sem]) ?_; try walk_nrm))
  ((refine opsJ_pure rfl (by rfl) (fun w => run_eqv (fun K hK => by go_simp; exact hK)) (fun w => by simp [go_sem]) ?_; try walk_nrm))
  refine opsJ_uld C bd hb rfl (by rfl) rfl rfl fun v hv => ?_
  walk_nrm
  ((refine opsJ_pure rfl (by rfl) (fun w => run_eqv (fun K hK => by go_simp; exact hK)) (fun w => by simp [go_sem]) ?_; try walk_nrm))
  ((first | refine wpJ_seq ?_ | refine wpJ_block ?_ | refine wpJ_skip ?_ | refine wpJ_label ?_ | refine wpJ_ret ?_ | refine wpJ_exit ?_ | refine opsJ_nil ?_))
  (simp only [QJ.then, QJ.inBlock, if_true, if_false, reduceIte, Nat.reduceEqDiff])
  ((first | refine wpJ_seq ?_ | refine wpJ_block ?_ | refine wpJ_skip ?_ | refine wpJ_label ?_ | refine wpJ_ret ?_ | refine wpJ_exit ?_ | refine opsJ_nil ?_))
  exact ⟨rfl, _, resultsJ_tmp Try.results21 _, rfl, v, hv, rfl, rfl⟩

theorem ulook_j (C : WaitAt X p) (hb : p.w = 2) (m : PM) : CallsJ Try.prog Fin 21 #[.pointer (some ⟨X.Wg, 0, none⟩)] (.inn sh X p) m fun s' m' r => m' = m ∧ s' = .inn sh X p ∧ r = .int .u64 0 := by
  ((refine callsJ_of Try.func21 (by rfl) rfl ?_; simp only [Try.ntmps21, List.size_toArray, List.length_cons, List.length_nil, Nat.reduceAdd, Nat.reduceSub, Array.replicate_succ, Array.replicate_zero, List.push_toArray, List.append_toArray, List.nil_append, List.cons_append]))
  ((first | refine wpJ_seq ?_ | refine wpJ_block ?_ | refine wpJ_skip ?_ | refine wpJ_label ?_ | refine wpJ_ret ?_ | refine wpJ_exit ?_ | refine opsJ_nil ?_))
  ((refine wpJ_region ?_; simp only [List.size_toArray, List.length_cons, List.length_nil, Nat.reduceAdd, Nat.zero_add, List.range, List.range.loop]))
  ((refine opsJ_pure rfl (by rfl) (fun w => run_eqv (fun K hK => by go_simp; exact hK)) (fun w => by simp [go_sem]) ?_; try walk_nrm))
  ((first | refine wpJ_seq ?_ | refine wpJ_block ?_ | refine wpJ_skip ?_ | refine wpJ_label ?_ | refine wpJ_ret ?_ | refine wpJ_exit ?_ | refine opsJ_nil ?_))
  (simp only [QJ.then, QJ.inBlock, if_true, if_false, reduceIte, Nat.reduceEqDiff])
  ((first | refine wpJ_seq ?_ | refine wpJ_block ?_ | refine wpJ_skip ?_ | refine wpJ_label ?_ | refine wpJ_ret ?_ | refine wpJ_exit ?_ | refine opsJ_nil ?_))
  ((refine wpJ_region ?_; simp only [List.size_toArray, List.length_cons, List.length_nil, Nat.reduceAdd, Nat.zero_add, List.range, List.range.loop]))
  ((refine opsJ_pure rfl (by rfl) (fun w => run_eqv (fun K hK => by go_simp; exact hK)) (fun w => by simp [go_sem]) ?_; try walk_nrm))
  ((refine opsJ_pure rfl (by rfl) (fun w => run_eqv (fun K hK => by go_simp; exact hK)) (fun w => by simp [go_sem]) ?_; try walk_nrm))
  ((refine opsJ_pure rfl (by rfl) (fun w => run_eqv (fun K hK => by go_simp; exact hK)) (fun w => by simp [go_sem]) ?_; try walk_nrm))
  refine opsJ_look C hb rfl (by rfl) rfl rfl ?_
  walk_nrm
  ((refine opsJ_pure rfl (by rfl) (fun w => run_eqv (fun K hK => by go_simp; exact hK)) (fun w => by simp [go_sem]) ?_; try walk_nrm))
  ((first | refine wpJ_seq ?_ | refine wpJ_block ?_ | refine wpJ_skip ?_ | refine wpJ_label ?_ | refine wpJ_ret ?_ | refine wpJ_exit ?_ | refine opsJ_nil ?_))
  (simp only [QJ.then, QJ.inBlock, if_true, if_false, reduceIte, Nat.reduceEqDiff])
  ((first | refine wpJ_seq ?_ | refine wpJ_block ?_ | refine wpJ_skip ?_ | refine wpJ_label ?_ | refine wpJ_ret ?_ | refine wpJ_exit ?_ | refine opsJ_nil ?_))
  exact ⟨rfl, _, resultsJ_tmp Try.results21 _, rfl, rfl, rfl⟩

theorem ucas_j (C : WaitAt X p) (v0 : Nat) (hb : p.w = 10 + v0) (hv0 : v0 ≠ 0) (m : PM) : CallsJ Try.prog Fin 25 #[.pointer (some ⟨X.Wg, 0, none⟩), .int .u64 (v0 * KK), .int .u64 (v0 * KK + 1)] (.inn sh X p) m
    fun s' m' r => m' = m ∧ ((s' = .inn sh X { p with w := 1 } ∧ r = .bool true) ∨ ∃ v : Nat, v < v0 ∧ s' = .inn sh X { p with w := 10 + v } ∧ r = .bool false) := by
  ((refine callsJ_of Try.func25 (by rfl) rfl ?_; simp only [Try.ntmps25, List.size_toArray, List.length_cons, List.length_nil, Nat.reduceAdd, Nat.reduceSub, Array.replicate_succ, Array.replicate_zero, List.push_toArray, List.append_toArray, List.nil_append, List.cons_append]))
  ((first | refine wpJ_seq ?_ | refine wpJ_block ?_ | refine wpJ_skip ?_ | refine wpJ_label ?_ | refine wpJ_ret ?_ | refine wpJ_exit ?_ | refine opsJ_nil ?_))
  ((refine wpJ_region ?_; simp only [List.size_toArray, List.length_cons, List.length_nil, Nat.reduceAdd, Nat.zero_add, List.range, List.range.loop]))
  ((refine opsJ_pure rfl (by rfl) (fun w => run_eqv (fun K hK => by go_simp; exact hK)) (fun w => by simp [go_sem]) ?_; try walk_nrm))
  ((first | refine wpJ_seq ?_ | refine wpJ_block ?_ | refine wpJ_skip ?_ | refine wpJ_label ?_ | refine wpJ_ret ?_ | refine wpJ_exit ?_ | refine opsJ_nil ?_))
  (simp only [QJ.then, QJ.inBlock, if_true, if_false, reduceIte, Nat.reduceEqDiff])
  ((first | refine wpJ_seq ?_ | refine wpJ_block ?_ | refine wpJ_skip ?_ | refine wpJ_label ?_ | refine wpJ_ret ?_ | refine wpJ_exit ?_ | refine opsJ_nil ?_))
  ((refine wpJ_region ?_; simp only [List.size_toArray, List.length_cons, List.length_nil, Nat.reduceAdd, Nat.zero_add, List.range, List.range.loop]))
  ((refine opsJ_pure rfl (by rfl) (fun w => run_eqv (fun K hK => by go_simp; exact hK)) (fun w => by simp [go_sem]) ?_; try walk_nrm))
  ((refine opsJ_pure rfl (by rfl) (fun w => run_eqv (fun K hK => by go_simp; exact hK)) (fun w => by simp [go_sem]) ?_; try walk_nrm))
  ((refine opsJ_pure rfl (by rfl) (fun w => run_eqv (fun K hK => by go_simp; exact hK)) (fun w => by simp [go_sem]) ?_; try walk_nrm))
  ((refine opsJ_pure rfl (by rfl) (fun w => run_eqv (fun K hK => by go_simp; exact hK)) (fun w => by simp [go_sem]) ?_; try walk_nrm))
  ((refine opsJ_pure rfl (by rfl) (fun w => run_eqv (fun K hK => by go_simp; exact hK)) (fun w => by simp [go_sem]) ?_; try walk_nrm))
  refine opsJ_ucas C v0 hb hv0 rfl (by rfl) rfl rfl rfl rfl ?_ fun v hv => ?_
  · walk_nrm
    ((refine opsJ_pure rfl (by rfl) (fun w => run_eqv (fun K hK => by go_simp; exact hK)) (fun w => by simp [go_sem]) ?_; try walk_nrm))
    ((first | refine wpJ_seq ?_ | refine wpJ_block ?_ | refine wpJ_skip ?_ | refine wpJ_label ?_ | refine wpJ_ret ?_ | refine wpJ_exit ?_ | refine opsJ_nil ?_))
    (simp only [QJ.then, QJ.inBlock, if_true, if_false, reduceIte, Nat.reduceEqDiff])
    ((first | refine wpJ_seq ?_ | refine wpJ_block ?_ | refine wpJ_skip ?_ | refine wpJ_label ?_ | refine wpJ_ret ?_ | refine wpJ_exit ?_ | refine opsJ_nil ?_))
    exact ⟨rfl, _, resultsJ_tmp Try.results25 _, rfl, .inl ⟨rfl, rfl⟩⟩
  · walk_nrm
    ((refine opsJ_pure rfl (by rfl) (fun w => run_eqv (fun K hK => by go_simp; exact hK)) (fun w => by simp [go_sem]) ?_; try walk_nrm))
    ((first | refine wpJ_seq ?_ | refine wpJ_block ?_ | refine wpJ_skip ?_ | refine wpJ_label ?_ | refine wpJ_ret ?_ | refine wpJ_exit ?_ | refine opsJ_nil ?_))
    (simp only [QJ.then, QJ.inBlock, if_true, if_false, reduceIte, Nat.reduceEqDiff])
    ((first | refine wpJ_seq ?_ | refine wpJ_block ?_ | refine wpJ_skip ?_ | refine wpJ_label ?_ | refine wpJ_ret ?_ | refine wpJ_exit ?_ | refine opsJ_nil ?_))
    exact ⟨rfl, _, resultsJ_tmp Try.results25 _, rfl, .inr ⟨v, hv, rfl, rfl⟩⟩

theorem opsJ_sem {xs : Array Operand} (C : WaitAt X p) (hb : p.w = 1) (ho : ops[i]? = some o) (hw : Region.wanted o (yielded ops a.tmps) = true) (hop : o.op = .call { callee := .value (.func 29), args := xs, argTypes := ats })
    (hx : (xs.map a.eval)[0]? = some (.pointer (some (smA X.Wg)))) (h : OpsJ Try.prog Fin fn ops rest Q (.inn sh X { p with w := 2 }) m (a.put o.dst (.tuple #[]))) : OpsJ Try.prog Fin fn ops (i :: rest) Q (.inn sh X p) m a := by
  intro b k cs hbf hk hc
  obtain ⟨fx, h1, h2, h3, h4, h5⟩ := e29.ex
  refine .sem C.two C.e C.df hb rfl rfl (fun w hwg => ?_) ⟨G (b.at (a.put o.dst (.tuple #[])) (.inRegion ops rest :: k)) cs, fun w hwg => ?_, h b k cs hbf hk hc⟩
  · obtain ⟨st, hwg⟩ := hwg
    rw [C.ty] at hwg
    obtain ⟨_, _, c3, _⟩ := wg_cells hwg
    exact stepG_semacquire_wait (P := Try.prog) (main := true) (b := b) (kk := k) (cs := cs) (w := w) (rest := rest) ho hw hop h1 h2 h3 h4 h5 hx c3
  · rw [C.ty] at hwg
    obtain ⟨_, _, c3, c4⟩ := wg_cells hwg
    have := stepG_semacquire (P := Try.prog) (main := true) (b := b) (kk := k) (cs := cs) (w := w) (rest := rest) ho hw hk hop h1 h2 h3 h4 h5 hx c3 (by decide) c4
    exact this
end
end Go.Proofs.Ytafnbmokegomaaa
