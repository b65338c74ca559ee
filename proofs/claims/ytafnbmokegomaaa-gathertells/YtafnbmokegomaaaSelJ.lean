/-
  THE SELECT, AS AN OPERATION OF THE CALCULUS.
-/
import Derived.Test.YtafnbmokegomaaaBegin
set_option linter.unusedSimpArgs false
set_option linter.unusedVariables false
set_option linter.unusedSectionVars false
namespace Go.Proofs.Ytafnbmokegomaaa
open Go.Conc Go.RowKit
open Go.ConcR (KK wgBlock WgAt stA smA rd wr)

section
variable [Io] {Fin : Value → World → Prop} {fn : FuncId} {Q : QJ} {m : PM} {a : Act} {ops : Array Oper} {i : Nat} {rest : List Nat} {o : Oper}

theorem comm_cases (X : Cfg) (p : Ph) (op : Bool → Bool) (b : Bool) (v : Value) (ok : Bool) : commResult (X.cases p op) .select (kOf b) v ok = .tuple #[.int .i64 (kOf b), .bool ok, if b then X.z else v, if b then v else X.z] := by
  have hs : ∀ c, (X.cs p op c).send = none ∧ (X.cs p op c).zero = X.z := fun c => by unfold Cfg.cs; split <;> exact ⟨rfl, rfl⟩
  obtain ⟨s0, z0⟩ := hs false
  obtain ⟨s1, z1⟩ := hs true
  cases b <;> simp [commResult, Cfg.cases, kOf, s0, s1, z0, z1, goInt, List.zipIdx]

theorem zero25 (w : World) : (zeroValue 25).run Try.prog w = .ok (.agg r0.cs.toArray) w := Try.zeroValue25 w

theorem opsJ_sel {sh : Nat → Prop} {X : Cfg} {p : Ph} (ho : ops[i]? = some o) (hw : Region.wanted o (yielded ops a.tmps) = true) {x0 x1 : Operand} (hop : o.op = .select #[{ chan := x0, send := none, elem := 25 }, { chan := x1, send := none, elem := 25 }] true)
    (op : Bool → Bool) (hx0 : a.eval x0 = .chan (if op false then some (p.c false) else none)) (hx1 : a.eval x1 = .chan (if op true then some (p.c true) else none)) (hz0 : X.z = .agg r0.cs.toArray)
    (h2 : p.two = true) (hd : p.df = false) (hop' : ∀ b, op b = true → p.e b = false) (hso : ∃ b, op b = true)
    (hv : ∀ b, op b = true → p.r b < X.n b → OpsJ Try.prog Fin fn ops rest Q (.inn sh X { p with r := updB p.r b (p.r b + 1) }) m (a.put o.dst (.tuple #[.int .i64 (kOf b), .bool true, if b then X.z else X.it b (p.r b), if b then X.it b (p.r b) else X.z])))
    (hz : ∀ b, op b = true → p.r b = X.n b → OpsJ Try.prog Fin fn ops rest Q (.inn sh X { p with e := updB p.e b true }) m (a.put o.dst (.tuple #[.int .i64 (kOf b), .bool false, X.z, X.z]))) : OpsJ Try.prog Fin fn ops (i :: rest) Q (.inn sh X p) m a := by
  intro b k cs hb hk hc
  have hserved : ∀ (g₃ : Goroutine) v, g₃.frame = b.at a (.inRegion ops (i :: rest) :: k) → g₃.callers = cs → g₃.dying = none → Go.Conc.served g₃ v = G (b.at (a.put o.dst v) (.inRegion ops rest :: k)) cs := by
    intro g₃ v f1 f2 f3
    have hfin : (b.at a (.inRegion ops (i :: rest) :: k)).finish v = b.at (a.put o.dst v) (.inRegion ops rest :: k) := by rw [Frame.finish_at, ho]; rfl
    obtain ⟨q1, q2, q3, q4, q5⟩ := g₃
    simp only at f1 f2 f3
    subst f1 f2 f3
    simp only [Go.Conc.served, hfin, G]
  have hcs : #[({ chan := a.eval x0, send := none, zero := .agg r0.cs.toArray } : CommCase), { chan := a.eval x1, send := none, zero := .agg r0.cs.toArray }] = X.cases p op := by
    unfold Cfg.cases Cfg.cs rcase nilcase
    rw [hx0, hx1, hz0]
    cases op false <;> cases op true <;> rfl
  refine .sel h2 hd op hop' hso rfl (g₂ := G (b.at a (.inRegion ops (i :: rest) :: k)) cs) (fun w => ?_) ⟨rfl, rfl, rfl⟩ (fun c g₃ a1 a2 f1 f2 f3 => ?_) (fun c g₃ a1 a2 f1 f2 f3 => ?_)
  · have hr : (execOp a.eval o).run Try.prog w = .ok (.comm (X.cases p op) true .select) w := by
      unfold execOp
      rw [← hcs]
      simp [hop, zero25, Sem.run_bind]
      try rfl
    have he : listed Try.prog b.fn a o w = #[] := listed_none (by
      unfold execOp
      simp [hop, zero25, Sem.events_bind, Sem.run_bind, events_zeroValue])
    have := stepG_comm (P := Try.prog) (main := true) (b := b) (k := k) (cs := cs) (rest := rest) ho hw hk hr
    rw [he] at this
    exact this
  · rw [comm_cases, hserved g₃ _ f1 f2 f3]
    exact hv c a1 a2 b k cs hb hk hc
  · rw [comm_cases, hserved g₃ _ f1 f2 f3]
    have := hz c a1 a2 b k cs hb hk hc
    cases c <;> exact this
end
end Go.Proofs.Ytafnbmokegomaaa
