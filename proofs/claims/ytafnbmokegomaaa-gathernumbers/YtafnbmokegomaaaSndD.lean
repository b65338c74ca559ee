/-
  A deferred builtin close; a newborn's first step, and its last.
-/
import Derived.Test.YtafnbmokegomaaaSndR
import Derived.Conc.TokenWalk
set_option linter.unusedSimpArgs false
set_option linter.unusedVariables false
namespace Go.Proofs.Ytafnbmokegomaaa
open Go.Conc Go.RowKit
open Go.ConcR (KK wgBlock WgAt stA smA rd wr mk)
section
variable {P : Program} {main : Bool} {b : Frame} {a : Act} {k : List Item} {cs : List Frame} {w : World}
/-- a deferred close -/
def dclose (ats : Array TypeId) (ty : TypeId) (cn : Array Bool) (args : Array Value) : Deferred := { target := .builtin .close ats ty cn, args := args }
theorem stepG_defer_close {ops : Array Oper} {i : Nat} {rest : List Nat} {o : Oper} {x : Tmp} {ats : Array TypeId} (ho : ops[i]? = some o) (hw : Region.wanted o (yielded ops a.tmps) = true) (hk : b.kind ≠ .early)
    (hop : o.op = .defer { callee := .builtin .close, args := #[.tmp x], argTypes := ats }) :
    stepG P main (G (b.at a (.inRegion ops (i :: rest) :: k)) cs) w = .go (G (b.at (Act.put ⟨a.tmps, dclose ats o.type #[false] #[a.eval (.tmp x)] :: a.defers⟩ o.dst undef) (.inRegion ops rest :: k)) cs) w #[] := by
  have hr : (execOp a.eval o).run P w = .ok (.defer (dclose ats o.type #[false] #[a.eval (.tmp x)])) w := by
    unfold execOp
    simp [hop, resolve, dclose]
  have he : (execOp a.eval o).events P w #[] = #[] := by
    unfold execOp
    simp [hop, resolve]
  have hfin : (b.at ⟨a.tmps, dclose ats o.type #[false] #[a.eval (.tmp x)] :: a.defers⟩ (.inRegion ops (i :: rest) :: k)).finish undef = b.at (Act.put ⟨a.tmps, dclose ats o.type #[false] #[a.eval (.tmp x)] :: a.defers⟩ o.dst undef) (.inRegion ops rest :: k) := by rw [Frame.finish_at, ho]; rfl
  have hk' : (b.kind == CallKind.early) = false := by simpa using hk
  rw [stepG_oper ho hw, ← hfin]
  simp [stepG.apply, hr, he, G, Frame.at, hk', GStep.after, seen_none]
theorem stepG_unwind_close {todo : List Item} {ds : List Deferred} {ats : Array TypeId} {ty : TypeId} {cn : Array Bool} {c cap s r : Nat} {buf : Array Value} {tm : Bool} (hd : a.defers = dclose ats ty cn #[.chan (some c)] :: ds)
    (hc : w.heap[c]? = some (.chan cap buf false s r tm)) (hq : (P.funcs[b.fn]?).any (·.norace) = false) :
    stepG P main (G { b.at a todo with mode := .returning } cs) w = .go (G { b.at ⟨a.tmps, ds⟩ todo with mode := .returning } cs) (w.setChan c cap buf true s r tm) (closeEvents c) := by
  have hr : (invoke (.builtin .close ats ty cn) #[.chan (some c)]).run P w = .ok (.value (.tuple #[])) (w.setChan c cap buf true s r tm) := by
    simp [go_sem, invoke, run_close_open _ _ hc, World.setChan]
  have he : (invoke (.builtin .close ats ty cn) #[.chan (some c)]).events P w #[] = closeEvents c := by
    simp [go_sem, invoke, events_close_open _ _ hc, closeEvents]
  have hs : seen P b.fn (closeEvents c) = closeEvents c := seen_eq hq (by intro e he f; simp only [closeEvents, List.mem_toArray, List.mem_cons, List.not_mem_nil, or_false] at he; rcases he with rfl | rfl <;> simp)
  simp [G, stepG, unwind, callDeferred, Frame.at, hd, dclose, hr, he, hs, GStep.after]
/-- a newborn's frame -/
def nbF (P : Program) : Frame := { (default : Frame) with fn := P.funcs.size, defers := [], mode := .panicking [goexitEntry] }
theorem stepG_newborn {f : FuncId} {fn : Func} {c : Code} {args : Array Value} (hf : P.funcs[f]? = some fn) (hname : (fn.name == "runtime.NumGoroutine") = false) (hb : fn.body = some c) :
    stepG P main (born P (dcall f args)) w = .go (G ((baseD f).at { tmps := args ++ Array.replicate (fn.ntmps - args.size) undef, defers := [] } [.code c]) [nbF P]) w #[] := by
  have h1 : ¬ fn.name = "runtime.NumGoroutine" := by simpa using hname
  rw [← enter_atD args hf hb]
  simp [born, nbF, G, stepG, unwind, callDeferred, dcall, invoke, callFunc, hf, h1, hb, GStep.after, seen_none]
/-- the goroutine's own function has returned -/
theorem stepG_leave_newborn {fn : Func} {todo : List Item} (hn : b.kind = .deferred) (hd : a.defers = []) (hf : P.funcs[b.fn]? = some fn) (hr : fn.results = #[]) :
    stepG P main (G { b.at a todo with mode := .returning } [nbF P]) w = .go (G (nbF P) []) w := by
  have h1 : (results fn a.tmps).run P w = .ok (.tuple #[]) w := results_none hr _ P w
  have h2 : (results fn a.tmps).events P w #[] = #[] := events_results_none hr _ _
  simp [G, stepG, unwind, doReturn, Frame.at, hn, hd, hf, h1, h2, seen, GStep.after, nbF, goexitEntry]
theorem stepG_newborn_end : stepG P main (G (nbF P) []) w = .go { G (nbF P) [] with status := .finished } w := by
  simp [G, stepG, unwind, nbF, goexitEntry, Frame.catches]
  rfl
end
end Go.Proofs.Ytafnbmokegomaaa
