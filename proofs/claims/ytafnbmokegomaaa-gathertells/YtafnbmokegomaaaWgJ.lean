/-
  THE GROUP's Add, AS GOROUTINE 0 CALLS IT.
-/
import Derived.Test.YtafnbmokegomaaaRules
import Derived.Test.YtafnbmokegomaaaFns
import Derived.Conc.AtomicLaws2
import Derived.Conc.MarkLaws
import Derived.Conc.SmallLaws
import Derived.Conc.DeferLaws
import Derived.Laws.LoneSync
set_option linter.unusedSimpArgs false
set_option linter.unusedVariables false
set_option linter.unusedSectionVars false
namespace Go.Proofs.Ytafnbmokegomaaa
open Go.Conc Go.RowKit
open Go.ConcR (KK wgBlock WgAt stA smA rd wr)

/-! ### what the program's entries are -/
structure Ent (f : FuncId) (e : Array Value → Sem Value) : Prop where
  ex : ∃ fn, Try.prog.funcs[f]? = some fn ∧ (fn.name == "runtime.NumGoroutine") = false ∧ fn.body.isNone = true ∧ Extern.findNext fn = none ∧ Extern.find fn = some e

theorem e20 : Ent 20 (fun _ => do mark .disable; pure Extern.Race.none_) := ⟨Try.f20, Try.func20, by kernel_rfl, by kernel_rfl, by kernel_rfl, by kernel_rfl⟩
theorem e22 : Ent 22 (fun _ => do mark .enable; pure Extern.Race.none_) := ⟨Try.f22, Try.func22, by kernel_rfl, by kernel_rfl, by kernel_rfl, by kernel_rfl⟩
theorem e23 : Ent 23 (Extern.Race.marked .acquire) := ⟨Try.f23, Try.func23, by kernel_rfl, by kernel_rfl, by kernel_rfl, by kernel_rfl⟩
theorem e27 : Ent 27 (Extern.Race.marked .write) := ⟨Try.f27, Try.func27, by kernel_rfl, by kernel_rfl, by kernel_rfl, by kernel_rfl⟩
theorem e28 : Ent 28 (fun _ => pure (.bool false)) := ⟨Try.f28, Try.func28, by kernel_rfl, by kernel_rfl, by kernel_rfl, by kernel_rfl⟩
theorem e29 : Ent 29 Extern.Sync.semacquire := ⟨Try.f29, Try.func29, by kernel_rfl, by kernel_rfl, by kernel_rfl, by kernel_rfl⟩
theorem e30 : Ent 30 (Extern.Race.marked .releaseMerge) := ⟨Try.f30, Try.func30, by kernel_rfl, by kernel_rfl, by kernel_rfl, by kernel_rfl⟩
theorem e35 : Ent 35 (Extern.Race.marked .read) := ⟨Try.f35, Try.func35, by kernel_rfl, by kernel_rfl, by kernel_rfl, by kernel_rfl⟩
theorem e37 : Ent 37 Extern.Sync.semrelease := ⟨Try.f37, Try.func37, by kernel_rfl, by kernel_rfl, by kernel_rfl, by kernel_rfl⟩
theorem e39 : Ent 39 (Extern.Atomic.loadT (.int .u64)) := ⟨Try.f39, Try.func39, by kernel_rfl, by kernel_rfl, by kernel_rfl, by kernel_rfl⟩
theorem e40 : Ent 40 (Extern.Atomic.casT (.int .u64)) := ⟨Try.f40, Try.func40, by kernel_rfl, by kernel_rfl, by kernel_rfl, by kernel_rfl⟩
theorem e42 : Ent 42 (Extern.Atomic.update (Op.intArith .add) .u64 true) := ⟨Try.f42, Try.func42, by kernel_rfl, by kernel_rfl, by kernel_rfl, by kernel_rfl⟩

section
variable [Io] {Fin : Value → World → Prop} {fn : FuncId} {Q : QJ} {s : Gh} {m : PM} {a : Act} {ops : Array Oper} {i : Nat} {rest : List Nat} {o : Oper} {xs : Array Operand} {ats : Array TypeId}

/-- race.Disable, race.Enable. -/
theorem opsJ_mark (mk : Mark) {f : FuncId} (he : Ent f (fun _ => do mark mk; pure Extern.Race.none_)) (hx : ∀ g, mk ≠ .extern g) (ho : ops[i]? = some o) (hw : Region.wanted o (yielded ops a.tmps) = true) (hop : o.op = .call { callee := .value (.func f), args := xs, argTypes := ats })
    (hm : (s.df = false ∧ mk = .disable) ∨ (s.df = true ∧ mk = .enable)) (h : OpsJ Try.prog Fin fn ops rest Q s.flip m (a.put o.dst (.tuple #[]))) : OpsJ Try.prog Fin fn ops (i :: rest) Q s m a := by
  obtain ⟨g, h1, h2, h3, h4, h5⟩ := he.ex
  intro b k cs hb hk hc
  exact .mark rfl mk hm (fun w => stepG_mark0 mk hx ho hw hk hop h1 h2 h3 h4 h5) (h b k cs hb hk hc)

/-- An entry that only hands a value back. -/
theorem opsJ_entry {f : FuncId} {v : Value} (he : Ent f (fun _ => pure v)) (ho : ops[i]? = some o) (hw : Region.wanted o (yielded ops a.tmps) = true) (hop : o.op = .call { callee := .value (.func f), args := xs, argTypes := ats })
    (h : OpsJ Try.prog Fin fn ops rest Q s m (a.put o.dst v)) : OpsJ Try.prog Fin fn ops (i :: rest) Q s m a := by
  obtain ⟨g, h1, h2, h3, h4, h5⟩ := he.ex
  intro b k cs hb hk hc
  exact .quiet rfl (fun w => stepG_entry_pure v ho hw hk hop h1 h2 h3 h4 h5) (h b k cs hb hk hc)

theorem opsJ_defer {f : FuncId} (ho : ops[i]? = some o) (hw : Region.wanted o (yielded ops a.tmps) = true) (hop : o.op = .defer { callee := .value (.func f), args := xs, argTypes := ats })
    (h : OpsJ Try.prog Fin fn ops rest Q s m (Act.put ⟨a.tmps, dcall f (xs.map a.eval) :: a.defers⟩ o.dst undef)) : OpsJ Try.prog Fin fn ops (i :: rest) Q s m a := by
  intro b k cs hb hk hc
  exact .quiet rfl (fun w => stepG_defer ho hw hk hop) (h b k cs hb hk hc)

/-- An operation that looks whether the group's block is there. -/
theorem opsJ_conv {W off : Nat} {src dst t : TypeId} {x : Operand} (hal : ∀ w, s.alive w → ∃ st sm, WgAt WTy W w st sm) (ho : ops[i]? = some o) (hw : Region.wanted o (yielded ops a.tmps) = true) (hop : o.op = .convert src dst x) (hx : a.eval x = .pointer (some ⟨W, off, none⟩)) (hoff : off < 2)
    (hs : Try.prog.underlying src = some (.pointer t)) (hd : Try.prog.underlying dst = some .unsafePointer) (hsz : (Try.prog.info? t).map (fun i => decide (i.size = 0)) = some false)
    (h : OpsJ Try.prog Fin fn ops rest Q s m (a.put o.dst (.pointer (some ⟨W, off, none⟩)))) : OpsJ Try.prog Fin fn ops (i :: rest) Q s m a := by
  intro b k cs hb hk hc
  refine .ownW rfl fun w hl ha hH => goes_oper_k ho hw hk fun K hK => ?_
  obtain ⟨st, sm, hwg⟩ := hal w ha
  have hcell : ∃ v, w.cell? ⟨W, off, none⟩ = some v := by
    have hwg' : w.heap[W]? = some (wgBlock WTy st sm) := hwg
    obtain rfl | rfl : off = 0 ∨ off = 1 := by omega
    · exact ⟨_, by simp [World.cell?, hwg', wgBlock]; rfl⟩
    · exact ⟨_, by simp [World.cell?, hwg', wgBlock]; rfl⟩
  obtain ⟨v, hv⟩ := hcell
  have e1 := run_convert_to_unsafe (P := Try.prog) hs hd hsz hv
  have e2 := fun es => events_convert_to_unsafe (P := Try.prog) hs hd hsz hv es
  have e3 : (execOp a.eval o).run Try.prog w = .ok (.value (.pointer (some ⟨W, off, none⟩))) w := by
    unfold execOp
    simp only [hop, hx, Sem.run_bind, e1, Result.andThen_ok, Sem.run_pure]
  have e4 : listed Try.prog b.fn a o w = #[] := listed_none (by
    unfold execOp
    simp only [hop, hx, Sem.events_bind, e1, e2, Result.evThen_ok, Sem.events_pure])
  rw [e3]
  refine hK _ _ ⟨m, ?_, h b k cs hb hk hc⟩
  rw [e4]
  exact .idle hH

/-! ### Add -/
structure AddCtx (Fin : Value → World → Prop) (s s' : Gh) (W : Nat) : Prop where
  df : s.df = true
  df' : s'.df = true
  alive : ∀ w, s'.alive w → ∃ st sm, WgAt WTy W w st sm
  atomic : ∀ m g, g.status = .running → (∀ v : Nat, v ≤ 1 → ∃ g', (∀ w, WgAt WTy W w (v * KK) 0 → stepG Try.prog true g w = .go g' (w.setCell (stA W) (.int .u64 ((v + 1) * KK))) #[rd (stA W), wr (stA W)]) ∧ JM Try.prog Fin s' m g') → JM Try.prog Fin s m g
  note : ∀ m g g' e, WgMark W e → g.status = .running → (∀ w, stepG Try.prog true g w = .go g' w #[e]) → JM Try.prog Fin s' m g' → JM Try.prog Fin s' m g

theorem ctxOut {sh sf : Nat → Prop} {W : Nat} : AddCtx Fin (.out sh sf true (some (W, 0))) (.out sh sf true (some (W, 1))) W :=
  ⟨rfl, rfl, fun w h => h, fun m g hr h => by
    obtain ⟨g', e1, hJ⟩ := h 0 (by omega)
    exact .addOut hr (fun w hw => e1 w hw) hJ, fun m g g' e he hr h hJ => .noteOut he hr (fun w _ _ => h w) hJ⟩
theorem ctxInn {sh : Nat → Prop} {X : Cfg} {p : Ph} (hty : X.ty = WTy) (h2 : p.two = false) (ha : p.ad = false) (hw : p.w = 0) (hd : p.df = true) : AddCtx Fin (.inn sh X p) (.inn sh X { p with ad := true }) X.Wg :=
  ⟨hd, hd, fun w h => by obtain ⟨st, sm, h⟩ := h; exact ⟨st, sm, by rw [hty] at h; exact h⟩, fun m g hr h => .addInn h2 ha hw hr (by rw [hty]; exact h), fun m g g' e he hr h hJ => .noteInn he hr h hJ⟩

omit [Io] in
theorem wg_cells {W : Nat} {w : World} {st sm : Int} (h : WgAt WTy W w st sm) : w.cell? (stA W) = some (.int .u64 st) ∧ w.frozen? (stA W) = false ∧ w.cell? (smA W) = some (.int .u32 sm) ∧ w.frozen? (smA W) = false := by
  have h' : w.heap[W]? = some (wgBlock WTy st sm) := h
  refine ⟨?_, ?_, ?_, ?_⟩ <;> simp [World.cell?, World.frozen?, stA, smA, h', wgBlock]

theorem wrapU {x : Int} (h : 0 ≤ x) (h' : x < 18446744073709551616) : IntKind.u64.wrap x = x := by
  rw [IntKind.wrap_u64]; omega

theorem opsJ_uadd {s' : Gh} {W : Nat} (C : AddCtx Fin s s' W) {x y : Operand} (ho : ops[i]? = some o) (hw : Region.wanted o (yielded ops a.tmps) = true) (hop : o.op = .call { callee := .value (.func 42), args := #[x, y], argTypes := ats })
    (hx : a.eval x = .pointer (some (stA W))) (hy : a.eval y = .int .u64 4294967296) (h : ∀ v : Nat, v ≤ 1 → OpsJ Try.prog Fin fn ops rest Q s' m (a.put o.dst (.int .u64 ((v + 1) * KK)))) : OpsJ Try.prog Fin fn ops (i :: rest) Q s m a := by
  intro b k cs hb hk hc
  obtain ⟨fx, h1, h2, h3, h4, h5⟩ := e42.ex
  refine C.atomic _ _ rfl fun v hv => ⟨G (b.at (a.put o.dst (.int .u64 ((v + 1) * KK))) (.inRegion ops rest :: k)) cs, fun w hwg => ?_, h v hv b k cs hb hk hc⟩
  obtain ⟨c1, c2, _, _⟩ := wg_cells hwg
  have hwr : IntKind.u64.wrap (v * KK + 4294967296) = (v + 1) * KK := by
    have : v = 0 ∨ v = 1 := by omega
    rcases this with rfl | rfl <;> decide
  have := stepG_add_atomic (P := Try.prog) (main := true) (b := b) (kk := k) (cs := cs) (w := w) (rest := rest) ho hw hk hop h1 h2 h3 h4 .u64 h5 hx hy c1 c2
  rw [hwr] at this
  exact this

/-- Uint64.Add. -/
theorem uadd_j {s' : Gh} {W : Nat} (C : AddCtx Fin s s' W) (m : PM) : CallsJ Try.prog Fin 34 #[.pointer (some ⟨W, 0, none⟩), .int .u64 4294967296] s m fun s'' m' v => s'' = s' ∧ m' = m ∧ ∃ v0 : Nat, v0 ≤ 1 ∧ v = .int .u64 ((v0 + 1) * KK) := by
  ((refine callsJ_of Try.func34 (by rfl) rfl ?_; simp only [Try.ntmps34, List.size_toArray, List.length_cons, List.length_nil, Nat.reduceAdd, Nat.reduceSub, Array.replicate_succ, Array.replicate_zero, List.push_toArray, List.append_toArray, List.nil_append, List.cons_append]))
  ((first | refine wpJ_seq ?_ | refine wpJ_block ?_ | refine wpJ_skip ?_ | refine wpJ_label ?_ | refine wpJ_ret ?_ | refine wpJ_exit ?_ | refine opsJ_nil ?_))
  ((refine wpJ_region ?_; simp only [List.size_toArray, List.length_cons, List.length_nil, Nat.reduceAdd, Nat.zero_add, List.range, List.range.loop]))
  ((refine opsJ_pure rfl (by rfl) (fun w => run_eqv (fun K hK => by go_simp; exact hK)) (fun w => by simp [go_sem]) ?_; try walk_nrm))
  ((first | refine wpJ_seq ?_ | refine wpJ_block ?_ | refine wpJ_skip ?_ | refine wpJ_label ?_ | refine wpJ_ret ?_ | refine wpJ_exit ?_ | refine opsJ_nil ?_))
  (simp only [QJ.then, QJ.inBlock, if_true, if_false, reduceIte, Nat.reduceEqDiff])
  ((first | refine wpJ_seq ?_ | refine wpJ_block ?_ | refine wpJ_skip ?_ | refine wpJ_label ?_ | refine wpJ_ret ?_ | refine wpJ_exit ?_ | refine opsJ_nil ?_))
  ((refine wpJ_region ?_; simp only [List.size_toArray, List.length_cons, List.length_nil, Nat.reduceAdd, Nat.zero_add, List.range, List.range.loop]))
  ((refine opsJ_pure rfl (by rfl) (fun w => run_eqv (fun K hK => by go_simp; exact hK)) (fun w => by simp [go_sem]) ?_; try walk_nrm))
  ((refine opsJ_pure rfl (by rfl) (fun w => run_eqv (fun K hK => by go_simp; exact hK)) (fun w => by simp [go_sem]) ?_; try walk_nrm))
  ((refine opsJ_pure rfl (by rfl) (fun w => run_eqv (fun K hK => by go_simp; exact hK)) (fun w => by simp [go_sem]) ?_; try walk_nrm))
  ((refine opsJ_pure rfl (by rfl) (fun w => run_eqv (fun K hK => by go_simp; exact hK)) (fun w => by simp [go_sem]) ?_; try walk_nrm))
  refine opsJ_uadd C rfl (by rfl) rfl rfl rfl fun v hv => ?_
  walk_nrm
  ((refine opsJ_pure rfl (by rfl) (fun w => run_eqv (fun K hK => by go_simp; exact hK)) (fun w => by simp [go_sem]) ?_; try walk_nrm))
  ((first | refine wpJ_seq ?_ | refine wpJ_block ?_ | refine wpJ_skip ?_ | refine wpJ_label ?_ | refine wpJ_ret ?_ | refine wpJ_exit ?_ | refine opsJ_nil ?_))
  (simp only [QJ.then, QJ.inBlock, if_true, if_false, reduceIte, Nat.reduceEqDiff])
  ((first | refine wpJ_seq ?_ | refine wpJ_block ?_ | refine wpJ_skip ?_ | refine wpJ_label ?_ | refine wpJ_ret ?_ | refine wpJ_exit ?_ | refine opsJ_nil ?_))
  exact ⟨rfl, _, resultsJ_tmp Try.results34 _, rfl, rfl, v, hv, rfl⟩

/-- The detector is told of the semaphore. -/
theorem opsJ_note {s' : Gh} {W : Nat} {mk : Addr → Mark} {f : FuncId} {ad : Addr} (he : Ent f (Extern.Race.marked mk)) (hmk : ∀ ad g, mk ad ≠ .extern g) (hW : WgMark W ⟨.mark (mk ad), false, true⟩) (note : ∀ m g g' e, WgMark W e → g.status = .running → (∀ w, stepG Try.prog true g w = .go g' w #[e]) → JM Try.prog Fin s m g' → JM Try.prog Fin s m g)
    (ho : ops[i]? = some o) (hw : Region.wanted o (yielded ops a.tmps) = true) (hop : o.op = .call { callee := .value (.func f), args := xs, argTypes := ats }) (hx : (xs.map a.eval)[0]? = some (.pointer (some ad)))
    (h : OpsJ Try.prog Fin fn ops rest Q s m (a.put o.dst (.tuple #[]))) : OpsJ Try.prog Fin fn ops (i :: rest) Q s m a := by
  intro b k cs hb hk hc
  obtain ⟨g, h1, h2, h3, h4, h5⟩ := he.ex
  exact note _ _ _ _ hW rfl (fun w => stepG_markAt mk hmk ho hw hk hop h1 h2 h3 h4 h5 hx) (h b k cs hb hk hc)

/-- What a function's body leaves that has one 'race.Enable' deferred. -/
def bodyD (P : Program) (fn : Func) (Post : Gh → PM → Value → Prop) : QJ
  | s, m, .normal, a | s, m, .ret, a => a.defers = [dcall 22 #[]] ∧ s.df = true ∧ ∃ v, ResultsJ P fn a.tmps v ∧ Post s.flip m v
  | _, _, _, _ => False

def CallsD (Fin : Value → World → Prop) (f : FuncId) (args : Array Value) (s : Gh) (m : PM) (Post : Gh → PM → Value → Prop) : Prop :=
  ∃ fn c, Try.prog.funcs[f]? = some fn ∧ (fn.name == "runtime.NumGoroutine") = false ∧ fn.body = some c ∧
    wpJ Try.prog Fin f c (bodyD Try.prog fn Post) s m { tmps := args ++ Array.replicate (fn.ntmps - args.size) undef, defers := [] }

theorem JM.callD {b : Frame} {k : List Item} {cs : List Frame} {f : FuncId} {args : Array Operand} {Post : Gh → PM → Value → Prop}
    (ho : ops[i]? = some o) (hw : Region.wanted o (yielded ops a.tmps) = true) (hk : b.kind ≠ .early) (hop : o.op = .call { callee := .value (.func f), args, argTypes := ats })
    (hcall : CallsD Fin f (args.map a.eval) s m Post)
    (hnext : ∀ s' m' v, Post s' m' v → JM Try.prog Fin s' m' (G (b.at (a.put o.dst v) (.inRegion ops rest :: k)) cs)) :
    JM Try.prog Fin s m (G (b.at a (.inRegion ops (i :: rest) :: k)) cs) := by
  obtain ⟨fn, c, hf, hname, hbody, hwp⟩ := hcall
  have hfin : ∀ v, (b.at a (.inRegion ops (i :: rest) :: k)).finish v = b.at (a.put o.dst v) (.inRegion ops rest :: k) := fun v => by rw [Frame.finish_at, ho]; rfl
  obtain ⟨fe, x1, x2, x3, x4, x5⟩ := e22.ex
  have hleave : ∀ (s' : Gh) (m' : PM) (a' : Act) (todo : List Item), (a'.defers = [dcall 22 #[]] ∧ s'.df = true ∧ ∃ v, ResultsJ Try.prog fn a'.tmps v ∧ Post s'.flip m' v) →
      JM Try.prog Fin s' m' (G { (base f).at a' todo with mode := .returning } (b.at a (.inRegion ops (i :: rest) :: k) :: cs)) := by
    rintro s' m' a' todo ⟨hd, hdf, v, hr, hp⟩
    refine .mark (g' := G { (base f).at ⟨a'.tmps, []⟩ todo with mode := .returning } (b.at a (.inRegion ops (i :: rest) :: k) :: cs)) rfl .enable (.inr ⟨hdf, rfl⟩) (fun w => ?_) ?_
    · exact stepG_unwind_entry hd x1 x2 x3 x4 x5 (by simp [Extern.Race.none_]; rfl) (by simp [Sem.events_bind]; rfl) (by intro x hx; simp [Go.ConcR.mk] at hx; subst hx; exact ⟨rfl, fun g h => by cases h⟩)
    · refine .quiet rfl (fun w => ?_) (hnext s'.flip m' v hp)
      have := stepG_leave (P := Try.prog) (main := true) (b := base f) (a := ⟨a'.tmps, []⟩) (todo := todo) (cs := cs) (c := b.at a (.inRegion ops (i :: rest) :: k)) rfl rfl hf (hr w).1 (hr w).2
      rw [hfin] at this
      exact this
  refine .own rfl fun w _ hH => goes_call ho hw hk hop hf hname hbody ⟨m, .idle hH, ?_⟩
  refine hwp (base f) [] _ rfl (by simp [base]) fun s' m' e a' q => ?_
  cases e with
  | normal => exact .quiet rfl (fun _ => stepG_end) (hleave s' m' a' [] q)
  | ret => exact fun todo => hleave s' m' a' todo q
  | exit id => exact q.elim
  | goto l => exact q.elim
  | panic ch => exact q.elim
  | outgrown => exact q.elim

theorem opsJ_callD {f : FuncId} {args : Array Operand} {Post : Gh → PM → Value → Prop}
    (ho : ops[i]? = some o) (hw : Region.wanted o (yielded ops a.tmps) = true) (hop : o.op = .call { callee := .value (.func f), args, argTypes := ats })
    (hcall : CallsD Fin f (args.map a.eval) s m Post) (hnext : ∀ s' m' v, Post s' m' v → OpsJ Try.prog Fin fn ops rest Q s' m' (a.put o.dst v)) : OpsJ Try.prog Fin fn ops (i :: rest) Q s m a :=
  fun b k cs hb hk hc => JM.callD ho hw hk hop hcall fun s' m' v hp => hnext s' m' v hp b k cs hb hk hc
end
end Go.Proofs.Ytafnbmokegomaaa
