/-
  A SENDER's WALK: rules of Snd, one own step each; the count falls by one.
-/
import Derived.Test.YtafnbmokegomaaaWgJ
import Derived.Conc.DeferLaws
set_option linter.unusedSimpArgs false
set_option linter.unusedVariables false
namespace Go.Proofs.Ytafnbmokegomaaa
open Go.Conc Go.RowKit
open Go.ConcR (KK wgBlock WgAt stA smA rd wr mk)

/-- a step that tells nothing may be taken here -/
def SOk (s : Stg) (M : Pm) : Prop := (∃ k, s = .snd k) ∨ (s.mute ∧ M = none)
theorem SOk.s (k : Nat) (M : Pm) : SOk (.snd k) M := .inl ⟨k, rfl⟩
theorem SOk.sil : SOk .sil none := .inr ⟨trivial, rfl⟩
theorem SOk.deaf : SOk .deaf none := .inr ⟨trivial, rfl⟩
theorem SOk.ld : SOk .ld none := .inr ⟨trivial, rfl⟩
theorem SOk.st : SOk .st none := .inr ⟨trivial, rfl⟩
theorem SOk.sem : SOk .sem none := .inr ⟨trivial, rfl⟩

theorem QuitsD.up {P : Program} : ∀ {n d : Nat} {g : Goroutine}, QuitsD P n d g → QuitsD P (n + 1) d g
  | 0, _, _, h => .inl h
  | n + 1, _, _, h => h.elim .inl fun ⟨hs, g', es, hm, hst, hq⟩ => .inr ⟨hs, g', es, hm, hst, QuitsD.up hq⟩
theorem QuitsD.le {P : Program} {n m d : Nat} {g : Goroutine} (h : QuitsD P n d g) (hm : n ≤ m) : QuitsD P m d g := by
  induction hm with
  | refl => exact h
  | step _ ih => exact QuitsD.up ih

theorem SStep.mono {X : Cfg} {b : Bool} {c : Nat} {S S' : Stg → Pm → Goroutine → Prop} {Q Q' : Goroutine → Prop} (hS : ∀ s M g, S s M g → S' s M g) (hQ : ∀ g, Q g → Q' g) {s : Stg} {M : Pm} {g : Goroutine} (h : SStep X b c S Q s M g) : SStep X b c S' Q' s M g := by
  cases h with
  | own h => exact .own fun w a b' c' => let ⟨g', w', es, M', x, y, z⟩ := h w a b' c'; ⟨g', w', es, M', x, y, hS _ _ _ z⟩
  | send hk g₂ z h hn => exact .send hk g₂ z h (hS _ _ _ hn)
  | close hw h => exact .close hw fun w cap buf s r a b' c' => let ⟨g', x, y, z⟩ := h w cap buf s r a b' c'; ⟨g', x, y, hS _ _ _ z⟩
  | silent hs h => exact .silent hs fun w a b' => let ⟨g', x, z⟩ := h w a b'; ⟨g', x, hS _ _ _ z⟩
  | merge h => exact .merge fun w a b' => let ⟨g', x, z⟩ := h w a b'; ⟨g', x, hS _ _ _ z⟩
  | dis h => exact .dis fun w a b' => let ⟨g', x, z⟩ := h w a b'; ⟨g', x, hS _ _ _ z⟩
  | sub h => exact .sub fun w v wt a b' c' d => let ⟨g', x, y, z⟩ := h w v wt a b' c' d; ⟨g', x, fun e => hS _ _ _ (y e), fun e => hQ _ (z e)⟩
  | ld h => exact .ld fun w a b' => let ⟨g', x, z⟩ := h w a b'; ⟨g', x, hS _ _ _ z⟩
  | st h => exact .st fun w a b' => let ⟨g', x, z⟩ := h w a b'; ⟨g', x, hS _ _ _ z⟩
  | sem hw h => exact .sem hw fun w a b' => let ⟨g', x, y, z, q⟩ := h w a b'; ⟨g', x, y, z, hQ _ q⟩

theorem Snd.up {X : Cfg} {b : Bool} {c : Nat} : ∀ {m : Nat} {s : Stg} {M : Pm} {g : Goroutine}, Snd X b c m s M g → Snd X b c (m + 1) s M g
  | 0, _, _, _, h => h.elim
  | m + 1, _, _, _, h => ⟨h.1, h.2.mono (fun _ _ _ k => Snd.up k) (fun _ k => QuitsD.up k)⟩
theorem Snd.le {X : Cfg} {b : Bool} {c n m : Nat} {s : Stg} {M : Pm} {g : Goroutine} (h : Snd X b c n s M g) (hm : n ≤ m) : Snd X b c m s M g := by
  induction hm with
  | refl => exact h
  | step _ ih => exact Snd.up ih

section
variable {X : Cfg} {bb : Bool} {c m : Nat} {s : Stg} {M : Pm} {b : Frame} {a : Act} {k : List Item} {cs : List Frame} {ops : Array Oper} {i : Nat} {rest : List Nat} {o : Oper} {g g' : Goroutine}

/-- a step that tells nothing, and turns nothing -/
theorem Snd.q (ho : SOk s M) (hP : X.P = Try.prog) (hr : g.status = .running) (h : ∀ w, X.K w → Live X w → HasM M w → stepG Try.prog false g w = .go g' w #[]) (hk : Snd X bb c m s M g') : Snd X bb c (m + 1) s M g := by
  refine ⟨hr, ?_⟩
  rcases ho with ⟨k0, rfl⟩ | ⟨hm, rfl⟩
  · exact .own fun w hK hL hM => ⟨g', w, #[], M, by rw [hP]; exact h w hK hL hM, .still (by simp), hk⟩
  · exact .silent hm fun w hK hL => ⟨g', by rw [hP]; exact h w hK hL (fun _ _ e => by cases e), hk⟩
theorem Snd.ctl (ho : SOk s M) (hP : X.P = Try.prog) (hr : g.status = .running) (h : ∀ w, stepG Try.prog false g w = .go g' w) (hk : Snd X bb c m s M g') : Snd X bb c (m + 1) s M g := .q ho hP hr (fun w _ _ _ => h w) hk
theorem Snd.value (hso : SOk s M) (hP : X.P = Try.prog) (v : Value) (ho : ops[i]? = some o) (hw : Region.wanted o (yielded ops a.tmps) = true) (hk : b.kind ≠ .early)
    (hr : ∀ w, (execOp a.eval o).run Try.prog w = .ok (.value v) w) (he : ∀ w, (execOp a.eval o).events Try.prog w #[] = #[])
    (hq : Snd X bb c m s M (G (b.at (a.put o.dst v) (.inRegion ops rest :: k)) cs)) : Snd X bb c (m + 1) s M (G (b.at a (.inRegion ops (i :: rest) :: k)) cs) :=
  .ctl hso hP rfl (fun w => by rw [stepG_value ho hw hk (hr w)]; unfold listed; rw [he w, seen_none]) hq
theorem Snd.unw (hso : SOk s M) (hP : X.P = Try.prog) (ho : ops[i]? = some o) (hw : Region.wanted o (yielded ops a.tmps) = false)
    (hq : Snd X bb c m s M (G (b.at (a.put o.dst undef) (.inRegion ops rest :: k)) cs)) : Snd X bb c (m + 1) s M (G (b.at a (.inRegion ops (i :: rest) :: k)) cs) :=
  .ctl hso hP rfl (fun _ => stepG_unwanted ho hw) hq
theorem Snd.call (hso : SOk s M) (hP : X.P = Try.prog) {f : FuncId} {fn : Func} {cd : Code} {args : Array Operand} {ats : Array TypeId}
    (ho : ops[i]? = some o) (hw : Region.wanted o (yielded ops a.tmps) = true) (hk : b.kind ≠ .early) (hop : o.op = .call { callee := .value (.func f), args, argTypes := ats })
    (hf : Try.prog.funcs[f]? = some fn) (hname : (fn.name == "runtime.NumGoroutine") = false) (hb : fn.body = some cd)
    (hq : Snd X bb c m s M (G ((base f).at { tmps := args.map a.eval ++ Array.replicate (fn.ntmps - (args.map a.eval).size) undef, defers := [] } [.code cd]) (b.at a (.inRegion ops (i :: rest) :: k) :: cs))) : Snd X bb c (m + 1) s M (G (b.at a (.inRegion ops (i :: rest) :: k)) cs) :=
  .ctl hso hP rfl (fun w => by
    have hb' : fn.body.isNone = false := by rw [hb]; rfl
    rw [stepG_enter ho hw hk (run_call_body hop hf hname hb'), enter_at _ hf hb]
    have : listed Try.prog b.fn a o w = #[] := by unfold listed; rw [events_call_body hop hf hname hb']; exact seen_none Try.prog _
    rw [this]) hq
theorem Snd.defer (hso : SOk s M) (hP : X.P = Try.prog) {f : FuncId} {xs : Array Operand} {ats : Array TypeId} (ho : ops[i]? = some o) (hw : Region.wanted o (yielded ops a.tmps) = true) (hk : b.kind ≠ .early)
    (hop : o.op = .defer { callee := .value (.func f), args := xs, argTypes := ats })
    (hq : Snd X bb c m s M (G (b.at (Act.put ⟨a.tmps, dcall f (xs.map a.eval) :: a.defers⟩ o.dst undef) (.inRegion ops rest :: k)) cs)) : Snd X bb c (m + 1) s M (G (b.at a (.inRegion ops (i :: rest) :: k)) cs) :=
  .ctl hso hP rfl (fun _ => stepG_defer ho hw hk hop) hq
theorem Snd.pure (hso : SOk s M) (hP : X.P = Try.prog) (v : Value) {f : FuncId} {xs : Array Operand} {ats : Array TypeId} (he : Ent f (fun _ => Pure.pure v)) (ho : ops[i]? = some o) (hw : Region.wanted o (yielded ops a.tmps) = true) (hk : b.kind ≠ .early)
    (hop : o.op = .call { callee := .value (.func f), args := xs, argTypes := ats })
    (hq : Snd X bb c m s M (G (b.at (a.put o.dst v) (.inRegion ops rest :: k)) cs)) : Snd X bb c (m + 1) s M (G (b.at a (.inRegion ops (i :: rest) :: k)) cs) := by
  obtain ⟨g, h1, h2, h3, h4, h5⟩ := he.ex
  exact .ctl hso hP rfl (fun _ => stepG_entry_pure v ho hw hk hop h1 h2 h3 h4 h5) hq
theorem Snd.merge (hP : X.P = Try.prog) {f : FuncId} {xs : Array Operand} {ats : Array TypeId} (he : Ent f (Extern.Race.marked .releaseMerge)) (ho : ops[i]? = some o) (hw : Region.wanted o (yielded ops a.tmps) = true) (hk : b.kind ≠ .early)
    (hop : o.op = .call { callee := .value (.func f), args := xs, argTypes := ats }) (hx : (xs.map a.eval)[0]? = some (.pointer (some (stA X.Wg))))
    (hq : Snd X bb c m .sil none (G (b.at (a.put o.dst (.tuple #[])) (.inRegion ops rest :: k)) cs)) : Snd X bb c (m + 1) .sil none (G (b.at a (.inRegion ops (i :: rest) :: k)) cs) := by
  obtain ⟨g, h1, h2, h3, h4, h5⟩ := he.ex
  exact ⟨rfl, .merge fun w _ _ => ⟨_, by rw [hP]; exact stepG_markAt .releaseMerge (by simp) ho hw hk hop h1 h2 h3 h4 h5 hx, hq⟩⟩
theorem Snd.dis (hP : X.P = Try.prog) {f : FuncId} {xs : Array Operand} {ats : Array TypeId} (he : Ent f (fun _ => do mark .disable; Pure.pure Extern.Race.none_)) (ho : ops[i]? = some o) (hw : Region.wanted o (yielded ops a.tmps) = true) (hk : b.kind ≠ .early)
    (hop : o.op = .call { callee := .value (.func f), args := xs, argTypes := ats })
    (hq : Snd X bb c m .deaf none (G (b.at (a.put o.dst (.tuple #[])) (.inRegion ops rest :: k)) cs)) : Snd X bb c (m + 1) .sil none (G (b.at a (.inRegion ops (i :: rest) :: k)) cs) := by
  obtain ⟨g, h1, h2, h3, h4, h5⟩ := he.ex
  exact ⟨rfl, .dis fun w _ _ => ⟨_, by rw [hP]; exact stepG_mark0 .disable (by simp) ho hw hk hop h1 h2 h3 h4 h5, hq⟩⟩
theorem e43 : Ent 43 Extern.Atomic.storeT := ⟨Try.f43, Try.func43, by kernel_rfl, by kernel_rfl, by kernel_rfl, by kernel_rfl⟩
/-- the atomic subtraction -/
theorem Snd.sub (hP : X.P = Try.prog) (hT : X.ty = WTy) {x y : Operand} {ats : Array TypeId} (ho : ops[i]? = some o) (hw : Region.wanted o (yielded ops a.tmps) = true) (hk : b.kind ≠ .early)
    (hop : o.op = .call { callee := .value (.func 42), args := #[x, y], argTypes := ats }) (hx : a.eval x = .pointer (some (stA X.Wg))) (hy : a.eval y = .int .u64 18446744069414584320)
    (h01 : Snd X bb c m .ld none (G (b.at (a.put o.dst (.int .u64 1)) (.inRegion ops rest :: k)) cs))
    (h00 : QuitsD Try.prog m 1 (G (b.at (a.put o.dst (.int .u64 0)) (.inRegion ops rest :: k)) cs))
    (h10 : QuitsD Try.prog m 1 (G (b.at (a.put o.dst (.int .u64 4294967296)) (.inRegion ops rest :: k)) cs))
    (h11 : QuitsD Try.prog m 1 (G (b.at (a.put o.dst (.int .u64 4294967297)) (.inRegion ops rest :: k)) cs)) : Snd X bb c (m + 1) .deaf none (G (b.at a (.inRegion ops (i :: rest) :: k)) cs) := by
  obtain ⟨fx, h1, h2, h3, h4, h5⟩ := e42.ex
  refine ⟨rfl, .sub fun w v wt hK hwt hv hwg => ?_⟩
  rw [hT] at hwg
  obtain ⟨c1, c2, _, _⟩ := wg_cells hwg
  have hwr : IntKind.u64.wrap ((v + 1) * KK + wt + 18446744069414584320) = v * KK + wt := by
    obtain rfl | rfl : v = 0 ∨ v = 1 := by omega
    · obtain rfl | rfl : wt = 0 ∨ wt = 1 := by omega
      · decide
      · decide
    · obtain rfl | rfl : wt = 0 ∨ wt = 1 := by omega
      · decide
      · decide
  have hst := stepG_add_atomic (P := Try.prog) (main := false) (b := b) (kk := k) (cs := cs) (w := w) (rest := rest) ho hw hk hop h1 h2 h3 h4 .u64 h5 hx hy c1 c2
  rw [hwr] at hst
  refine ⟨G (b.at (a.put o.dst (.int .u64 (v * KK + wt))) (.inRegion ops rest :: k)) cs, by rw [hP]; exact hst, fun e => ?_, fun e => ?_⟩
  · obtain ⟨rfl, rfl⟩ := e
    exact h01
  · rw [hP]
    obtain rfl | rfl : v = 0 ∨ v = 1 := by omega
    · obtain rfl | rfl : wt = 0 ∨ wt = 1 := by omega
      · exact h00
      · exact absurd ⟨rfl, rfl⟩ e
    · obtain rfl | rfl : wt = 0 ∨ wt = 1 := by omega
      · exact h10
      · exact h11
/-- the last one looks at the counter .. -/
theorem Snd.uld (hP : X.P = Try.prog) (hT : X.ty = WTy) {x : Operand} {ats : Array TypeId} (ho : ops[i]? = some o) (hw : Region.wanted o (yielded ops a.tmps) = true) (hk : b.kind ≠ .early)
    (hop : o.op = .call { callee := .value (.func 39), args := #[x], argTypes := ats }) (hx : a.eval x = .pointer (some (stA X.Wg)))
    (hq : Snd X bb c m .st none (G (b.at (a.put o.dst (.int .u64 1)) (.inRegion ops rest :: k)) cs)) : Snd X bb c (m + 1) .ld none (G (b.at a (.inRegion ops (i :: rest) :: k)) cs) := by
  obtain ⟨fx, h1, h2, h3, h4, h5⟩ := e39.ex
  refine ⟨rfl, .ld fun w hK hwg => ⟨_, ?_, hq⟩⟩
  rw [hT] at hwg
  obtain ⟨c1, c2, _, _⟩ := wg_cells hwg
  rw [hP]
  exact stepG_load_atomic ho hw hk hop h1 h2 h3 h4 .u64 h5 hx c1
/-- .. clears it .. -/
theorem Snd.ust (hP : X.P = Try.prog) (hT : X.ty = WTy) {x y : Operand} {ats : Array TypeId} (ho : ops[i]? = some o) (hw : Region.wanted o (yielded ops a.tmps) = true) (hk : b.kind ≠ .early)
    (hop : o.op = .call { callee := .value (.func 43), args := #[x, y], argTypes := ats }) (hx : a.eval x = .pointer (some (stA X.Wg))) (hy : a.eval y = .int .u64 0)
    (hq : Snd X bb c m .sem none (G (b.at (a.put o.dst (.tuple #[])) (.inRegion ops rest :: k)) cs)) : Snd X bb c (m + 1) .st none (G (b.at a (.inRegion ops (i :: rest) :: k)) cs) := by
  obtain ⟨fx, h1, h2, h3, h4, h5⟩ := e43.ex
  refine ⟨rfl, .st fun w hK hwg => ⟨_, ?_, hq⟩⟩
  rw [hT] at hwg
  obtain ⟨c1, c2, _, _⟩ := wg_cells hwg
  rw [hP]
  exact stepG_store_atomic ho hw hk hop h1 h2 h3 h4 h5 hx hy c1 c2
/-- .. and lets the one that waits go on. -/
theorem Snd.usem (hP : X.P = Try.prog) (hT : X.ty = WTy) {xs : Array Operand} {ats : Array TypeId} (ho : ops[i]? = some o) (hw : Region.wanted o (yielded ops a.tmps) = true) (hk : b.kind ≠ .early)
    (hop : o.op = .call { callee := .value (.func 37), args := xs, argTypes := ats }) (hx : (xs.map a.eval)[0]? = some (.pointer (some (smA X.Wg)))) (hmw : mayWake Try.prog (G (b.at a (.inRegion ops (i :: rest) :: k)) cs) = true)
    (hq : QuitsD Try.prog m 1 (G (b.at (a.put o.dst (.tuple #[])) (.inRegion ops rest :: k)) cs)) : Snd X bb c (m + 1) .sem none (G (b.at a (.inRegion ops (i :: rest) :: k)) cs) := by
  obtain ⟨fx, h1, h2, h3, h4, h5⟩ := e37.ex
  refine ⟨rfl, .sem (by rw [hP]; exact hmw) fun w hK hwg => ⟨G (b.at (a.put o.dst (.tuple #[])) (.inRegion ops rest :: k)) cs, by simp [G], by simp [G], ?_, by rw [hP]; exact hq⟩⟩
  rw [hT] at hwg
  obtain ⟨_, _, c1, c2⟩ := wg_cells hwg
  rw [hP]
  have := stepG_semrelease (P := Try.prog) (main := false) (b := b) (kk := k) (cs := cs) (w := w) (rest := rest) ho hw hk hop h1 h2 h3 h4 h5 hx c1 c2
  exact this
/-- a pointer made raw: it looks whether the group's block is there. -/
theorem Snd.conv (hso : SOk s M) (hP : X.P = Try.prog) (hT : X.ty = WTy) {off : Nat} {src dst t : TypeId} {x : Operand} (ho : ops[i]? = some o) (hw : Region.wanted o (yielded ops a.tmps) = true) (hk : b.kind ≠ .early) (hop : o.op = .convert src dst x) (hx : a.eval x = .pointer (some ⟨X.Wg, off, none⟩)) (hoff : off < 2)
    (hs : Try.prog.underlying src = some (.pointer t)) (hd : Try.prog.underlying dst = some .unsafePointer) (hsz : (Try.prog.info? t).map (fun i => decide (i.size = 0)) = some false)
    (hq : Snd X bb c m s M (G (b.at (a.put o.dst (.pointer (some ⟨X.Wg, off, none⟩))) (.inRegion ops rest :: k)) cs)) : Snd X bb c (m + 1) s M (G (b.at a (.inRegion ops (i :: rest) :: k)) cs) := by
  refine .q hso hP rfl (fun w _ hL _ => ?_) hq
  obtain ⟨st, sm, hwg⟩ := hL
  rw [hT] at hwg
  have hcell : ∃ v, w.cell? ⟨X.Wg, off, none⟩ = some v := by
    have hwg' : w.heap[X.Wg]? = some (wgBlock WTy st sm) := hwg
    obtain rfl | rfl : off = 0 ∨ off = 1 := by omega
    · exact ⟨_, by simp [World.cell?, hwg', wgBlock]; rfl⟩
    · exact ⟨_, by simp [World.cell?, hwg', wgBlock]; rfl⟩
  obtain ⟨v, hv⟩ := hcell
  have e1 := run_convert_to_unsafe (P := Try.prog) hs hd hsz hv
  have e2 := fun es => events_convert_to_unsafe (P := Try.prog) hs hd hsz hv es
  have e3 : (execOp a.eval o).run Try.prog w = .ok (.value (.pointer (some ⟨X.Wg, off, none⟩))) w := by
    unfold execOp
    simp only [hop, hx, Sem.run_bind, e1, Result.andThen_ok, Sem.run_pure]
  rw [stepG_value ho hw hk e3]
  have e4 : (execOp a.eval o).events Try.prog w #[] = #[] := by
    unfold execOp
    simp only [hop, hx, Sem.events_bind, e1, e2, Result.evThen_ok, Sem.events_pure]
  unfold listed
  rw [e4, seen_none]
section
variable {fn : Func} {todo : List Item} {b₀ : Frame} {a₀ : Act}
theorem Snd.leave0 (hso : SOk s M) (hP : X.P = Try.prog) (hn : b.kind = .normal) (hd : a.defers = []) (hf : Try.prog.funcs[b.fn]? = some fn) (hr : fn.results = #[])
    (hq : Snd X bb c m s M (G (b₀.at (a₀.put ((ops[i]?).bind (·.dst)) (.tuple #[])) (.inRegion ops rest :: k)) cs)) :
    Snd X bb c (m + 1) s M (G { b.at a todo with mode := .returning } (b₀.at a₀ (.inRegion ops (i :: rest) :: k) :: cs)) :=
  .ctl hso hP rfl (fun w => by rw [stepG_leave hn hd hf (results_none hr _ Try.prog w) (events_results_none hr _ _), Frame.finish_at]) hq
theorem Snd.leave1 (hso : SOk s M) (hP : X.P = Try.prog) {t : Tmp} (hn : b.kind = .normal) (hd : a.defers = []) (hf : Try.prog.funcs[b.fn]? = some fn) (hr : fn.results = #[.tmp t])
    (hq : Snd X bb c m s M (G (b₀.at (a₀.put ((ops[i]?).bind (·.dst)) (a.tmps.getD t undef)) (.inRegion ops rest :: k)) cs)) :
    Snd X bb c (m + 1) s M (G { b.at a todo with mode := .returning } (b₀.at a₀ (.inRegion ops (i :: rest) :: k) :: cs)) :=
  .ctl hso hP rfl (fun w => by rw [stepG_leave hn hd hf (results_tmp hr _ Try.prog w) (events_results_tmp hr _ _), Frame.finish_at]) hq
end
end

end Go.Proofs.Ytafnbmokegomaaa
