/-
  ████ THE MACHINE COMES TO GOROUTINE 0's ANCHOR, ON WHATEVER TAPE. ████
-/
import Derived.Test.YtafnbmokegomaaaStepE
set_option linter.unusedSimpArgs false
namespace Go.Proofs.Ytafnbmokegomaaa
open Go.Conc
open Go.ConcR (KK wgBlock WgAt stA smA rd wr deafBehind_cons deafBehind_one)
open Go.ConcN (sumTo upd sumTo_upd upd_ne upd_same)

def Sim (a g : Goroutine) : Prop := a.frame = g.frame ∧ a.callers = g.callers ∧ a.dying = g.dying

/-- Goroutine 0 stands at its anchor; all others only leave. -/
def AtAnch (X : Cfg) (m : Machine) (t : Trace) : Prop :=
  ∃ gs w sl q a g, m = crowd gs w sl ∧ gs[0]? = some a ∧ Sim a g ∧ a.status = .running ∧ X.Anch g w ∧ Leavers X.P t gs q ∧ Past X.Shun w.heap.size t ∧ X.K w ∧ ∀ i b, touchAt t i = some b → X.New b.loc → b.kind ≠ .plain
def Rch (X : Cfg) (m : Machine) (t : Trace) : Prop := ∃ N m' t', runNT X.P N m t = (.next m', t') ∧ AtAnch X m' t'

theorem Rch.step {X : Cfg} {m m' : Machine} {t : Trace} {ops : Array MemOp} (h : stepT X.P m = (.next m', ops)) (h' : Rch X m' (t ++ ops)) : Rch X m t := by
  obtain ⟨N, m₂, t₂, hr, hA⟩ := h'
  exact ⟨N + 1, m₂, t₂, by simp only [runNT, h]; exact hr, hA⟩

theorem Sim.stepG {P : Program} {main : Bool} {a g : Goroutine} (h : Sim a g) (w : World) : Go.stepG P main a w = Go.stepG P main g w := stepG_same h.1 h.2.1 h.2.2 w

/-- From here on goroutine 0 comes to its anchor. -/
def RR (X : Cfg) (p : Ph) (g : Goroutine) (w0 : World) : Prop :=
  g.status = .running ∧ ∀ pv gs w t q id st sl a, SI X (p.to pv) gs w t q id st → RM X p w0 pv w → gs[0]? = some a → Sim a g → a.status = .running → Rch X (crowd gs w sl) t

section
variable {X : Cfg} {p : Ph} {gs gs' : Array Goroutine} {w w' : World} {t T : Trace} {q : Nat → Nat} {id : Bool → Nat} {st : Bool → Option Stg} {sl : Option (Nat × Nat)}

theorem SI.awake (S : SI X p gs w t q id st) {a : Goroutine} (ha : gs[0]? = some a) (hM : M0 X p st a) : ∀ g ∈ gs, awake g := by
  intro g hg
  obtain ⟨i, hi, rfl⟩ := Array.mem_iff_getElem.1 hg
  have hgi : gs[i]? = some gs[i] := Array.getElem?_eq_getElem hi
  rcases Nat.eq_zero_or_pos i with rfl | hpos
  · rw [hgi] at ha
    have e := Option.some.inj ha
    rw [e]
    cases hM with
    | run h => exact awake_of (.inl h)
    | park _ _ => exact awake_of (.inr (.inl rfl))
    | wait h _ => exact awake_of (.inr (.inl h))
  · by_cases hs : ∃ b, p.born b ∧ i = id b
    · obtain ⟨b, hb, rfl⟩ := hs
      obtain ⟨g', h1, h2⟩ := S.snd b hb
      rw [hgi] at h1
      rw [Option.some.inj h1]
      exact awake_of h2.status
    · obtain ⟨m, _, hq⟩ := S.old i _ hpos (fun b hb e => hs ⟨b, hb, e⟩) hgi
      exact awake_of (hq.status.imp (fun x => x) .inr)

theorem loop (O : X.Ok) {g : Goroutine} {w0 : World} (Bl : Goroutine → World → Prop)
    (hMain : ∀ pv gs w t q id st sl a, SI X (p.to pv) gs w t q id st → RM X p w0 pv w → gs[0]? = some a → Sim a g → a.status = .running →
      ∃ m' ops, runT X.P (crowd gs w sl) 0 = (.next m', ops) ∧ (Rch X m' (t ++ ops) ∨
        ∃ gs' w' a', m' = crowd gs' w' sl ∧ gs'.size = gs.size ∧ SI X (p.to pv) gs' w' (t ++ ops) q id st ∧ RM X p w0 pv w' ∧ gs'[0]? = some a' ∧ M0 X (p.to pv) st a' ∧ a'.status = .blocked ∧ Bl a' w'))
    (hMet : ∀ pv gs w t q id st sl a i, SI X (p.to pv) gs w t q id st → RM X p w0 pv w → Bl a w → MetOut X (p.to pv) gs w t q id sl a i → ∃ m' ops, runT X.P (crowd gs w sl) i = (.next m', ops) ∧ Rch X m' (t ++ ops))
    (hLive : ∀ pv gs w t q id st a, SI X (p.to pv) gs w t q id st → gs[0]? = some a → M0 X (p.to pv) st a → a.status = .blocked → Bl a w → ∃ (i : Nat) (x : Goroutine), gs[i]? = some x ∧ x.status = .running)
    (hBl : ∀ a w w', Bl a w → (a.offers = none → WgAt X.ty X.Wg w' 0 1 → WgAt X.ty X.Wg w 0 1) → Bl a w')
    (hSim : ∀ a w, Bl a w → Sim a g) :
    ∀ (μ : Nat) pv gs w t q id st sl a fl, μ = sumTo gs.size q + fl → SI X (p.to pv) gs w t q id st → RM X p w0 pv w → gs[0]? = some a → M0 X (p.to pv) st a →
      ((a.status = .running ∧ Sim a g ∧ fl = 1) ∨ (a.status = .blocked ∧ Bl a w ∧ fl = 0)) → Rch X (crowd gs w sl) t := by
  intro μ
  induction μ using Nat.strongRecOn with
  | _ μ ih =>
    intro pv gs w t q id st sl a fl hμ S hR ha hM hst
    have some1 : ∃ (i : Nat) (x : Goroutine), gs[i]? = some x ∧ x.status = .running := by
      rcases hst with ⟨h, _, _⟩ | ⟨h, hb, _⟩
      · exact ⟨0, a, ha, h⟩
      · exact hLive pv gs w t q id st a S ha hM h hb
    obtain ⟨i, x, d, sl', hx, hxr, hstep⟩ := crowd_pick (P := X.P) (w := w) (sl := sl) (S.awake ha hM) some1
    have S' := S.at O d
    have hR' : RM X p w0 pv (w.at d) := hR.trans (RM.at X (p.to pv) w d)
    by_cases hi : i = 0
    · subst hi
      rw [ha] at hx
      obtain rfl := Option.some.inj hx
      rcases hst with ⟨h, hs, hf⟩ | ⟨h, _, _⟩
      · obtain ⟨m', ops, e1, e2⟩ := hMain pv gs (w.at d) t q id st sl' a S' hR' ha hs h
        refine Rch.step (hstep.trans e1) ?_
        rcases e2 with e2 | ⟨gs', w', a', rfl, hsz, S'', hR'', ha', hM', hb', hB'⟩
        · exact e2
        · exact ih (sumTo gs'.size q + 0) (by rw [hsz]; omega) pv gs' w' (t ++ ops) q id st sl' a' 0 rfl S'' hR'' ha' hM' (.inr ⟨hb', hB', rfl⟩)
      · rw [h] at hxr; cases hxr
    · rcases S'.other (sl := sl') O hi hx hxr ha hM with ⟨gs', w', ops, q', st', a', pv', e1, hsz, hRM, hsum, ha', S'', hM', hcase, hup⟩ | hmet
      · refine Rch.step (hstep.trans e1) ?_
        rcases hcase with rfl | ⟨hbl, rfl⟩
        · rcases hst with ⟨h, hs, hf⟩ | ⟨h, hb, hf⟩
          · exact ih (sumTo gs'.size q' + 1) (by rw [hsz]; omega) pv' gs' w' (t ++ ops) q' id st' sl' a' 1 rfl S'' (hR'.trans hRM) ha' hM' (.inl ⟨h, hs, rfl⟩)
          · refine ih (sumTo gs'.size q' + 0) (by rw [hsz]; omega) pv' gs' w' (t ++ ops) q' id st' sl' a' 0 rfl S'' (hR'.trans hRM) ha' hM' (.inr ⟨h, ?_, rfl⟩)
            refine hBl a' w w' hb fun ho h01 => ?_
            rcases hup h ho h01 with e | e
            · rw [h] at e; cases e
            · exact e
        · rcases hst with ⟨h, _, _⟩ | ⟨h, hb, hf⟩
          · rw [h] at hbl; cases hbl
          · exact ih (sumTo gs'.size q' + 1) (by rw [hsz]; omega) pv' gs' w' (t ++ ops) q' id st' sl' _ 1 rfl S'' (hR'.trans hRM) ha' hM' (.inl ⟨rfl, hSim a w hb, rfl⟩)
      · rcases hst with ⟨h, _, _⟩ | ⟨h, hb, _⟩
        · obtain ⟨_, _, _, _, _, _, g₂, op, rfl, _⟩ := hmet
          cases h
        · have hb' := hBl a w (w.at d) hb (fun _ e => e)
          obtain ⟨m', ops, e1, e2⟩ := hMet pv gs (w.at d) t q id st sl' a i S' hR' hb' hmet
          exact Rch.step (hstep.trans e1) e2

/-- Where goroutine 0 never sleeps. -/
theorem awakeNode (O : X.Ok) {g : Goroutine} {w0 : World} (hg : g.status = .running)
    (hMain : ∀ pv gs w t q id st sl a, SI X (p.to pv) gs w t q id st → RM X p w0 pv w → gs[0]? = some a → Sim a g → a.status = .running → ∃ m' ops, runT X.P (crowd gs w sl) 0 = (.next m', ops) ∧ Rch X m' (t ++ ops)) : RR X p g w0 := by
  refine ⟨hg, ?_⟩
  intro pv gs w t q id st sl a S hR ha hs hrun
  refine loop O (g := g) (w0 := w0) (fun _ _ => False) (fun pv gs w t q id st sl a S hR ha hs hr => ?_) (fun _ _ _ _ _ _ _ _ _ _ _ _ h => h.elim) (fun _ _ _ _ _ _ _ _ _ _ _ _ h => h.elim) (fun _ _ _ h => h.elim) (fun _ _ h => h.elim) _ pv gs w t q id st sl a 1 rfl S hR ha (.run hrun) (.inl ⟨hrun, hs, rfl⟩)
  obtain ⟨m', ops, e1, e2⟩ := hMain pv gs w t q id st sl a S hR ha hs hr
  exact ⟨m', ops, e1, .inl e2⟩

/-- Behind a step of its own goroutine 0 goes on. -/
theorem goOn (O : X.Ok) (S : SI X p gs w t q id st) {a a' : Goroutine} {es : Array Event} {p' : Ph} (ha : gs[0]? = some a) (hstep : stepG X.P true a w = .go a' w' es) (hp : p'.two = p.two ∧ p'.r = p.r ∧ p'.e = p.e ∧ p'.c = p.c ∧ p'.pv = p.pv)
    (hsz : w.heap.size ≤ w'.heap.size) (hK : X.K w') (hch : ∀ b, p.born b → w'.heap[p.c b]? = w.heap[p.c b]?) (hpo : ∀ b n, p.pv b n → w'.heap[n]? = w.heap[n]?)
    (hwg : WgI X w' p'.w (cntOf p' st) st) (h2 : p'.w = 2 → cntOf p' st = 0) (h10 : ∀ v, p'.w = 10 + v → cntOf p' st ≤ v)
    (hT : (∀ op ∈ MemOp.ofEvents 0 a.frame.fn a.frame.place es, op.g = 0) ∧ (∀ op ∈ MemOp.ofEvents 0 a.frame.fn a.frame.place es, ∀ b, op.act.touch? = some b → (X.Shun b.loc → b.kind ≠ .plain) ∧ (X.Still b.loc → b.write = false) ∧ ∀ g, ¬ PvL p id g b.loc) ∧ (∀ op ∈ MemOp.ofEvents 0 a.frame.fn a.frame.place es, op.act.low w'.heap.size))
    (hd : deafBehind (Deaf t 0) es = if p'.df then 1 else 0) :
    ∃ gs', runT X.P (crowd gs w sl) 0 = (.next (crowd gs' w' sl), MemOp.ofEvents 0 a.frame.fn a.frame.place es) ∧ gs'.size = gs.size ∧ gs'[0]? = some a' ∧ SI X p' gs' w' (t ++ MemOp.ofEvents 0 a.frame.fn a.frame.place es) q id st := by
  have hlt : 0 < gs.size := (Array.getElem?_eq_some_iff.1 ha).1
  refine ⟨_, runT_crowd_go ha (show stepG X.P (0 == 0) a w = _ from hstep), by simp, by simp [hlt], ?_⟩
  refine S.step0 hp O hT.1 (fun i hi => ?_) (by simp) hsz hK hch hpo hwg h2 h10 hT.2.1 hT.2.2 (by rw [Deaf_own]; exact hd)
  exact S.fixed (fun b hb _ => hch b hb) hi hi
end
end Go.Proofs.Ytafnbmokegomaaa
