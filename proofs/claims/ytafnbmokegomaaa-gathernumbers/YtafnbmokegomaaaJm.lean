/-
  GOROUTINE 0's JUDGEMENT OVER ITS OWN MEMORY: 'JM s m g': in phase s, owning the blocks of m, goroutine g goes on well, whatever the others do. The world is met only inside a step.
-/
import Derived.Test.YtafnbmokegomaaaOut
import Derived.Conc.Neutral
set_option linter.unusedSimpArgs false
set_option linter.unusedSectionVars false
namespace Go.Proofs.Ytafnbmokegomaaa
open Go.Conc
open Go.ConcR (KK wgBlock WgAt stA smA rd wr)

/-- The outside as it was at the start. -/
class Io where
  w0 : World

/-- What goroutine 0 owns: block number, what it holds. -/
abbrev PM := Nat → Option Obj
def PM.set (m : PM) (β : Nat) (o : Obj) : PM := fun x => if x = β then some o else m x
def PM.cut (m : PM) (β : Nat) : PM := fun x => if x = β then none else m x
theorem PM.set_same (m : PM) (β : Nat) (o : Obj) : m.set β o β = some o := by simp [PM.set]
theorem PM.set_ne (m : PM) {β γ : Nat} (o : Obj) (h : γ ≠ β) : m.set β o γ = m γ := by simp [PM.set, h]

def Has (m : PM) (w : World) : Prop := ∀ β o, m β = some o → w.heap[β]? = some o

/-- A step of goroutine 0's on its own memory. -/
structure Turns (w : World) (m : PM) (w' : World) (m' : PM) (es : Array Event) : Prop where
  sz : w.heap.size ≤ w'.heap.size
  fr : ∀ β, β < w.heap.size → m β = none → w'.heap[β]? = w.heap[β]?
  own : ∀ β o, m' β = some o → w'.heap[β]? = some o ∧ (m β ≠ none ∨ w.heap.size ≤ β)
  ev : ∀ e ∈ es, (∃ a, e.loc = .cell a ∧ (m a.block ≠ none ∨ w.heap.size ≤ a.block) ∧ a.block < w'.heap.size) ∨ ∃ mk, e = ⟨.mark mk, false, true⟩ ∧ Neutral mk
  io : w'.os = w.os ∧ w'.output = w.output

theorem Turns.idle {w : World} {m : PM} (h : Has m w) : Turns w m w m #[] := ⟨Nat.le_refl _, fun _ _ _ => rfl, fun β o e => ⟨h β o e, .inl (by rw [e]; simp)⟩, fun e he => by simp at he, ⟨rfl, rfl⟩⟩

/-- Where goroutine 0 stands. -/
inductive Gh
  | out (sh sf : Nat → Prop) (df : Bool) (wg : Option (Nat × Nat))
  | inn (sh : Nat → Prop) (X : Cfg) (p : Ph)

def Gh.bad : Gh → Nat → Prop
  | .out sh _ _ _, β => sh β
  | .inn sh X p, β => X.F p β ∨ X.StB β ∨ sh β
def Gh.low : Gh → Nat
  | .out _ _ _ wg => match wg with
    | none => 0
    | some (W, _) => W + 1
  | .inn _ X _ => X.N0

/-- The group's type. -/
abbrev WTy : TypeId := 46

def Gh.wgAt : Gh → World → Prop
  | .out _ sf _ wg, w => ∀ W v, wg = some (W, v) → WgAt WTy W w (v * KK) 0 ∧ sf W
  | .inn _ X _, w => Live X w

/-- The group's block is there. -/
def Gh.alive : Gh → World → Prop
  | .out _ _ _ (some (W, _)), w => ∃ st sm, WgAt WTy W w st sm
  | .out _ _ _ none, _ => True
  | .inn _ X _, w => Live X w

def Gh.sub : Gh → Prop
  | .out sh sf _ _ => ∀ β, sf β → sh β
  | .inn sh X p => ¬ p.sb X.Wg ∧ ∀ β, X.StB β → ¬ sh β

structure Sees [Io] (s : Gh) (w : World) (m : PM) : Prop where
  low : s.low ≤ w.heap.size
  bad : ∀ β, s.bad β → β < w.heap.size
  has : Has m w
  good : ∀ β o, m β = some o → ¬ s.bad β
  wg : s.wgAt w
  sub : s.sub
  io : w.os = (Io.w0).os ∧ w.output = (Io.w0).output

theorem Sees.none_of_bad [Io] {s : Gh} {w : World} {m : PM} (h : Sees s w m) {β : Nat} (hb : s.bad β) : m β = none := by
  cases e : m β with
  | none => rfl
  | some o => exact absurd hb (h.good β o e)

theorem Sees.turns [Io] {s : Gh} {w w' : World} {m m' : PM} {es : Array Event} (h : Sees s w m) (T : Turns w m w' m' es) : Sees s w' m' := by
  refine ⟨Nat.le_trans h.low T.sz, fun β hb => Nat.lt_of_lt_of_le (h.bad β hb) T.sz, fun β o e => (T.own β o e).1, fun β o e hb => ?_, ?_, h.sub, ⟨T.io.1.trans h.io.1, T.io.2.trans h.io.2⟩⟩
  · rcases (T.own β o e).2 with h1 | h1
    · exact h1 (h.none_of_bad hb)
    · have := h.bad β hb; omega
  · cases s with
    | inn sh X p =>
      obtain ⟨st, sm, hw⟩ := h.wg
      have hb : (Gh.inn sh X p).bad X.Wg := .inl (.inl rfl)
      exact ⟨st, sm, (T.fr _ (h.bad _ hb) (h.none_of_bad hb)).trans hw⟩
    | out sh sf df wg =>
      intro W v e
      obtain ⟨h1, h2⟩ := h.wg W v e
      have hb : (Gh.out sh sf df wg).bad W := h.sub W h2
      exact ⟨(T.fr W (h.bad W hb) (h.none_of_bad hb)).trans h1, h2⟩

theorem Sees.rely [Io] {sh : Nat → Prop} {X : Cfg} {p : Ph} {w w₁ : World} {pv : Bool → Nat → Prop} {m : PM} (h : Sees (.inn sh X p) w m) (r : RM X p w pv w₁) : Sees (.inn sh X (p.to pv)) w₁ m := by
  have hlt : ∀ β o, m β = some o → β < w.heap.size := fun β o e => (Array.getElem?_eq_some_iff.1 (h.has β o e)).1
  refine ⟨Nat.le_trans h.low r.size, fun β hb => ?_, fun β o e => ?_, fun β o e hb => ?_, r.live h.wg, ⟨fun ⟨b, hb⟩ => ?_, h.sub.2⟩, ⟨r.os.trans h.io.1, r.output.trans h.io.2⟩⟩
  · rcases hb with hb | hb
    · rcases hb with rfl | ⟨x, hx, rfl⟩ | ⟨b, hp⟩
      · exact Nat.lt_of_lt_of_le (h.bad _ (.inl (.inl rfl))) r.size
      · exact Nat.lt_of_lt_of_le (h.bad _ (.inl (.inr (.inl ⟨x, hx, rfl⟩)))) r.size
      · rcases r.new b β hp with h1 | ⟨_, h1⟩
        · exact Nat.lt_of_lt_of_le (h.bad _ (.inl (.inr (.inr ⟨b, h1⟩)))) r.size
        · exact h1
    · exact Nat.lt_of_lt_of_le (h.bad β (.inr hb)) r.size
  · rw [r.block β (hlt β o e) fun hF => h.good β o e (.inl hF)]; exact h.has β o e
  · rcases hb with hb | hb
    · exact h.good β o e (.inl (F_to r (hlt β o e) hb))
    · exact h.good β o e (.inr hb)
  · rcases r.new b _ hb with h1 | ⟨h1, _⟩
    · exact h.sub.1 ⟨b, h1⟩
    · have := h.bad X.Wg (.inl (.inl rfl)); omega

/-- ████ THE JUDGEMENT. ████ -/
def JM [Io] (P : Program) (Fin : Value → World → Prop) : Gh → PM → Goroutine → Prop
  | .out sh sf df wg, m, g => ∀ w, Sees (.out sh sf df wg) w m → Top P Fin sh sf df g w
  | .inn sh X p, m, g => X.P = P → X.Ok → X.Shun = ShunB sh → ∀ pv w, Sees (.inn sh X (p.to pv)) w m → Main X (p.to pv) g w

section
variable {P : Program} [Io] {Fin : Value → World → Prop} {s : Gh} {m : PM} {g g' : Goroutine}

theorem Sees.at {s : Gh} {w : World} {m : PM} (h : Sees s w m) (d : Nat) : Sees s (w.at d) m :=
  ⟨h.low, h.bad, h.has, h.good, by
    cases s with
    | inn sh X p => exact h.wg
    | out sh sf df wg => exact h.wg, h.sub, h.io⟩

theorem Sees.alive {s : Gh} {w : World} {m : PM} (h : Sees s w m) : s.alive w := by
  cases s with
  | inn sh X p => exact h.wg
  | out sh sf df wg =>
    cases wg with
    | none => trivial
    | some x => exact ⟨_, _, (h.wg x.1 x.2 rfl).1⟩

theorem ev_cell {a : Addr} {e : Event} {y : Touch} (he : e.loc = .cell a) (h : (MemAct.ofEvent e).touch? = some y) : y.loc = .cell a := by
  obtain ⟨loc, wr, sy⟩ := e
  subst he
  have : MemAct.ofEvent ⟨.cell a, wr, sy⟩ = .access ⟨.cell a, wr, sy⟩ := rfl
  rw [this] at h
  simp only [MemAct.touch?, Option.some.injEq] at h
  subst h
  rfl
theorem low_cell {a : Addr} {e : Event} {B : Nat} (he : e.loc = .cell a) (h : a.block < B) : (MemAct.ofEvent e).low B := by
  obtain ⟨loc, wr, sy⟩ := e
  subst he
  exact h

theorem Turns.evL {sh sf : Nat → Prop} {df : Bool} {wg : Option (Nat × Nat)} {w w' : World} {m m' : PM} {es : Array Event} (T : Turns w m w' m' es) (h : Sees (.out sh sf df wg) w m) : ∀ e ∈ es, EvL (ShunB sh) w'.heap.size e := by
  intro e he
  rcases T.ev e he with ⟨a, hl, ho, hlt⟩ | ⟨mk, rfl, hn⟩
  · have hns : ¬ sh a.block := fun hs => by
      rcases ho with ho | ho
      · exact ho (h.none_of_bad hs)
      · have := h.bad _ hs; omega
    refine ⟨fun x hx hs => ?_, by rw [hl]; simp, by rw [hl]; simp, low_cell hl hlt⟩
    rw [ev_cell hl hx] at hs
    rcases hs with ⟨a', e', hs⟩ | ⟨c, e'⟩
    · cases e'; exact absurd hs hns
    · cases e'
  · refine ⟨fun x hx => ?_, by simpa using hn.ne_disable, by simpa using hn.ne_enable, ?_⟩
    · have h1 := hn.touch
      have h2 : MemAct.ofEvent ⟨.mark mk, false, true⟩ = .mark mk := rfl
      rw [h2, h1] at hx; cases hx
    · unfold Neutral at hn; subst hn; trivial

theorem Turns.dm {sh : Nat → Prop} {X : Cfg} {p : Ph} {w w' : World} {m m' : PM} {es : Array Event} (O : X.Ok) (hX : X.Shun = ShunB sh) (T : Turns w m w' m' es) (h : Sees (.inn sh X p) w m) : DM X p w w' es := by
  refine ⟨fun b hb => T.fr b (h.bad b (.inl hb)) (h.none_of_bad (.inl hb)), T.sz, fun hK => O.kf _ _ hK T.sz fun b hb => T.fr b (h.bad b (.inr (.inl hb))) (h.none_of_bad (.inr (.inl hb))), fun e he => ?_⟩
  rcases T.ev e he with ⟨a, hl, ho, hlt⟩ | ⟨mk, rfl, hn⟩
  · have hnb : ¬ (Gh.inn sh X p).bad a.block := fun hs => by
      rcases ho with ho | ho
      · exact ho (h.none_of_bad hs)
      · have := h.bad _ hs; omega
    refine ⟨fun x hx => ?_, by rw [hl]; simp, by rw [hl]; simp, low_cell hl hlt⟩
    have e1 := ev_cell hl hx
    refine ⟨fun hs => ?_, fun hs => ?_, fun a' e' hs => ?_⟩
    · rw [hX, e1] at hs
      rcases hs with ⟨a', e', hs⟩ | ⟨c, e'⟩
      · cases e'; exact absurd (.inr (.inr hs)) hnb
      · cases e'
    · rw [e1] at hs
      obtain ⟨a', e', hs⟩ := hs
      cases e'; exact absurd (.inr (.inl hs)) hnb
    · rw [e1] at e'
      cases e'; exact hnb (.inl (.inr (.inr hs)))
  · refine ⟨fun x hx => ?_, by simpa using hn.ne_disable, by simpa using hn.ne_enable, ?_⟩
    · have h1 := hn.touch
      have h2 : MemAct.ofEvent ⟨.mark mk, false, true⟩ = .mark mk := rfl
      rw [h2, h1] at hx; cases hx
    · unfold Neutral at hn; subst hn; trivial

/-- ████ AN OWN STEP. ████ -/
theorem JM.ownW (hr : g.status = .running) (h : ∀ w, s.low ≤ w.heap.size → s.alive w → Has m w → (stepG P true g w).goes fun g' w' es => ∃ m', Turns w m w' m' es ∧ JM P Fin s m' g') : JM P Fin s m g := by
  cases s with
  | out sh sf df wg =>
    intro w hS
    refine .intro hr (.own fun d => ?_)
    refine goes_mono (h (w.at d) hS.low (hS.at d).alive (hS.at d).has) fun g' w' es ⟨m', T, hJ⟩ => ?_
    exact ⟨⟨T.sz, T.evL (hS.at d)⟩, hJ w' ((hS.at d).turns T)⟩
  | inn sh X p =>
    intro hP O hX pv w hS
    subst hP
    refine .intro hr (.own fun pv₁ w₁ r => ?_)
    have hS₁ := hS.rely r
    refine goes_mono (h w₁ hS₁.low hS₁.alive hS₁.has) fun g' w' es ⟨m', T, hJ⟩ => ?_
    exact ⟨T.dm O hX hS₁, hJ rfl O hX pv₁ w' (hS₁.turns T)⟩

theorem JM.own (hr : g.status = .running) (h : ∀ w, s.low ≤ w.heap.size → Has m w → (stepG P true g w).goes fun g' w' es => ∃ m', Turns w m w' m' es ∧ JM P Fin s m' g') : JM P Fin s m g :=
  .ownW hr fun w a _ b => h w a b

theorem JM.quiet (hr : g.status = .running) (h : ∀ w, stepG P true g w = .go g' w #[]) (hJ : JM P Fin s m g') : JM P Fin s m g :=
  .own hr fun w _ hH => by rw [h w]; exact ⟨m, .idle hH, hJ⟩

/-- A phase with its mark turned. -/
def Gh.flip : Gh → Gh
  | .out sh sf df wg => .out sh sf (!df) wg
  | .inn sh X p => .inn sh X { p with df := !p.df }
def Gh.df : Gh → Bool
  | .out _ _ df _ => df
  | .inn _ _ p => p.df

theorem JM.mark (hr : g.status = .running) (mk : Mark) (hm : (s.df = false ∧ mk = .disable) ∨ (s.df = true ∧ mk = .enable)) (h : ∀ w, stepG P true g w = .go g' w #[Go.ConcR.mk mk]) (hJ : JM P Fin s.flip m g') : JM P Fin s m g := by
  cases s with
  | out sh sf df wg =>
    intro w hS
    exact .intro hr (.mark mk hm fun d => ⟨g', h _, hJ (w.at d) (by have := hS.at d; exact ⟨this.low, this.bad, this.has, this.good, this.wg, this.sub, this.io⟩)⟩)
  | inn sh X p =>
    intro hP O hX pv w hS
    subst hP
    refine .intro hr (.mark mk hm fun pv₁ w₁ r => ⟨g', h _, ?_⟩)
    have := hS.rely r
    exact hJ rfl O hX pv₁ w₁ ⟨this.low, this.bad, this.has, this.good, this.wg, this.sub, this.io⟩
end
end Go.Proofs.Ytafnbmokegomaaa
