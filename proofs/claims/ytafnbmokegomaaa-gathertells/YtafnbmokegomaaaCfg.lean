/-
  TWO SENDERS AND GOROUTINE 0: what each does, step by step, in whatever company.
-/
import Derived.Conc.CrowdSpec
import Derived.Conc.Token
import Derived.Test.YtafnbmokegomaaaTr
import Derived.Test.YtafnbmokegomaaaSel
namespace Go.Proofs.Ytafnbmokegomaaa
open Go.Conc
open Go.ConcR (KK wgBlock WgAt stA smA rd wr mk)

/-- Who is there: the group's block, what each sends; the still blocks (below N0). -/
structure Cfg where
  P : Program
  ty : TypeId
  Wg : Nat
  n : Bool → Nat
  it : Bool → Nat → Value
  z : Value
  K : World → Prop
  StB : Nat → Prop
  Shun : Loc → Prop
  N0 : Nat
  Anch : Goroutine → World → Prop

def Cfg.Still (X : Cfg) (l : Loc) : Prop := ∃ a, l = .cell a ∧ X.StB a.block
def Cfg.New (X : Cfg) (l : Loc) : Prop := (∃ a, l = .cell a ∧ a.block = X.Wg) ∨ ∃ c, l = .obj c
def Live (X : Cfg) (w : World) : Prop := ∃ st sm, WgAt X.ty X.Wg w st sm

structure Cfg.Ok (X : Cfg) : Prop where
  kf : ∀ w w' : World, X.K w → w.heap.size ≤ w'.heap.size → (∀ b, X.StB b → w'.heap[b]? = w.heap[b]?) → X.K w'
  slt : ∀ b, X.StB b → b < X.N0
  wge : X.N0 ≤ X.Wg
  shun : ∀ l, X.New l → X.Shun l

theorem Cfg.Ok.still {X : Cfg} (O : X.Ok) : ∀ l, X.New l → ¬ X.Still l := by
  rintro l (⟨a, rfl, ha⟩ | ⟨c, rfl⟩) ⟨a', e, hs⟩
  · cases e
    have := O.slt _ hs
    have := O.wge
    omega
  · cases e

inductive Stg
  | snd (k : Nat)
  | sil
  | deaf
  | ld
  | st
  | sem

def Stg.df : Stg → Nat
  | .snd _ | .sil => 0
  | _ => 1
def Stg.mute : Stg → Prop
  | .snd _ => False
  | _ => True

/-- A sender's own memory: the one block that it still reads. -/
abbrev Pm := Option (Nat × Obj)
def HasM (M : Pm) (w : World) : Prop := ∀ n o, M = some (n, o) → w.heap[n]? = some o

/-- What a sender's own step makes of the world. -/
inductive Eff (X : Cfg) (M : Pm) (w : World) : World → Array Event → Pm → Prop
  | still {es} (h : ∀ e ∈ es, EvC X.Still X.N0 e ∨ ∃ n o a, M = some (n, o) ∧ e = ⟨.cell a, false, false⟩ ∧ a.block = n) : Eff X M w w es M
  | new (o : Obj) : Eff X M w (w.alloc o) #[] (some (w.heap.size, o))
  | put {n o w' es} (o' : Obj) (hM : M = some (n, o)) (h : ∀ e ∈ es, ∃ a wr, e = ⟨.cell a, wr, false⟩ ∧ a.block = n) (ht : w'.tape = w.tape) (hs : w'.os = w.os) (hp : w'.output = w.output)
      (hz : w'.heap.size = w.heap.size) (hb : ∀ b, b ≠ n → w'.heap[b]? = w.heap[b]?) (hn : w'.heap[n]? = some o') : Eff X M w w' es (some (n, o'))

/-- ONE STEP OF A SENDER's, 'S': what is asked of it behind the step, 'Q': it only leaves; c: its channel. -/
inductive SStep (X : Cfg) (b : Bool) (c : Nat) (S : Stg → Pm → Goroutine → Prop) (Q : Goroutine → Prop) : Stg → Pm → Goroutine → Prop
  | own {k M g} (h : ∀ w, X.K w → Live X w → HasM M w → ∃ g' w' es M', stepG X.P false g w = .go g' w' es ∧ Eff X M w w' es M' ∧ S (.snd k) M' g') : SStep X b c S Q (.snd k) M g
  | send {k M g} (hk : k < X.n b) (g₂ : Goroutine) (z : Value) (h : ∀ w, X.K w → Live X w → HasM M w → stepG X.P false g w = .comm g₂ #[scase c (X.it b k) z] true .send w #[])
      (hn : S (.snd (k + 1)) none (Go.Conc.served g₂ undef)) : SStep X b c S Q (.snd k) M g
  | close {M g} (hw : mayWake X.P g = true) (h : ∀ w cap buf s r, X.K w → Live X w → w.heap[c]? = some (.chan cap buf false s r false) →
      ∃ g', g'.status = .running ∧ stepG X.P false g w = .go g' (w.setChan c cap buf true s r false) (closeEvents c) ∧ S .sil none g') : SStep X b c S Q (.snd (X.n b)) M g
  | silent {s g} (hs : s.mute) (h : ∀ w, X.K w → Live X w → ∃ g', stepG X.P false g w = .go g' w #[] ∧ S s none g') : SStep X b c S Q s none g
  | merge {g} (h : ∀ w, X.K w → Live X w → ∃ g', stepG X.P false g w = .go g' w #[mk (.releaseMerge (stA X.Wg))] ∧ S .sil none g') : SStep X b c S Q .sil none g
  | dis {g} (h : ∀ w, X.K w → Live X w → ∃ g', stepG X.P false g w = .go g' w #[mk .disable] ∧ S .deaf none g') : SStep X b c S Q .sil none g
  | sub {g} (h : ∀ w (v wt : Nat), X.K w → wt ≤ 1 → v < 2 → WgAt X.ty X.Wg w ((v + 1) * KK + wt) 0 →
      ∃ g', stepG X.P false g w = .go g' (w.setCell (stA X.Wg) (.int .u64 (v * KK + wt))) #[rd (stA X.Wg), wr (stA X.Wg)] ∧ ((v = 0 ∧ wt = 1) → S .ld none g') ∧ (¬ (v = 0 ∧ wt = 1) → Q g')) : SStep X b c S Q .deaf none g
  | ld {g} (h : ∀ w, X.K w → WgAt X.ty X.Wg w 1 0 → ∃ g', stepG X.P false g w = .go g' w #[rd (stA X.Wg)] ∧ S .st none g') : SStep X b c S Q .ld none g
  | st {g} (h : ∀ w, X.K w → WgAt X.ty X.Wg w 1 0 → ∃ g', stepG X.P false g w = .go g' (w.setCell (stA X.Wg) (.int .u64 0)) #[wr (stA X.Wg)] ∧ S .sem none g') : SStep X b c S Q .st none g
  | sem {g} (hw : mayWake X.P g = true) (h : ∀ w, X.K w → WgAt X.ty X.Wg w 0 0 → ∃ g', g'.status ≠ .blocked ∧ g'.status ≠ .waiting ∧
      stepG X.P false g w = .go g' (w.setCell (smA X.Wg) (.int .u32 1)) (semEvents (smA X.Wg)) ∧ Q g') : SStep X b c S Q .sem none g

/-- Within m own steps it has ended. -/
def Snd (X : Cfg) (b : Bool) (c : Nat) : Nat → Stg → Pm → Goroutine → Prop
  | 0, _, _, _ => False
  | m + 1, s, M, g => g.status = .running ∧ SStep X b c (Snd X b c m) (QuitsD X.P m 1) s M g

/-- Where goroutine 0 stands; the channels' blocks; the senders' private blocks. -/
structure Ph where
  two : Bool
  ad : Bool
  df : Bool
  r : Bool → Nat
  e : Bool → Bool
  w : Nat
  c : Bool → Nat
  pv : Bool → Nat → Prop

def updB {α : Type} (f : Bool → α) (b : Bool) (x : α) : Bool → α := fun a => if a = b then x else f a
@[simp] theorem updB_same {α : Type} (f : Bool → α) (b : Bool) (x : α) : updB f b x b = x := by simp [updB]
theorem updB_ne {α : Type} (f : Bool → α) {b a : Bool} (x : α) (h : a ≠ b) : updB f b x a = f a := by simp [updB, h]

def Ph.born (p : Ph) (b : Bool) : Prop := b = false ∨ p.two = true
def Ph.sb (p : Ph) (β : Nat) : Prop := ∃ b, p.pv b β

/-- The blocks that others turn. -/
def Cfg.F (X : Cfg) (p : Ph) (β : Nat) : Prop := β = X.Wg ∨ (∃ x, p.born x ∧ β = p.c x) ∨ p.sb β

/-- What goroutine 0 suffers: 'pv₁': the senders' private blocks now. -/
structure RM (X : Cfg) (p : Ph) (w : World) (pv₁ : Bool → Nat → Prop) (w₁ : World) : Prop where
  tape : w₁.tape = w.tape
  os : w₁.os = w.os
  output : w₁.output = w.output
  size : w.heap.size ≤ w₁.heap.size
  block : ∀ b, b < w.heap.size → ¬ X.F p b → w₁.heap[b]? = w.heap[b]?
  live : Live X w → Live X w₁
  sub : ∀ b β, p.pv b β → pv₁ b β
  new : ∀ b β, pv₁ b β → p.pv b β ∨ (w.heap.size ≤ β ∧ β < w₁.heap.size)

def Ph.to (p : Ph) (pv₁ : Bool → Nat → Prop) : Ph := { p with pv := pv₁ }

def EvM (X : Cfg) (sb : Nat → Prop) (B : Nat) (e : Event) : Prop :=
  (∀ x, (MemAct.ofEvent e).touch? = some x → (X.Shun x.loc → x.kind ≠ .plain) ∧ (X.Still x.loc → x.write = false) ∧ ∀ a, x.loc = .cell a → ¬ sb a.block) ∧ e.loc ≠ .mark .disable ∧ e.loc ≠ .mark .enable ∧ (MemAct.ofEvent e).low B

structure DM (X : Cfg) (p : Ph) (w w' : World) (es : Array Event) : Prop where
  fr : ∀ b, X.F p b → w'.heap[b]? = w.heap[b]?
  sz : w.heap.size ≤ w'.heap.size
  k : X.K w → X.K w'
  ev : ∀ e ∈ es, EvM X p.sb w'.heap.size e

def nilcase (z : Value) : CommCase := { chan := .chan none, send := none, zero := z }
def Cfg.cs (X : Cfg) (p : Ph) (op : Bool → Bool) (b : Bool) : CommCase := if op b then rcase (p.c b) X.z else nilcase X.z
def Cfg.cases (X : Cfg) (p : Ph) (op : Bool → Bool) : Array CommCase := #[X.cs p op false, X.cs p op true]
def kOf (b : Bool) : Nat := if b then 1 else 0

/-- ONE STEP OF GOROUTINE 0's. -/
inductive MStep (X : Cfg) (S : Ph → Goroutine → World → Prop) : Ph → Goroutine → World → Prop
  | own {p g w} (h : ∀ pv w₁, RM X p w pv w₁ → (stepG X.P true g w₁).goes fun g' w' es => DM X (p.to pv) w₁ w' es ∧ S (p.to pv) g' w') : MStep X S p g w
  | mark {p g w} (m : Mark) (hm : (p.df = false ∧ m = .disable) ∨ (p.df = true ∧ m = .enable)) (h : ∀ pv w₁, RM X p w pv w₁ → ∃ g', stepG X.P true g w₁ = .go g' w₁ #[mk m] ∧ S { p.to pv with df := !p.df } g' w₁) : MStep X S p g w
  | add {p g w} (h2 : p.two = false) (ha : p.ad = false) (hw : p.w = 0) (h : ∀ pv w₁ (v : Nat), RM X p w pv w₁ → v ≤ 1 → WgAt X.ty X.Wg w₁ (v * KK) 0 →
      ∃ g', stepG X.P true g w₁ = .go g' (w₁.setCell (stA X.Wg) (.int .u64 ((v + 1) * KK))) #[rd (stA X.Wg), wr (stA X.Wg)] ∧ S { p.to pv with ad := true } g' (w₁.setCell (stA X.Wg) (.int .u64 ((v + 1) * KK)))) : MStep X S p g w
  | go {p g w} (h2 : p.two = false) (ha : p.ad = true) (hd : p.df = false) (hw : p.w = 0) (c : Nat) (hc : X.N0 ≤ c ∧ c ≠ X.Wg ∧ c ≠ p.c false) (h : ∀ pv w₁, RM X p w pv w₁ → w₁.heap[c]? = some (.chan 64 #[] false 0 0 false) ∧ (∀ b, ¬ pv b c) ∧
      ∃ g' child es, stepG X.P true g w₁ = .spawn g' child w₁ es ∧ (∀ e ∈ es, EvM X (p.to pv).sb w₁.heap.size e) ∧ (∃ m, Snd X true c m (.snd 0) none child) ∧ S { p.to pv with two := true, c := updB p.c true c } g' w₁) : MStep X S p g w
  | sel {p g w} (h2 : p.two = true) (hd : p.df = false) (op : Bool → Bool) (ho : ∀ b, op b = true → p.e b = false) (hs : ∃ b, op b = true)
      (hst : ∀ pv w₁, RM X p w pv w₁ → ∃ g₂ es, stepG X.P true g w₁ = .comm g₂ (X.cases p op) true .select w₁ es ∧ g₂.frame = g.frame ∧ g₂.callers = g.callers ∧ g₂.dying = g.dying ∧ (∀ e ∈ es, EvM X (p.to pv).sb w₁.heap.size e))
      (hv : ∀ b g₂ pv w₂, op b = true → p.r b < X.n b → RM X p w pv w₂ → g₂.frame = g.frame → g₂.callers = g.callers → g₂.dying = g.dying →
        S { p.to pv with r := updB p.r b (p.r b + 1) } (Go.Conc.served g₂ (commResult (X.cases p op) .select (kOf b) (X.it b (p.r b)) true)) w₂)
      (hz : ∀ b g₂ pv w₂, op b = true → p.r b = X.n b → RM X p w pv w₂ → g₂.frame = g.frame → g₂.callers = g.callers → g₂.dying = g.dying →
        S { p.to pv with e := updB p.e b true } (Go.Conc.served g₂ (commResult (X.cases p op) .select (kOf b) X.z false)) w₂) : MStep X S p g w
  | ld {p g w} (h2 : p.two = true) (he : ∀ b, p.e b = true) (hd : p.df = true) (bd : Nat) (hw : (p.w = 0 ∧ bd = 2) ∨ p.w = 10 + bd) (h : ∀ pv w₁ (v : Nat), RM X p w pv w₁ → v ≤ bd → WgAt X.ty X.Wg w₁ (v * KK) 0 →
      ∃ g', stepG X.P true g w₁ = .go g' w₁ #[rd (stA X.Wg)] ∧ S { p.to pv with w := if v = 0 then 2 else 10 + v } g' w₁) : MStep X S p g w
  | cas {p g w} (h2 : p.two = true) (he : ∀ b, p.e b = true) (hd : p.df = true) (v0 : Nat) (hw : p.w = 10 + v0) (hv0 : v0 ≠ 0) (h : ∀ pv w₁ (v : Nat), RM X p w pv w₁ → v ≤ v0 → WgAt X.ty X.Wg w₁ (v * KK) 0 →
      (v = v0 → ∃ g', stepG X.P true g w₁ = .go g' (w₁.setCell (stA X.Wg) (.int .u64 (v * KK + 1))) #[rd (stA X.Wg), wr (stA X.Wg)] ∧ S { p.to pv with w := 1 } g' (w₁.setCell (stA X.Wg) (.int .u64 (v * KK + 1)))) ∧
      (v ≠ v0 → ∃ g', stepG X.P true g w₁ = .go g' w₁ #[rd (stA X.Wg)] ∧ S { p.to pv with w := 10 + v } g' w₁)) : MStep X S p g w
  | sem {p g w} (h2 : p.two = true) (he : ∀ b, p.e b = true) (hd : p.df = true) (hw : p.w = 1) (hof : g.offers = none) (h : ∀ pv w₁, RM X p w pv w₁ →
      ((∃ st, WgAt X.ty X.Wg w₁ st 0) → stepG X.P true g w₁ = .go { g with status := .blocked } w₁ #[]) ∧
      (WgAt X.ty X.Wg w₁ 0 1 → ∃ g', stepG X.P true g w₁ = .go g' (w₁.setCell (smA X.Wg) (.int .u32 0)) (semEvents (smA X.Wg)) ∧ S { p.to pv with w := 2 } g' (w₁.setCell (smA X.Wg) (.int .u32 0)))) : MStep X S p g w
  | look {p g w} (h2 : p.two = true) (he : ∀ b, p.e b = true) (hd : p.df = true) (hw : p.w = 2) (h : ∀ pv w₁, RM X p w pv w₁ → WgAt X.ty X.Wg w₁ 0 0 → ∃ g', stepG X.P true g w₁ = .go g' w₁ #[rd (stA X.Wg)] ∧ S (p.to pv) g' w₁) : MStep X S p g w
  | done {p g w} (h2 : p.two = true) (he : ∀ b, p.e b = true) (hd : p.df = false) (hw : p.w = 2) (h : ∀ pv w₁, RM X p w pv w₁ → X.Anch g w₁) : MStep X S p g w

/-- THE LEAST SUCH: goroutine 0 comes to its anchor, whatever the others do. -/
def Main (X : Cfg) (p : Ph) (g : Goroutine) (w : World) : Prop :=
  ∀ S : Ph → Goroutine → World → Prop, (∀ p g w, g.status = .running → MStep X S p g w → S p g w) → S p g w

theorem goes_mono {s : GStep} {K K' : Goroutine → World → Array Event → Prop} (h : s.goes K) (hK : ∀ g w es, K g w es → K' g w es) : s.goes K' := by
  cases s <;> first | exact hK _ _ _ h | exact h.elim

theorem MStep.mono {X : Cfg} {S S' : Ph → Goroutine → World → Prop} (hS : ∀ p g w, S p g w → S' p g w) {p : Ph} {g : Goroutine} {w : World} (h : MStep X S p g w) : MStep X S' p g w := by
  cases h with
  | own h => exact .own fun pv w₁ h₁ => goes_mono (h pv w₁ h₁) fun _ _ _ x => ⟨x.1, hS _ _ _ x.2⟩
  | mark m hm h => exact .mark m hm fun pv w₁ h₁ => let ⟨g', a, c⟩ := h pv w₁ h₁; ⟨g', a, hS _ _ _ c⟩
  | add h2 ha hw h => exact .add h2 ha hw fun pv w₁ v h₁ hv hw => let ⟨g', a, c⟩ := h pv w₁ v h₁ hv hw; ⟨g', a, hS _ _ _ c⟩
  | go h2 ha hd hw c hc h => exact .go h2 ha hd hw c hc fun pv w₁ h₁ => let ⟨x, y, g', ch, es, a, b, m, c⟩ := h pv w₁ h₁; ⟨x, y, g', ch, es, a, b, m, hS _ _ _ c⟩
  | sel h2 hd op ho hs hst hv hz => exact .sel h2 hd op ho hs hst (fun b g₂ pv w₂ a1 a2 a3 a4 a5 a6 => hS _ _ _ (hv b g₂ pv w₂ a1 a2 a3 a4 a5 a6)) (fun b g₂ pv w₂ a1 a2 a3 a4 a5 a6 => hS _ _ _ (hz b g₂ pv w₂ a1 a2 a3 a4 a5 a6))
  | ld h2 he hd bd hw h => exact .ld h2 he hd bd hw fun pv w₁ v h₁ hv hw => let ⟨g', a, c⟩ := h pv w₁ v h₁ hv hw; ⟨g', a, hS _ _ _ c⟩
  | cas h2 he hd v0 hw hv0 h => exact .cas h2 he hd v0 hw hv0 fun pv w₁ v h₁ hv hw => ⟨fun e => let ⟨g', a, c⟩ := (h pv w₁ v h₁ hv hw).1 e; ⟨g', a, hS _ _ _ c⟩, fun e => let ⟨g', a, c⟩ := (h pv w₁ v h₁ hv hw).2 e; ⟨g', a, hS _ _ _ c⟩⟩
  | sem h2 he hd hw hof h => exact .sem h2 he hd hw hof fun pv w₁ h₁ => ⟨(h pv w₁ h₁).1, fun e => let ⟨g', a, c⟩ := (h pv w₁ h₁).2 e; ⟨g', a, hS _ _ _ c⟩⟩
  | look h2 he hd hw h => exact .look h2 he hd hw fun pv w₁ h₁ hg => let ⟨g', a, c⟩ := h pv w₁ h₁ hg; ⟨g', a, hS _ _ _ c⟩
  | done h2 he hd hw h => exact .done h2 he hd hw h

theorem Main.intro {X : Cfg} {p : Ph} {g : Goroutine} {w : World} (hr : g.status = .running) (h : MStep X (Main X) p g w) : Main X p g w :=
  fun S hS => hS p g w hr (h.mono fun _ _ _ x => x S hS)

theorem RM.refl (X : Cfg) (p : Ph) (w : World) : RM X p w p.pv w := ⟨rfl, rfl, rfl, Nat.le_refl _, fun _ _ _ => rfl, id, fun _ _ h => h, fun _ _ h => .inl h⟩
theorem RM.at (X : Cfg) (p : Ph) (w : World) (d : Nat) : RM X p w p.pv (w.at d) := ⟨rfl, rfl, rfl, Nat.le_refl _, fun _ _ _ => rfl, id, fun _ _ h => h, fun _ _ h => .inl h⟩
theorem Ph.to_self (p : Ph) : p.to p.pv = p := rfl
theorem F_to {X : Cfg} {p : Ph} {pv : Bool → Nat → Prop} {w w₁ : World} (h : RM X p w pv w₁) {β : Nat} (hb : β < w.heap.size) : X.F (p.to pv) β → X.F p β := by
  rintro (rfl | ⟨x, hx, rfl⟩ | ⟨b, hpv⟩)
  · exact .inl rfl
  · exact .inr (.inl ⟨x, hx, rfl⟩)
  · rcases h.new b β hpv with h1 | ⟨h1, _⟩
    · exact .inr (.inr ⟨b, h1⟩)
    · omega
theorem RM.trans {X : Cfg} {p : Ph} {a b c : World} {pv pv' : Bool → Nat → Prop} (h : RM X p a pv b) (k : RM X (p.to pv) b pv' c) : RM X p a pv' c :=
  ⟨k.tape.trans h.tape, k.os.trans h.os, k.output.trans h.output, Nat.le_trans h.size k.size,
    fun x hx hF => (k.block x (Nat.lt_of_lt_of_le hx h.size) fun hF' => hF (F_to h hx hF')).trans (h.block x hx hF), fun x => k.live (h.live x), fun b β x => k.sub b β (h.sub b β x), fun b β x => by
    rcases k.new b β x with h1 | ⟨h1, h2⟩
    · rcases h.new b β h1 with h3 | ⟨h3, h4⟩
      · exact .inl h3
      · exact .inr ⟨h3, Nat.lt_of_lt_of_le h4 k.size⟩
    · exact .inr ⟨Nat.le_trans h.size h1, h2⟩⟩
end Go.Proofs.Ytafnbmokegomaaa
