/-
  THE STEPS THAT ARE NO OWN STEPS, IN THE CALCULUS: the group is made, added to; the senders are born; the select; the wait.
-/
import Derived.Test.YtafnbmokegomaaaJMem
set_option linter.unusedSimpArgs false
set_option linter.unusedVariables false
set_option linter.unusedSectionVars false
namespace Go.Proofs.Ytafnbmokegomaaa
open Go.Conc
open Go.ConcR (KK wgBlock WgAt stA smA rd wr)

section
variable {P : Program} [Io] {Fin : Value → World → Prop} {sh sf : Nat → Prop} {df : Bool} {m : PM} {g g' : Goroutine}

theorem at_self (w : World) : w.at w.drawn = w := rfl

/-- The group is made. -/
theorem JM.allocWg (hr : g.status = .running) (gg : Nat → Goroutine) (h : ∀ w, stepG P true g w = .go (gg w.heap.size) (w.alloc (wgBlock WTy 0 0)) #[])
    (hJ : ∀ β, (∀ γ o, m γ = some o → γ < β) → JM P Fin (.out (fun x => sh x ∨ x = β) (fun x => sf x ∨ x = β) df (some (β, 0))) m (gg β)) : JM P Fin (.out sh sf df none) m g := by
  intro w hS
  have hlt : ∀ γ o, m γ = some o → γ < w.heap.size := fun γ o e => (Array.getElem?_eq_some_iff.1 (hS.has γ o e)).1
  refine .intro hr (.shun (fun x => x = w.heap.size) (fun β hb => by omega) (.intro hr (.own fun d => ?_)))
  rw [h (w.at d)]
  have hsz : ((w.at d).alloc (wgBlock WTy 0 0)).heap.size = w.heap.size + 1 := by show (w.heap.push _).size = _; simp
  refine ⟨⟨by rw [hsz]; omega, fun e he => by simp at he⟩, hJ w.heap.size hlt _ ⟨by rw [hsz]; exact Nat.le_refl _, fun β hb => ?_, fun β o e => ?_, fun β o e hb => ?_, fun W v e => ?_, fun β hb => ?_, ⟨hS.io.1, hS.io.2⟩⟩⟩
  · rw [hsz]
    rcases hb with hb | hb
    · have := hS.bad β hb; omega
    · omega
  · show (w.heap.push _)[β]? = _
    rw [Array.getElem?_push_lt (hlt β o e), ← Array.getElem?_eq_getElem]
    exact hS.has β o e
  · rcases hb with hb | hb
    · exact hS.good β o e hb
    · have := hlt β o e; omega
  · cases e
    refine ⟨?_, .inr rfl⟩
    show (w.heap.push _)[w.heap.size]? = _
    simp
  · exact hb.imp (hS.sub β) id

theorem evL_wg {W : Nat} {w : World} (hW : W < w.heap.size) : ∀ e ∈ (#[rd (stA W), wr (stA W)] : Array Event), EvL (ShunB sh) w.heap.size e := by
  intro e he
  simp only [List.mem_toArray, List.mem_cons, List.not_mem_nil, or_false] at he
  rcases he with rfl | rfl <;> exact ⟨fun x hx _ => by simp only [rd, wr, MemAct.ofEvent, MemAct.touch?, Option.some.injEq] at hx; subst hx; simp, by simp [rd, wr], by simp [rd, wr], hW⟩

/-- The first count is added. -/
theorem JM.addOut {W v : Nat} (hr : g.status = .running) (h : ∀ w, WgAt WTy W w (v * KK) 0 → stepG P true g w = .go g' (w.setCell (stA W) (.int .u64 ((v + 1) * KK))) #[rd (stA W), wr (stA W)])
    (hJ : JM P Fin (.out sh sf df (some (W, v + 1))) m g') : JM P Fin (.out sh sf df (some (W, v))) m g := by
  intro w hS
  obtain ⟨hw, hsf⟩ := hS.wg W v rfl
  have hb : sh W := hS.sub W hsf
  have hW : W < w.heap.size := hS.bad W hb
  have hn : m W = none := hS.none_of_bad hb
  refine .intro hr (.own fun d => ?_)
  rw [h (w.at d) hw]
  have hsz : ((w.at d).setCell (stA W) (.int .u64 ((v + 1) * KK))).heap.size = w.heap.size := by simp [World.setCell]; rfl
  refine ⟨⟨by rw [hsz]; exact Nat.le_refl _, by rw [hsz]; exact evL_wg hW⟩, hJ _ ⟨by rw [hsz]; exact hS.low, by rw [hsz]; exact hS.bad, fun β o e => ?_, hS.good, fun W' v' e => ?_, hS.sub, ⟨hS.io.1, hS.io.2⟩⟩⟩
  · rw [heap_setCell_ne (w := w.at d) (fun e' => by have e2 : β = W := e'; rw [e2, hn] at e; cases e)]; exact hS.has β o e
  · cases e
    have hw' : WgAt WTy W (w.at d) (v * KK) 0 := hw
    refine ⟨?_, hsf⟩
    have := hw'.setSt ((v + 1) * KK)
    simpa using this

/-- Marks that name the group: what the detector is told. -/
def WgMark (W : Nat) (e : Event) : Prop := e = ⟨.mark (.read (smA W)), false, true⟩ ∨ e = ⟨.mark (.write (smA W)), false, true⟩ ∨ e = ⟨.mark (.acquire (stA W)), false, true⟩

theorem WgMark.facts {W : Nat} {e : Event} (h : WgMark W e) : (∀ x, (MemAct.ofEvent e).touch? = some x → x.kind ≠ .plain ∧ x.loc = .cell (smA W)) ∧ e.loc ≠ .mark .disable ∧ e.loc ≠ .mark .enable ∧ ∀ B, W < B → (MemAct.ofEvent e).low B := by
  rcases h with rfl | rfl | rfl <;> refine ⟨fun x hx => ?_, by simp, by simp, fun B hB => hB⟩ <;> simp [MemAct.ofEvent, MemAct.touch?] at hx <;> subst hx <;> exact ⟨by simp, rfl⟩

theorem JM.noteOut {W v : Nat} {e : Event} (he : WgMark W e) (hr : g.status = .running) (h : ∀ w v, WgAt WTy W w (v * KK) 0 → stepG P true g w = .go g' w #[e])
    (hJ : JM P Fin (.out sh sf df (some (W, v))) m g') : JM P Fin (.out sh sf df (some (W, v))) m g := by
  intro w hS
  obtain ⟨hw, hsf⟩ := hS.wg W v rfl
  have hW : W < w.heap.size := hS.bad W (hS.sub W hsf)
  refine .intro hr (.own fun d => ?_)
  rw [h (w.at d) v hw]
  obtain ⟨f1, f2, f3, f4⟩ := he.facts
  refine ⟨⟨Nat.le_refl _, fun e' he' => ?_⟩, hJ _ (hS.at d)⟩
  simp only [List.mem_toArray, List.mem_singleton] at he'
  subst he'
  exact ⟨fun x hx _ => (f1 x hx).1, f2, f3, f4 _ hW⟩

/-! ### inside -/
variable {X : Cfg} {p : Ph}

theorem Sees.phase {p' : Ph} {w : World} (h : Sees (.inn sh X p) w m) (hF : ∀ β, X.F p' β → X.F p β) (hs : p'.sb X.Wg → p.sb X.Wg) : Sees (.inn sh X p') w m :=
  ⟨h.low, fun β hb => h.bad β (hb.imp (hF β) id), h.has, fun β o e hb => h.good β o e (hb.imp (hF β) id), h.wg, ⟨fun x => h.sub.1 (hs x), h.sub.2⟩, h.io⟩

theorem JM.noteInn {e : Event} (he : WgMark X.Wg e) (hr : g.status = .running) (h : ∀ w, stepG P true g w = .go g' w #[e]) (hJ : JM P Fin (.inn sh X p) m g') : JM P Fin (.inn sh X p) m g := by
  intro hP O hX pv w hS
  subst hP
  refine .intro hr (.own fun pv₁ w₁ r => ?_)
  have hS₁ := hS.rely r
  rw [h w₁]
  obtain ⟨f1, f2, f3, f4⟩ := he.facts
  have hW : X.Wg < w₁.heap.size := hS₁.bad _ (.inl (.inl rfl))
  refine ⟨⟨fun _ _ => rfl, Nat.le_refl _, id, fun e' he' => ?_⟩, hJ rfl O hX pv₁ w₁ hS₁⟩
  simp only [List.mem_toArray, List.mem_singleton] at he'
  subst he'
  refine ⟨fun x hx => ⟨fun _ => (f1 x hx).1, fun hs => ?_, fun a e1 hs => ?_⟩, f2, f3, f4 _ hW⟩
  · rw [(f1 x hx).2] at hs
    exact absurd hs (O.still _ (.inl ⟨_, rfl, rfl⟩))
  · rw [(f1 x hx).2] at e1
    cases e1
    exact hS₁.sub.1 hs

theorem Sees.setSt {w : World} (h : Sees (.inn sh X p) w m) (v : Int) : Sees (.inn sh X p) (w.setCell (stA X.Wg) (.int .u64 v)) m ∧ Sees (.inn sh X p) (w.setCell (smA X.Wg) (.int .u32 v)) m := by
  obtain ⟨st, sm, hwg⟩ := h.wg
  have hn : m X.Wg = none := h.none_of_bad (.inl (.inl rfl))
  have hsz : ∀ a v, (w.setCell a v).heap.size = w.heap.size := fun a v => by simp [World.setCell]
  refine ⟨⟨by rw [hsz]; exact h.low, by rw [hsz]; exact h.bad, fun β o e => ?_, h.good, ⟨_, _, hwg.setSt v⟩, h.sub, ⟨h.io.1, h.io.2⟩⟩, ⟨by rw [hsz]; exact h.low, by rw [hsz]; exact h.bad, fun β o e => ?_, h.good, ⟨_, _, hwg.setSm v⟩, h.sub, ⟨h.io.1, h.io.2⟩⟩⟩
  · rw [heap_setCell_ne (fun e' => by have e2 : β = X.Wg := e'; rw [e2, hn] at e; cases e)]; exact h.has β o e
  · rw [heap_setCell_ne (fun e' => by have e2 : β = X.Wg := e'; rw [e2, hn] at e; cases e)]; exact h.has β o e

/-- The second count is added. -/
theorem JM.addInn (h2 : p.two = false) (ha : p.ad = false) (hw : p.w = 0) (hr : g.status = .running)
    (h : ∀ v : Nat, v ≤ 1 → ∃ g', (∀ w, WgAt X.ty X.Wg w (v * KK) 0 → stepG P true g w = .go g' (w.setCell (stA X.Wg) (.int .u64 ((v + 1) * KK))) #[rd (stA X.Wg), wr (stA X.Wg)]) ∧ JM P Fin (.inn sh X { p with ad := true }) m g') : JM P Fin (.inn sh X p) m g := by
  intro hP O hX pv w hS
  subst hP
  refine .intro hr (.add h2 ha hw fun pv₁ w₁ v r hv hwg => ?_)
  obtain ⟨g', e1, hJ⟩ := h v hv
  exact ⟨g', e1 w₁ hwg, hJ rfl O hX pv₁ _ (((hS.rely r).setSt _).1.phase (fun _ x => x) id)⟩

/-- The second sender is born. -/
theorem JM.go {c : Nat} {m' : PM} (h2 : p.two = false) (ha : p.ad = true) (hd : p.df = false) (hw : p.w = 0) (hr : g.status = .running) (hN : X.N0 ≤ c) (hc : m c = some (.chan 64 #[] false 0 0 false)) (hm : ∀ β o, m' β = some o → m β = some o ∧ β ≠ c)
    (h : ∃ g' child, (∀ w, stepG P true g w = .spawn g' child w #[]) ∧ (X.P = P → X.Ok → ∃ k, Snd X true c k (.snd 0) none child) ∧ JM P Fin (.inn sh X { p with two := true, c := updB p.c true c }) m' g') : JM P Fin (.inn sh X p) m g := by
  intro hP O hX pv w hS
  subst hP
  obtain ⟨g', child, e1, hch, hJ⟩ := h
  have hnb := hS.good c _ hc
  refine .intro hr (.go h2 ha hd hw c ⟨hN, fun e => hnb (.inl (.inl e)), fun e => hnb (.inl (.inr (.inl ⟨false, .inl rfl, e⟩)))⟩ fun pv₁ w₁ r => ?_)
  have hS₁ := hS.rely r
  have hnb₁ := hS₁.good c _ hc
  refine ⟨hS₁.has c _ hc, fun b hb => hnb₁ (.inl (.inr (.inr ⟨b, hb⟩))), g', child, #[], e1 w₁, fun e he => by simp at he, hch rfl O, hJ rfl O hX pv₁ w₁ ?_⟩
  have hF : ∀ β, X.F { p.to pv₁ with two := true, c := updB p.c true c } β → X.F (p.to pv₁) β ∨ β = c := by
    rintro β (rfl | ⟨x, _, rfl⟩ | hb)
    · exact .inl (.inl rfl)
    · cases x
      · exact .inl (.inr (.inl ⟨false, .inl rfl, by show updB p.c true c false = p.c false; exact updB_ne _ _ (by simp)⟩))
      · exact .inr (by show updB p.c true c true = c; exact updB_same _ _ _)
    · exact .inl (.inr (.inr hb))
  refine ⟨hS₁.low, fun β hb => ?_, fun β o e => hS₁.has β o (hm β o e).1, fun β o e hb => ?_, hS₁.wg, hS₁.sub, hS₁.io⟩
  · rcases hb with hb | hb
    · rcases hF β hb with h | rfl
      · exact hS₁.bad β (.inl h)
      · exact (Array.getElem?_eq_some_iff.1 (hS₁.has _ _ hc)).1
    · exact hS₁.bad β (.inr hb)
  · rcases hb with hb | hb
    · rcases hF β hb with h | h
      · exact hS₁.good β o (hm β o e).1 (.inl h)
      · exact (hm β o e).2 h
    · exact hS₁.good β o (hm β o e).1 (.inr hb)

/-- ████ THE SELECT. ████ -/
theorem JM.sel (h2 : p.two = true) (hd : p.df = false) (op : Bool → Bool) (ho : ∀ b, op b = true → p.e b = false) (hso : ∃ b, op b = true) (hr : g.status = .running) {g₂ : Goroutine}
    (h : ∀ w, stepG P true g w = .comm g₂ (X.cases p op) true .select w #[]) (h1 : g₂.frame = g.frame ∧ g₂.callers = g.callers ∧ g₂.dying = g.dying)
    (hv : ∀ b g₃, op b = true → p.r b < X.n b → g₃.frame = g.frame → g₃.callers = g.callers → g₃.dying = g.dying →
      JM P Fin (.inn sh X { p with r := updB p.r b (p.r b + 1) }) m (Go.Conc.served g₃ (commResult (X.cases p op) .select (kOf b) (X.it b (p.r b)) true)))
    (hz : ∀ b g₃, op b = true → p.r b = X.n b → g₃.frame = g.frame → g₃.callers = g.callers → g₃.dying = g.dying →
      JM P Fin (.inn sh X { p with e := updB p.e b true }) m (Go.Conc.served g₃ (commResult (X.cases p op) .select (kOf b) X.z false))) : JM P Fin (.inn sh X p) m g := by
  intro hP O hX pv w hS
  subst hP
  refine .intro hr (.sel h2 hd op ho hso (fun pv₁ w₁ r => ⟨g₂, #[], h w₁, h1.1, h1.2.1, h1.2.2, fun e he => by simp at he⟩) (fun b g₃ pv₁ w₁ a1 a2 r f1 f2 f3 => ?_) (fun b g₃ pv₁ w₁ a1 a2 r f1 f2 f3 => ?_))
  · exact hv b g₃ a1 a2 f1 f2 f3 rfl O hX pv₁ w₁ ((hS.rely r).phase (fun _ x => x) id)
  · exact hz b g₃ a1 a2 f1 f2 f3 rfl O hX pv₁ w₁ ((hS.rely r).phase (fun _ x => x) id)

/-- The wait's first look. -/
theorem JM.ld (h2 : p.two = true) (he : ∀ b, p.e b = true) (hd : p.df = true) (bd : Nat) (hw : (p.w = 0 ∧ bd = 2) ∨ p.w = 10 + bd) (hr : g.status = .running)
    (h : ∀ v : Nat, v ≤ bd → ∃ g', (∀ w, WgAt X.ty X.Wg w (v * KK) 0 → stepG P true g w = .go g' w #[rd (stA X.Wg)]) ∧ JM P Fin (.inn sh X { p with w := if v = 0 then 2 else 10 + v }) m g') : JM P Fin (.inn sh X p) m g := by
  intro hP O hX pv w hS
  subst hP
  refine .intro hr (.ld h2 he hd bd hw fun pv₁ w₁ v r hv hwg => ?_)
  obtain ⟨g', e1, hJ⟩ := h v hv
  exact ⟨g', e1 w₁ hwg, hJ rfl O hX pv₁ _ ((hS.rely r).phase (fun _ x => x) id)⟩

theorem JM.cas (h2 : p.two = true) (he : ∀ b, p.e b = true) (hd : p.df = true) (v0 : Nat) (hw : p.w = 10 + v0) (hv0 : v0 ≠ 0) (hr : g.status = .running)
    (hit : ∃ g', (∀ w, WgAt X.ty X.Wg w (v0 * KK) 0 → stepG P true g w = .go g' (w.setCell (stA X.Wg) (.int .u64 (v0 * KK + 1))) #[rd (stA X.Wg), wr (stA X.Wg)]) ∧ JM P Fin (.inn sh X { p with w := 1 }) m g')
    (miss : ∀ v : Nat, v < v0 → ∃ g', (∀ w, WgAt X.ty X.Wg w (v * KK) 0 → stepG P true g w = .go g' w #[rd (stA X.Wg)]) ∧ JM P Fin (.inn sh X { p with w := 10 + v }) m g') : JM P Fin (.inn sh X p) m g := by
  intro hP O hX pv w hS
  subst hP
  obtain ⟨g₁, e1, hJ1⟩ := hit
  refine .intro hr (.cas h2 he hd v0 hw hv0 fun pv₁ w₁ v r hv hwg => ⟨fun e => ?_, fun e => ?_⟩)
  · subst e
    exact ⟨g₁, e1 w₁ hwg, hJ1 rfl O hX pv₁ _ (((hS.rely r).setSt _).1.phase (fun _ x => x) id)⟩
  · obtain ⟨g₂, e2, hJ2⟩ := miss v (by omega)
    exact ⟨g₂, e2 w₁ hwg, hJ2 rfl O hX pv₁ _ ((hS.rely r).phase (fun _ x => x) id)⟩

theorem JM.sem (h2 : p.two = true) (he : ∀ b, p.e b = true) (hd : p.df = true) (hw : p.w = 1) (hof : g.offers = none) (hr : g.status = .running)
    (wait : ∀ w, (∃ st, WgAt X.ty X.Wg w st 0) → stepG P true g w = .go { g with status := .blocked } w #[])
    (h : ∃ g', (∀ w, WgAt X.ty X.Wg w 0 1 → stepG P true g w = .go g' (w.setCell (smA X.Wg) (.int .u32 0)) (semEvents (smA X.Wg))) ∧ JM P Fin (.inn sh X { p with w := 2 }) m g') : JM P Fin (.inn sh X p) m g := by
  intro hP O hX pv w hS
  subst hP
  obtain ⟨g', e1, hJ⟩ := h
  refine .intro hr (.sem h2 he hd hw hof fun pv₁ w₁ r => ⟨wait w₁, fun hwg => ⟨g', e1 w₁ hwg, hJ rfl O hX pv₁ _ (((hS.rely r).setSt _).2.phase (fun _ x => x) id)⟩⟩)

theorem JM.look (h2 : p.two = true) (he : ∀ b, p.e b = true) (hd : p.df = true) (hw : p.w = 2) (hr : g.status = .running)
    (h : ∃ g', (∀ w, WgAt X.ty X.Wg w 0 0 → stepG P true g w = .go g' w #[rd (stA X.Wg)]) ∧ JM P Fin (.inn sh X p) m g') : JM P Fin (.inn sh X p) m g := by
  intro hP O hX pv w hS
  subst hP
  obtain ⟨g', e1, hJ⟩ := h
  exact .intro hr (.look h2 he hd hw fun pv₁ w₁ r hwg => ⟨g', e1 w₁ hwg, hJ rfl O hX pv₁ _ (hS.rely r)⟩)

/-! ### in and out -/

/-- The company of one call: W the group's block, the rows that are sent lie in 'rows'. -/
def mkX (P : Program) (Fin : Value → World → Prop) (sh : Nat → Prop) (W : Nat) (n : Bool → Nat) (it : Bool → Nat → Value) (z : Value) (rows : PM) : Cfg where
  P := P
  ty := WTy
  Wg := W
  n := n
  it := it
  z := z
  K := Has rows
  StB := fun β => rows β ≠ none
  Shun := ShunB sh
  N0 := W
  Anch := fun g w => Has rows w → Top P Fin sh (fun β => β = W) false g w

theorem mkX_ok {W : Nat} {n : Bool → Nat} {it : Bool → Nat → Value} {z : Value} {rows : PM} (hlt : ∀ β o, rows β = some o → β < W) (hsh : sh W) : (mkX P Fin sh W n it z rows).Ok := by
  refine ⟨fun w w' h hsz hb β o e => ?_, fun β hb => ?_, Nat.le_refl _, ?_⟩
  · rw [hb β (by show rows β ≠ none; rw [e]; simp)]; exact h β o e
  · cases e : rows β with
    | none => exact absurd e hb
    | some o => exact hlt β o e
  · rintro l (⟨a, rfl, ha⟩ | ⟨c, rfl⟩)
    · exact .inl ⟨a, rfl, by rw [ha]; exact hsh⟩
    · exact .inr ⟨c, rfl⟩

/-- The first sender is born: the rows are put by. -/
theorem JM.fork {W c : Nat} {n : Bool → Nat} {it : Bool → Nat → Value} {z : Value} {rows m' : PM} (hr : g.status = .running) (hlt : ∀ β o, rows β = some o → β < W) (hrows : ∀ β o, rows β = some o → m β = some o)
    (hc : m c = some (.chan 64 #[] false 0 0 false)) (hcW : W < c) (hm : ∀ β o, m' β = some o → m β = some o ∧ β ≠ c ∧ rows β = none) (hshf : sf W)
    (h : ∃ g' child, (∀ w, stepG P true g w = .spawn g' child w #[]) ∧ (∃ k, Snd (mkX P Fin sh W n it z rows) false c k (.snd 0) none child) ∧ JM P Fin (.inn sh (mkX P Fin sh W n it z rows) (p0 c)) m' g') : JM P Fin (.out sh sf false (some (W, 1))) m g := by
  intro w hS
  obtain ⟨hw, hsf⟩ := hS.wg W 1 rfl
  have hb : sh W := hS.sub W hsf
  have hW : W < w.heap.size := hS.bad W hb
  obtain ⟨g', child, e1, hch, hJ⟩ := h
  have O := mkX_ok (P := P) (Fin := Fin) (n := n) (it := it) (z := z) hlt hb
  refine .intro hr (.fork rfl (mkX P Fin sh W n it z rows) O rfl rfl hshf (fun β hβ hs => ?_) c ⟨Nat.le_of_lt hW, Nat.le_of_lt hcW, by show c ≠ W; omega, hW⟩ (by show WgAt WTy W w KK 0; simpa using hw) (hS.has c _ hc) (fun β o e => hS.has β o (hrows β o e)) (fun g w h k => h k) fun d => ⟨g', child, #[], e1 _, fun e he => by simp at he, hch, ?_⟩)
  · cases e : rows β with
    | none => exact absurd e hβ
    | some o => exact hS.good β o (hrows β o e) hs
  · have hbad : ∀ β, (Gh.inn sh (mkX P Fin sh W n it z rows) (p0 c)).bad β → β = c ∨ rows β ≠ none ∨ sh β := by
      rintro β ((rfl | ⟨x, _, rfl⟩ | ⟨b, hf⟩) | hb' | hb')
      · exact .inr (.inr hb)
      · exact .inl rfl
      · exact hf.elim
      · exact .inr (.inl hb')
      · exact .inr (.inr hb')
    refine hJ rfl O rfl (p0 c).pv (w.at d) ⟨Nat.le_of_lt hW, fun β hβ => ?_, fun β o e => hS.has β o (hm β o e).1, fun β o e hβ => ?_, ⟨_, _, hw⟩, ⟨fun ⟨b, hf⟩ => hf.elim, fun β hβ hs => ?_⟩, ⟨hS.io.1, hS.io.2⟩⟩
    · rcases hbad β hβ with rfl | h1 | h1
      · exact (Array.getElem?_eq_some_iff.1 (hS.has _ _ hc)).1
      · cases e : rows β with
        | none => exact absurd e h1
        | some o => exact (Array.getElem?_eq_some_iff.1 (hS.has _ _ (hrows β o e))).1
      · exact hS.bad β h1
    · rcases hbad β hβ with h1 | h1 | h1
      · exact (hm β o e).2.1 h1
      · exact h1 (hm β o e).2.2
      · exact hS.good β o (hm β o e).1 h1
    · cases e : rows β with
      | none => exact absurd e hβ
      | some o => exact hS.good β o (hrows β o e) hs

/-- All have come home: the rows are one's own again. -/
theorem JM.done {W : Nat} {n : Bool → Nat} {it : Bool → Nat → Value} {z : Value} {rows m' : PM} (hr : g.status = .running) (h2 : p.two = true) (he : ∀ b, p.e b = true) (hd : p.df = false) (hw : p.w = 2) (hsh : sh W)
    (hm : ∀ β o, m' β = some o → m β = some o ∨ rows β = some o) (hJ : JM P Fin (.out sh (fun β => β = W) false none) m' g) : JM P Fin (.inn sh (mkX P Fin sh W n it z rows) p) m g := by
  intro hP O hX pv w hS
  refine .intro hr (.done h2 he hd hw fun pv₁ w₁ r => ?_)
  have hS₁ := hS.rely r
  intro hK
  refine hJ w₁ ⟨Nat.zero_le _, fun β hb => hS₁.bad β (.inr (.inr hb)), fun β o e => ?_, fun β o e hb => ?_, (fun W v e => by cases e), fun β hb => (show β = W from hb) ▸ hsh, hS₁.io⟩
  · rcases hm β o e with h1 | h1
    · exact hS₁.has β o h1
    · exact hK β o h1
  · rcases hm β o e with h1 | h1
    · exact hS₁.good β o h1 (.inr (.inr hb))
    · exact hS₁.sub.2 β (by show rows β ≠ none; rw [h1]; simp) hb

/-- The end of the run. -/
theorem JM.last {wg : Option (Nat × Nat)} (hr : g.status = .running) (h : ∀ w, Has m w → (w.os = (Io.w0).os ∧ w.output = (Io.w0).output) → ∃ v es, stepG P true g w = .ended (.done v) w es ∧ (∀ e ∈ es, ∃ ad, e.loc = .cell ad ∧ m ad.block ≠ none) ∧ Fin v w) : JM P Fin (.out sh sf df wg) m g := by
  intro w hS
  refine .intro hr (.last fun d => ?_)
  obtain ⟨v, es, h1, h2, h3⟩ := h (w.at d) (hS.at d).has (hS.at d).io
  exact ⟨v, es, h1, (Turns.reads (hS.at d).has h2).evL (hS.at d), h3⟩
end
end Go.Proofs.Ytafnbmokegomaaa
