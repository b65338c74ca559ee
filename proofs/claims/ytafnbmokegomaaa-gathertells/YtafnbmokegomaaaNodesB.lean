/-
  ████ WHATEVER THE TAPE, GOROUTINE 0 COMES TO ITS ANCHOR: the go statement, the select, the semaphore; the theorem. ████
-/
import Derived.Test.YtafnbmokegomaaaNodes
set_option linter.unusedSimpArgs false
namespace Go.Proofs.Ytafnbmokegomaaa
open Go.Conc
open Go.ConcR (KK wgBlock WgAt stA smA rd wr deafBehind_cons deafBehind_one)
open Go.ConcN (sumTo upd sumTo_upd upd_ne upd_same)

section
variable {X : Cfg} {p : Ph} {gs gs' : Array Goroutine} {w w' : World} {t T : Trace} {q : Nat → Nat} {id : Bool → Nat} {st : Bool → Option Stg} {sl : Option (Nat × Nat)} {g : Goroutine} {w0 : World}

theorem born_of_two (h : p.two = true) (b : Bool) : p.born b := .inr h

/-- THE SECOND SENDER IS STARTED. -/
theorem node_go (O : X.Ok) (hg : g.status = .running) (h2 : p.two = false) (hA : p.ad = true) (hd : p.df = false) (hw : p.w = 0) (c : Nat) (hc : X.N0 ≤ c ∧ c ≠ X.Wg ∧ c ≠ p.c false)
    (h : ∀ pv w₁, RM X p w0 pv w₁ → w₁.heap[c]? = some (.chan 64 #[] false 0 0 false) ∧ (∀ b, ¬ pv b c) ∧
      ∃ g' child es, stepG X.P true g w₁ = .spawn g' child w₁ es ∧ (∀ e ∈ es, EvM X (p.to pv).sb w₁.heap.size e) ∧ (∃ m, Snd X true c m (.snd 0) none child) ∧ RR X { p.to pv with two := true, c := updB p.c true c } g' w₁) : RR X p g w0 := by
  refine awakeNode O hg fun pv gs w t q id st sl a S hR ha hs _ => ?_
  obtain ⟨hch, hpc, g', child, es, e1, hes, ⟨m, hm⟩, hRR⟩ := h pv w hR
  have hrun := runT_crowd_spawn (sl := sl) ha (show stepG X.P (0 == 0) a w = _ from (hs.stepG w).trans e1)
  refine ⟨_, _, hrun, ?_⟩
  obtain ⟨h1, h2', h3, h4⟩ := evM_ops (X := X) (p := p.to pv) (fn := a.frame.fn) (pos := a.frame.place) hes
  have hlt : 0 < gs.size := (Array.getElem?_eq_some_iff.1 ha).1
  have h2p : (p.to pv).two = false := h2
  obtain ⟨ust, ur, ue⟩ := S.unb h2p
  have hbf : ∀ b, (p.to pv).born b → b = false := fun b hb => by
    rcases hb with e | e
    · exact e
    · rw [h2p] at e; cases e
  obtain ⟨x0, hx0, hS0⟩ := S.snd false (.inl rfl)
  have hlt1 : id false < gs.size := (Array.getElem?_eq_some_iff.1 hx0).1
  have hip := S.idp false (.inl rfl)
  have etr : t ++ (((MemOp.ofEvents 0 a.frame.fn a.frame.place es).push { g := 0, fn := a.frame.fn, pos := a.frame.place, act := .go gs.size }).push { g := gs.size, fn := child.frame.fn, pos := a.frame.place, act := .start }) =
      (t ++ MemOp.ofEvents 0 a.frame.fn a.frame.place es) ++ #[{ g := 0, fn := a.frame.fn, pos := a.frame.place, act := .go gs.size }, { g := gs.size, fn := child.frame.fn, pos := a.frame.place, act := .start }] := by
    apply Array.ext'; simp
  rw [etr]
  have hU : ∀ op ∈ (#[{ g := 0, fn := a.frame.fn, pos := a.frame.place, act := .go gs.size }, { g := gs.size, fn := child.frame.fn, pos := a.frame.place, act := .start }] : Trace), op.act.touch? = none ∧ ∀ g d, deafStep g d op = d := by
    intro op hop
    simp only [List.mem_toArray, List.mem_cons, List.not_mem_nil, or_false] at hop
    rcases hop with rfl | rfl <;> exact ⟨rfl, fun _ _ => rfl⟩
  have hD0 : ∀ g, Deaf (t ++ MemOp.ofEvents 0 a.frame.fn a.frame.place es) g = Deaf t g := fun g => by
    by_cases e : g = 0
    · subst e; rw [Deaf_own, h4]
    · exact Deaf_other t (fun e' => e e'.symm) _ h1
  have hD : ∀ g, Deaf ((t ++ MemOp.ofEvents 0 a.frame.fn a.frame.place es) ++ #[{ g := 0, fn := a.frame.fn, pos := a.frame.place, act := .go gs.size }, { g := gs.size, fn := child.frame.fn, pos := a.frame.place, act := .start }]) g = Deaf t g := fun g => by
    rw [Deaf_quiet (fun op hop d => (hU op hop).2 g d)]; exact hD0 g
  have hget : ∀ i, i ≠ 0 → i < gs.size → ((gs.setIfInBounds 0 g').push child)[i]? = gs[i]? := fun i hi hl => by
    rw [Array.getElem?_push_lt (by simpa using hl)]
    rw [← Array.getElem?_eq_getElem, Array.getElem?_setIfInBounds_ne (fun e => hi e.symm)]
  have hlast : ((gs.setIfInBounds 0 g').push child)[gs.size]? = some child := by
    rw [Array.getElem?_push]; simp
  have hsz : ((gs.setIfInBounds 0 g').push child).size = gs.size + 1 := by simp
  have hg0 : ((gs.setIfInBounds 0 g').push child)[0]? = some g' := by
    rw [Array.getElem?_push_lt (by simpa using hlt)]; simp
  refine onward (p' := { p.to pv with two := true, c := updB p.c true c }) (q := upd q gs.size (3 * m + 1)) (id := updB id true gs.size) (st := updB st true (some (.snd 0))) hRR ?_ hg0
  have idf : updB id true gs.size false = id false := updB_ne _ _ (by simp)
  have stf : updB st true (some (.snd 0)) false = st false := updB_ne _ _ (by simp)
  have cf : updB p.c true c false = p.c false := updB_ne _ _ (by simp)
  have hw1 : p.w ≠ 1 := by omega
  have hAp : (p.to pv).ad = true := hA
  have ecnt : cntOf { p.to pv with two := true, c := updB p.c true c } (updB st true (some (.snd 0))) = cntOf (p.to pv) st := by simp [cntOf, h2p, hAp, stf, aOf]
  have hpt : ∀ b β, pv b β → b = false := fun b β hp => hbf b (S.pvl b β hp).1
  have hPvL : PvL { p.to pv with two := true, c := updB p.c true c } (updB id true gs.size) = PvL (p.to pv) id := by
    funext g l
    apply propext
    constructor
    · rintro ⟨b, a', _, rfl, rfl, hp⟩
      have hp' : pv b a'.block := hp
      have := hpt b _ hp'
      subst this
      exact ⟨false, a', .inl rfl, idf, rfl, hp'⟩
    · rintro ⟨b, a', _, rfl, rfl, hp⟩
      have hp' : pv b a'.block := hp
      have := hpt b _ hp'
      subst this
      exact ⟨false, a', .inl rfl, idf.symm, rfl, hp'⟩
  refine ⟨S.n0, S.wsz, fun b _ => ?_, fun b _ => ?_, fun _ => ?_, fun b β hp => ?_, S.pvd, fun b _ => ?_, fun _ => ?_, fun h => (by cases h), fun i g hi hn hg => ?_, fun j hj => ?_, fun b _ => ?_, fun b _ => ?_, fun b _ => ?_, fun b _ he => ?_, fun b _ => ?_, ?_, fun e => (by have : p.w = 2 := e; omega), fun v e => (by have : p.w = 10 + v := e; omega), S.keep, ?_, fun b _ hc => ?_, ?_, fun b g _ hg hst => ?_⟩
  · show updB p.c true c b < _
    cases b
    · rw [cf]; exact S.csz false (.inl rfl)
    · rw [updB_same]; exact (Array.getElem?_eq_some_iff.1 hch).1
  · show X.N0 ≤ updB p.c true c b ∧ updB p.c true c b ≠ X.Wg
    cases b
    · rw [cf]; exact S.cge false (.inl rfl)
    · rw [updB_same]; exact ⟨hc.1, hc.2.1⟩
  · show updB p.c true c false ≠ updB p.c true c true
    rw [cf, updB_same]; exact fun e => hc.2.2 e.symm
  · have hp' : pv b β := hp
    obtain ⟨k1, k2, k3, k4, k5⟩ := S.pvl b β hp'
    refine ⟨born_of_two rfl b, k2, k3, k4, fun a _ => ?_⟩
    show β ≠ updB p.c true c a
    cases a
    · rw [cf]; exact k5 false (.inl rfl)
    · rw [updB_same]; rintro rfl; exact hpc b hp'
  · cases b
    · rw [idf]; exact hip
    · rw [updB_same]; exact hlt
  · rw [idf, updB_same]; omega
  · have n1 := hn false (.inl rfl)
    have n2 := hn true (.inr rfl)
    rw [idf] at n1
    rw [updB_same] at n2
    have hl : i < gs.size := by
      have := (Array.getElem?_eq_some_iff.1 hg).1
      rw [hsz] at this
      omega
    rw [hget i (by omega) hl] at hg
    rw [upd_ne q _ n2, hD]
    exact S.old i g hi (fun b hb => by rw [hbf b hb]; exact n1) hg
  · rw [hsz] at hj; rw [hD]; exact S.above j (by omega)
  · cases b
    · rw [idf, stf, upd_ne q _ (by omega), hD]
      exact ⟨x0, by rw [hget _ (by omega) hlt1]; exact hx0, hS0.move cf (fun _ h => h) (fun _ _ => rfl)⟩
    · rw [updB_same, updB_same, upd_same, hD, S.above _ (Nat.le_refl _)]
      refine ⟨child, hlast, .run (M := none) rfl ?_ (fun _ _ e => by cases e) (fun _ _ e => by cases e)⟩
      show Snd X true (updB p.c true c true) m (.snd 0) none child
      rw [updB_same]; exact hm
  · cases b
    · rw [stf]; exact S.rle false (.inl rfl)
    · rw [updB_same]
      have ur' : p.r true = 0 := ur
      show p.r true ≤ 0; omega
  · cases b
    · rw [stf]; exact S.sle false (.inl rfl)
    · rw [updB_same]; show 0 ≤ X.n true ∧ 0 - p.r true ≤ 64; omega
  · cases b
    · rw [stf]; exact S.ecl false (.inl rfl) he
    · have he' : p.e true = true := he
      have ue' : p.e true = false := ue
      rw [ue'] at he'; cases he'
  · cases b
    · rw [stf]
      show w.heap[updB p.c true c false]? = _
      rw [cf]; exact S.chan false (.inl rfl)
    · rw [updB_same]
      have ur' : p.r true = 0 := ur
      show w.heap[updB p.c true c true]? = some (Obj.chan 64 (bufOf (X.it true) (p.r true) 0) false 0 (p.r true) false)
      rw [updB_same, ur', bufOf_nil _ (Nat.le_refl _)]; exact hch
  · exact S.wg.keep (b := true) (by rw [ust]; rfl) rfl ecnt rfl
  · have T1 := (S.tr.app0 (u := MemOp.ofEvents 0 a.frame.fn a.frame.place es) O.shun h1 h2' h3).spawn (c := gs.size) (by rw [hD0, S.d0]; show (if p.df then 1 else 0) = 0; rw [hd]; rfl) (by rw [hD0]; exact S.above _ (Nat.le_refl _)) a.frame.fn a.frame.place child.frame.fn a.frame.place
    have e1 : (fun g => ∃ b, ({ p.to pv with two := true, c := updB p.c true c } : Ph).born b ∧ g = updB id true gs.size b) = (fun g => (∃ b, (p.to pv).born b ∧ g = id b) ∨ g = gs.size) := by
      funext g
      apply propext
      constructor
      · rintro ⟨b, _, rfl⟩
        cases b
        · exact .inl ⟨false, .inl rfl, idf⟩
        · exact .inr (updB_same _ _ _)
      · rintro (⟨b, hb, rfl⟩ | rfl)
        · rw [hbf b hb]; exact ⟨false, .inl rfl, idf.symm⟩
        · exact ⟨true, .inr rfl, (updB_same _ _ _).symm⟩
    have e2 : (fun g => ∃ b, ({ p.to pv with two := true, c := updB p.c true c } : Ph).born b ∧ g = updB id true gs.size b ∧ p.e b = false) = (fun g => (∃ b, (p.to pv).born b ∧ g = id b ∧ (p.to pv).e b = false) ∨ g = gs.size) := by
      funext g
      apply propext
      constructor
      · rintro ⟨b, _, rfl, he⟩
        cases b
        · exact .inl ⟨false, .inl rfl, idf, he⟩
        · exact .inr (updB_same _ _ _)
      · rintro (⟨b, hb, rfl, he⟩ | rfl)
        · have := hbf b hb; subst this; exact ⟨false, .inl rfl, idf.symm, he⟩
        · exact ⟨true, .inr rfl, (updB_same _ _ _).symm, ue⟩
    show TrI _ _ _ _ _ (fun g => ∃ b, ({ p.to pv with two := true, c := updB p.c true c } : Ph).born b ∧ g = updB id true gs.size b ∧ p.e b = false) (PvL { p.to pv with two := true, c := updB p.c true c } (updB id true gs.size)) _
    rw [e1, e2, hPvL]
    exact T1
  · cases b
    · rw [stf] at hc
      rw [idf]
      show ClosedAt _ (updB p.c true c false) _
      rw [cf]
      exact ((S.cla false (.inl rfl) hc).appOther fun op hop => .inl (by rw [h1 op hop]; omega)).appOther fun op hop => .inr (hU op hop).1
    · rw [updB_same] at hc; cases hc
  · rw [hD]; exact S.d0
  · cases b
    · rw [idf, hget _ (by omega) hlt1] at hg
      rw [stf]; exact S.pk false g (.inl rfl) hg hst
    · rw [updB_same, hlast] at hg
      obtain rfl := Option.some.inj hg
      rw [hm.running] at hst; cases hst

theorem mem_cases {op : Bool → Bool} {cc : CommCase} (h : cc ∈ X.cases p op) : ∃ b, cc = X.cs p op b := by
  simp only [Cfg.cases, List.mem_toArray, List.mem_cons, List.not_mem_nil, or_false] at h
  rcases h with rfl | rfl
  · exact ⟨false, rfl⟩
  · exact ⟨true, rfl⟩

/-- THE SELECT. -/
theorem node_sel (O : X.Ok) (hg : g.status = .running) (h2 : p.two = true) (hd : p.df = false) (op : Bool → Bool) (ho : ∀ b, op b = true → p.e b = false) (hso : ∃ b, op b = true)
    (hst : ∀ pv w₁, RM X p w0 pv w₁ → ∃ g₂ es, stepG X.P true g w₁ = .comm g₂ (X.cases p op) true .select w₁ es ∧ g₂.frame = g.frame ∧ g₂.callers = g.callers ∧ g₂.dying = g.dying ∧ (∀ e ∈ es, EvM X (p.to pv).sb w₁.heap.size e))
    (hv : ∀ b g₂ pv w₂, op b = true → p.r b < X.n b → RM X p w0 pv w₂ → g₂.frame = g.frame → g₂.callers = g.callers → g₂.dying = g.dying →
        RR X { p.to pv with r := updB p.r b (p.r b + 1) } (Go.Conc.served g₂ (commResult (X.cases p op) .select (kOf b) (X.it b (p.r b)) true)) w₂)
    (hz : ∀ b g₂ pv w₂, op b = true → p.r b = X.n b → RM X p w0 pv w₂ → g₂.frame = g.frame → g₂.callers = g.callers → g₂.dying = g.dying →
        RR X { p.to pv with e := updB p.e b true } (Go.Conc.served g₂ (commResult (X.cases p op) .select (kOf b) X.z false)) w₂) : RR X p g w0 := by
  refine ⟨hg, fun pv gs w t q id st sl a S hR ha hs hrun => ?_⟩
  have hb2 : ∀ pv b, (p.to pv).born b := fun pv => born_of_two (p := p.to pv) h2
  refine loop O (g := g) (w0 := w0) (fun a _ => ∃ g₂, a = parked g₂ (X.cases p op) .select ∧ Sim g₂ g) (fun pv gs w t q id st sl a S hR ha hs hr => ?_) (fun pv gs w t q id st sl a i S hR ⟨g₂, e, hs⟩ hmet => ?_) (fun pv gs w t q id st a S ha hM hbl ⟨g₂, e, hs⟩ => ?_) (fun _ _ _ h _ => h)
    (fun a w ⟨g₂, e, hs⟩ => by subst e; exact hs) _ pv gs w t q id st sl a 1 rfl S hR ha (.run hrun) (.inl ⟨hrun, hs, rfl⟩)
  · obtain ⟨g₂, es, e1, f1, f2, f3, hes⟩ := hst pv w hR
    have hstep : stepG X.P (0 == 0) a w = .comm g₂ #[X.cs p op false, X.cs p op true] true .select w es := (hs.stepG w).trans e1
    have way : ∀ b, NoWays w (gs.setIfInBounds 0 ph) (X.cs p op b) ∨ Way1 gs 0 w (X.cs p op b) := fun b => by
      unfold Cfg.cs
      split
      · rcases S.wayOf (hb2 pv b) with h | h
        · exact .inr h
        · exact .inl h.1
      · exact .inl (ways_nil none)
    by_cases hsome : Way1 gs 0 w (X.cs p op false) ∨ Way1 gs 0 w (X.cs p op true)
    · obtain ⟨k, cc, d, m', ops, hk, hrunT, hT⟩ := crowd_sel2 (sl := sl) ha hstep (way false) (way true) hsome
      obtain ⟨b, hkb, hcc⟩ : ∃ b, k = kOf b ∧ cc = X.cs p op b := by
        rcases hk with ⟨rfl, rfl⟩ | ⟨rfl, rfl⟩
        · exact ⟨false, rfl, rfl⟩
        · exact ⟨true, rfl, rfl⟩
      subst hkb hcc
      have hop : op b = true := by
        cases e : op b with
        | true => rfl
        | false =>
          have : X.cs p op b = nilcase X.z := by unfold Cfg.cs; rw [if_neg (by rw [e]; simp)]
          rw [this] at hT
          generalize hcc : nilcase X.z = cc at hT
          cases hT <;> cases hcc
      have hcs : X.cs p op b = rcase ((p.to pv).c b) X.z := by unfold Cfg.cs; rw [if_pos hop]; rfl
      rw [hcs] at hT
      have S' := S.at O d
      obtain ⟨gs', w', q', st', v, rfl, hRM, ha', hcase⟩ := S'.took (fn := a.frame.fn) (pos := a.frame.place) O (hb2 pv b) (ho b hop) hd hes hT
      refine ⟨_, _, hrunT, .inl ?_⟩
      have hR2 : RM X p w0 pv w' := (hR.trans (RM.at X (p.to pv) w d)).trans hRM
      rcases hcase with ⟨hlt, rfl, S2⟩ | ⟨heq, rfl, S2⟩
      · exact onward (p' := { p.to pv with r := updB p.r b (p.r b + 1) }) (hv b g₂ pv w' hop hlt hR2 f1 f2 f3) S2 ha'
      · exact onward (p' := { p.to pv with e := updB p.e b true }) (hz b g₂ pv w' hop heq hR2 f1 f2 f3) S2 ha'
    · have hno : ∀ b, NoWays w (gs.setIfInBounds 0 ph) (X.cs p op b) := fun b => (way b).elim (fun h => h) fun h => (hsome (by cases b; exact .inl h; exact .inr h)).elim
      have hrunT := crowd_waits (sl := sl) ha hstep (fun cc hcc => by
        obtain ⟨b, rfl⟩ := mem_cases (X := X) (p := p) (op := op) hcc
        exact hno b)
      obtain ⟨h1, h2', h3, h4⟩ := evM_ops (X := X) (p := p.to pv) (fn := a.frame.fn) (pos := a.frame.place) hes
      have hlt : 0 < gs.size := (Array.getElem?_eq_some_iff.1 ha).1
      refine ⟨_, _, hrunT, .inr ⟨_, w, parked g₂ (X.cases p op) .select, rfl, by simp, ?_, hR, by simp [hlt]; rfl, .park (p := p.to pv) (fun c hc => ⟨ho c hc, hb2 pv c⟩) (fun c hc => ?_), rfl, g₂, rfl, f1, f2, f3⟩⟩
      · exact S.step0 (p' := p.to pv) ⟨rfl, rfl, rfl, rfl, rfl⟩ O h1 (fun i hi => Array.getElem?_setIfInBounds_ne (fun e => hi e.symm)) (by simp) (Nat.le_refl _) S.keep (fun _ _ => rfl) (fun _ _ _ => rfl) S.wg S.w2 S.w10 h2' h3 (by rw [Deaf_own, h4]; exact S.d0)
      · rcases S.wayOf (hb2 pv c) with h | h
        · have hcs : X.cs p op c = rcase ((p.to pv).c c) X.z := by unfold Cfg.cs; rw [if_pos hc]; rfl
          rw [← hcs] at h
          exact absurd (by cases c; exact .inl h; exact .inr h) hsome
        · exact h.2
  · obtain ⟨b, gs', w', ops, q', st', g₂', op', e', hop', hb', hlt, hrunT, hsz, hRM, hsum, ha', S'⟩ := hmet
    rw [e] at e'
    have eop : op = op' := by
      have := congrArg Goroutine.offers e'
      simp only [parked, Option.some.injEq, Prod.mk.injEq, and_true, Cfg.cases, Array.mk.injEq, List.cons.injEq] at this
      funext c
      cases c
      · exact cs_inj (p := p) this.1
      · exact cs_inj (p := p) this.2
    subst eop
    have f1 : g₂'.frame = g.frame := by have := congrArg Goroutine.frame e'; simp only [parked] at this; rw [← this]; exact hs.1
    have f2 : g₂'.callers = g.callers := by have := congrArg Goroutine.callers e'; simp only [parked] at this; rw [← this]; exact hs.2.1
    have f3 : g₂'.dying = g.dying := by have := congrArg Goroutine.dying e'; simp only [parked] at this; rw [← this]; exact hs.2.2
    exact ⟨_, _, hrunT, onward (p' := { p.to pv with r := updB p.r b (p.r b + 1) }) (hv b g₂' pv w' hop' hlt (hR.trans hRM) f1 f2 f3) S' ha'⟩
  · subst e
    obtain ⟨b, hb⟩ := hso
    have hM' : M0 X (p.to pv) st (parked g₂ (X.cases (p.to pv) op) .select) := hM
    obtain ⟨_, hr, hcl⟩ := hM'.parked_inv b hb
    obtain ⟨x, hx, hS⟩ := S.snd b (hb2 pv b)
    have hnb : x.status ≠ .blocked := fun e => by have := S.pk b x (hb2 pv b) hx e; omega
    refine ⟨id b, x, hx, ?_⟩
    generalize st b = s at hS hcl
    generalize Deaf t (id b) = d0 at hS
    generalize q (id b) = q0 at hS
    cases hS with
    | run _ h => exact h.running
    | park _ _ _ => exact absurd rfl hnb
    | quit h => cases hcl

/-- THE SEMAPHORE. -/
theorem node_sem (O : X.Ok) (hg : g.status = .running) (h2 : p.two = true) (he : ∀ b, p.e b = true) (hd : p.df = true) (hw : p.w = 1) (hof : g.offers = none) (h : ∀ pv w₁, RM X p w0 pv w₁ →
      ((∃ st, WgAt X.ty X.Wg w₁ st 0) → stepG X.P true g w₁ = .go { g with status := .blocked } w₁ #[]) ∧
      (WgAt X.ty X.Wg w₁ 0 1 → ∃ g', stepG X.P true g w₁ = .go g' (w₁.setCell (smA X.Wg) (.int .u32 0)) (semEvents (smA X.Wg)) ∧ RR X { p.to pv with w := 2 } g' (w₁.setCell (smA X.Wg) (.int .u32 0)))) : RR X p g w0 := by
  have hb2 : ∀ pv b, (p.to pv).born b := fun pv => born_of_two (p := p.to pv) h2
  refine ⟨hg, fun pv gs w t q id st sl a S hR ha hs hrun => ?_⟩
  refine loop O (g := g) (w0 := w0) (fun a w => a.offers = none ∧ Sim a g ∧ ¬ WgAt X.ty X.Wg w 0 1) (fun pv gs w t q id st sl a S hR ha hs hr => ?_) (fun pv gs w t q id st sl a i S hR ⟨e, _, _⟩ hmet => ?_) (fun pv gs w t q id st a S ha hM hbl ⟨e, hs, hn⟩ => ?_)
    (fun a w w' ⟨e, hs, hn⟩ hup => ⟨e, hs, fun h01 => hn (hup e h01)⟩) (fun a w ⟨_, hs, _⟩ => hs) _ pv gs w t q id st sl a 1 rfl S hR ha (.run hrun) (.inl ⟨hrun, hs, rfl⟩)
  · obtain ⟨hwait, hget⟩ := h pv w hR
    have hcase : (∃ st, WgAt X.ty X.Wg w st 0) ∨ (WgAt X.ty X.Wg w 0 1 ∧ cntOf (p.to pv) st = 0 ∧ ∀ b, lastOf (st b) = false) := by
      cases S.wg with
      | calm h => exact absurd hw h
      | wait _ _ _ h => exact .inl ⟨_, h⟩
      | one _ _ _ _ _ h => exact .inl ⟨_, h⟩
      | zero _ _ _ _ _ h => exact .inl ⟨_, h⟩
      | up _ hc hl h => exact .inr ⟨h, hc, hl⟩
    rcases hcase with ⟨x, hx⟩ | ⟨hx, hc, hl⟩
    · have e1 := (hs.stepG w).trans (hwait ⟨x, hx⟩)
      have hT := wgM_ops O S (fn := a.frame.fn) (pos := a.frame.place) (es := #[]) (by simp)
      obtain ⟨gs', r1, r2, r3, r4⟩ := goOn (sl := sl) (p' := p.to pv) O S ha e1 ⟨rfl, rfl, rfl, rfl, rfl⟩ (Nat.le_refl _) S.keep (fun b hb => rfl) (fun _ _ _ => rfl) S.wg S.w2 S.w10 hT (by rw [deafBehind_nil]; exact S.d0)
      exact ⟨_, _, r1, .inr ⟨gs', w, _, rfl, r2, r4, hR, r3, .wait rfl hof, rfl, hof, ⟨rfl, rfl, rfl⟩, fun h01 => wg_no hx h01⟩⟩
    · obtain ⟨g', e1, hRR⟩ := hget hx
      have hT := wgM_ops O S (fn := a.frame.fn) (pos := a.frame.place) (es := semEvents (smA X.Wg)) (fun e he => by
        simp [semEvents] at he
        rcases he with rfl | rfl | rfl | rfl
        · exact ⟨fun y hy => by simp [MemAct.ofEvent, MemAct.touch?] at hy, trivial⟩
        · exact rdwr_ok (e := rd (smA X.Wg)) S.wsz (by simp)
        · exact rdwr_ok (e := wr (smA X.Wg)) S.wsz (by simp)
        · exact ⟨fun y hy => by simp [MemAct.ofEvent, MemAct.touch?] at hy, trivial⟩)
      have hsz : (w.setCell (smA X.Wg) (.int .u32 0)).heap.size = w.heap.size := by simp [World.setCell]
      obtain ⟨gs', r1, _, r3, r4⟩ := goOn (sl := sl) (p' := { p.to pv with w := 2 }) O S ha ((hs.stepG w).trans e1) ⟨rfl, rfl, rfl, rfl, rfl⟩ (by rw [hsz]; exact Nat.le_refl _) (kWg O S).2 (chWg S).2.1 (chWg S).2.2
        (.calm (by show (2 : Nat) ≠ 1; omega) hl (by
          have e : cntOf { p.to pv with w := 2 } st = 0 := hc
          rw [e]
          have := hx.setSm 0
          simpa using this)) (fun _ => hc) (fun v e => by have : (2 : Nat) = 10 + v := e; omega) ⟨hT.1, hT.2.1, by rw [hsz]; exact hT.2.2⟩ (by
        rw [S.d0]; show deafBehind (if p.df then 1 else 0) _ = (if p.df then 1 else 0); rw [hd]; rfl)
      exact ⟨_, _, r1, .inl (onward hRR r4 r3)⟩
  · obtain ⟨_, _, _, _, _, _, g₂, op, rfl, _⟩ := hmet
    cases e
  · have hq : ∃ b, (∃ s, st b = some s ∧ ∀ k, s ≠ .snd k) := by
      have hns : ∀ b k, st b ≠ some (.snd k) := fun b k e => by
        have := (S.ecl b (hb2 pv b) (he b)).1
        rw [e] at this; cases this
      cases S.wg with
      | calm h => exact absurd hw h
      | up _ _ _ h => exact absurd h hn
      | one _ _ b hb _ _ => rcases hb with e | e <;> exact ⟨b, _, e, fun k e => by cases e⟩
      | zero _ _ b hb _ _ => exact ⟨b, _, hb, fun k e => by cases e⟩
      | wait _ hc _ _ =>
        unfold cntOf at hc
        have h2p : (p.to pv).two = true := h2
        rw [h2p] at hc
        simp only [if_true] at hc
        have : ∃ b, aOf (st b) ≠ 0 := by
          by_cases h0 : aOf (st false) = 0
          · exact ⟨true, by omega⟩
          · exact ⟨false, h0⟩
        obtain ⟨b, hb⟩ := this
        cases e : st b with
        | none => rw [e] at hb; exact absurd rfl hb
        | some s => exact ⟨b, s, e, fun k e' => hns b k (by rw [e, e'])⟩
    obtain ⟨b, s, hsb, hk⟩ := hq
    obtain ⟨x, hx, hS⟩ := S.snd b (hb2 pv b)
    refine ⟨id b, x, hx, ?_⟩
    rw [hsb] at hS
    generalize Deaf t (id b) = d0 at hS
    generalize q (id b) = q0 at hS
    cases hS with
    | run _ h => exact h.running
    | @park k m g₂ z d hd hk' h => exact absurd rfl (hk k)

/-- ████ THE THEOREM OF THE MACHINE. ████ -/
theorem main_reaches (O : X.Ok) (h : Main X p g w0) : RR X p g w0 := by
  refine h (RR X) fun p g w hr hs => ?_
  cases hs with
  | own h => exact node_own O hr h
  | mark m hm h => exact node_mark O hr m hm h
  | add h2 ha hw h => exact node_add O hr h2 ha hw h
  | go h2 ha hd hw c hc h => exact node_go O hr h2 ha hd hw c hc h
  | sel h2 hd op ho hs hst hv hz => exact node_sel O hr h2 hd op ho hs hst hv hz
  | ld h2 he hd bd hw h => exact node_ld O hr bd hw h
  | cas h2 he hd v0 hw hv0 h => exact node_cas O hr v0 hw hv0 h
  | sem h2 he hd hw hof h => exact node_sem O hr h2 he hd hw hof h
  | look h2 he hd hw h => exact node_look O hr hw h
  | done h2 he hd hw h => exact node_done hr h2 he hd hw h
end
end Go.Proofs.Ytafnbmokegomaaa
