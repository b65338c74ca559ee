/-
  GOROUTINE 0 BESIDE WHOEVER ONLY LEAVES: the outer judgement; it starts the first sender, and comes back behind the wait.
-/
import Derived.Test.YtafnbmokegomaaaNodesB
set_option linter.unusedSimpArgs false
namespace Go.Proofs.Ytafnbmokegomaaa
open Go.Conc
open Go.ConcR (KK wgBlock WgAt stA smA rd wr deafBehind_cons deafBehind_one)
open Go.ConcN (sumTo upd sumTo_upd upd_ne upd_same)

def ShunB (sh : Nat → Prop) (l : Loc) : Prop := (∃ a, l = .cell a ∧ sh a.block) ∨ ∃ c, l = .obj c

def Ends (P : Program) (Post : Value → World → Prop) (m : Machine) (t : Trace) : Prop :=
  ∃ N last o w' t', runNT P (N + 1) m t = (.ended o w', t') ∧ runN P N m = .next last ∧ step P last = .ended o w' ∧ Good P Post last o w' t'

theorem Ends.step {P : Program} {Post : Value → World → Prop} {m m' : Machine} {t : Trace} {ops : Array MemOp} (h : stepT P m = (.next m', ops)) (h' : Ends P Post m' (t ++ ops)) : Ends P Post m t := by
  obtain ⟨n, last, o, w, t', h1, h2, h3, h4⟩ := h'
  exact ⟨n + 1, last, o, w, t', by rw [runNT_succ_next h]; exact h1, by rw [runN_succ_next h]; exact h2, h3, h4⟩

theorem Ends.run {P : Program} {Post : Value → World → Prop} : ∀ {N : Nat} {m m' : Machine} {t t' : Trace}, runNT P N m t = (.next m', t') → Ends P Post m' t' → Ends P Post m t
  | 0, m, m', t, t', h, h' => by
    simp only [runNT, Prod.mk.injEq, Stepped.next.injEq] at h
    obtain ⟨rfl, rfl⟩ := h
    exact h'
  | N + 1, m, m', t, t', h, h' => by
    cases hs : stepT P m with
    | mk r ops =>
      cases r with
      | next m₁ =>
        rw [runNT_succ_next hs] at h
        exact Ends.step hs (Ends.run h h')
      | ended o w => simp [runNT, hs] at h

/-- What is held between two steps. -/
structure TI (P : Program) (sh sf : Nat → Prop) (df : Bool) (gs : Array Goroutine) (w : World) (t : Trace) (q : Nat → Nat) : Prop where
  lv : Leavers P t gs q
  tr : TrI (ShunB sh) (ShunB sf) (fun _ => False) w.heap.size (fun _ => False) (fun _ => False) (fun _ _ => False) t
  d0 : Deaf t 0 = if df then 1 else 0
  sub : ∀ β, sf β → sh β

/-- From here on the run ends well. -/
def RT (P : Program) (Post : Value → World → Prop) (sh sf : Nat → Prop) (df : Bool) (g : Goroutine) (w : World) : Prop :=
  g.status = .running ∧ ∀ gs t q sl a d, TI P sh sf df gs (w.at d) t q → gs[0]? = some a → Sim a g → a.status = .running → Ends P Post (crowd gs (w.at d) sl) t

section
variable {P : Program} {Post : Value → World → Prop} {sh sf : Nat → Prop} {df : Bool} {gs : Array Goroutine} {w : World} {t : Trace} {q : Nat → Nat} {g : Goroutine}

theorem ShunB.mono {sf sh : Nat → Prop} (h : ∀ β, sf β → sh β) : ∀ l, ShunB sf l → ShunB sh l := by
  rintro l (⟨a, e, ha⟩ | h')
  · exact .inl ⟨a, e, h _ ha⟩
  · exact .inr h'

/-- A leaver slips. -/
theorem TI.slip (S : TI P sh sf df gs w t q) {i : Nat} {x : Goroutine} (hi : i ≠ 0) (hx : gs[i]? = some x) (hrun : x.status = .running) {a : Goroutine} (ha : gs[0]? = some a) (har : a.status = .running) (sl : Option (Nat × Nat)) :
    ∃ gs' ops q', runT P (crowd gs w sl) i = (.next (crowd gs' w sl), ops) ∧ gs'[0]? = some a ∧ TI P sh sf df gs' w (t ++ ops) q' ∧ sumTo gs'.size q' + 1 ≤ sumTo gs.size q := by
  have hq := S.lv.old i x (by omega) hx
  have hi0 : (i == 0) = false := by simp; omega
  have hlt : i < gs.size := (Array.getElem?_eq_some_iff.1 hx).1
  cases hqi : q i with
  | zero => rw [hqi] at hq; rw [hq.1] at hrun; cases hrun
  | succ k =>
    rw [hqi] at hq
    rcases hq with ⟨hf, _⟩ | ⟨_, g', es, hm, hstp, hq'⟩
    · rw [hf] at hrun; cases hrun
    have hrunT := runT_crowd_go (P := P) (sl := sl) (i := i) hx (by rw [hi0]; exact hstp w)
    have hsz : ((gs.map (woken P x g' w)).setIfInBounds i g').size = gs.size := by simp
    have hsum : sumTo gs.size (upd q i k) + (k + 1) = sumTo gs.size q + k := by
      have := sumTo_upd q k (fun n => n) hlt
      simpa [hqi] using this
    obtain ⟨m1, m2⟩ := mute_ops (i := i) (fn := x.frame.fn) (pos := x.frame.place) hm w.heap.size
    refine ⟨_, _, upd q i k, hrunT, ?_, ⟨⟨fun j y hj hy => ?_, fun j hj => ?_⟩, S.tr.appMute m1 m2, ?_, S.sub⟩, by rw [hsz]; omega⟩
    · rw [Array.getElem?_setIfInBounds_ne (by omega), Array.getElem?_map, ha]
      simp [woken_run har]
    · by_cases hji : i = j
      · subst hji
        rw [Array.getElem?_setIfInBounds_self_of_lt (by simpa using hlt)] at hy
        obtain rfl := Option.some.inj hy
        rw [upd_same, Deaf_own]
        exact hq'
      · rw [Array.getElem?_setIfInBounds_ne hji, Array.getElem?_map] at hy
        obtain ⟨z, hz, rfl⟩ := Option.map_eq_some_iff.1 hy
        have hqj := S.lv.old j z hj hz
        rw [woken_quitsD hqj, upd_ne q k (Ne.symm hji), Deaf_other t hji _ (fun op hop => by obtain ⟨e, _, rfl⟩ := Go.Conc.mem_ofEvents hop; rfl)]
        exact hqj
    · rw [Deaf_other t (g' := i) (by simp at hj; omega) _ (fun op hop => by obtain ⟨e, _, rfl⟩ := Go.Conc.mem_ofEvents hop; rfl)]
      exact S.lv.above j (by simpa using hj)
    · rw [Deaf_other t (g' := i) (by omega) _ (fun op hop => by obtain ⟨e, _, rfl⟩ := Go.Conc.mem_ofEvents hop; rfl)]
      exact S.d0

theorem TI.awake (S : TI P sh sf df gs w t q) {a : Goroutine} (ha : gs[0]? = some a) (har : a.status = .running) : ∀ g ∈ gs, awake g := by
  intro g hg
  obtain ⟨i, hi, rfl⟩ := Array.mem_iff_getElem.1 hg
  rcases Nat.eq_zero_or_pos i with rfl | hpos
  · have : gs[0] = a := by simpa [Array.getElem?_eq_getElem hi] using ha
    rw [this]; exact awake_of (.inl har)
  · exact awake_of ((S.lv.old i _ hpos (Array.getElem?_eq_getElem hi)).status.elim .inl fun x => .inr (.inr x))

theorem outNode (hg : g.status = .running)
    (hMain : ∀ gs t q sl a d, TI P sh sf df gs (w.at d) t q → gs[0]? = some a → Sim a g → a.status = .running →
      (∃ m' ops, runT P (crowd gs (w.at d) sl) 0 = (.next m', ops) ∧ Ends P Post m' (t ++ ops)) ∨
      (∃ v es, stepG P true a (w.at d) = .ended (.done v) (w.at d) es ∧ (∀ e ∈ es, EvL (ShunB sh) w.heap.size e) ∧ Post v (w.at d))) : RT P Post sh sf df g w := by
  refine ⟨hg, fun gs t q sl a d S ha hs hr => ?_⟩
  generalize hμ : sumTo gs.size q = μ
  induction μ using Nat.strongRecOn generalizing gs t q sl d with
  | _ μ ih =>
    obtain ⟨i, x, d', sl', hx, hxr, hstep⟩ := crowd_pick (P := P) (w := w.at d) (sl := sl) (S.awake ha hr) ⟨0, a, ha, hr⟩
    have S' : TI P sh sf df gs (w.at d') t q := ⟨S.lv, S.tr, S.d0, S.sub⟩
    have hstep' : stepT P (crowd gs (w.at d) sl) = runT P (crowd gs (w.at d') sl') i := hstep
    by_cases hi : i = 0
    · subst hi
      rcases hMain gs t q sl' a d' S' ha hs hr with ⟨m', ops, e1, e2⟩ | ⟨v, es, hend, hes, hpost⟩
      · exact Ends.step (hstep'.trans e1) e2
      · have hrunT := runT_many_ended (P := P) (sl := sl') (i := 0) ha (show stepG P (0 == 0) a (w.at d') = _ from hend)
        have hst := hstep'.trans hrunT
        have hu : ∀ op ∈ MemOp.ofEvents 0 a.frame.fn a.frame.place es, op.g = 0 := fun op hop => by obtain ⟨e, _, rfl⟩ := Go.Conc.mem_ofEvents hop; rfl
        have T' := S'.tr.app0 (u := MemOp.ofEvents 0 a.frame.fn a.frame.place es) (ShunB.mono S.sub) hu (fun op hop b hb => by
          obtain ⟨e, he, rfl⟩ := Go.Conc.mem_ofEvents hop
          exact ⟨(hes e he).1 b hb, fun h => h.elim, fun _ h => h.elim⟩) (fun op hop => by obtain ⟨e, he, rfl⟩ := Go.Conc.mem_ofEvents hop; exact (hes e he).2.2.2)
        refine ⟨0, crowd gs (w.at d) sl, .done v, w.at d', t ++ MemOp.ofEvents 0 a.frame.fn a.frame.place es, by simp [runNT, hst], rfl, by simp [Go.step, hst], v, rfl, hpost, T'.clean, fun i g hg hne hc => (T'.over i g hg hne hc).elim id fun h => h.elim, ⟨fun x hx => ?_, rfl⟩, fun j x hx hj => ?_⟩
        · obtain ⟨j, hj⟩ := List.mem_iff_getElem?.1 hx
          rw [List.getElem?_drop] at hj
          exact ⟨_, (S.lv.old (1 + j) x (by omega) (by simpa [crowd] using hj)).leaves⟩
        · have hq := S.lv.old j x (by omega) hx
          refine ⟨q j, ?_⟩
          have e : (t ++ MemOp.ofEvents 0 a.frame.fn a.frame.place es).deaf j (t ++ MemOp.ofEvents 0 a.frame.fn a.frame.place es).size = Deaf t j :=
            Deaf_other t (g := j) (g' := 0) (by omega) _ hu
          rw [e]
          exact hq.hears _
    · obtain ⟨gs', ops, q', e1, ha', S'', hsum⟩ := S'.slip hi hx hxr ha hr sl'
      exact Ends.step (hstep'.trans e1) (ih (sumTo gs'.size q') (by omega) gs' (t ++ ops) q' sl' d' S'' ha' rfl)
end

/-- The first phase: one sender is born, nothing is received. -/
def p0 (c : Nat) : Ph := { two := false, ad := false, df := false, r := fun _ => 0, e := fun _ => false, w := 0, c := fun _ => c, pv := fun _ _ => False }

/-- ONE STEP OF GOROUTINE 0's BESIDE LEAVERS. -/
inductive TStep (P : Program) (Post : Value → World → Prop) (S : (Nat → Prop) → (Nat → Prop) → Bool → Goroutine → World → Prop) : (Nat → Prop) → (Nat → Prop) → Bool → Goroutine → World → Prop
  | own {sh sf df g w} (h : ∀ d, (stepG P true g (w.at d)).goes fun g' w' es => (w.heap.size ≤ w'.heap.size ∧ ∀ e ∈ es, EvL (ShunB sh) w'.heap.size e) ∧ S sh sf df g' w') : TStep P Post S sh sf df g w
  | mark {sh sf df g w} (m : Mark) (hm : (df = false ∧ m = .disable) ∨ (df = true ∧ m = .enable)) (h : ∀ d, ∃ g', stepG P true g (w.at d) = .go g' (w.at d) #[Go.ConcR.mk m] ∧ S sh sf (!df) g' (w.at d)) : TStep P Post S sh sf df g w
  | shun {sh sf df g w} (nw : Nat → Prop) (hn : ∀ β, nw β → w.heap.size ≤ β) (h : S (fun β => sh β ∨ nw β) (fun β => sf β ∨ nw β) df g w) : TStep P Post S sh sf df g w
  | fork {sh sf df g w} (hd : df = false) (X : Cfg) (O : X.Ok) (hP : X.P = P) (hS : X.Shun = ShunB sh) (hW : sf X.Wg) (hSt : ∀ β, X.StB β → ¬ sh β) (c : Nat) (hn : X.N0 ≤ w.heap.size ∧ X.N0 ≤ c ∧ c ≠ X.Wg ∧ X.Wg < w.heap.size)
      (hw : WgAt X.ty X.Wg w KK 0) (hc : w.heap[c]? = some (.chan 64 #[] false 0 0 false)) (hK : X.K w) (hA : ∀ g w, X.Anch g w → X.K w → S sh (fun β => β = X.Wg) false g w)
      (h : ∀ d, ∃ g' child es, stepG P true g (w.at d) = .spawn g' child (w.at d) es ∧ (∀ e ∈ es, EvM X (fun _ => False) w.heap.size e) ∧ (∃ m, Snd X false c m (.snd 0) none child) ∧ Main X (p0 c) g' (w.at d)) : TStep P Post S sh sf df g w
  | last {sh sf df g w} (h : ∀ d, ∃ v es, stepG P true g (w.at d) = .ended (.done v) (w.at d) es ∧ (∀ e ∈ es, EvL (ShunB sh) w.heap.size e) ∧ Post v (w.at d)) : TStep P Post S sh sf df g w

def Top (P : Program) (Post : Value → World → Prop) (sh sf : Nat → Prop) (df : Bool) (g : Goroutine) (w : World) : Prop :=
  ∀ S : (Nat → Prop) → (Nat → Prop) → Bool → Goroutine → World → Prop, (∀ sh sf df g w, g.status = .running → TStep P Post S sh sf df g w → S sh sf df g w) → S sh sf df g w

theorem TStep.mono {P : Program} {Post : Value → World → Prop} {S S' : (Nat → Prop) → (Nat → Prop) → Bool → Goroutine → World → Prop} (hS : ∀ sh sf df g w, S sh sf df g w → S' sh sf df g w) {sh sf : Nat → Prop} {df : Bool} {g : Goroutine} {w : World}
    (h : TStep P Post S sh sf df g w) : TStep P Post S' sh sf df g w := by
  cases h with
  | own h => exact .own fun d => goes_mono (h d) fun _ _ _ x => ⟨x.1, hS _ _ _ _ _ x.2⟩
  | mark m hm h => exact .mark m hm fun d => let ⟨g', a, c⟩ := h d; ⟨g', a, hS _ _ _ _ _ c⟩
  | shun nw hn h => exact .shun nw hn (hS _ _ _ _ _ h)
  | fork hd X O hP hS' hW hSt c hn hw hc hK hA h => exact .fork hd X O hP hS' hW hSt c hn hw hc hK (fun g w a k => hS _ _ _ _ _ (hA g w a k)) h
  | last h => exact .last h

theorem Top.intro {P : Program} {Post : Value → World → Prop} {sh sf : Nat → Prop} {df : Bool} {g : Goroutine} {w : World} (hr : g.status = .running) (h : TStep P Post (Top P Post) sh sf df g w) : Top P Post sh sf df g w :=
  fun S hS => hS _ _ _ _ _ hr (h.mono fun _ _ _ _ _ x => x S hS)

section
variable {P : Program} {Post : Value → World → Prop} {sh sf : Nat → Prop} {df : Bool} {gs : Array Goroutine} {w : World} {t : Trace} {q : Nat → Nat} {g : Goroutine}

/-- Goroutine 0's own operations. -/
theorem TI.app (S : TI P sh sf df gs w t q) {gs' : Array Goroutine} {w' : World} {df' : Bool} {u : Trace} (hsz : w.heap.size ≤ w'.heap.size) (hgs : gs'.size = gs.size) (hoth : ∀ i, i ≠ 0 → gs'[i]? = gs[i]?) (h0 : 0 < gs.size) (hu : ∀ op ∈ u, op.g = 0)
    (hs : ∀ op ∈ u, ∀ b, op.act.touch? = some b → ShunB sh b.loc → b.kind ≠ .plain) (hl : ∀ op ∈ u, op.act.low w'.heap.size) (hd : Deaf (t ++ u) 0 = if df' then 1 else 0) : TI P sh sf df' gs' w' (t ++ u) q :=
  ⟨⟨fun i x hi hx => by rw [hoth i (by omega)] at hx; rw [Deaf_other t (g' := 0) (by omega) u hu]; exact S.lv.old i x hi hx, fun j hj => by rw [Deaf_other t (g' := 0) (by omega) u hu]; exact S.lv.above j (by omega)⟩,
    (S.tr.mono hsz).app0 (ShunB.mono S.sub) hu (fun op hop b hb => ⟨hs op hop b hb, fun h => h.elim, fun _ h => h.elim⟩) hl, hd, S.sub⟩

theorem TI.go0 (S : TI P sh sf df gs w t q) {a a' : Goroutine} {w' : World} {es : Array Event} {df' : Bool} (sl : Option (Nat × Nat)) (ha : gs[0]? = some a) (hstep : stepG P true a w = .go a' w' es) (hsz : w.heap.size ≤ w'.heap.size)
    (hs : ∀ op ∈ MemOp.ofEvents 0 a.frame.fn a.frame.place es, ∀ b, op.act.touch? = some b → ShunB sh b.loc → b.kind ≠ .plain) (hl : ∀ op ∈ MemOp.ofEvents 0 a.frame.fn a.frame.place es, op.act.low w'.heap.size) (hd : deafBehind (Deaf t 0) es = if df' then 1 else 0) :
    ∃ gs', runT P (crowd gs w sl) 0 = (.next (crowd gs' w' sl), MemOp.ofEvents 0 a.frame.fn a.frame.place es) ∧ gs'[0]? = some a' ∧ TI P sh sf df' gs' w' (t ++ MemOp.ofEvents 0 a.frame.fn a.frame.place es) q := by
  have hlt : 0 < gs.size := (Array.getElem?_eq_some_iff.1 ha).1
  refine ⟨_, runT_crowd_go ha (show stepG P (0 == 0) a w = _ from hstep), by simp [hlt], S.app hsz (by simp) (fun i hi => ?_) hlt (fun op hop => (mem_ofEvents' hop).1) hs hl (by rw [Deaf_own]; exact hd)⟩
  rw [Array.getElem?_setIfInBounds_ne (fun e => hi e.symm), Array.getElem?_map]
  cases hg : gs[i]? with
  | none => rfl
  | some x =>
    simp only [Option.map_some, Option.some.injEq]
    exact woken_quitsD (S.lv.old i x (by omega) hg)

theorem RT.go {a' : Goroutine} {w' : World} {gs' : Array Goroutine} {t' : Trace} {sl : Option (Nat × Nat)} (h : RT P Post sh sf df a' w') (S : TI P sh sf df gs' w' t' q) (ha : gs'[0]? = some a') : Ends P Post (crowd gs' w' sl) t' := by
  have e : w'.at w'.drawn = w' := rfl
  have := h.2 gs' t' q sl a' w'.drawn (by rw [e]; exact S) ha (Sim.refl _) h.1
  rwa [e] at this

theorem nodeT_own (hg : g.status = .running) (h : ∀ d, (stepG P true g (w.at d)).goes fun g' w' es => (w.heap.size ≤ w'.heap.size ∧ ∀ e ∈ es, EvL (ShunB sh) w'.heap.size e) ∧ RT P Post sh sf df g' w') : RT P Post sh sf df g w := by
  refine outNode hg fun gs t q sl a d S ha hs hr => .inl ?_
  obtain ⟨g', w', es, e1, ⟨hsz, hes⟩, hRR⟩ := goes_elim (h d)
  obtain ⟨gs', r1, r2, r3⟩ := S.go0 (df' := df) sl ha ((hs.stepG _).trans e1) hsz (fun op hop b hb => by
    obtain ⟨e, he, rfl⟩ := Go.Conc.mem_ofEvents hop
    exact (hes e he).1 b hb) (fun op hop => by obtain ⟨e, he, rfl⟩ := Go.Conc.mem_ofEvents hop; exact (hes e he).2.2.2)
    (by rw [deafBehind_still (fun e he => ⟨(hes e he).2.1, (hes e he).2.2.1⟩)]; exact S.d0)
  exact ⟨_, _, r1, hRR.go r3 r2⟩

theorem nodeT_mark (hg : g.status = .running) (m : Mark) (hm : (df = false ∧ m = .disable) ∨ (df = true ∧ m = .enable)) (h : ∀ d, ∃ g', stepG P true g (w.at d) = .go g' (w.at d) #[Go.ConcR.mk m] ∧ RT P Post sh sf (!df) g' (w.at d)) : RT P Post sh sf df g w := by
  refine outNode hg fun gs t q sl a d S ha hs hr => .inl ?_
  obtain ⟨g', e1, hRR⟩ := h d
  have hT : ∀ op ∈ MemOp.ofEvents 0 a.frame.fn a.frame.place #[Go.ConcR.mk m], op.act.touch? = none ∧ op.act.low w.heap.size := fun op hop => by
    obtain ⟨e, he, rfl⟩ := Go.Conc.mem_ofEvents hop
    simp only [List.mem_toArray, List.mem_singleton] at he
    subst he
    rcases hm with ⟨_, rfl⟩ | ⟨_, rfl⟩ <;> exact ⟨rfl, trivial⟩
  obtain ⟨gs', r1, r2, r3⟩ := S.go0 (df' := !df) sl ha ((hs.stepG _).trans e1) (Nat.le_refl _) (fun op hop b hb => by rw [(hT op hop).1] at hb; cases hb) (fun op hop => (hT op hop).2) (by
    rw [S.d0]
    rcases hm with ⟨e, rfl⟩ | ⟨e, rfl⟩ <;> simp [e, Go.ConcR.mk, deafBehind])
  exact ⟨_, _, r1, hRR.go r3 r2⟩

theorem TrI.grow {New' : Loc → Prop} {Shun New Shun' : Loc → Prop} {B : Nat} (h : TrI Shun New (fun _ => False) B (fun _ => False) (fun _ => False) (fun _ _ => False) t) (hS : ∀ l, Shun l → Shun' l) (hN : ∀ l, New' l → New l ∨ ¬ l.low B) :
    TrI Shun' New' (fun _ => False) B (fun _ => False) (fun _ => False) (fun _ _ => False) t := by
  refine ⟨h.clean, fun i a ha hm => (h.known i a ha hm).imp id fun x => x.imp (fun y => ⟨hS _ y.1, y.2⟩) id, fun i a ha hw hs => hs.elim, fun i a ha hN' => ?_, h.over, h.priv, h.seen⟩
  rcases hN _ hN' with hN1 | hlow
  · exact h.soft i a ha hN1
  · exfalso
    obtain ⟨x, hx, hxa⟩ := touch_of ha
    have hl := h.seen x (mem_of_getElem? hx)
    apply hlow
    obtain ⟨g, fn, pos, act⟩ := x
    cases act with
    | access e => simp [MemAct.touch?] at hxa; subst hxa; exact hl
    | mark m => cases m <;> simp [MemAct.touch?] at hxa <;> subst hxa <;> exact hl
    | _ => simp [MemAct.touch?] at hxa

theorem nodeT_shun (nw : Nat → Prop) (hn : ∀ β, nw β → w.heap.size ≤ β) (h : RT P Post (fun β => sh β ∨ nw β) (fun β => sf β ∨ nw β) df g w) : RT P Post sh sf df g w := by
  refine ⟨h.1, fun gs t q sl a d S ha hs hr => h.2 gs t q sl a d ⟨S.lv, S.tr.grow (ShunB.mono fun β => .inl) ?_, S.d0, fun β hb => hb.imp (S.sub β) id⟩ ha hs hr⟩
  rintro l (⟨a, rfl, ha | ha⟩ | ⟨c, rfl⟩)
  · exact .inl (.inl ⟨a, rfl, ha⟩)
  · exact .inr fun hl => by
      have h1 := hn _ ha
      have h2 : a.block < w.heap.size := hl
      omega
  · exact .inl (.inr ⟨c, rfl⟩)

theorem TrI.begin {Shun New Still New' : Loc → Prop} {B : Nat} (h : TrI Shun New (fun _ => False) B (fun _ => False) (fun _ => False) (fun _ _ => False) t) (hN : ∀ l, New' l → New l) (hS : ∀ l, Still l → l.isMemory = true ∧ ¬ Shun l) :
    TrI Shun New' Still B (fun _ => False) (fun _ => False) (fun _ _ => False) t := by
  refine ⟨h.clean, fun i a ha hm => ?_, fun i a ha hw hs => ⟨?_, fun _ h => h.elim⟩, fun i a ha hn => h.soft i a ha (hN _ hn), h.over, h.priv, h.seen⟩
  · rcases h.known i a ha hm with hk | hs | ⟨_, g, _, hu, _⟩
    · exact .inl hk
    · exact .inr (.inl hs)
    · exact hu.elim
  · rcases h.known i a ha (hS _ hs).1 with hk | hs' | ⟨_, g, _, hu, _⟩
    · exact hk
    · exact absurd hs'.1 (hS _ hs).2
    · exact hu.elim

/-- ████ THE FIRST SENDER IS BORN. ████ -/
theorem nodeT_fork (hg : g.status = .running) (hd : df = false) (X : Cfg) (O : X.Ok) (hP : X.P = P) (hS : X.Shun = ShunB sh) (hW : sf X.Wg) (hSt : ∀ β, X.StB β → ¬ sh β) (c : Nat) (hn : X.N0 ≤ w.heap.size ∧ X.N0 ≤ c ∧ c ≠ X.Wg ∧ X.Wg < w.heap.size)
    (hw : WgAt X.ty X.Wg w KK 0) (hc : w.heap[c]? = some (.chan 64 #[] false 0 0 false)) (hK : X.K w) (hA : ∀ g w, X.Anch g w → X.K w → RT P Post sh (fun β => β = X.Wg) false g w)
    (h : ∀ d, ∃ g' child es, stepG P true g (w.at d) = .spawn g' child (w.at d) es ∧ (∀ e ∈ es, EvM X (fun _ => False) w.heap.size e) ∧ (∃ m, Snd X false c m (.snd 0) none child) ∧ Main X (p0 c) g' (w.at d)) : RT P Post sh sf df g w := by
  subst hP hd
  refine outNode hg fun gs t q sl a d S ha hs hr => .inl ?_
  obtain ⟨g', child, es, e1, hes, ⟨m, hm⟩, hM⟩ := h d
  have hrun := runT_crowd_spawn (sl := sl) ha (show stepG X.P (0 == 0) a (w.at d) = _ from (hs.stepG _).trans e1)
  refine ⟨_, _, hrun, ?_⟩
  obtain ⟨h1, h2', h3, h4⟩ := evM_ops (X := X) (p := p0 c) (id := fun _ => 0) (fn := a.frame.fn) (pos := a.frame.place) (B := w.heap.size) (fun e he => ⟨fun x hx => let ⟨y1, y2, y3⟩ := (hes e he).1 x hx; ⟨y1, y2, fun a' e' ⟨_, h⟩ => h⟩, (hes e he).2⟩)
  have hlt : 0 < gs.size := (Array.getElem?_eq_some_iff.1 ha).1
  have etr : t ++ (((MemOp.ofEvents 0 a.frame.fn a.frame.place es).push { g := 0, fn := a.frame.fn, pos := a.frame.place, act := .go gs.size }).push { g := gs.size, fn := child.frame.fn, pos := a.frame.place, act := .start }) =
      (t ++ MemOp.ofEvents 0 a.frame.fn a.frame.place es) ++ #[{ g := 0, fn := a.frame.fn, pos := a.frame.place, act := .go gs.size }, { g := gs.size, fn := child.frame.fn, pos := a.frame.place, act := .start }] := by
    apply Array.ext'; simp
  rw [etr]
  have hU : ∀ op ∈ (#[{ g := 0, fn := a.frame.fn, pos := a.frame.place, act := .go gs.size }, { g := gs.size, fn := child.frame.fn, pos := a.frame.place, act := .start }] : Trace), op.act.touch? = none ∧ ∀ g d, deafStep g d op = d := by
    intro op hop
    simp only [List.mem_toArray, List.mem_cons, List.not_mem_nil, or_false] at hop
    rcases hop with rfl | rfl <;> exact ⟨rfl, fun _ _ => rfl⟩
  have hD0 : ∀ g, Deaf (t ++ MemOp.ofEvents 0 a.frame.fn a.frame.place es) g = Deaf t g := fun g => by
    by_cases e : g = 0
    · subst e; rw [Deaf_own, h4]
    · exact Deaf_other t (fun e' => e e'.symm) _ h1
  have hD : ∀ g, Deaf ((t ++ MemOp.ofEvents 0 a.frame.fn a.frame.place es) ++ #[{ g := 0, fn := a.frame.fn, pos := a.frame.place, act := .go gs.size }, { g := gs.size, fn := child.frame.fn, pos := a.frame.place, act := .start }]) g = Deaf t g := fun g => by
    rw [Deaf_quiet (fun op hop d => (hU op hop).2 g d)]; exact hD0 g
  have hget : ∀ i, i ≠ 0 → i < gs.size → ((gs.setIfInBounds 0 g').push child)[i]? = gs[i]? := fun i hi hl => by
    rw [Array.getElem?_push_lt (by simpa using hl)]
    rw [← Array.getElem?_eq_getElem, Array.getElem?_setIfInBounds_ne (fun e => hi e.symm)]
  have hlast : ((gs.setIfInBounds 0 g').push child)[gs.size]? = some child := by
    rw [Array.getElem?_push]; simp
  have hsz : ((gs.setIfInBounds 0 g').push child).size = gs.size + 1 := by simp
  have hg0 : ((gs.setIfInBounds 0 g').push child)[0]? = some g' := by
    rw [Array.getElem?_push_lt (by simpa using hlt)]; simp
  have hbf : ∀ b, (p0 c).born b → b = false := fun b hb => by
    rcases hb with e | e
    · exact e
    · cases e
  have hPvL : PvL (p0 c) (fun _ => gs.size) = fun _ _ => False := by
    funext g l
    exact propext ⟨fun ⟨_, _, _, _, _, h⟩ => h, fun h => h.elim⟩
  have SI0 : SI X ((p0 c).to (p0 c).pv) ((gs.setIfInBounds 0 g').push child) (w.at d) ((t ++ MemOp.ofEvents 0 a.frame.fn a.frame.place es) ++ #[{ g := 0, fn := a.frame.fn, pos := a.frame.place, act := .go gs.size }, { g := gs.size, fn := child.frame.fn, pos := a.frame.place, act := .start }])
      (fun i => if i = gs.size then 3 * m + 1 else 3 * q i) (fun _ => gs.size) (fun b => if b then none else some (.snd 0)) := by
    refine ⟨hn.1, hn.2.2.2, fun b _ => (Array.getElem?_eq_some_iff.1 hc).1, fun b _ => ⟨hn.2.1, hn.2.2.1⟩, fun e => (by cases e), fun b β h => h.elim, fun β h => h.elim, fun b _ => hlt, fun e => (by cases e), fun _ => ⟨rfl, rfl, rfl⟩, fun i g hi hn' hg => ?_, fun j hj => ?_, fun b hb => ?_, fun b hb => ?_, fun b hb => ?_, fun b hb he => (by cases he), fun b hb => ?_, ?_,
      fun e => (by cases e), fun v e => ?_, O.kf _ _ hK (Nat.le_refl _) (fun _ _ => rfl), ?_, fun b hb hcl => ?_, ?_, fun b g hb hg hst => ?_⟩
    · have hne : i ≠ gs.size := hn' false (.inl rfl)
      have hl : i < gs.size := by
        have := (Array.getElem?_eq_some_iff.1 hg).1
        rw [hsz] at this
        omega
      rw [hget i (by omega) hl] at hg
      refine ⟨q i, by simp [hne], ?_⟩
      rw [hD]; exact S.lv.old i g hi hg
    · rw [hsz] at hj; rw [hD]; exact S.lv.above j (by omega)
    · have := hbf b hb; subst this
      refine ⟨child, hlast, ?_⟩
      rw [hD, S.lv.above _ (Nat.le_refl _)]
      simp only [if_true]
      exact .run (M := none) rfl hm (fun _ _ e => by cases e) (fun _ _ e => by cases e)
    · have := hbf b hb; subst this; exact Nat.le_refl 0
    · have := hbf b hb; subst this; exact ⟨Nat.zero_le _, Nat.zero_le _⟩
    · have := hbf b hb; subst this
      show w.heap[c]? = some (Obj.chan 64 (bufOf (X.it false) 0 0) false 0 0 false)
      rw [bufOf_nil _ (Nat.le_refl _)]; exact hc
    · refine .calm (by show (0 : Nat) ≠ 1; decide) (fun b => by cases b <;> rfl) ?_
      have e : cntOf ((p0 c).to (p0 c).pv) (fun b => if b then none else some (.snd 0)) = 1 := rfl
      rw [e]
      have hw' : WgAt X.ty X.Wg (w.at d) KK 0 := hw
      simpa using hw'
    · have e' : (0 : Nat) = 10 + v := e; omega
    · have hSub : ∀ l, X.New l → ShunB sf l := by
        rintro l (⟨a', rfl, ha'⟩ | ⟨c', rfl⟩)
        · exact .inl ⟨a', rfl, by rw [ha']; exact hW⟩
        · exact .inr ⟨c', rfl⟩
      have T0 : TrI (ShunB sh) X.New X.Still w.heap.size (fun _ => False) (fun _ => False) (fun _ _ => False) t := S.tr.begin hSub (by
        rintro l ⟨a', rfl, hs'⟩
        exact ⟨rfl, by
          rintro (⟨a'', e, hsh⟩ | ⟨c', e⟩)
          · cases e; exact hSt _ hs' hsh
          · cases e⟩)
      rw [← hS] at T0
      have T1 := (T0.app0 (u := MemOp.ofEvents 0 a.frame.fn a.frame.place es) O.shun h1 (fun op hop b hb => ⟨(h2' op hop b hb).1, (h2' op hop b hb).2.1, fun _ h => h⟩) h3).spawn (c := gs.size) (by rw [hD0, S.d0]; rfl) (by rw [hD0]; exact S.lv.above _ (Nat.le_refl _)) a.frame.fn a.frame.place child.frame.fn a.frame.place
      have e1 : (fun g => ∃ b, ((p0 c).to (p0 c).pv).born b ∧ g = gs.size) = (fun g => False ∨ g = gs.size) := by
        funext g
        exact propext ⟨fun ⟨_, _, h⟩ => .inr h, fun h => h.elim (fun h => h.elim) fun h => ⟨false, .inl rfl, h⟩⟩
      have e2 : (fun g => ∃ b, ((p0 c).to (p0 c).pv).born b ∧ g = gs.size ∧ ((p0 c).to (p0 c).pv).e b = false) = (fun g => False ∨ g = gs.size) := by
        funext g
        exact propext ⟨fun ⟨_, _, h, _⟩ => .inr h, fun h => h.elim (fun h => h.elim) fun h => ⟨false, .inl rfl, h, rfl⟩⟩
      show TrI _ _ _ w.heap.size _ _ (PvL (p0 c) fun _ => gs.size) _
      rw [e1, e2, hPvL]
      exact T1
    · have := hbf b hb; subst this; cases hcl
    · rw [hD]; exact S.d0
    · have := hbf b hb; subst this
      rw [hlast] at hg
      obtain rfl := Option.some.inj hg
      rw [hm.running] at hst; cases hst
  obtain ⟨N, m', t', hrN, gs', w', sl', q', a', g2, rfl, ha', hs', hr', hAn, hL, hPa, hK', hsoft⟩ := onward (main_reaches O hM) SI0 hg0 (sl := sl)
  have hRT := hA g2 w' hAn hK'
  refine Ends.run hrN ?_
  have e : w'.at w'.drawn = w' := rfl
  have := hRT.2 gs' t' q' sl' a' w'.drawn (by
    rw [e]
    refine ⟨hL, ⟨hPa.clean, fun i b hb hm => (hPa.known i b hb hm).imp (fun x => x) fun x => .inl (by rw [hS] at x; exact x), fun i b hb _ hs => hs.elim, fun i b hb hnw => ?_, fun i g hg hne hcn => .inl (hPa.over i g hg hne hcn), fun _ _ _ _ h => h.elim, hPa.seen⟩, hPa.hears, fun β hβ => by subst hβ; exact S.sub _ hW⟩
    refine hsoft i b hb ?_
    rcases hnw with ⟨a'', e1, e2⟩ | ⟨c', e1⟩
    · exact .inl ⟨a'', e1, e2⟩
    · exact .inr ⟨c', e1⟩) ha' hs' hr'
  rwa [e] at this

/-- ████ WHATEVER THE TAPE, THE RUN ENDS WELL. ████ -/
theorem top_ends (h : Top P Post sh sf df g w) : RT P Post sh sf df g w := by
  refine h (RT P Post) fun sh sf df g w hr hs => ?_
  cases hs with
  | own h => exact nodeT_own hr h
  | mark m hm h => exact nodeT_mark hr m hm h
  | shun nw hn h => exact nodeT_shun nw hn h
  | fork hd X O hP hS hW hSt c hn hw hc hK hA h => exact nodeT_fork hr hd X O hP hS hW hSt c hn hw hc hK hA h
  | last h => exact outNode hr fun gs t q sl a d S ha hs hr => .inr (by
      obtain ⟨v, es, h1, h2, h3⟩ := h d
      exact ⟨v, es, (hs.stepG _).trans h1, h2, h3⟩)
end
end Go.Proofs.Ytafnbmokegomaaa
