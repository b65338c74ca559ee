/-
  A SENDER's STEP AS THE MACHINE TAKES IT.
-/
import Derived.Test.YtafnbmokegomaaaInv
set_option linter.unusedSimpArgs false
namespace Go.Proofs.Ytafnbmokegomaaa
open Go.Conc
open Go.ConcR (KK wgBlock WgAt stA smA rd wr mk deafBehind_cons deafBehind_one)
open Go.ConcN (sumTo upd sumTo_upd upd_ne upd_same)

inductive M0 (X : Cfg) (p : Ph) (st : Bool → Option Stg) : Goroutine → Prop
  | run {a} (h : a.status = .running) : M0 X p st a
  | park {g₂ op} (hop : ∀ c, op c = true → p.e c = false ∧ p.born c) (hem : ∀ c, op c = true → p.r c = sentOf (X.n c) (st c) ∧ clOf (st c) = false) : M0 X p st (parked g₂ (X.cases p op) .select)
  | wait {a} (hs : a.status = .blocked) (ho : a.offers = none) : M0 X p st a

section
variable {X : Cfg} {p : Ph} {gs gs' : Array Goroutine} {w w' : World} {t T : Trace} {q : Nat → Nat} {id : Bool → Nat} {st : Bool → Option Stg}

theorem notb (b : Bool) : (!b) ≠ b := by cases b <;> simp
theorem eq_not {a b : Bool} (h : a ≠ b) : a = !b := by cases a <;> cases b <;> simp_all

theorem WgI.keep {pw c c' : Nat} {b : Bool} {s' : Option Stg} (h : WgI X w pw c st) (hl : lastOf (st b) = false) (hl' : lastOf s' = false) (hc : c' = c) (hw : w'.heap[X.Wg]? = w.heap[X.Wg]?) : WgI X w' pw c' (updB st b s') := by
  subst hc
  have hall : (∀ a, lastOf (st a) = false) → ∀ a, lastOf (updB st b s' a) = false := by
    intro H a
    by_cases hab : a = b
    · subst hab; rw [updB_same]; exact hl'
    · rw [updB_ne _ _ hab]; exact H a
  have hother : ∀ a s, st a = some s → lastOf (some s) = true → a ≠ b := by
    rintro a s h1 h2 rfl
    rw [h1, h2] at hl; cases hl
  have hnot : ∀ a, a ≠ b → lastOf (st (!a)) = false → lastOf (updB st b s' (!a)) = false := by
    intro a ha _
    have : (!a) = b := by cases a <;> cases b <;> simp_all
    rw [this, updB_same]; exact hl'
  have tr : ∀ {x y}, WgAt X.ty X.Wg w x y → WgAt X.ty X.Wg w' x y := fun e => hw.trans e
  cases h with
  | calm h1 h2 h3 => exact .calm h1 (hall h2) (tr h3)
  | wait h1 h2 h3 h4 => exact .wait h1 h2 (hall h3) (tr h4)
  | one h1 h2 a ha ho h3 =>
    have hab : a ≠ b := by rcases ha with e | e <;> exact hother a _ e rfl
    exact .one h1 h2 a (by rw [updB_ne _ _ hab]; exact ha) (hnot a hab ho) (tr h3)
  | zero h1 h2 a ha ho h3 =>
    have hab : a ≠ b := hother a _ ha rfl
    exact .zero h1 h2 a (by rw [updB_ne _ _ hab]; exact ha) (hnot a hab ho) (tr h3)
  | up h1 h2 h3 h4 => exact .up h1 h2 (hall h3) (tr h4)

theorem cnt_upd {b : Bool} (hb : p.born b) (s' : Option Stg) : cntOf p (updB st b s') + aOf (st b) = cntOf p st + aOf s' := by
  unfold cntOf
  cases b
  · rw [updB_same, updB_ne _ _ (by simp : true ≠ false)]; omega
  · have h2 : p.two = true := by rcases hb with e | e; cases e; exact e
    rw [updB_same, updB_ne _ _ (by simp : false ≠ true), h2]; simp only [if_true]; omega

theorem cnt_le : cntOf p st ≤ 2 := by
  have h : ∀ s, aOf s ≤ 1 := fun s => by unfold aOf; split <;> omega
  unfold cntOf
  have h1 := h (st false)
  have h2 := h (st true)
  split
  · omega
  · split <;> omega

theorem again_sel {g₂ : Goroutine} {op : Bool → Bool} (h : ∀ c, op c = true → ∃ cap buf a r tm, w'.heap[p.c c]? = some (.chan cap buf false a r tm)) : (parked g₂ (X.cases p op) .select).again w' = parked g₂ (X.cases p op) .select := by
  have h0 := h false
  have h1 := h true
  cases e0 : op false <;> cases e1 : op true <;> simp only [e0, e1, true_implies] at h0 h1
  · simp [Goroutine.again, parked, Cfg.cases, Cfg.cs, nilcase, e0, e1]
  · obtain ⟨_, _, _, _, _, hh⟩ := h1; simp [Goroutine.again, parked, Cfg.cases, Cfg.cs, nilcase, rcase, e0, e1, hh]
  · obtain ⟨_, _, _, _, _, hh⟩ := h0; simp [Goroutine.again, parked, Cfg.cases, Cfg.cs, nilcase, rcase, e0, e1, hh]
  · obtain ⟨_, _, _, _, _, hh⟩ := h0; obtain ⟨_, _, _, _, _, hh'⟩ := h1; simp [Goroutine.again, parked, Cfg.cases, Cfg.cs, nilcase, rcase, e0, e1, hh, hh']
theorem again_sel_shut {g₂ : Goroutine} {op : Bool → Bool} {b : Bool} (hb : op b = true) {cap : Nat} {buf : Array Value} {a r : Nat} {tm : Bool} (hh : w'.heap[p.c b]? = some (.chan cap buf true a r tm)) :
    (parked g₂ (X.cases p op) .select).again w' = { parked g₂ (X.cases p op) .select with status := .running } := by
  cases b
  · simp [Goroutine.again, parked, Cfg.cases, Cfg.cs, rcase, hb, hh]
  · simp [Goroutine.again, parked, Cfg.cases, Cfg.cs, rcase, hb, hh]

/-- What another's step makes of goroutine 0. -/
theorem M0.woken (S : SI X p gs w t q id st) {a : Goroutine} (h : M0 X p st a) {b : Bool} {x x' : Goroutine} {s' : Option Stg}
    (hco : ∀ c, p.born c → c ≠ b → w'.heap[p.c c]? = w.heap[p.c c]?)
    (hcb : (sentOf (X.n b) s' = sentOf (X.n b) (st b) ∧ clOf s' = clOf (st b) ∧ w'.heap[p.c b]? = w.heap[p.c b]?) ∨
      (mayWake X.P x = true ∧ x'.status = .running ∧ ∃ cap buf c r tm, w'.heap[p.c b]? = some (.chan cap buf true c r tm))) :
    ∃ a', woken X.P x x' w' a = a' ∧ M0 X p (updB st b s') a' ∧ (a' = a ∨ (a.status = .blocked ∧ a' = { a with status := .running })) := by
  cases h with
  | run h => exact ⟨a, woken_run h, .run h, .inl rfl⟩
  | wait hs ho =>
    unfold Go.Conc.woken
    split
    · refine ⟨{ a with status := .running }, ?_, .run rfl, .inr ⟨hs, rfl⟩⟩
      unfold Goroutine.again
      rw [hs, ho]
    · exact ⟨a, rfl, .wait hs ho, .inl rfl⟩
  | @park g₂ op hop hem =>
    by_cases hopb : op b = true
    · rcases hcb with ⟨e1, e2, e3⟩ | ⟨hmw, hx', cap, buf, c, r, tm, hh⟩
      · refine ⟨_, ?_, .park hop fun c hc => ?_, .inl rfl⟩
        · unfold Go.Conc.woken
          have hopen : ∀ c, op c = true → ∃ cap buf a r tm, w'.heap[p.c c]? = some (.chan cap buf false a r tm) := by
            intro c hc
            have hch := S.chan c (hop c hc).2
            rw [(hem c hc).2] at hch
            by_cases hcb : c = b
            · subst hcb; exact ⟨_, _, _, _, _, e3.trans hch⟩
            · exact ⟨_, _, _, _, _, (hco c (hop c hc).2 hcb).trans hch⟩
          split
          · exact again_sel hopen
          · rfl
        · by_cases hcb : c = b
          · subst hcb; rw [updB_same, e1, e2]; exact hem c hc
          · rw [updB_ne _ _ hcb]; exact hem c hc
      · refine ⟨{ parked g₂ (X.cases p op) .select with status := .running }, ?_, .run rfl, .inr ⟨rfl, rfl⟩⟩
        unfold Go.Conc.woken
        rw [if_pos (by simp [hmw, hx'])]
        exact again_sel_shut hopb hh
    · refine ⟨_, ?_, .park hop fun c hc => ?_, .inl rfl⟩
      · unfold Go.Conc.woken
        have hopen : ∀ c, op c = true → ∃ cap buf a r tm, w'.heap[p.c c]? = some (.chan cap buf false a r tm) := by
          intro c hc
          have hch := S.chan c (hop c hc).2
          rw [(hem c hc).2] at hch
          exact ⟨_, _, _, _, _, (hco c (hop c hc).2 (fun e => hopb (e ▸ hc))).trans hch⟩
        split
        · exact again_sel hopen
        · rfl
      · have hcb : c ≠ b := by rintro rfl; exact hopb hc
        rw [updB_ne _ _ hcb]; exact hem c hc

/-- No entry of these counts: all made deaf. -/
theorem deaf_uncounted {g : Nat} {fn : FuncId} {pos : String} {es : Array Event}
    (h : ∀ k e, es[k]? = some e → (MemAct.ofEvent e).touch? = none ∨ ((∀ b, (MemAct.ofEvent e).touch? = some b → b.kind = .atomic) ∧ 0 < deafBehind (Deaf t g) (es.extract 0 k))) :
    (∀ i, t.size ≤ i → (t ++ MemOp.ofEvents g fn pos es).counts i → False) ∧
    (∀ i a, t.size ≤ i → (t ++ MemOp.ofEvents g fn pos es).g? i = some g → touchAt (t ++ MemOp.ofEvents g fn pos es) i = some a → a.kind = .atomic ∧ ¬ (t ++ MemOp.ofEvents g fn pos es).heard i) := by
  have key : ∀ i a, t.size ≤ i → touchAt (t ++ MemOp.ofEvents g fn pos es) i = some a → a.kind = .atomic ∧ ¬ (t ++ MemOp.ofEvents g fn pos es).heard i := by
    intro i a hi ha
    obtain ⟨op, ho, hoa⟩ := touch_of ha
    have hj : (MemOp.ofEvents g fn pos es)[i - t.size]? = some op := by
      rw [Array.getElem?_append] at ho
      simpa [Nat.not_lt.2 hi] using ho
    have hj' := hj
    rw [ofEvents_eq, Array.getElem?_map] at hj
    obtain ⟨e, he, rfl⟩ := Option.map_eq_some_iff.1 hj
    have hjs : i - t.size ≤ es.size := by
      rcases Nat.lt_or_ge (i - t.size) es.size with h' | h'
      · omega
      · rw [Array.getElem?_eq_none h'] at he; cases he
    rcases h _ e he with h0 | ⟨h1, h2⟩
    · simp only at hoa; rw [h0] at hoa; cases hoa
    · refine ⟨h1 a hoa, fun ⟨g', hg', hd'⟩ => ?_⟩
      have hgg : g' = g := by
        have := g?_of ho
        rw [hg'] at this
        exact Option.some.inj this
      subst hgg
      have := Go.Conc.deaf_inside t g' fn pos es (i - t.size) hjs
      rw [show t.size + (i - t.size) = i by omega, hd'] at this
      omega
  refine ⟨fun i hi hc => ?_, fun i a hi _ ha => key i a hi ha⟩
  obtain ⟨a, ha, _, hk⟩ := hc
  obtain ⟨k1, k2⟩ := key i a hi ha
  rcases hk with hk | hk
  · exact hk k1
  · exact k2 hk

theorem mem_ofEvents' {g : Nat} {fn : FuncId} {pos : String} {es : Array Event} {op : MemOp} (h : op ∈ MemOp.ofEvents g fn pos es) : op.g = g ∧ ∃ e ∈ es, op.act = .ofEvent e := by
  rw [ofEvents_eq] at h
  obtain ⟨e, he, rfl⟩ := Array.mem_map.1 h
  exact ⟨rfl, e, he, rfl⟩

theorem F_C {b : Bool} (hb : p.born b) : X.F p (p.c b) := .inr (.inl ⟨b, hb, rfl⟩)
theorem F_Wg : X.F p X.Wg := .inl rfl
theorem F_pv {b : Bool} {β : Nat} (hb : p.pv b β) : X.F p β := .inr (.inr ⟨b, hb⟩)
/-- A step that turns foreign blocks alone. -/
theorem rm_same {w w' : World} (ht : w'.tape = w.tape) (hs : w'.os = w.os) (hp : w'.output = w.output) (hz : w'.heap.size = w.heap.size) (hb : ∀ β, ¬ X.F p β → w'.heap[β]? = w.heap[β]?) (hl : Live X w → Live X w') : RM X p w p.pv w' :=
  ⟨ht, hs, hp, by rw [hz]; exact Nat.le_refl _, fun β _ h => hb β h, hl, fun _ _ h => h, fun _ _ h => .inl h⟩
theorem rm_setChan {b : Bool} (hb : p.born b) (hW : p.c b ≠ X.Wg) (w : World) (cap : Nat) (buf : Array Value) (cl : Bool) (s r : Nat) (tm : Bool) : RM X p w p.pv (w.setChan (p.c b) cap buf cl s r tm) :=
  rm_same rfl rfl rfl (by simp [World.setChan]) (fun c hc => by
    have : p.c b ≠ c := fun e => hc (e ▸ F_C hb)
    simp [World.setChan, this]) fun ⟨st, sm, h⟩ => ⟨st, sm, by
      show (w.setChan (p.c b) cap buf cl s r tm).heap[X.Wg]? = _
      rw [← h]; simp [World.setChan, hW]⟩
theorem heap_setCell_ne {w : World} {a : Addr} {v : Value} {c : Nat} (h : c ≠ a.block) : (w.setCell a v).heap[c]? = w.heap[c]? := by
  simp [World.setCell, Array.getElem?_modify, Ne.symm h]
theorem rm_setSt (w : World) (v : Int) : RM X p w p.pv (w.setCell (stA X.Wg) (.int .u64 v)) :=
  rm_same rfl rfl rfl (by simp [World.setCell]) (fun c hc => heap_setCell_ne (fun e => hc (e ▸ F_Wg))) fun ⟨st, sm, h⟩ => ⟨v, sm, h.setSt v⟩
theorem rm_setSm (w : World) (v : Int) : RM X p w p.pv (w.setCell (smA X.Wg) (.int .u32 v)) :=
  rm_same rfl rfl rfl (by simp [World.setCell]) (fun c hc => heap_setCell_ne (fun e => hc (e ▸ F_Wg))) fun ⟨st, sm, h⟩ => ⟨st, v, h.setSm v⟩

theorem M0.to {pv : Bool → Nat → Prop} {a : Goroutine} (h : M0 X p st a) : M0 X (p.to pv) st a := by
  cases h with
  | run h => exact .run h
  | park h1 h2 => exact .park (p := p.to pv) h1 h2
  | wait h1 h2 => exact .wait h1 h2
theorem got_to (p : Ph) (b : Bool) (pvb : Nat → Prop) : p.got b (p.r b) pvb = p.to (updB p.pv b pvb) := by simp [Ph.got, Ph.to, updB_self']
end
end Go.Proofs.Ytafnbmokegomaaa
