/-
  A SENDER's STEP AS THE MACHINE TAKES IT: its own steps.
-/
import Derived.Test.YtafnbmokegomaaaSend
set_option linter.unusedSimpArgs false
namespace Go.Proofs.Ytafnbmokegomaaa
open Go.Conc
open Go.ConcR (KK wgBlock WgAt stA smA rd wr mk deafBehind_cons deafBehind_one)
open Go.ConcN (sumTo upd sumTo_upd upd_ne upd_same)

/-- The machine has gone on; goroutine 0 stands, or has been let try again. -/
def GoOut (X : Cfg) (p : Ph) (gs : Array Goroutine) (w : World) (t : Trace) (q : Nat → Nat) (id : Bool → Nat) (sl : Option (Nat × Nat)) (a : Goroutine) (i : Nat) : Prop :=
  ∃ gs' w' ops q' st' a' pv', runT X.P (crowd gs w sl) i = (.next (crowd gs' w' sl), ops) ∧ gs'.size = gs.size ∧ RM X p w pv' w' ∧ sumTo gs.size q' + 2 ≤ sumTo gs.size q ∧ gs'[0]? = some a' ∧
    SI X (p.to pv') gs' w' (t ++ ops) q' id st' ∧ M0 X (p.to pv') st' a' ∧ (a' = a ∨ (a.status = .blocked ∧ a' = { a with status := .running })) ∧ (a.status = .blocked → a.offers = none → WgAt X.ty X.Wg w' 0 1 → a'.status = .running ∨ WgAt X.ty X.Wg w 0 1)

section
variable {X : Cfg} {p : Ph} {gs gs' : Array Goroutine} {w w' : World} {t T : Trace} {q : Nat → Nat} {id : Bool → Nat} {st : Bool → Option Stg} {sl : Option (Nat × Nat)}

theorem sum_le {n i q' : Nat} {q : Nat → Nat} (hi : i < n) (h : q' + 2 ≤ q i) : sumTo n (upd q i q') + 2 ≤ sumTo n q := by
  have := sumTo_upd q q' (fun x => x) hi
  change sumTo n (upd q i q') + q i = sumTo n q + q' at this
  omega

/-- The still blocks stand, whatever foreign blocks are turned. -/
theorem SI.stb (O : X.Ok) (S : SI X p gs w t q id st) {pv : Bool → Nat → Prop} (h : RM X p w pv w') : ∀ β, X.StB β → w'.heap[β]? = w.heap[β]? := by
  intro β hβ
  have h1 := O.slt β hβ
  have h2 := S.n0
  refine h.block β (by omega) ?_
  rintro (e | ⟨x, hx, e⟩ | ⟨x, hp⟩)
  · have := O.wge; omega
  · have := (S.cge x hx).1; omega
  · have := (S.pvl x β hp).2.1; omega

theorem SI.senderGo (O : X.Ok) (S : SI X p gs w t q id st) {b : Bool} (hb : p.born b) {x x' a : Goroutine} {es : Array Event} (hx : gs[id b]? = some x) (ha : gs[0]? = some a) (hM : M0 X p st a)
    (hstep : stepG X.P false x w = .go x' w' es) {s' : Option Stg} {q' : Nat} {pvb : Nat → Prop} (hat : SAt X (p.got b (p.r b) pvb) b w' s' (deafBehind (Deaf t (id b)) es) q' x') (hq : q' + 2 ≤ q (id b)) (hRM : RM X p w (updB p.pv b pvb) w')
    (hr : p.r b ≤ sentOf (X.n b) s') (hs : sentOf (X.n b) s' ≤ X.n b ∧ sentOf (X.n b) s' - p.r b ≤ 64) (he : p.e b = true → clOf s' = true)
    (hc : w'.heap[p.c b]? = some (.chan 64 (bufOf (X.it b) (p.r b) (sentOf (X.n b) s')) (clOf s') (sentOf (X.n b) s') (p.r b) false))
    (hco : ∀ a, p.born a → a ≠ b → w'.heap[p.c a]? = w.heap[p.c a]?) (hpo : ∀ a, a ≠ b → ∀ n, p.pv a n → w'.heap[n]? = w.heap[n]?)
    (hcb : (sentOf (X.n b) s' = sentOf (X.n b) (st b) ∧ clOf s' = clOf (st b) ∧ w'.heap[p.c b]? = w.heap[p.c b]?) ∨
      (mayWake X.P x = true ∧ x'.status = .running ∧ ∃ cap buf c r tm, w'.heap[p.c b]? = some (.chan cap buf true c r tm)))
    (hwg : WgI X w' p.w (cntOf p (updB st b s')) (updB st b s')) (hcnt : cntOf p (updB st b s') ≤ cntOf p st)
    (htr : TrI X.Shun X.New X.Still w'.heap.size (fun g => ∃ b, p.born b ∧ g = id b) (fun g => ∃ b, p.born b ∧ g = id b ∧ p.e b = false) (PvL (p.got b (p.r b) pvb) id) (t ++ MemOp.ofEvents (id b) x.frame.fn x.frame.place es))
    (hcl : clOf s' = true → ClosedAt (id b) (p.c b) (t ++ MemOp.ofEvents (id b) x.frame.fn x.frame.place es)) (hpk : x'.status ≠ .blocked)
    (hup : WgAt X.ty X.Wg w' 0 1 → WgAt X.ty X.Wg w 0 1 ∨ (mayWake X.P x = true ∧ x'.status ≠ .blocked ∧ x'.status ≠ .waiting)) : GoOut X p gs w t q id sl a (id b) := by
  have hip := S.idp b hb
  have hlt : id b < gs.size := (Array.getElem?_eq_some_iff.1 hx).1
  have hi0 : (id b == 0) = false := by simp; omega
  obtain ⟨a', hw0, hM', hcase⟩ := M0.woken (x := x) (x' := x') S hM hco hcb
  refine ⟨(gs.map (woken X.P x x' w')).setIfInBounds (id b) x', w', MemOp.ofEvents (id b) x.frame.fn x.frame.place es, upd q (id b) q', updB st b s', a', updB p.pv b pvb, runT_crowd_go hx (by rw [hi0]; exact hstep), by simp, hRM, sum_le hlt hq, ?_, ?_, hM'.to, hcase, fun hbl hof h01 => ?_⟩
  · rw [Array.getElem?_setIfInBounds_ne (by omega), Array.getElem?_map, ha, Option.map_some, hw0]
  · rw [← got_to]
    refine S.stepR O (x' := x') hb (T := MemOp.ofEvents (id b) x.frame.fn x.frame.place es) (fun g hg => Deaf_other t (fun e => hg e.symm) _ (fun op hop => (mem_ofEvents' hop).1)) (fun op hop => .inl (mem_ofEvents' hop).1) (by simp) (fun i hi h0 => S.fixed (fun c hcb hne => hco c hcb (fun e => hne (e ▸ rfl))) hi h0) (by simp [hlt]) (by rw [Deaf_own]; exact hat)
      hRM.size (S.stb O hRM) (fun β h => by have := hRM.sub b β h; rw [updB_same] at this; exact this) (fun β h => hRM.new b β (by rw [updB_same]; exact h)) hr hs (fun h => ⟨he h, (S.ecl b hb h).2⟩) hc hco hpo hwg hcnt htr hcl (fun e => absurd e hpk)
  · rcases hup h01 with h | ⟨h1, h2, h3⟩
    · exact .inr h
    · left
      rw [← hw0]
      unfold Go.Conc.woken
      rw [if_pos (by simp [h1, h2, h3])]
      unfold Goroutine.again
      rw [hbl, hof]

/-- The same where no block is made. -/
theorem SI.senderGoS (O : X.Ok) (S : SI X p gs w t q id st) {b : Bool} (hb : p.born b) {x x' a : Goroutine} {es : Array Event} (hx : gs[id b]? = some x) (ha : gs[0]? = some a) (hM : M0 X p st a)
    (hstep : stepG X.P false x w = .go x' w' es) {s' : Option Stg} {q' : Nat} (hat : SAt X p b w' s' (deafBehind (Deaf t (id b)) es) q' x') (hq : q' + 2 ≤ q (id b)) (hRM : RM X p w p.pv w') (hsz : w'.heap.size = w.heap.size)
    (hr : p.r b ≤ sentOf (X.n b) s') (hs : sentOf (X.n b) s' ≤ X.n b ∧ sentOf (X.n b) s' - p.r b ≤ 64) (he : p.e b = true → clOf s' = true)
    (hc : w'.heap[p.c b]? = some (.chan 64 (bufOf (X.it b) (p.r b) (sentOf (X.n b) s')) (clOf s') (sentOf (X.n b) s') (p.r b) false))
    (hco : ∀ a, p.born a → a ≠ b → w'.heap[p.c a]? = w.heap[p.c a]?) (hpo : ∀ a, a ≠ b → ∀ n, p.pv a n → w'.heap[n]? = w.heap[n]?)
    (hcb : (sentOf (X.n b) s' = sentOf (X.n b) (st b) ∧ clOf s' = clOf (st b) ∧ w'.heap[p.c b]? = w.heap[p.c b]?) ∨
      (mayWake X.P x = true ∧ x'.status = .running ∧ ∃ cap buf c r tm, w'.heap[p.c b]? = some (.chan cap buf true c r tm)))
    (hwg : WgI X w' p.w (cntOf p (updB st b s')) (updB st b s')) (hcnt : cntOf p (updB st b s') ≤ cntOf p st)
    (htr : TrI X.Shun X.New X.Still w.heap.size (fun g => ∃ b, p.born b ∧ g = id b) (fun g => ∃ b, p.born b ∧ g = id b ∧ p.e b = false) (PvL p id) (t ++ MemOp.ofEvents (id b) x.frame.fn x.frame.place es))
    (hcl : clOf s' = true → ClosedAt (id b) (p.c b) (t ++ MemOp.ofEvents (id b) x.frame.fn x.frame.place es)) (hpk : x'.status ≠ .blocked)
    (hup : WgAt X.ty X.Wg w' 0 1 → WgAt X.ty X.Wg w 0 1 ∨ (mayWake X.P x = true ∧ x'.status ≠ .blocked ∧ x'.status ≠ .waiting)) : GoOut X p gs w t q id sl a (id b) :=
  S.senderGo O hb hx ha hM hstep (pvb := p.pv b) (by rw [Ph.got_self]; exact hat) hq (by rw [updB_self']; exact hRM) hr hs he hc hco hpo hcb hwg hcnt (by rw [Ph.got_self, hsz]; exact htr) hcl hpk hup

theorem wg_no {ty : TypeId} {Wg : Nat} {w : World} {x : Int} (h : WgAt ty Wg w x 0) (h' : WgAt ty Wg w 0 1) : False := by
  unfold WgAt at h h'
  rw [h] at h'
  simp [wgBlock] at h'
theorem quits_free {P : Program} {m d : Nat} {g : Goroutine} (h : QuitsD P m d g) : g.status ≠ .blocked := by
  rcases h.status with e | e <;> rw [e] <;> simp

/-- Atomic touches of the group's cells, made deaf. -/
theorem SI.atoms (O : X.Ok) (S : SI X p gs w t q id st) {b : Bool} (hb : p.born b) {fn : FuncId} {pos : String} {es : Array Event}
    (hE : ∀ e ∈ es, (∀ y, (MemAct.ofEvent e).touch? = some y → y.kind = .atomic ∧ ∃ a, y.loc = .cell a ∧ a.block = X.Wg) ∧ (MemAct.ofEvent e).low w.heap.size)
    (hD : ∀ k e, es[k]? = some e → (MemAct.ofEvent e).touch? = none ∨ 0 < deafBehind (Deaf t (id b)) (es.extract 0 k)) :
    TrI X.Shun X.New X.Still w.heap.size (fun g => ∃ b, p.born b ∧ g = id b) (fun g => ∃ b, p.born b ∧ g = id b ∧ p.e b = false) (PvL p id) (t ++ MemOp.ofEvents (id b) fn pos es) ∧
      (clOf (st b) = true → ClosedAt (id b) (p.c b) (t ++ MemOp.ofEvents (id b) fn pos es)) := by
  have H := deaf_uncounted (t := t) (g := id b) (fn := fn) (pos := pos) (es := es) fun k e he => (hD k e he).imp (fun x => x) fun x => ⟨fun y hy => ((hE e (Array.mem_of_getElem? he)).1 y hy).1, x⟩
  refine ⟨S.tr.appAtom O.shun O.still (S.pvs O).1 (g := id b) (fun op hop => (mem_ofEvents' hop).1) (fun op hop y hy => ?_) (fun i hi hc => (H.1 i hi hc).elim) (fun op hop => ?_), fun hc => (S.cla b hb hc).app fun i a hi hg ha => H.2 i a hi hg ha⟩
  · obtain ⟨_, e, he, hea⟩ := mem_ofEvents' hop
    rw [hea] at hy
    obtain ⟨h1, a, h2, h3⟩ := (hE e he).1 y hy
    exact ⟨h1, .inl ⟨a, h2, h3⟩⟩
  · obtain ⟨_, e, he, hea⟩ := mem_ofEvents' hop
    rw [hea]; exact (hE e he).2

theorem rdwr_ok {w : World} (hsz : X.Wg < w.heap.size) {e : Event} (h : e = rd (stA X.Wg) ∨ e = wr (stA X.Wg) ∨ e = rd (smA X.Wg) ∨ e = wr (smA X.Wg)) :
    (∀ y, (MemAct.ofEvent e).touch? = some y → y.kind = .atomic ∧ ∃ a, y.loc = .cell a ∧ a.block = X.Wg) ∧ (MemAct.ofEvent e).low w.heap.size := by
  rcases h with rfl | rfl | rfl | rfl <;> exact ⟨fun y hy => by simp [rd, wr, MemAct.ofEvent, MemAct.touch?] at hy; subst hy; exact ⟨rfl, _, rfl, rfl⟩, hsz⟩

theorem SAt.run_of {b : Bool} {s : Stg} {d m : Nat} {g : Goroutine} (hd : d = s.df) (h : Snd X b (p.c b) m s none g) {x : Nat} (hx : x = 3 * m + 1) : SAt X p b w (some s) d x g := by subst hx; exact .run hd h (fun _ _ e => by cases e) (fun _ _ e => by cases e)

/-- What a sender lists of still places and of its own block. -/
theorem evS_ops (S : SI X p gs w t q id st) {b : Bool} (hb : p.born b) {fn : FuncId} {pos : String} {es : Array Event} {B : Nat} (hB : w.heap.size ≤ B)
    (h : ∀ e ∈ es, EvC X.Still X.N0 e ∨ ∃ a wr, e = ⟨.cell a, wr, false⟩ ∧ p.pv b a.block) :
    (∀ op ∈ MemOp.ofEvents (id b) fn pos es, ∀ y, op.act.touch? = some y → y.kind = .plain ∧ ((y.write = false ∧ X.Still y.loc) ∨ PvL p id (id b) y.loc)) ∧ (∀ op ∈ MemOp.ofEvents (id b) fn pos es, op.act.low B) ∧ ∀ d, deafBehind d es = d := by
  refine ⟨fun op hop y hy => ?_, fun op hop => ?_, fun d => deafBehind_still (fun e he => by rcases h e he with ⟨a, rfl, _, _⟩ | ⟨a, wr, rfl, _⟩ <;> exact ⟨by simp, by simp⟩) d⟩
  · obtain ⟨_, e, he, hea⟩ := mem_ofEvents' hop
    rw [hea] at hy
    rcases h e he with ⟨a, rfl, hS, _⟩ | ⟨a, wr, rfl, hp⟩
    · simp only [ofEvent_cell0, MemAct.touch?, Option.some.injEq] at hy
      subst hy
      exact ⟨rfl, .inl ⟨rfl, hS⟩⟩
    · rw [ofEvent_cell0] at hy
      simp only [MemAct.touch?, Option.some.injEq] at hy
      subst hy
      exact ⟨rfl, .inr ⟨b, a, hb, rfl, rfl, hp⟩⟩
  · obtain ⟨_, e, he, hea⟩ := mem_ofEvents' hop
    rcases h e he with ⟨a, rfl, _, hlt⟩ | ⟨a, wr, rfl, hp⟩
    · rw [hea, ofEvent_cell0]; have := S.n0; show a.block < B; omega
    · rw [hea, ofEvent_cell0]; have := (S.pvl b _ hp).2.2.1; show a.block < B; omega

/-- Every step of a running sender's but a send. -/
theorem SI.senderOwn (O : X.Ok) (S : SI X p gs w t q id st) {b : Bool} (hb : p.born b) {x a : Goroutine} {m : Nat} {s : Stg} {M : Pm} (hx : gs[id b]? = some x) (ha : gs[0]? = some a) (hM : M0 X p st a)
    (hst : st b = some s) (hd : Deaf t (id b) = s.df) (hqb : q (id b) = 3 * (m + 1) + 1) (hS : SStep X b (p.c b) (Snd X b (p.c b) m) (QuitsD X.P m 1) s M x) (hMm : HasM M w) (hMp : ∀ n o, M = some (n, o) → p.pv b n) :
    GoOut X p gs w t q id sl a (id b) ∨ ∃ k g₂ z, s = .snd k ∧ k < X.n b ∧ stepG X.P false x w = .comm g₂ #[scase (p.c b) (X.it b k) z] true .send w #[] ∧ Snd X b (p.c b) m (.snd (k + 1)) none (Go.Conc.served g₂ undef) := by
  have hch := S.chan b hb
  have hle := S.rle b hb
  have hsl := S.sle b hb
  have hec := S.ecl b hb
  have hK := S.keep
  have hL := S.live
  have hcW := (S.cge b hb).2
  rw [hst] at hch hle hsl hec
  have hun : clOf (some s) = false → p.e b = false := fun h => by
    cases he : p.e b with
    | false => rfl
    | true => have := (hec he).1; rw [h] at this; cases this
  cases hS with
  | send hk g₂ z h hn => exact .inr ⟨_, g₂, z, rfl, hk, h w hK hL hMm, hn⟩
  | @own k M g h =>
    left
    obtain ⟨g', w', es, M', e1, hE, e3⟩ := h w hK hL hMm
    have hkeep : ∀ {w' : World}, w'.heap[X.Wg]? = w.heap[X.Wg]? → WgI X w' p.w (cntOf p (updB st b (some (.snd k)))) (updB st b (some (.snd k))) := fun e =>
      S.wg.keep (by rw [hst]; rfl) rfl (by have := cnt_upd hb (st := st) (some (.snd k)); rw [hst] at this; omega) e
    have hcn : cntOf p (updB st b (some (.snd k))) ≤ cntOf p st := by have := cnt_upd hb (st := st) (some (.snd k)); rw [hst] at this; omega
    cases hE with
    | still he =>
      have he' : ∀ e ∈ es, EvC X.Still X.N0 e ∨ ∃ a wr, e = ⟨.cell a, wr, false⟩ ∧ p.pv b a.block := fun e h => (he e h).imp (fun x => x) fun ⟨n, o, a, h1, h2, h3⟩ => ⟨a, false, h2, h3 ▸ hMp n o h1⟩
      obtain ⟨h1, h2, h3⟩ := evS_ops (fn := x.frame.fn) (pos := x.frame.place) S hb (Nat.le_refl _) he'
      obtain ⟨v1, v2, v3⟩ := S.pvs O
      exact S.senderGoS O hb hx ha hM e1 (s' := some (.snd k)) (q' := 3 * m + 1) (by rw [h3]; exact .run hd e3 hMm hMp) (by omega) (RM.refl _ _ _) rfl hle hsl (fun he => (hec he).1) hch (fun _ _ _ => rfl) (fun _ _ _ _ => rfl) (.inl ⟨by rw [hst], by rw [hst], rfl⟩)
        (hkeep rfl) hcn (S.tr.appRead O.still (v1 _) v2 ⟨b, hb, rfl⟩ ⟨b, hb, rfl, hun rfl⟩ (fun op hop => (mem_ofEvents' hop).1) h1 (v3 _) h2) (fun hc => by cases hc) (by rw [e3.running]; simp) (fun e => .inl e)
    | new o =>
      have hsz : (w.alloc o).heap.size = w.heap.size + 1 := by show (w.heap.push o).size = _; simp
      have hold : ∀ β, β < w.heap.size → (w.alloc o).heap[β]? = w.heap[β]? := fun β h => by show (w.heap.push o)[β]? = _; rw [Array.getElem?_push_lt h]; exact (Array.getElem?_eq_getElem h).symm
      refine S.senderGo O hb hx ha hM e1 (s' := some (.snd k)) (q' := 3 * m + 1) (pvb := fun β => p.pv b β ∨ β = w.heap.size) (.run (by rw [deafBehind_nil]; exact hd) e3 (fun n o' e => by cases e; show (w.heap.push o)[w.heap.size]? = some o; simp) (fun n o' e => by cases e; show updB p.pv b _ b _; rw [updB_same]; exact .inr rfl)) (by omega)
        ⟨rfl, rfl, rfl, by omega, fun β hβ _ => hold β hβ, fun ⟨s1, s2, h⟩ => ⟨s1, s2, (hold _ S.wsz).trans h⟩, fun c β hpc => ?_, fun c β hpc => ?_⟩ hle hsl (fun he => (hec he).1) ((hold _ (S.csz b hb)).trans hch) (fun c hc _ => hold _ (S.csz c hc)) (fun c _ n hn => hold _ (S.pvl c n hn).2.2.1)
        (.inl ⟨by rw [hst], by rw [hst], hold _ (S.csz b hb)⟩) (hkeep (hold _ S.wsz)) hcn ?_ (fun hc => by cases hc) (by rw [e3.running]; simp) (fun e => .inl ((hold _ S.wsz).symm.trans e))
      · by_cases hcb : c = b
        · subst hcb; rw [updB_same]; exact .inl hpc
        · rw [updB_ne _ _ hcb]; exact hpc
      · by_cases hcb : c = b
        · subst hcb
          rw [updB_same] at hpc
          rcases hpc with h | h
          · exact .inl h
          · exact .inr ⟨by omega, by omega⟩
        · rw [updB_ne _ _ hcb] at hpc; exact .inl hpc
      · rw [ofEvents_none]
        simp only [Array.append_empty]
        refine (S.tr.own (Pv' := PvL (p.got b (p.r b) fun β => p.pv b β ∨ β = w.heap.size) id) ?_ ?_).mono (by omega)
        · rintro g l ⟨c, a', hc, rfl, rfl, hp⟩
          refine ⟨c, a', hc, rfl, rfl, ?_⟩
          show updB p.pv b _ c _
          by_cases hcb : c = b
          · subst hcb; rw [updB_same]; exact .inl hp
          · rw [updB_ne _ _ hcb]; exact hp
        · rintro g l ⟨c, a', hc, rfl, rfl, hp⟩
          have hp' : updB p.pv b (fun β => p.pv b β ∨ β = w.heap.size) c a'.block := hp
          by_cases hcb : c = b
          · subst hcb
            rw [updB_same] at hp'
            rcases hp' with h | h
            · exact .inl ⟨c, a', hc, rfl, rfl, h⟩
            · right; show ¬ a'.block < w.heap.size; omega
          · rw [updB_ne _ _ hcb] at hp'; exact .inl ⟨c, a', hc, rfl, rfl, hp'⟩
    | @put n o w' es o' hMe he ht hs' hp' hz hbk hn =>
      have hpn := hMp n o hMe
      obtain ⟨_, l1, l2, l3, l4⟩ := S.pvl b n hpn
      have he' : ∀ e ∈ es, EvC X.Still X.N0 e ∨ ∃ a wr, e = ⟨.cell a, wr, false⟩ ∧ p.pv b a.block := fun e h => .inr (by obtain ⟨a, wr, h1, h2⟩ := he e h; exact ⟨a, wr, h1, h2 ▸ hpn⟩)
      obtain ⟨h1, h2, h3⟩ := evS_ops (fn := x.frame.fn) (pos := x.frame.place) S hb (Nat.le_refl _) he'
      obtain ⟨v1, v2, v3⟩ := S.pvs O
      have hW : w'.heap[X.Wg]? = w.heap[X.Wg]? := hbk _ (fun e => l3 e.symm)
      exact S.senderGoS O hb hx ha hM e1 (s' := some (.snd k)) (q' := 3 * m + 1) (by rw [h3]; exact .run hd e3 (fun n' o'' e => by cases e; exact hn) (fun n' o'' e => by cases e; exact hpn)) (by omega)
        (rm_same ht hs' hp' hz (fun β hβ => hbk β (fun e => hβ (e ▸ F_pv hpn))) fun ⟨s1, s2, h⟩ => ⟨s1, s2, hW.trans h⟩) hz hle hsl (fun he => (hec he).1) ((hbk _ (fun e => l4 b hb e.symm)).trans hch) (fun c hc _ => hbk _ (fun e => l4 c hc e.symm))
        (fun c hcb β hβ => hbk β (fun e => S.pvne hcb hβ (e ▸ hpn))) (.inl ⟨by rw [hst], by rw [hst], hbk _ (fun e => l4 b hb e.symm)⟩) (hkeep hW) hcn
        (S.tr.appRead O.still (v1 _) v2 ⟨b, hb, rfl⟩ ⟨b, hb, rfl, hun rfl⟩ (fun op hop => (mem_ofEvents' hop).1) h1 (v3 _) h2) (fun hc => by cases hc) (by rw [e3.running]; simp) (fun e => .inl (hW.symm.trans e))
  | @close M g hw h =>
    left
    obtain ⟨g', hr', e1, e3⟩ := h w _ _ _ _ hK hL hch
    have hes : MemOp.ofEvents (id b) x.frame.fn x.frame.place (closeEvents (p.c b)) = #[{ g := id b, fn := x.frame.fn, pos := x.frame.place, act := .access ⟨.obj (p.c b), false, true⟩ }, { g := id b, fn := x.frame.fn, pos := x.frame.place, act := .close (p.c b) }] := by
      rw [ofEvents_eq]; simp [closeEvents, MemAct.ofEvent]
    have hn : sentOf (X.n b) (some .sil) = X.n b := rfl
    have hn' : sentOf (X.n b) (some (.snd (X.n b))) = X.n b := rfl
    have hlow := S.csz b hb
    refine S.senderGoS O hb hx ha hM e1 (s' := some .sil) (SAt.run_of (by simp [closeEvents, deafBehind_cons, deafBehind, hd]; rfl) e3 rfl) (by omega) (rm_setChan hb hcW _ _ _ _ _ _ _) (by simp [World.setChan]) hle hsl (fun he => rfl) ?_ (fun c hc hne => ?_) (fun c _ n hn => heap_setChan_ne _ _ _ _ _ _ _ (fun e => (S.pvl c n hn).2.2.2.2 b hb e.symm))
      (.inr ⟨hw, hr', _, _, _, _, _, heap_setChan_self _ hch _ _ _ _ _ _⟩) ?_ ?_ ?_ ?_ (by rw [e3.running]; simp) (fun e => .inl (by first | exact e | exact (heap_setChan_ne _ _ _ _ _ _ _ hcW).symm.trans e))
    · exact heap_setChan_self _ hch _ _ _ _ _ _
    · exact heap_setChan_ne _ _ _ _ _ _ _ (S.cneq hb hc (fun e => hne e.symm))
    · exact S.wg.keep (by rw [hst]; rfl) rfl (by have := cnt_upd hb (st := st) (some .sil); rw [hst] at this; simp [aOf] at this; omega) (heap_setChan_ne _ _ _ _ _ _ _ hcW)
    · have := cnt_upd hb (st := st) (some .sil); rw [hst] at this; simp [aOf] at this; omega
    · refine S.tr.appAtom O.shun O.still (S.pvs O).1 (fun op hop => (mem_ofEvents' hop).1) (fun op hop y hy => ?_) (fun i _ _ => ⟨b, hb, rfl, hun rfl⟩) (fun op hop => ?_)
      · rw [hes] at hop
        simp only [List.mem_toArray, List.mem_cons, List.not_mem_nil, or_false] at hop
        rcases hop with rfl | rfl
        · simp [MemAct.touch?] at hy; subst hy; exact ⟨rfl, .inr ⟨_, rfl⟩⟩
        · cases hy
      · rw [hes] at hop
        simp only [List.mem_toArray, List.mem_cons, List.not_mem_nil, or_false] at hop
        rcases hop with rfl | rfl <;> exact hlow
    · intro _
      rw [hes]
      exact ClosedAt.new hd
  | @silent s g hmu h =>
    left
    obtain ⟨g', e1, e3⟩ := h w hK hL
    refine S.senderGoS O hb hx ha hM e1 (s' := some s) (SAt.run_of (by rw [deafBehind_nil]; exact hd) e3 rfl) (by omega) (RM.refl _ _ _) rfl hle hsl (fun he => (hec he).1) hch (fun _ _ _ => rfl) (fun _ _ _ _ => rfl) (.inl ⟨by rw [hst], by rw [hst], rfl⟩) ?_ ?_ ?_ ?_ (by rw [e3.running]; simp) (fun e => .inl (by first | exact e | exact (heap_setChan_ne _ _ _ _ _ _ _ hcW).symm.trans e))
    · have e : updB st b (some s) = st := by funext c; by_cases hcb : c = b; subst hcb; rw [updB_same, hst]; rw [updB_ne _ _ hcb]
      rw [e]; exact S.wg
    · have := cnt_upd hb (st := st) (some s); rw [hst] at this; omega
    · rw [ofEvents_none]; simpa using S.tr
    · intro hc; rw [ofEvents_none]; simpa using S.cla b hb (by rw [hst]; exact hc)
  | @merge g h =>
    left
    obtain ⟨g', e1, e3⟩ := h w hK hL
    have hes : MemOp.ofEvents (id b) x.frame.fn x.frame.place #[Go.ConcR.mk (.releaseMerge (stA X.Wg))] = #[{ g := id b, fn := x.frame.fn, pos := x.frame.place, act := .mark (.releaseMerge (stA X.Wg)) }] := by
      rw [ofEvents_eq]; simp [Go.ConcR.mk, MemAct.ofEvent]
    have hmt : ∀ op ∈ MemOp.ofEvents (id b) x.frame.fn x.frame.place #[Go.ConcR.mk (.releaseMerge (stA X.Wg))], op.act.touch? = none := by
      intro op hop; rw [hes] at hop; simp at hop; subst hop; rfl
    refine S.senderGoS O hb hx ha hM e1 (s' := some .sil) (SAt.run_of (by rw [hd]; rfl) e3 rfl) (by omega) (RM.refl _ _ _) rfl hle hsl (fun he => (hec he).1) hch (fun _ _ _ => rfl) (fun _ _ _ _ => rfl) (.inl ⟨by rw [hst], by rw [hst], rfl⟩) ?_ ?_ ?_ ?_ (by rw [e3.running]; simp) (fun e => .inl (by first | exact e | exact (heap_setChan_ne _ _ _ _ _ _ _ hcW).symm.trans e))
    · exact S.wg.keep (by rw [hst]; rfl) rfl (by have := cnt_upd hb (st := st) (some .sil); rw [hst] at this; omega) rfl
    · have := cnt_upd hb (st := st) (some .sil); rw [hst] at this; omega
    · exact S.tr.appMute hmt (fun op hop => by rw [hes] at hop; simp at hop; subst hop; exact S.wsz)
    · intro _; exact (S.cla b hb (by rw [hst]; rfl)).appOther fun op hop => .inr (hmt op hop)
  | @dis g h =>
    left
    obtain ⟨g', e1, e3⟩ := h w hK hL
    have hes : MemOp.ofEvents (id b) x.frame.fn x.frame.place #[Go.ConcR.mk .disable] = #[{ g := id b, fn := x.frame.fn, pos := x.frame.place, act := .mark .disable }] := by
      rw [ofEvents_eq]; simp [Go.ConcR.mk, MemAct.ofEvent]
    have hmt : ∀ op ∈ MemOp.ofEvents (id b) x.frame.fn x.frame.place #[Go.ConcR.mk .disable], op.act.touch? = none := by
      intro op hop; rw [hes] at hop; simp at hop; subst hop; rfl
    refine S.senderGoS O hb hx ha hM e1 (s' := some .deaf) (SAt.run_of (by rw [hd]; rfl) e3 rfl) (by omega) (RM.refl _ _ _) rfl hle hsl (fun he => (hec he).1) hch (fun _ _ _ => rfl) (fun _ _ _ _ => rfl) (.inl ⟨by rw [hst]; rfl, by rw [hst]; rfl, rfl⟩) ?_ ?_ ?_ ?_ (by rw [e3.running]; simp) (fun e => .inl (by first | exact e | exact (heap_setChan_ne _ _ _ _ _ _ _ hcW).symm.trans e))
    · exact S.wg.keep (by rw [hst]; rfl) rfl (by have := cnt_upd hb (st := st) (some .deaf); rw [hst] at this; simp [aOf] at this; omega) rfl
    · have := cnt_upd hb (st := st) (some .deaf); rw [hst] at this; simp [aOf] at this; omega
    · exact S.tr.appMute hmt (fun op hop => by rw [hes] at hop; simp at hop; subst hop; trivial)
    · intro _; exact (S.cla b hb (by rw [hst]; rfl)).appOther fun op hop => .inr (hmt op hop)
  | @sub g h =>
    left
    have hd1 : Deaf t (id b) = 1 := hd
    have hcu : ∀ s', cntOf p (updB st b s') + 1 = cntOf p st + aOf s' := fun s' => by have := cnt_upd hb (st := st) s'; rw [hst] at this; exact this
    have hc2 := cnt_le (p := p) (st := st)
    obtain ⟨v, hv⟩ : ∃ v, cntOf p st = v + 1 := ⟨cntOf p st - 1, by have := hcu none; simp [aOf] at this; omega⟩
    have hat2 := S.atoms O hb (fn := x.frame.fn) (pos := x.frame.place) (es := #[rd (stA X.Wg), wr (stA X.Wg)])
      (fun e he => rdwr_ok S.wsz (by simp at he; rcases he with rfl | rfl <;> simp))
      (fun k e he => .inr (by
        match k, he with
        | 0, _ => simp [hd1, deafBehind]
        | 1, _ => simp [hd1, deafBehind, rd]
        | k + 2, he => simp at he))
    have hdb : deafBehind (Deaf t (id b)) #[rd (stA X.Wg), wr (stA X.Wg)] = 1 := by rw [hd1]; rfl
    have hne : ∀ c, p.born c → p.c c ≠ (stA X.Wg).block := fun c hc => (S.cge c hc).2
    have hpw : ∀ {v : Value} (c : Bool), c ≠ b → ∀ n, p.pv c n → (w.setCell (stA X.Wg) v).heap[n]? = w.heap[n]? := fun c _ n hn => heap_setCell_ne (fun e => (S.pvl c n hn).2.2.2.1 e)
    have hlast : ∀ s', lastOf s' = false → (∀ c, lastOf (st c) = false) → ∀ c, lastOf (updB st b s' c) = false := fun s' h1 h2 c => by
      by_cases hcb : c = b
      · subst hcb; rw [updB_same]; exact h1
      · rw [updB_ne _ _ hcb]; exact h2 c
    cases S.wg with
    | calm hp hl hwA =>
      rw [hv] at hwA
      obtain ⟨g', e1, _, e3⟩ := h w v 0 hK (by omega) (by omega) (by simpa using hwA)
      have c1 : cntOf p (updB st b none) = v := by have := hcu none; simp [aOf] at this; omega
      refine S.senderGoS O hb hx ha hM e1 (s' := none) (q' := 3 * m) (by rw [hdb]; exact .quit (e3 (by omega))) (by omega) (rm_setSt _ _) (by simp [World.setCell]) hle hsl (fun _ => rfl) ?_ (fun c hc _ => heap_setCell_ne (hne c hc)) hpw
        (.inl ⟨by rw [hst]; rfl, by rw [hst]; rfl, heap_setCell_ne (hne b hb)⟩) (.calm hp (hlast _ rfl hl) ?_) (by omega) hat2.1 (fun _ => hat2.2 (by rw [hst]; rfl)) (quits_free (e3 (by omega))) (fun e => (wg_no (hwA.setSt _) e).elim)
      · rw [heap_setCell_ne (hne b hb)]; exact hch
      · rw [c1]; have := hwA.setSt (v * KK + (0 : Nat)); simpa using this
    | wait hp hc0 hl hwA =>
      rw [hv] at hwA
      obtain ⟨g', e1, e2, e3⟩ := h w v 1 hK (by omega) (by omega) (by simpa using hwA)
      by_cases hv0 : v = 0
      · subst hv0
        have c1 : cntOf p (updB st b (some .ld)) = 0 := by have := hcu (some .ld); simp [aOf] at this; omega
        refine S.senderGoS O hb hx ha hM e1 (s' := some .ld) (q' := 3 * m + 1) (by rw [hdb]; exact SAt.run_of rfl (e2 ⟨rfl, rfl⟩) rfl) (by omega) (rm_setSt _ _) (by simp [World.setCell]) hle hsl (fun _ => rfl) ?_ (fun c hc _ => heap_setCell_ne (hne c hc)) hpw
          (.inl ⟨by rw [hst]; rfl, by rw [hst]; rfl, heap_setCell_ne (hne b hb)⟩) (.one hp c1 b (by rw [updB_same]; exact .inl rfl) (by rw [updB_ne _ _ (notb b)]; exact hl _) ?_) (by omega) hat2.1 (fun _ => hat2.2 (by rw [hst]; rfl)) (by rw [(e2 ⟨rfl, rfl⟩).running]; simp) (fun e => (wg_no (hwA.setSt _) e).elim)
        · rw [heap_setCell_ne (hne b hb)]; exact hch
        · have := hwA.setSt (((0 : Nat) : Int) * KK + (1 : Nat)); simpa using this
      · have c1 : cntOf p (updB st b none) = v := by have := hcu none; simp [aOf] at this; omega
        refine S.senderGoS O hb hx ha hM e1 (s' := none) (q' := 3 * m) (by rw [hdb]; exact .quit (e3 (by omega))) (by omega) (rm_setSt _ _) (by simp [World.setCell]) hle hsl (fun _ => rfl) ?_ (fun c hc _ => heap_setCell_ne (hne c hc)) hpw
          (.inl ⟨by rw [hst]; rfl, by rw [hst]; rfl, heap_setCell_ne (hne b hb)⟩) (.wait hp (by omega) (hlast _ rfl hl) ?_) (by omega) hat2.1 (fun _ => hat2.2 (by rw [hst]; rfl)) (quits_free (e3 (by omega))) (fun e => (wg_no (hwA.setSt _) e).elim)
        · rw [heap_setCell_ne (hne b hb)]; exact hch
        · rw [c1]; have := hwA.setSt (v * KK + (1 : Nat)); simpa using this
    | one _ hc0 => omega
    | zero _ hc0 => omega
    | up _ hc0 => omega
  | @ld g h =>
    left
    have hd1 : Deaf t (id b) = 1 := hd
    have hcu : ∀ s', cntOf p (updB st b s') = cntOf p st + aOf s' := fun s' => by have := cnt_upd hb (st := st) s'; rw [hst] at this; exact this
    have hat2 := S.atoms O hb (fn := x.frame.fn) (pos := x.frame.place) (es := #[rd (stA X.Wg)])
      (fun e he => rdwr_ok S.wsz (by simp at he; subst he; simp))
      (fun k e he => .inr (by
        match k, he with
        | 0, _ => simp [hd1, deafBehind]
        | k + 1, he => simp at he))
    have hlb : lastOf (st b) = true := by rw [hst]; rfl
    have hbad : ∀ c, lastOf (st (!c)) = false → c = b := fun c hc => by
      by_cases e : c = b
      · exact e
      · have : (!c) = b := by cases c <;> cases b <;> simp_all
        rw [this, hlb] at hc; cases hc
    cases S.wg with
    | one hp hc0 c hb0 ho hwA =>
      obtain rfl := hbad c ho
      obtain ⟨g', e1, e3⟩ := h w hK hwA
      refine S.senderGoS O hb hx ha hM e1 (s' := some .st) (q' := 3 * m + 1) (SAt.run_of (by rw [hd1]; rfl) e3 rfl) (by omega) (RM.refl _ _ _) rfl hle hsl (fun _ => rfl) hch (fun _ _ _ => rfl) (fun _ _ _ _ => rfl)
        (.inl ⟨by rw [hst]; rfl, by rw [hst]; rfl, rfl⟩) (.one hp (by rw [hcu]; simp [aOf, hc0]) c (by rw [updB_same]; exact .inr rfl) (by rw [updB_ne _ _ (notb c)]; exact ho) hwA) (by rw [hcu]; simp [aOf]) hat2.1 (fun _ => hat2.2 (by rw [hst]; rfl)) (by rw [e3.running]; simp) (fun e => .inl e)
    | calm _ hl _ => rw [hl] at hlb; cases hlb
    | wait _ _ hl _ => rw [hl] at hlb; cases hlb
    | zero _ _ c hb0 ho _ => obtain rfl := hbad c ho; rw [hst] at hb0; cases hb0
    | up _ _ hl _ => rw [hl] at hlb; cases hlb
  | @st g h =>
    left
    have hd1 : Deaf t (id b) = 1 := hd
    have hcu : ∀ s', cntOf p (updB st b s') = cntOf p st + aOf s' := fun s' => by have := cnt_upd hb (st := st) s'; rw [hst] at this; exact this
    have hat2 := S.atoms O hb (fn := x.frame.fn) (pos := x.frame.place) (es := #[wr (stA X.Wg)])
      (fun e he => rdwr_ok S.wsz (by simp at he; subst he; simp))
      (fun k e he => .inr (by
        match k, he with
        | 0, _ => simp [hd1, deafBehind]
        | k + 1, he => simp at he))
    have hlb : lastOf (st b) = true := by rw [hst]; rfl
    have hbad : ∀ c, lastOf (st (!c)) = false → c = b := fun c hc => by
      by_cases e : c = b
      · exact e
      · have : (!c) = b := by cases c <;> cases b <;> simp_all
        rw [this, hlb] at hc; cases hc
    have hne : ∀ c, p.born c → p.c c ≠ (stA X.Wg).block := fun c hc => (S.cge c hc).2
    have hpw : ∀ {v : Value} (c : Bool), c ≠ b → ∀ n, p.pv c n → (w.setCell (stA X.Wg) v).heap[n]? = w.heap[n]? := fun c _ n hn => heap_setCell_ne (fun e => (S.pvl c n hn).2.2.2.1 e)
    cases S.wg with
    | one hp hc0 c hb0 ho hwA =>
      obtain rfl := hbad c ho
      obtain ⟨g', e1, e3⟩ := h w hK hwA
      refine S.senderGoS O hb hx ha hM e1 (s' := some .sem) (q' := 3 * m + 1) (SAt.run_of (by rw [hd1]; rfl) e3 rfl) (by omega) (rm_setSt _ _) (by simp [World.setCell]) hle hsl (fun _ => rfl) (by rw [heap_setCell_ne (hne c hb)]; exact hch) (fun d hd' _ => heap_setCell_ne (hne d hd')) hpw
        (.inl ⟨by rw [hst]; rfl, by rw [hst]; rfl, heap_setCell_ne (hne c hb)⟩) (.zero hp (by rw [hcu]; simp [aOf, hc0]) c (by rw [updB_same]) (by rw [updB_ne _ _ (notb c)]; exact ho) (hwA.setSt 0)) (by rw [hcu]; simp [aOf]) hat2.1 (fun _ => hat2.2 (by rw [hst]; rfl)) (by rw [e3.running]; simp) (fun e => (wg_no (hwA.setSt _) e).elim)
    | calm _ hl _ => rw [hl] at hlb; cases hlb
    | wait _ _ hl _ => rw [hl] at hlb; cases hlb
    | zero _ _ c hb0 ho _ => obtain rfl := hbad c ho; rw [hst] at hb0; cases hb0
    | up _ _ hl _ => rw [hl] at hlb; cases hlb
  | @sem g hw h =>
    left
    have hd1 : Deaf t (id b) = 1 := hd
    have hcu : ∀ s', cntOf p (updB st b s') = cntOf p st + aOf s' := fun s' => by have := cnt_upd hb (st := st) s'; rw [hst] at this; exact this
    have hat2 := S.atoms O hb (fn := x.frame.fn) (pos := x.frame.place) (es := semEvents (smA X.Wg))
      (fun e he => by
        simp [semEvents] at he
        rcases he with rfl | rfl | rfl | rfl
        · exact ⟨fun y hy => by simp [MemAct.ofEvent, MemAct.touch?] at hy, trivial⟩
        · exact rdwr_ok (e := rd (smA X.Wg)) S.wsz (by simp)
        · exact rdwr_ok (e := wr (smA X.Wg)) S.wsz (by simp)
        · exact ⟨fun y hy => by simp [MemAct.ofEvent, MemAct.touch?] at hy, trivial⟩)
      (fun k e he => by
        match k, he with
        | 0, he => simp [semEvents] at he; subst he; exact .inl rfl
        | 1, _ => right; simp [hd1, deafBehind, semEvents]
        | 2, _ => right; simp [hd1, deafBehind, semEvents]
        | 3, he => simp [semEvents] at he; subst he; exact .inl rfl
        | k + 4, he => simp [semEvents] at he)
    have hlb : lastOf (st b) = true := by rw [hst]; rfl
    have hbad : ∀ c, lastOf (st (!c)) = false → c = b := fun c hc => by
      by_cases e : c = b
      · exact e
      · have : (!c) = b := by cases c <;> cases b <;> simp_all
        rw [this, hlb] at hc; cases hc
    have hne : ∀ c, p.born c → p.c c ≠ (smA X.Wg).block := fun c hc => (S.cge c hc).2
    have hpw : ∀ {v : Value} (d : Bool), d ≠ b → ∀ n, p.pv d n → (w.setCell (smA X.Wg) v).heap[n]? = w.heap[n]? := fun c _ n hn => heap_setCell_ne (fun e => (S.pvl c n hn).2.2.2.1 e)
    have hdb : deafBehind (Deaf t (id b)) (semEvents (smA X.Wg)) = 1 := by rw [hd1]; rfl
    cases S.wg with
    | zero hp hc0 c hb0 ho hwA =>
      obtain rfl := hbad c ho
      obtain ⟨g', f1, f2, e1, e3⟩ := h w hK hwA
      refine S.senderGoS O hb hx ha hM e1 (s' := none) (q' := 3 * m) (by rw [hdb]; exact .quit e3) (by omega) (rm_setSm _ _) (by simp [World.setCell]) hle hsl (fun _ => rfl) (by rw [heap_setCell_ne (hne c hb)]; exact hch) (fun d hd' _ => heap_setCell_ne (hne d hd')) hpw
        (.inl ⟨by rw [hst]; rfl, by rw [hst]; rfl, heap_setCell_ne (hne c hb)⟩) (.up hp (by rw [hcu]; simp [aOf, hc0]) (fun d => ?_) (hwA.setSm 1)) (by rw [hcu]; simp [aOf]) hat2.1 (fun _ => hat2.2 (by rw [hst]; rfl)) f1 (fun _ => .inr ⟨hw, f1, f2⟩)
      by_cases hdc : d = c
      · subst hdc; rw [updB_same]; rfl
      · rw [updB_ne _ _ hdc, eq_not hdc]; exact ho
    | one _ _ c hb0 ho _ => obtain rfl := hbad c ho; rw [hst] at hb0; rcases hb0 with e | e <;> cases e
    | calm _ hl _ => rw [hl] at hlb; cases hlb
    | wait _ _ hl _ => rw [hl] at hlb; cases hlb
    | up _ _ hl _ => rw [hl] at hlb; cases hlb
end
end Go.Proofs.Ytafnbmokegomaaa
