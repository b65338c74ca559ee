/-
  THE MACHINE OF GOROUTINE 0, TWO SENDERS AND WHOEVER ONLY LEAVES: what is held of it between two steps.
-/
import Derived.Test.YtafnbmokegomaaaCfg
set_option linter.unusedSimpArgs false
namespace Go.Proofs.Ytafnbmokegomaaa
open Go.Conc
open Go.ConcR (KK wgBlock WgAt stA smA rd wr mk)
open Go.ConcN (sumTo upd sumTo_upd upd_ne upd_same)

def sentOf (n : Nat) : Option Stg → Nat
  | some (.snd k) => k
  | _ => n
def clOf : Option Stg → Bool
  | some (.snd _) => false
  | _ => true
def aOf : Option Stg → Nat
  | some (.snd _) | some .sil | some .deaf => 1
  | _ => 0
def lastOf : Option Stg → Bool
  | some .ld | some .st | some .sem => true
  | _ => false

def bufOf (it : Nat → Value) (r s : Nat) : Array Value := ((List.range (s - r)).map fun j => it (r + j)).toArray
theorem bufOf_size (it : Nat → Value) (r s : Nat) : (bufOf it r s).size = s - r := by simp [bufOf]
theorem bufOf_push (it : Nat → Value) {r s : Nat} (h : r ≤ s) : (bufOf it r s).push (it s) = bufOf it r (s + 1) := by
  have e : s + 1 - r = (s - r) + 1 := by omega
  have e2 : r + (s - r) = s := by omega
  simp [bufOf, e, List.range_succ, e2]
theorem bufOf_get (it : Nat → Value) {r s : Nat} (h : r < s) : (bufOf it r s).getD 0 undef = it r := by
  obtain ⟨k, hk⟩ : ∃ k, s - r = k + 1 := ⟨s - r - 1, by omega⟩
  simp [bufOf, hk, List.range_succ_eq_map]
theorem bufOf_cut (it : Nat → Value) {r s : Nat} (h : r < s) : (bufOf it r s).extract 1 (bufOf it r s).size = bufOf it (r + 1) s := by
  obtain ⟨k, hk⟩ : ∃ k, s - r = k + 1 := ⟨s - r - 1, by omega⟩
  have hk' : s - (r + 1) = k := by omega
  simp [bufOf, hk, hk', List.range_succ_eq_map]
  rw [List.take_of_length_le (by simp)]
  apply List.map_congr_left
  intro a _
  show it (r + (a + 1)) = it (r + 1 + a)
  congr 1
  omega
theorem bufOf_nil (it : Nat → Value) {r s : Nat} (h : s ≤ r) : bufOf it r s = #[] := by
  have : s - r = 0 := by omega
  simp [bufOf, this]

/-- Where a sender stands: its stage, how deaf it is, its weight. -/
inductive SAt (X : Cfg) (p : Ph) (b : Bool) (w : World) : Option Stg → Nat → Nat → Goroutine → Prop
  | run {s m M g d} (hd : d = s.df) (h : Snd X b (p.c b) m s M g) (hM : HasM M w) (hp : ∀ n o, M = some (n, o) → p.pv b n) : SAt X p b w (some s) d (3 * m + 1) g
  | park {k m g₂ z d} (hd : d = 0) (hk : k < X.n b) (h : Snd X b (p.c b) m (.snd (k + 1)) none (Go.Conc.served g₂ undef)) : SAt X p b w (some (.snd k)) d (3 * m + 2) (parked g₂ #[scase (p.c b) (X.it b k) z] .send)
  | quit {m d g} (h : QuitsD X.P m d g) : SAt X p b w none d (3 * m) g

theorem SAt.move {X : Cfg} {p p' : Ph} {b : Bool} {w w' : World} {s : Option Stg} {d q : Nat} {g : Goroutine} (h : SAt X p b w s d q g) (hc : p'.c b = p.c b) (hpv : ∀ n, p.pv b n → p'.pv b n) (hw : ∀ n, p.pv b n → w'.heap[n]? = w.heap[n]?) : SAt X p' b w' s d q g := by
  cases h with
  | run hd h hM hp => exact .run hd (by rw [hc]; exact h) (fun n o e => (hw n (hp n o e)).trans (hM n o e)) (fun n o e => hpv n (hp n o e))
  | park hd hk h => rw [← hc]; exact .park hd hk (by rw [hc]; exact h)
  | quit h => exact .quit h

inductive WgI (X : Cfg) (w : World) (pw cnt : Nat) (st : Bool → Option Stg) : Prop
  | calm (h : pw ≠ 1) (hl : ∀ b, lastOf (st b) = false) (hw : WgAt X.ty X.Wg w (cnt * KK) 0)
  | wait (h : pw = 1) (hc : 0 < cnt) (hl : ∀ b, lastOf (st b) = false) (hw : WgAt X.ty X.Wg w (cnt * KK + 1) 0)
  | one (h : pw = 1) (hc : cnt = 0) (b : Bool) (hb : st b = some .ld ∨ st b = some .st) (ho : lastOf (st (!b)) = false) (hw : WgAt X.ty X.Wg w 1 0)
  | zero (h : pw = 1) (hc : cnt = 0) (b : Bool) (hb : st b = some .sem) (ho : lastOf (st (!b)) = false) (hw : WgAt X.ty X.Wg w 0 0)
  | up (h : pw = 1) (hc : cnt = 0) (hl : ∀ b, lastOf (st b) = false) (hw : WgAt X.ty X.Wg w 0 1)

def cntOf (p : Ph) (st : Bool → Option Stg) : Nat := aOf (st false) + (if p.two then aOf (st true) else if p.ad then 1 else 0)

/-- The private places of the senders. -/
def PvL (p : Ph) (id : Bool → Nat) (g : Nat) (l : Loc) : Prop := ∃ b a, p.born b ∧ g = id b ∧ l = .cell a ∧ p.pv b a.block

structure SI (X : Cfg) (p : Ph) (gs : Array Goroutine) (w : World) (t : Trace) (q : Nat → Nat) (id : Bool → Nat) (st : Bool → Option Stg) : Prop where
  n0 : X.N0 ≤ w.heap.size
  wsz : X.Wg < w.heap.size
  csz : ∀ b, p.born b → p.c b < w.heap.size
  cge : ∀ b, p.born b → X.N0 ≤ p.c b ∧ p.c b ≠ X.Wg
  cne : p.two = true → p.c false ≠ p.c true
  pvl : ∀ b β, p.pv b β → p.born b ∧ X.N0 ≤ β ∧ β < w.heap.size ∧ β ≠ X.Wg ∧ ∀ a, p.born a → β ≠ p.c a
  pvd : ∀ β, p.pv false β → ¬ p.pv true β
  idp : ∀ b, p.born b → 0 < id b
  idi : p.two = true → id false ≠ id true
  unb : p.two = false → st true = none ∧ p.r true = 0 ∧ p.e true = false
  old : ∀ i g, 0 < i → (∀ b, p.born b → i ≠ id b) → gs[i]? = some g → ∃ m, q i = 3 * m ∧ QuitsD X.P m (Deaf t i) g
  above : ∀ j, gs.size ≤ j → Deaf t j = 0
  snd : ∀ b, p.born b → ∃ g, gs[id b]? = some g ∧ SAt X p b w (st b) (Deaf t (id b)) (q (id b)) g
  rle : ∀ b, p.born b → p.r b ≤ sentOf (X.n b) (st b)
  sle : ∀ b, p.born b → sentOf (X.n b) (st b) ≤ X.n b ∧ sentOf (X.n b) (st b) - p.r b ≤ 64
  ecl : ∀ b, p.born b → p.e b = true → clOf (st b) = true ∧ p.r b = X.n b
  chan : ∀ b, p.born b → w.heap[p.c b]? = some (.chan 64 (bufOf (X.it b) (p.r b) (sentOf (X.n b) (st b))) (clOf (st b)) (sentOf (X.n b) (st b)) (p.r b) false)
  wg : WgI X w p.w (cntOf p st) st
  w2 : p.w = 2 → cntOf p st = 0
  w10 : ∀ v, p.w = 10 + v → cntOf p st ≤ v
  keep : X.K w
  tr : TrI X.Shun X.New X.Still w.heap.size (fun g => ∃ b, p.born b ∧ g = id b) (fun g => ∃ b, p.born b ∧ g = id b ∧ p.e b = false) (PvL p id) t
  cla : ∀ b, p.born b → clOf (st b) = true → ClosedAt (id b) (p.c b) t
  d0 : Deaf t 0 = if p.df then 1 else 0
  pk : ∀ b g, p.born b → gs[id b]? = some g → g.status = .blocked → sentOf (X.n b) (st b) - p.r b = 64

section
variable {X : Cfg} {p : Ph} {gs gs' : Array Goroutine} {w w' : World} {t T : Trace} {q : Nat → Nat} {id : Bool → Nat} {st : Bool → Option Stg}

theorem SI.idne (S : SI X p gs w t q id st) {a b : Bool} (ha : p.born a) (hb : p.born b) (h : a ≠ b) : id a ≠ id b := by
  have htwo : p.two = true := by
    rcases ha with rfl | h1
    · rcases hb with rfl | h2
      · exact absurd rfl h
      · exact h2
    · exact h1
  have := S.idi htwo
  cases a <;> cases b <;> simp_all
  exact fun e => this e.symm
theorem SI.cneq (S : SI X p gs w t q id st) {a b : Bool} (ha : p.born a) (hb : p.born b) (h : a ≠ b) : p.c a ≠ p.c b := by
  have htwo : p.two = true := by
    rcases ha with rfl | h1
    · rcases hb with rfl | h2
      · exact absurd rfl h
      · exact h2
    · exact h1
  have := S.cne htwo
  cases a <;> cases b <;> simp_all
  exact fun e => this e.symm
theorem SI.live (S : SI X p gs w t q id st) : Live X w := by
  cases S.wg with
  | calm h hl hw => exact ⟨_, _, hw⟩
  | wait h hc hl hw => exact ⟨_, _, hw⟩
  | one h hc b hb ho hw => exact ⟨_, _, hw⟩
  | zero h hc b hb ho hw => exact ⟨_, _, hw⟩
  | up h hc hl hw => exact ⟨_, _, hw⟩
theorem SI.pvne (S : SI X p gs w t q id st) {a b : Bool} (h : a ≠ b) {β : Nat} (h1 : p.pv a β) : ¬ p.pv b β := by
  have := S.pvd β
  cases a <;> cases b <;> simp_all

/-- The private places are nobody else's, neither still nor new. -/
theorem SI.pvs (O : X.Ok) (S : SI X p gs w t q id st) : (∀ g l, X.New l → ¬ PvL p id g l) ∧ (∀ g l, X.Still l → ¬ PvL p id g l) ∧ ∀ g g' l, PvL p id g l → PvL p id g' l → g' = g := by
  refine ⟨?_, ?_, ?_⟩
  · rintro g l hN ⟨b, a, hb, rfl, rfl, hp⟩
    rcases hN with ⟨a', e, ha'⟩ | ⟨c, e⟩
    · cases e; exact (S.pvl _ _ hp).2.2.2.1 ha'
    · cases e
  · rintro g l ⟨a', rfl, hs⟩ ⟨b, a, hb, rfl, e, hp⟩
    cases e
    have := O.slt _ hs
    have := (S.pvl _ _ hp).2.1
    omega
  · rintro g g' l ⟨b, a, hb, rfl, rfl, hp⟩ ⟨b', a', hb', rfl, e, hp'⟩
    cases e
    by_cases h : b = b'
    · rw [h]
    · exact absurd hp' (S.pvne h hp)

theorem SI.at (O : X.Ok) (S : SI X p gs w t q id st) (d : Nat) : SI X p gs (w.at d) t q id st :=
  ⟨S.n0, S.wsz, S.csz, S.cge, S.cne, S.pvl, S.pvd, S.idp, S.idi, S.unb, S.old, S.above, fun b hb => let ⟨g, h1, h2⟩ := S.snd b hb; ⟨g, h1, h2.move rfl (fun _ h => h) (fun _ _ => rfl)⟩, S.rle, S.sle, S.ecl, S.chan, by
    cases S.wg with
    | calm h hl hw => exact .calm h hl hw
    | wait h hc hl hw => exact .wait h hc hl hw
    | one h hc b hb ho hw => exact .one h hc b hb ho hw
    | zero h hc b hb ho hw => exact .zero h hc b hb ho hw
    | up h hc hl hw => exact .up h hc hl hw, S.w2, S.w10, O.kf _ _ S.keep (Nat.le_refl _) (fun _ _ => rfl), S.tr, S.cla, S.d0, S.pk⟩

theorem Snd.running {b : Bool} {c m : Nat} {s : Stg} {M : Pm} {g : Goroutine} (h : Snd X b c m s M g) : g.status = .running := by
  cases m with
  | zero => exact h.elim
  | succ m => exact h.1

theorem SAt.status {b : Bool} {s : Option Stg} {d q : Nat} {g : Goroutine} (h : SAt X p b w s d q g) : g.status = .running ∨ g.status = .blocked ∨ g.status = .finished := by
  cases h with
  | run _ h => exact .inl h.running
  | park _ _ _ => exact .inr (.inl rfl)
  | quit h => exact h.status.imp (fun x => x) .inr

/-- Whatever another does, a sender is not turned by it while its channel is as open as it was. -/
theorem SAt.woken {b : Bool} {s : Option Stg} {d q : Nat} {g x x' : Goroutine} (h : SAt X p b w s d q g) (hc : ∀ k, s = some (.snd k) → ∃ cap buf a r tm, w'.heap[p.c b]? = some (.chan cap buf false a r tm)) : woken X.P x x' w' g = g := by
  cases h with
  | run _ h => exact woken_run h.running
  | park _ _ _ =>
    obtain ⟨cap, buf, a, r, tm, hh⟩ := hc _ rfl
    exact woken_send_open x x' hh
  | quit h => exact woken_quitsD h

theorem SAt.noRecv {b : Bool} {s : Option Stg} {d q : Nat} {g : Goroutine} (h : SAt X p b w s d q g) (c : Nat) : offersAt g c false = [] := by
  cases h with
  | run _ h => exact offersAt_of_not_blocked (by rw [h.running]; simp) _ _
  | park _ _ _ => exact offersAt_parked_send' _ _ _ _ _ _
  | quit h => exact offersAt_of_not_blocked (by rcases h.status with e | e <;> rw [e] <;> simp) _ _

theorem quits_noOffer {m d : Nat} {g : Goroutine} (h : QuitsD X.P m d g) (c : Nat) (s : Bool) : offersAt g c s = [] :=
  offersAt_of_not_blocked (by rcases h.status with e | e <;> rw [e] <;> simp) _ _

def Ph.got (p : Ph) (b : Bool) (r : Nat) (pvb : Nat → Prop) : Ph := { p with r := updB p.r b r, pv := updB p.pv b pvb }
theorem updB_self' {α : Type} (f : Bool → α) (b : Bool) : updB f b (f b) = f := by
  funext a
  by_cases h : a = b
  · subst h; simp
  · exact updB_ne _ _ h
theorem Ph.got_self (p : Ph) (b : Bool) : p.got b (p.r b) (p.pv b) = p := by simp [Ph.got, updB_self']

/-- ████ A STEP OF SENDER b's, or one at its channel. ████ -/
theorem SI.stepR (O : X.Ok) (S : SI X p gs w t q id st) {b : Bool} (hb : p.born b) {x' : Goroutine} {s' : Option Stg} {q' r' : Nat} {pvb : Nat → Prop}
    (hTd : ∀ g, g ≠ id b → Deaf (t ++ T) g = Deaf t g) (hTc : ∀ op ∈ T, op.g = id b ∨ op.g = 0 ∨ op.act.touch? = none)
    (hsz : gs'.size = gs.size) (hoth : ∀ i, i ≠ id b → i ≠ 0 → gs'[i]? = gs[i]?) (hself : gs'[id b]? = some x')
    (hat : SAt X (p.got b r' pvb) b w' s' (Deaf (t ++ T) (id b)) q' x') (hw : w.heap.size ≤ w'.heap.size) (hst : ∀ β, X.StB β → w'.heap[β]? = w.heap[β]?)
    (hpv : ∀ β, p.pv b β → pvb β) (hpn : ∀ β, pvb β → p.pv b β ∨ (w.heap.size ≤ β ∧ β < w'.heap.size))
    (hr : r' ≤ sentOf (X.n b) s') (hs : sentOf (X.n b) s' ≤ X.n b ∧ sentOf (X.n b) s' - r' ≤ 64) (he : p.e b = true → clOf s' = true ∧ r' = X.n b)
    (hc : w'.heap[p.c b]? = some (.chan 64 (bufOf (X.it b) r' (sentOf (X.n b) s')) (clOf s') (sentOf (X.n b) s') r' false))
    (hco : ∀ a, p.born a → a ≠ b → w'.heap[p.c a]? = w.heap[p.c a]?) (hpo : ∀ a, a ≠ b → ∀ n, p.pv a n → w'.heap[n]? = w.heap[n]?)
    (hwg : WgI X w' p.w (cntOf p (updB st b s')) (updB st b s')) (hcnt : cntOf p (updB st b s') ≤ cntOf p st)
    (htr : TrI X.Shun X.New X.Still w'.heap.size (fun g => ∃ b, p.born b ∧ g = id b) (fun g => ∃ b, p.born b ∧ g = id b ∧ p.e b = false) (PvL (p.got b r' pvb) id) (t ++ T))
    (hcl : clOf s' = true → ClosedAt (id b) (p.c b) (t ++ T)) (hpk : x'.status = .blocked → sentOf (X.n b) s' - r' = 64) : SI X (p.got b r' pvb) gs' w' (t ++ T) (upd q (id b) q') id (updB st b s') := by
  have hup : ∀ a, p.born a → a ≠ b → id a ≠ id b := fun a ha hne => S.idne ha hb hne
  have hnew : ∀ β, pvb β → ¬ p.pv b β → w.heap.size ≤ β := fun β h1 h2 => (hpn β h1).elim (fun h => absurd h h2) (·.1)
  refine ⟨Nat.le_trans S.n0 hw, Nat.lt_of_lt_of_le S.wsz hw, fun a ha => Nat.lt_of_lt_of_le (S.csz a ha) hw, S.cge, S.cne, fun a β hp => ?_, fun β h1 => ?_, S.idp, S.idi, fun h2 => ?_, fun i g hi hn hg => ?_, fun j hj => ?_, fun a ha => ?_, fun a ha => ?_, fun a ha => ?_, fun a ha hea => ?_, fun a ha => ?_, hwg,
    fun h2 => by have h2' := S.w2 h2; have hcnt' : cntOf (p.got b r' pvb) (updB st b s') ≤ cntOf p st := hcnt; omega, fun v hv => by have h2' := S.w10 v hv; have hcnt' : cntOf (p.got b r' pvb) (updB st b s') ≤ cntOf p st := hcnt; omega,
    O.kf _ _ S.keep hw hst, htr, fun a ha hca => ?_, ?_, fun a g ha hg hs => ?_⟩
  · have hp' : updB p.pv b pvb a β := hp
    by_cases hab : a = b
    · subst hab
      rw [updB_same] at hp'
      rcases hpn β hp' with h | ⟨h1, h2⟩
      · obtain ⟨k1, k2, k3, k4, k5⟩ := S.pvl a β h
        exact ⟨k1, k2, Nat.lt_of_lt_of_le k3 hw, k4, k5⟩
      · refine ⟨hb, Nat.le_trans S.n0 h1, h2, fun e => ?_, fun c hc' e => ?_⟩
        · have := S.wsz; omega
        · have := S.csz c hc'; have e' : β = p.c c := e; omega
    · rw [updB_ne _ _ hab] at hp'
      obtain ⟨k1, k2, k3, k4, k5⟩ := S.pvl a β hp'
      exact ⟨k1, k2, Nat.lt_of_lt_of_le k3 hw, k4, k5⟩
  · have h1' : updB p.pv b pvb false β := h1
    show ¬ updB p.pv b pvb true β
    intro h2'
    cases b
    · rw [updB_same] at h1'
      rw [updB_ne _ _ (by simp)] at h2'
      have hlt := (S.pvl _ _ h2').2.2.1
      rcases hpn β h1' with h | ⟨h, _⟩
      · exact S.pvd β h h2'
      · omega
    · rw [updB_same] at h2'
      rw [updB_ne _ _ (by simp)] at h1'
      have hlt := (S.pvl _ _ h1').2.2.1
      rcases hpn β h2' with h | ⟨h, _⟩
      · exact S.pvd β h1' h
      · omega
  · have h2' : p.two = false := h2
    have hbf : b = false := by
      rcases hb with e | e
      · exact e
      · rw [h2'] at e; cases e
    subst hbf
    obtain ⟨u1, u2, u3⟩ := S.unb h2'
    refine ⟨by rw [updB_ne _ _ (by simp)]; exact u1, ?_, u3⟩
    show updB p.r false r' true = 0
    rw [updB_ne _ _ (by simp)]; exact u2
  · have hib := hn b hb
    rw [hoth i hib (by omega)] at hg
    rw [upd_ne q q' hib, hTd i hib]
    exact S.old i g hi hn hg
  · have : id b < gs.size := by
      obtain ⟨g, hg, _⟩ := S.snd b hb
      exact (Array.getElem?_eq_some_iff.1 hg).1
    rw [hTd j (by omega)]
    exact S.above j (by omega)
  · by_cases hab : a = b
    · subst hab
      exact ⟨x', hself, by rw [updB_same, upd_same]; exact hat⟩
    · obtain ⟨g, hg, hS⟩ := S.snd a ha
      have hne := hup a ha hab
      exact ⟨g, by rw [hoth _ hne (by have := S.idp a ha; omega)]; exact hg, by
        rw [updB_ne _ _ hab, upd_ne q q' hne, hTd _ hne]
        refine hS.move rfl (fun n hn => ?_) (hpo a hab)
        show updB p.pv b pvb a n
        rw [updB_ne _ _ hab]; exact hn⟩
  · show updB p.r b r' a ≤ _
    by_cases hab : a = b
    · subst hab; rw [updB_same, updB_same]; exact hr
    · rw [updB_ne _ _ hab, updB_ne _ _ hab]; exact S.rle a ha
  · show _ ∧ _ - updB p.r b r' a ≤ 64
    by_cases hab : a = b
    · subst hab; rw [updB_same, updB_same]; exact hs
    · rw [updB_ne _ _ hab, updB_ne _ _ hab]; exact S.sle a ha
  · show _ ∧ updB p.r b r' a = _
    by_cases hab : a = b
    · subst hab; rw [updB_same, updB_same]; exact he hea
    · rw [updB_ne _ _ hab, updB_ne _ _ hab]; exact S.ecl a ha hea
  · show _ = some (Obj.chan 64 (bufOf (X.it a) (updB p.r b r' a) _) _ _ (updB p.r b r' a) false)
    by_cases hab : a = b
    · subst hab; rw [updB_same, updB_same]; exact hc
    · rw [updB_ne _ _ hab, updB_ne _ _ hab]; exact (hco a ha hab).trans (S.chan a ha)
  · by_cases hab : a = b
    · subst hab; rw [updB_same] at hca; exact hcl hca
    · rw [updB_ne _ _ hab] at hca
      have hne := hup a ha hab
      refine (S.cla a ha hca).appOther fun op hop => ?_
      rcases hTc op hop with e | e | e
      · exact .inl (by rw [e]; exact fun e => hne e.symm)
      · exact .inl (by rw [e]; have := S.idp a ha; omega)
      · exact .inr e
  · rw [hTd 0 (by have := S.idp b hb; omega)]
    exact S.d0
  · show _ - updB p.r b r' a = 64
    by_cases hab : a = b
    · subst hab
      rw [hself] at hg
      obtain rfl := Option.some.inj hg
      rw [updB_same, updB_same]; exact hpk hs
    · have hne := hup a ha hab
      rw [hoth _ hne (by have := S.idp a ha; omega)] at hg
      rw [updB_ne _ _ hab, updB_ne _ _ hab]; exact S.pk a g ha hg hs

/-- A step of one who only leaves. -/
theorem SI.stepL (S : SI X p gs w t q id st) {i m : Nat} {x' : Goroutine} (hi : 0 < i) (hlt : i < gs.size) (hn : ∀ b, p.born b → i ≠ id b)
    (hTg : ∀ op ∈ T, op.g = i) (hsz : gs'.size = gs.size) (hoth : ∀ j, j ≠ i → j ≠ 0 → gs'[j]? = gs[j]?) (hself : gs'[i]? = some x') (hq : QuitsD X.P m (Deaf (t ++ T) i) x')
    (hmt : ∀ op ∈ T, op.act.touch? = none) (hl : ∀ op ∈ T, op.act.low w.heap.size) : SI X p gs' w (t ++ T) (upd q i (3 * m)) id st := by
  refine ⟨S.n0, S.wsz, S.csz, S.cge, S.cne, S.pvl, S.pvd, S.idp, S.idi, S.unb, fun j g hj hn' hg => ?_, fun j hj => ?_, fun a ha => ?_, S.rle, S.sle, S.ecl, S.chan, S.wg, S.w2, S.w10, S.keep, S.tr.appMute hmt hl, fun a ha hca => (S.cla a ha hca).appOther fun op hop => .inr (hmt op hop), ?_, fun a g ha hg hs => ?_⟩
  · by_cases hji : j = i
    · subst hji
      rw [hself] at hg
      obtain rfl := Option.some.inj hg
      exact ⟨m, by rw [upd_same], hq⟩
    · rw [hoth j hji (by omega)] at hg
      rw [upd_ne q _ hji, Deaf_other t (fun e => hji e.symm) T hTg]
      exact S.old j g hj hn' hg
  · rw [Deaf_other t (g' := i) (by omega) T hTg]
    exact S.above j (by omega)
  · obtain ⟨g, hg, hS⟩ := S.snd a ha
    have hne := (hn a ha).symm
    exact ⟨g, by rw [hoth _ hne (by have := S.idp a ha; omega)]; exact hg, by rw [upd_ne q _ hne, Deaf_other t (fun e => hne e.symm) T hTg]; exact hS⟩
  · rw [Deaf_other t (g' := i) (by omega) T hTg]
    exact S.d0
  · rw [hoth _ (hn a ha).symm (by have := S.idp a ha; omega)] at hg
    exact S.pk a g ha hg hs

/-- WHOEVER IS NEITHER 0 NOR THE ONE WHO STEPS STANDS AS HE STOOD. -/
theorem SI.fixed (S : SI X p gs w t q id st) {j : Nat} {x x' : Goroutine} (hcl : ∀ a, p.born a → j ≠ id a → w'.heap[p.c a]? = w.heap[p.c a]?) {i : Nat} (hij : i ≠ j) (hi : i ≠ 0) :
    ((gs.map (woken X.P x x' w')).setIfInBounds j x')[i]? = gs[i]? := by
  rw [Array.getElem?_setIfInBounds_ne (fun e => hij e.symm), Array.getElem?_map]
  cases hg : gs[i]? with
  | none => rfl
  | some g =>
    simp only [Option.map_some, Option.some.injEq]
    by_cases hs : ∃ b, p.born b ∧ i = id b
    · obtain ⟨b, hb, rfl⟩ := hs
      obtain ⟨g', hg', hS⟩ := S.snd b hb
      rw [hg] at hg'
      obtain rfl := Option.some.inj hg'
      refine hS.woken fun k hk => ?_
      have hc := S.chan b hb
      rw [hk] at hc
      exact ⟨_, _, _, _, _, (hcl b hb (fun e => hij e.symm)).trans hc⟩
    · obtain ⟨m, _, hq⟩ := S.old i g (by omega) (fun b hb e => hs ⟨b, hb, e⟩) hg
      exact woken_quitsD hq
end
end Go.Proofs.Ytafnbmokegomaaa
