/-
  A SENDER's SEND AS THE MACHINE TAKES IT, and the steps of whoever only leaves.
-/
import Derived.Test.YtafnbmokegomaaaStepB
set_option linter.unusedSimpArgs false
namespace Go.Proofs.Ytafnbmokegomaaa
open Go.Conc
open Go.ConcR (KK wgBlock WgAt stA smA rd wr deafBehind_cons deafBehind_one)
open Go.ConcN (sumTo upd sumTo_upd upd_ne upd_same)

/-- Goroutine 0, parked at its select, has been handed what sender b sent. -/
def MetOut (X : Cfg) (p : Ph) (gs : Array Goroutine) (w : World) (t : Trace) (q : Nat → Nat) (id : Bool → Nat) (sl : Option (Nat × Nat)) (a : Goroutine) (i : Nat) : Prop :=
  ∃ b gs' w' ops q' st' g₂ op, a = parked g₂ (X.cases p op) .select ∧ op b = true ∧ p.born b ∧ p.r b < X.n b ∧ runT X.P (crowd gs w sl) i = (.next (crowd gs' w' sl), ops) ∧ gs'.size = gs.size ∧ RM X p w p.pv w' ∧
    sumTo gs.size q' + 2 ≤ sumTo gs.size q ∧ gs'[0]? = some (Go.Conc.served g₂ (commResult (X.cases p op) .select (kOf b) (X.it b (p.r b)) true)) ∧ SI X { p.to p.pv with r := updB p.r b (p.r b + 1) } gs' w' (t ++ ops) q' id st'

section
variable {X : Cfg} {p : Ph} {gs gs' : Array Goroutine} {w w' : World} {t T : Trace} {q : Nat → Nat} {id : Bool → Nat} {st : Bool → Option Stg} {sl : Option (Nat × Nat)}

theorem offers_none {a : Goroutine} (h : a.offers = none) (c : Nat) (s : Bool) : offersAt a c s = [] := by
  unfold offersAt
  split
  · rename_i h2; rw [h] at h2; cases h2
  · rfl

theorem cases_chan {op : Bool → Bool} {b : Bool} (hb : op b = false) (h2 : ∀ c, op c = true → c ≠ b → p.c c ≠ p.c b) : ∀ cc ∈ X.cases p op, cc.chan ≠ .chan (some (p.c b)) := by
  intro cc hcc
  simp only [Cfg.cases, List.mem_toArray, List.mem_cons, List.not_mem_nil, or_false] at hcc
  have key : ∀ c, (X.cs p op c).chan ≠ .chan (some (p.c b)) := by
    intro c
    unfold Cfg.cs
    split
    · rename_i hc
      intro e
      simp only [rcase, Value.chan.injEq, Option.some.injEq] at e
      exact h2 c hc (by rintro rfl; rw [hb] at hc; cases hc) e
    · simp [nilcase]
  rcases hcc with rfl | rfl <;> exact key _

theorem cases_at {op : Bool → Bool} {b : Bool} (hb : op b = true) : (X.cases p op)[kOf b]? = some (rcase (p.c b) X.z) := by
  cases b <;> simp [Cfg.cases, kOf, Cfg.cs, hb]

theorem cases_else {op : Bool → Bool} {b : Bool} (h2 : ∀ c, op c = true → c ≠ b → p.c c ≠ p.c b) : ∀ (m : Nat) (cc : CommCase), m ≠ kOf b → (X.cases p op)[m]? = some cc → cc.chan ≠ .chan (some (p.c b)) := by
  intro m cc hm hcc
  have key : ∀ c, c ≠ b → (X.cs p op c).chan ≠ .chan (some (p.c b)) := by
    intro c hcb
    unfold Cfg.cs
    split
    · rename_i hc
      intro e
      simp only [rcase, Value.chan.injEq, Option.some.injEq] at e
      exact h2 c hc hcb e
    · simp [nilcase]
  match m, hcc with
  | 0, hcc => simp [Cfg.cases] at hcc; subst hcc; exact key _ (by cases b; exact absurd rfl hm; simp)
  | 1, hcc => simp [Cfg.cases] at hcc; subst hcc; exact key _ (by cases b; simp; exact absurd rfl hm)
  | m + 2, hcc => simp [Cfg.cases] at hcc

theorem cs_inj {op op' : Bool → Bool} {c : Bool} (h : X.cs p op c = X.cs p op' c) : op c = op' c := by
  unfold Cfg.cs at h
  cases e : op c <;> cases e' : op' c <;> simp [e, e', rcase, nilcase] at h ⊢

theorem M0.parked_inv {g₀ : Goroutine} {op : Bool → Bool} (h : M0 X p st (parked g₀ (X.cases p op) .select)) :
    ∀ c, op c = true → (p.e c = false ∧ p.born c) ∧ p.r c = sentOf (X.n c) (st c) ∧ clOf (st c) = false := by
  generalize ha : parked g₀ (X.cases p op) .select = a at h
  cases h with
  | run h => subst ha; cases h
  | wait _ ho => subst ha; cases ho
  | @park g₂ op' h1 h2 =>
    have e : X.cases p op = X.cases p op' := by
      have := congrArg Goroutine.offers ha
      simp only [parked, Option.some.injEq, Prod.mk.injEq, and_true] at this
      exact this
    have e2 : op = op' := by
      funext c
      simp only [Cfg.cases, Array.mk.injEq, List.cons.injEq, and_true] at e
      cases c
      · exact cs_inj e.1
      · exact cs_inj e.2
    subst e2
    exact fun c hc => ⟨h1 c hc, h2 c hc⟩

/-- Nobody but goroutine 0 may be parked at a receive. -/
theorem SI.noRecv (S : SI X p gs w t q id st) {i : Nat} {c : Nat} : ∀ (j : Nat) (g : Goroutine), j ≠ 0 → (gs.setIfInBounds i ph)[j]? = some g → offersAt g c false = [] := by
  intro j g hj hg
  rcases getElem?_stand gs i j g hg with ⟨_, rfl⟩ | ⟨_, hg'⟩
  · exact offersAt_ph _ _
  · by_cases hs : ∃ b, p.born b ∧ j = id b
    · obtain ⟨b, hb, rfl⟩ := hs
      obtain ⟨g', h1, h2⟩ := S.snd b hb
      rw [hg'] at h1
      obtain rfl := Option.some.inj h1
      exact h2.noRecv c
    · obtain ⟨m, _, hq⟩ := S.old j g (by omega) (fun b hb e => hs ⟨b, hb, e⟩) hg'
      exact quits_noOffer hq c false

theorem mute_all {U : Array MemOp} (S : SI X p gs w t q id st) (h1 : ∀ op ∈ U, op.act.touch? = none) (h2 : ∀ op ∈ U, op.act.low w.heap.size) (h3 : ∀ g, ∀ op ∈ U, ∀ d, deafStep g d op = d) :
    TrI X.Shun X.New X.Still w.heap.size (fun g => ∃ b, p.born b ∧ g = id b) (fun g => ∃ b, p.born b ∧ g = id b ∧ p.e b = false) (PvL p id) (t ++ U) ∧ (∀ g, Deaf (t ++ U) g = Deaf t g) :=
  ⟨S.tr.appMute h1 h2, fun g => Deaf_quiet (h3 g)⟩

theorem SI.senderSend (O : X.Ok) (S : SI X p gs w t q id st) {b : Bool} (hb : p.born b) {x a g₂ : Goroutine} {m k : Nat} {z : Value} (hx : gs[id b]? = some x) (ha : gs[0]? = some a) (hM : M0 X p st a)
    (hst : st b = some (.snd k)) (hd : Deaf t (id b) = 0) (hqb : q (id b) = 3 * (m + 1) + 1) (hk : k < X.n b) (hstep : stepG X.P false x w = .comm g₂ #[scase (p.c b) (X.it b k) z] true .send w #[])
    (hn : Snd X b (p.c b) m (.snd (k + 1)) none (Go.Conc.served g₂ undef)) :
    GoOut X p gs w t q id sl a (id b) ∨ MetOut X p gs w t q id sl a (id b) := by
  have hch := S.chan b hb
  have hle := S.rle b hb
  have hsl := S.sle b hb
  have hec := S.ecl b hb
  have hcW := (S.cge b hb).2
  rw [hst] at hch hle hsl hec
  have hun : p.e b = false := by
    cases he : p.e b with
    | false => rfl
    | true => have := (hec he).1; cases this
  have hip := S.idp b hb
  have hlt : id b < gs.size := (Array.getElem?_eq_some_iff.1 hx).1
  have hlt0 : 0 < gs.size := by omega
  have hi0 : (id b == 0) = false := by simp; omega
  have hlow := S.csz b hb
  have hstep' : stepG X.P (id b == 0) x w = .comm g₂ #[scase (p.c b) (X.it b k) z] true .send w #[] := by rw [hi0]; exact hstep
  have hs1 : sentOf (X.n b) (some (.snd k)) = k := rfl
  have hs2 : sentOf (X.n b) (some (.snd (k + 1))) = k + 1 := rfl
  have hc1 : clOf (some (.snd k)) = false := rfl
  rw [hs1] at hch hle hsl
  rw [hc1] at hch
  have ecnt : ∀ k', cntOf p (updB st b (some (.snd k'))) = cntOf p st := fun k' => by have := cnt_upd hb (st := st) (some (.snd k')); rw [hst] at this; simp [aOf] at this; omega
  have hpo : ∀ {cap : Nat} {buf : Array Value} {cl : Bool} {s r : Nat} {tm : Bool} (a : Bool), a ≠ b → ∀ n, p.pv a n → (w.setChan (p.c b) cap buf cl s r tm).heap[n]? = w.heap[n]? := fun a _ n hn => heap_setChan_ne _ _ _ _ _ _ _ (fun e => (S.pvl a n hn).2.2.2.2 b hb e.symm)
  have hco : ∀ {cap : Nat} {buf : Array Value} {cl : Bool} {s r : Nat} {tm : Bool} (a : Bool), p.born a → a ≠ b → (w.setChan (p.c b) cap buf cl s r tm).heap[p.c a]? = w.heap[p.c a]? := fun a ha hne => heap_setChan_ne _ _ _ _ _ _ _ (S.cneq hb ha (fun e => hne e.symm))
  have hsb : ∀ {cap : Nat} {buf : Array Value} {cl : Bool} {s r : Nat} {tm : Bool} β, X.StB β → (w.setChan (p.c b) cap buf cl s r tm).heap[β]? = w.heap[β]? := fun β hβ => S.stb O (rm_setChan hb hcW _ _ _ _ _ _ _) β hβ
  have hrun0 : SAt X p b w (some (.snd (k + 1))) 0 (3 * m + 1) (Go.Conc.served g₂ undef) := SAt.run_of rfl hn rfl
  have hmv : ∀ {w' : World} {r' : Nat}, SAt X (p.got b r' (p.pv b)) b w' (some (.snd (k + 1))) 0 (3 * m + 1) (Go.Conc.served g₂ undef) := fun {w' r'} => .run rfl hn (fun _ _ e => by cases e) (fun _ _ e => by cases e)
  have eto : ∀ r', p.got b r' (p.pv b) = { p.to p.pv with r := updB p.r b r' } := fun r' => by simp [Ph.got, Ph.to, updB_self']
  have epl : ∀ r', PvL (p.got b r' (p.pv b)) id = PvL p id := fun r' => by rw [eto]; rfl
  by_cases hpk : ∃ g₀ op, a = parked g₀ (X.cases p op) .select ∧ op b = true
  · -- IT IS MET
    right
    obtain ⟨g₀, op, rfl, hop⟩ := hpk
    have hinv := hM.parked_inv
    have h2c : ∀ c, op c = true → c ≠ b → p.c c ≠ p.c b := fun c hc hne => S.cneq (hinv c hc).1.2 hb hne
    have hrk : p.r b = k := by have := (hinv b hop).2.1; rw [hst] at this; exact this
    have hnil : bufOf (X.it b) (p.r b) k = #[] := bufOf_nil _ (by omega)
    have hp : partners (gs.setIfInBounds (id b) ph) (p.c b) false = [(0, kOf b)] := by
      have h0 : (gs.setIfInBounds (id b) ph)[0]? = some (parked g₀ (X.cases p op) .select) := by rw [Array.getElem?_setIfInBounds_ne (by omega)]; exact ha
      rw [partners_one h0 (fun j g hj hg => S.noRecv j g hj hg), offersAt_parked_at (cases_at hop) (cases_else h2c)]
      rfl
    have hrun := crowd_send_meets_sel (sl := sl) hx hstep' hch (by omega) ha (cases_at hop) hp
    rw [finishComm_send, finishComm_served', hnil, hrk, ofEvents_none, Array.empty_append] at hrun
    have hU : ∀ op ∈ (#[{ g := id b, fn := g₂.frame.fn, pos := g₂.frame.place, act := .send (p.c b) k }, { g := 0, fn := g₀.frame.fn, pos := g₀.frame.place, act := .recv (p.c b) k 64 },
        { g := id b, fn := g₂.frame.fn, pos := g₂.frame.place, act := .sendDone (p.c b) k }, { g := 0, fn := g₀.frame.fn, pos := g₀.frame.place, act := .recvDone (p.c b) k }] : Array MemOp), op.act.touch? = none ∧ op.act.low w.heap.size ∧ ∀ g d, deafStep g d op = d := by
      intro op hop
      simp only [List.mem_toArray, List.mem_cons, List.not_mem_nil, or_false] at hop
      rcases hop with rfl | rfl | rfl | rfl <;> exact ⟨rfl, hlow, fun _ _ => rfl⟩
    obtain ⟨h1, h2⟩ := mute_all S (fun op hop => (hU op hop).1) (fun op hop => (hU op hop).2.1) (fun g op hop d => (hU op hop).2.2 g d)
    refine ⟨b, _, _, _, upd q (id b) (3 * m + 1), updB st b (some (.snd (k + 1))), g₀, op, rfl, hop, hb, by omega, hrun, by simp, rm_setChan hb hcW _ _ _ _ _ _ _, sum_le hlt (by omega), ?_, ?_⟩
    · rw [Array.getElem?_setIfInBounds_ne (by omega), hrk]; simp [hlt0]
    · rw [hrk, ← eto]
      refine S.stepR O (x' := Go.Conc.served g₂ undef) hb (fun g _ => h2 g) (fun op hop => .inr (.inr (hU op hop).1)) (by simp) (fun i hi h0 => ?_) (by simp [hlt]) (by rw [h2, hd]; exact hmv) (by simp [World.setChan]) hsb (fun _ h => h) (fun _ h => .inl h)
        (by rw [hs2]; omega) (by rw [hs2]; omega) (fun he => by rw [hun] at he; cases he) ?_ hco hpo
        (S.wg.keep (by rw [hst]; rfl) rfl (ecnt _) (heap_setChan_ne _ _ _ _ _ _ _ hcW)) (by rw [ecnt]; omega) (by rw [epl]; simpa [World.setChan] using h1) (fun hc => by cases hc) (fun e => by cases e)
      · rw [Array.getElem?_setIfInBounds_ne (fun e => hi e.symm), Array.getElem?_setIfInBounds_ne (fun e => h0 e.symm)]
      · rw [hs2, bufOf_nil _ (Nat.le_refl _)]
        exact heap_setChan_self _ hch _ _ _ _ _ _
  · -- NOBODY IS PARKED THERE
    left
    have hp : partners (gs.setIfInBounds (id b) ph) (p.c b) false = [] := by
      refine partners_nil fun j g hg => ?_
      by_cases hj : j = 0
      · subst hj
        have hg' : g = a := by
          rcases getElem?_stand gs (id b) 0 g hg with ⟨e, _⟩ | ⟨_, h⟩
          · omega
          · rw [ha] at h; exact (Option.some.inj h).symm
        subst hg'
        cases hM with
        | run h => exact offersAt_of_not_blocked (by rw [h]; simp) _ _
        | wait _ ho => exact offers_none ho _ _
        | @park g₀ op h1 h2 =>
          refine offersAt_parked_off (cases_chan ?_ fun c hc hne => S.cneq (h1 c hc).2 hb hne) _
          cases e : op b with
          | false => rfl
          | true => exact absurd ⟨g₀, op, rfl, e⟩ hpk
      · exact S.noRecv j g hj hg
    have hM' : ∀ s', M0 X (p.to p.pv) (updB st b s') a := by
      intro s'
      cases hM with
      | run h => exact .run h
      | wait h ho => exact .wait h ho
      | @park g₀ op h1 h2 =>
        refine .park (p := p.to p.pv) h1 fun c hc => ?_
        have hcb : c ≠ b := by rintro rfl; exact hpk ⟨g₀, op, rfl, hc⟩
        rw [updB_ne _ _ hcb]; exact h2 c hc
    have eself : p.to p.pv = p.got b (p.r b) (p.pv b) := by rw [got_to, updB_self']
    by_cases hroom : (bufOf (X.it b) (p.r b) k).size < 64
    · have hrun := crowd_send_room (sl := sl) hx hstep' hch hroom hp
      rw [bufOf_push _ hle, finishComm_send, ofEvents_none, Array.empty_append] at hrun
      have hU : ∀ op ∈ (#[{ g := id b, fn := g₂.frame.fn, pos := g₂.frame.place, act := .send (p.c b) k }, { g := id b, fn := g₂.frame.fn, pos := g₂.frame.place, act := .sendDone (p.c b) k }] : Array MemOp), op.act.touch? = none ∧ op.act.low w.heap.size ∧ ∀ g d, deafStep g d op = d := by
        intro op hop
        simp only [List.mem_toArray, List.mem_cons, List.not_mem_nil, or_false] at hop
        rcases hop with rfl | rfl <;> exact ⟨rfl, hlow, fun _ _ => rfl⟩
      obtain ⟨h1, h2⟩ := mute_all S (fun op hop => (hU op hop).1) (fun op hop => (hU op hop).2.1) (fun g op hop d => (hU op hop).2.2 g d)
      refine ⟨_, _, _, upd q (id b) (3 * m + 1), updB st b (some (.snd (k + 1))), a, p.pv, hrun, by simp, rm_setChan hb hcW _ _ _ _ _ _ _, sum_le hlt (by omega), by rw [Array.getElem?_setIfInBounds_ne (by omega)]; exact ha, ?_, hM' _, .inl rfl, fun _ _ e => .inr ((heap_setChan_ne _ _ _ _ _ _ _ hcW).symm.trans e)⟩
      rw [eself]
      exact S.stepR O (x' := Go.Conc.served g₂ undef) hb (fun g _ => h2 g) (fun op hop => .inr (.inr (hU op hop).1)) (by simp) (fun i hi h0 => Array.getElem?_setIfInBounds_ne (fun e => hi e.symm)) (by simp [hlt]) (by rw [h2, hd]; exact hmv) (by simp [World.setChan]) hsb (fun _ h => h) (fun _ h => .inl h)
        (by rw [hs2]; omega) (by rw [hs2]; rw [bufOf_size] at hroom; omega) (fun he => by rw [hun] at he; cases he) (heap_setChan_self _ hch _ _ _ _ _ _) hco hpo
        (S.wg.keep (by rw [hst]; rfl) rfl (ecnt _) (heap_setChan_ne _ _ _ _ _ _ _ hcW)) (by rw [ecnt]; omega) (by rw [epl]; simpa [World.setChan] using h1) (fun hc => by cases hc) (fun e => by cases e)
    · have hfull : 64 ≤ (bufOf (X.it b) (p.r b) k).size := by omega
      have hrun := crowd_waits (sl := sl) hx hstep' (fun cc hcc => by
        simp only [List.mem_toArray, List.mem_singleton] at hcc
        subst hcc
        exact ways_send_none hch hfull hp)
      rw [ofEvents_none] at hrun
      refine ⟨_, _, _, upd q (id b) (3 * m + 2), updB st b (some (.snd k)), a, p.pv, hrun, by simp, RM.refl _ _ _, sum_le hlt (by omega), by rw [Array.getElem?_setIfInBounds_ne (by omega)]; exact ha, ?_, hM' _, .inl rfl, fun _ _ e => .inr e⟩
      rw [eself]
      exact S.stepR O (T := #[]) (x' := parked g₂ #[scase (p.c b) (X.it b k) z] .send) hb (fun g _ => by simp) (fun op hop => by simp at hop) (by simp) (fun i hi h0 => Array.getElem?_setIfInBounds_ne (fun e => hi e.symm)) (by simp [hlt]) (SAt.park (p := p.got b (p.r b) (p.pv b)) (by simpa using hd) hk hn) (Nat.le_refl _) (fun _ _ => rfl) (fun _ h => h) (fun _ h => .inl h)
        hle hsl (fun he => by rw [hun] at he; cases he) hch (fun c hc hne => rfl) (fun _ _ _ _ => rfl) (S.wg.keep (by rw [hst]; rfl) rfl (ecnt _) rfl) (by rw [ecnt]; omega) (by rw [epl]; simpa using S.tr) (fun hc => by cases hc) (fun _ => by rw [hs1]; rw [bufOf_size] at hfull; omega)
end
end Go.Proofs.Ytafnbmokegomaaa
