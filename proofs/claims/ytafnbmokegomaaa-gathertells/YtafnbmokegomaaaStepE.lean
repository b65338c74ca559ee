/-
  GOROUTINE 0 AT ITS SELECT: what may come, and what is held behind it.
-/
import Derived.Test.YtafnbmokegomaaaStepD
set_option linter.unusedSimpArgs false
namespace Go.Proofs.Ytafnbmokegomaaa
open Go.Conc
open Go.ConcR (KK wgBlock WgAt stA smA rd wr deafBehind_cons deafBehind_one)
open Go.ConcN (sumTo upd sumTo_upd upd_ne upd_same)

section
variable {X : Cfg} {p : Ph} {gs gs' : Array Goroutine} {w w' : World} {t T : Trace} {q : Nat → Nat} {id : Bool → Nat} {st : Bool → Option Stg} {sl : Option (Nat × Nat)}

theorem SAt.noSend {b : Bool} {s : Option Stg} {d q : Nat} {g : Goroutine} (h : SAt X p b w s d q g) {c : Nat} (hc : p.c b ≠ c ∨ g.status ≠ .blocked) : offersAt g c true = [] := by
  cases h with
  | run _ h => exact offersAt_of_not_blocked (by rw [h.running]; simp) _ _
  | park _ _ _ =>
    rw [offersAt_parked_send]
    rcases hc with hc | hc
    · rw [if_neg hc]
    · exact absurd rfl hc
  | quit h => exact offersAt_of_not_blocked (quits_free h) _ _

/-- Who is parked at a send on b's channel: b's sender, or nobody. -/
theorem SI.sends (S : SI X p gs w t q id st) {b : Bool} (hb : p.born b) {x : Goroutine} (hx : gs[id b]? = some x) : partners (gs.setIfInBounds 0 ph) (p.c b) true = (offersAt x (p.c b) true).map fun k => (id b, k) := by
  have hip := S.idp b hb
  refine partners_one (by rw [Array.getElem?_setIfInBounds_ne (by omega)]; exact hx) fun j g hj hg => ?_
  rcases getElem?_stand gs 0 j g hg with ⟨_, rfl⟩ | ⟨hj0, hg'⟩
  · exact offersAt_ph _ _
  · by_cases hs : ∃ a, p.born a ∧ j = id a
    · obtain ⟨a, ha, rfl⟩ := hs
      obtain ⟨g', h1, h2⟩ := S.snd a ha
      rw [hg'] at h1
      obtain rfl := Option.some.inj h1
      have hab : a ≠ b := fun e => hj (by rw [e])
      exact h2.noSend (.inl (S.cneq ha hb hab))
    · obtain ⟨m, _, hq⟩ := S.old j g (by omega) (fun b hb e => hs ⟨b, hb, e⟩) hg'
      exact quits_noOffer hq _ _

theorem SI.wayOf (S : SI X p gs w t q id st) {b : Bool} (hb : p.born b) :
    Way1 gs 0 w (rcase (p.c b) X.z) ∨ (NoWays w (gs.setIfInBounds 0 ph) (rcase (p.c b) X.z) ∧ p.r b = sentOf (X.n b) (st b) ∧ clOf (st b) = false) := by
  obtain ⟨x, hx, hS⟩ := S.snd b hb
  have hch := S.chan b hb
  have hpr := S.sends hb hx
  have hle := S.rle b hb
  have hip := S.idp b hb
  by_cases hne : p.r b < sentOf (X.n b) (st b)
  · left
    have hsz : 0 < (bufOf (X.it b) (p.r b) (sentOf (X.n b) (st b))).size := by rw [bufOf_size]; omega
    by_cases hbl : x.status = .blocked
    · have hS' := hS
      generalize hst : st b = s at hS'
      generalize Deaf t (id b) = d0 at hS'
      generalize q (id b) = q0 at hS'
      cases hS' with
      | run _ h => rw [h.running] at hbl; cases hbl
      | quit h => exact absurd hbl (quits_free h)
      | @park k m g₂ z d hd hk h =>
        refine .bufS hch hsz (by omega) hx ?_
        rw [hpr, offersAt_parked_send, if_pos rfl]; rfl
    · refine .buf hch hsz ?_
      rw [hpr, hS.noSend (.inr hbl)]; rfl
  · have hr : p.r b = sentOf (X.n b) (st b) := by omega
    have hnb : x.status ≠ .blocked := fun e => by have := S.pk b x hb hx e; omega
    have hp : partners (gs.setIfInBounds 0 ph) (p.c b) true = [] := by rw [hpr, hS.noSend (.inr hnb)]; rfl
    rw [bufOf_nil _ (by omega)] at hch
    cases hc : clOf (st b) with
    | true => rw [hc] at hch; exact .inl (.shut hch hp)
    | false => rw [hc] at hch; exact .inr ⟨ways_recv_none hch hp, hr, rfl⟩

/-- Behind a communication goroutine 0 has a value of b's, or has found b's channel closed. -/
theorem SI.took (O : X.Ok) (S : SI X p gs w t q id st) {b : Bool} (hb : p.born b) (hun : p.e b = false) (hdf : p.df = false) {g₂ : Goroutine} {cases : Array CommCase} {k : Nat} {m : Machine} {ops : Array MemOp} {es : Array Event} {fn : FuncId} {pos : String}
    (hes : ∀ e ∈ es, EvM X p.sb w.heap.size e) (hT : Took X.P gs 0 g₂ cases w sl k (rcase (p.c b) X.z) m ops) :
    ∃ gs' w' q' st' v, m = crowd gs' w' sl ∧ RM X p w p.pv w' ∧ gs'[0]? = some (Go.Conc.served g₂ v) ∧
      ((p.r b < X.n b ∧ v = commResult cases .select k (X.it b (p.r b)) true ∧ SI X { p.to p.pv with r := updB p.r b (p.r b + 1) } gs' w' (t ++ (MemOp.ofEvents 0 fn pos es ++ ops)) q' id st') ∨
       (p.r b = X.n b ∧ v = commResult cases .select k X.z false ∧ SI X { p.to p.pv with e := updB p.e b true } gs' w' (t ++ (MemOp.ofEvents 0 fn pos es ++ ops)) q' id st')) := by
  obtain ⟨x, hx, hS⟩ := S.snd b hb
  have hch := S.chan b hb
  have hpr := S.sends hb hx
  have hle := S.rle b hb
  have hsl := S.sle b hb
  have hip := S.idp b hb
  have hlt : id b < gs.size := (Array.getElem?_eq_some_iff.1 hx).1
  have hlt0 : 0 < gs.size := by omega
  have hlow := S.csz b hb
  obtain ⟨h1, h2, h3, h4⟩ := evM_ops (X := X) (fn := fn) (pos := pos) hes
  have hcC : ∀ c, p.born c → c ≠ b → p.c b ≠ p.c c := fun c hc hne => S.cneq hb hc (fun e => hne e.symm)
  have hcW := (S.cge b hb).2
  have hpo : ∀ {cap : Nat} {buf : Array Value} {cl : Bool} {s r : Nat} {tm : Bool} (a : Bool), a ≠ b → ∀ n, p.pv a n → (w.setChan (p.c b) cap buf cl s r tm).heap[n]? = w.heap[n]? := fun a _ n hn => heap_setChan_ne _ _ _ _ _ _ _ (fun e => (S.pvl a n hn).2.2.2.2 b hb e.symm)
  have hpb : ∀ {cap : Nat} {buf : Array Value} {cl : Bool} {s r : Nat} {tm : Bool} n, p.pv b n → (w.setChan (p.c b) cap buf cl s r tm).heap[n]? = w.heap[n]? := fun n hn => heap_setChan_ne _ _ _ _ _ _ _ (fun e => (S.pvl b n hn).2.2.2.2 b hb e.symm)
  have hsb : ∀ {cap : Nat} {buf : Array Value} {cl : Bool} {s r : Nat} {tm : Bool} β, X.StB β → (w.setChan (p.c b) cap buf cl s r tm).heap[β]? = w.heap[β]? := fun β hβ => S.stb O (rm_setChan hb hcW _ _ _ _ _ _ _) β hβ
  have eto : ∀ r', p.got b r' (p.pv b) = { p.to p.pv with r := updB p.r b r' } := fun r' => by simp [Ph.got, Ph.to, updB_self']
  have epl : ∀ r', PvL (p.got b r' (p.pv b)) id = PvL p id := fun r' => by rw [eto]; rfl
  have htr0 : TrI X.Shun X.New X.Still w.heap.size (fun g => ∃ b, p.born b ∧ g = id b) (fun g => ∃ b, p.born b ∧ g = id b ∧ p.e b = false) (PvL p id) (t ++ MemOp.ofEvents 0 fn pos es) := S.tr.app0 O.shun h1 h2 h3
  have hD0 : ∀ g, Deaf (t ++ MemOp.ofEvents 0 fn pos es) g = Deaf t g := fun g => by
    by_cases e : g = 0
    · subst e; rw [Deaf_own, h4]
    · exact Deaf_other t (fun e' => e e'.symm) _ h1
  cases hT with
  | @buf _ _ cap s r buf cl hc hbs hp =>
    rw [hch] at hc
    obtain ⟨rfl, rfl, rfl, rfl, rfl⟩ : 64 = cap ∧ bufOf (X.it b) (p.r b) (sentOf (X.n b) (st b)) = buf ∧ clOf (st b) = cl ∧ sentOf (X.n b) (st b) = s ∧ p.r b = r := by simpa using hc
    rw [bufOf_size] at hbs
    have hlt' : p.r b < sentOf (X.n b) (st b) := by omega
    have hnb : x.status ≠ .blocked := fun e => by
      clear hpr
      have hpr := S.sends hb hx
      generalize hst : st b = s at hS
      generalize Deaf t (id b) = d0 at hS
      generalize q (id b) = q0 at hS
      cases hS with
      | run _ h => rw [h.running] at e; cases e
      | quit h => exact quits_free h e
      | park _ _ _ => rw [hpr, offersAt_parked_send, if_pos rfl] at hp; cases hp
    rw [bufOf_get _ hlt', bufOf_cut _ hlt']
    have hU : ∀ op ∈ (#[{ g := 0, fn := g₂.frame.fn, pos := g₂.frame.place, act := .recv (p.c b) (p.r b) 64 }, { g := 0, fn := g₂.frame.fn, pos := g₂.frame.place, act := .recvDone (p.c b) (p.r b) }] : Array MemOp), op.act.touch? = none ∧ op.act.low w.heap.size ∧ ∀ g d, deafStep g d op = d := by
      intro op hop
      simp only [List.mem_toArray, List.mem_cons, List.not_mem_nil, or_false] at hop
      rcases hop with rfl | rfl <;> exact ⟨rfl, hlow, fun _ _ => rfl⟩
    refine ⟨_, _, upd q (id b) (q (id b)), updB st b (st b), _, rfl, rm_setChan hb hcW _ _ _ _ _ _ _, by simp [hlt0], .inl ⟨by omega, rfl, ?_⟩⟩
    have hD : ∀ g, Deaf (t ++ (MemOp.ofEvents 0 fn pos es ++ #[{ g := 0, fn := g₂.frame.fn, pos := g₂.frame.place, act := .recv (p.c b) (p.r b) 64 }, { g := 0, fn := g₂.frame.fn, pos := g₂.frame.place, act := .recvDone (p.c b) (p.r b) }])) g = Deaf t g := fun g => by
      rw [← Array.append_assoc, Deaf_quiet (fun op hop d => (hU op hop).2.2 g d)]; exact hD0 g
    rw [← eto]
    refine S.stepR O (x' := x) hb (fun g _ => hD g) (fun op hop => ?_) (by simp) (fun i hi h0 => Array.getElem?_setIfInBounds_ne (fun e => h0 e.symm)) (by rw [Array.getElem?_setIfInBounds_ne (by omega)]; exact hx) (by rw [hD]; exact hS.move rfl (fun n h => by show updB p.pv b _ b n; rw [updB_same]; exact h) (fun n hn => hpb n hn)) (by simp [World.setChan]) hsb (fun _ h => h) (fun _ h => .inl h)
      (by omega) ⟨hsl.1, by omega⟩ (fun he => by rw [hun] at he; cases he) (heap_setChan_self _ hch _ _ _ _ _ _) (fun c hcb hne => heap_setChan_ne _ _ _ _ _ _ _ (hcC c hcb hne)) hpo
      (by rw [updB_self]; exact S.wg.world (heap_setChan_ne _ _ _ _ _ _ _ hcW)) (by rw [updB_self]; exact Nat.le_refl _) ?_ (fun hcl => ?_) (fun e => absurd e hnb)
    · rcases Array.mem_append.1 hop with h | h
      · exact .inr (.inl (h1 op h))
      · exact .inr (.inr (hU op h).1)
    · rw [epl, ← Array.append_assoc]; have := htr0.appMute (fun op hop => (hU op hop).1) (fun op hop => (hU op hop).2.1); simpa [World.setChan] using this
    · rw [← Array.append_assoc]
      exact ((S.cla b hb hcl).appOther fun op hop => .inl (by rw [h1 op hop]; omega)).appOther fun op hop => .inr (hU op hop).1
  | @bufS _ _ cap s r buf cl j gj v zj hc hbs hij hj hp =>
    rw [hch] at hc
    obtain ⟨rfl, rfl, rfl, rfl, rfl⟩ : 64 = cap ∧ bufOf (X.it b) (p.r b) (sentOf (X.n b) (st b)) = buf ∧ clOf (st b) = cl ∧ sentOf (X.n b) (st b) = s ∧ p.r b = r := by simpa using hc
    rw [bufOf_size] at hbs
    have hlt' : p.r b < sentOf (X.n b) (st b) := by omega
    have hbl : x.status = .blocked := by
      by_cases e : x.status = .blocked
      · exact e
      · rw [hpr, hS.noSend (.inr e)] at hp; cases hp
    have hfull := S.pk b x hb hx hbl
    generalize hst : st b = s' at hS
    generalize hdd : Deaf t (id b) = d0 at hS
    generalize hq0 : q (id b) = q0 at hS
    cases hS with
    | run _ h => rw [h.running] at hbl; cases hbl
    | quit h => exact absurd hbl (quits_free h)
    | @park k' m' g₀ z' d hd hk h =>
      rw [hpr, offersAt_parked_send, if_pos rfl] at hp
      simp only [List.map_cons, List.map_nil, List.cons.injEq, Prod.mk.injEq, and_true] at hp
      subst hp
      rw [hx] at hj
      have hpe : parked g₀ #[scase (p.c b) (X.it b k') z'] .send = parked gj #[scase (p.c b) v zj] .send := Option.some.inj hj
      have hv : X.it b k' = v := by
        have := congrArg Goroutine.offers hpe
        simp [parked, scase] at this
        exact this.1
      have hsv : Go.Conc.served g₀ undef = Go.Conc.served gj undef := by
        have f1 := congrArg Goroutine.frame hpe
        have f2 := congrArg Goroutine.callers hpe
        have f3 := congrArg Goroutine.dying hpe
        simp only [parked] at f1 f2 f3
        obtain ⟨a1, a2, a3, a4, a5⟩ := g₀
        obtain ⟨b1, b2, b3, b4, b5⟩ := gj
        simp only at f1 f2 f3
        subst f1 f2 f3
        rfl
      have hsk : sentOf (X.n b) (st b) = k' := by rw [hst]; rfl
      have hcf : clOf (st b) = false := by rw [hst]; rfl
      rw [hsk] at hlt' hle hsl hfull hch
      rw [hcf] at hch
      have hsk' : sentOf (X.n b) (some (.snd k')) = k' := rfl
      have hcf' : clOf (some (.snd k')) = false := rfl
      rw [hsk', hcf', bufOf_get _ hlt', bufOf_cut _ hlt', ← hv, bufOf_push _ (by omega), ← hsv]
      have hU : ∀ op ∈ (#[{ g := 0, fn := g₂.frame.fn, pos := g₂.frame.place, act := .recv (p.c b) (p.r b) 64 }, { g := 0, fn := g₂.frame.fn, pos := g₂.frame.place, act := .recvDone (p.c b) (p.r b) },
          { g := id b, fn := gj.frame.fn, pos := gj.frame.place, act := .send (p.c b) k' }, { g := id b, fn := gj.frame.fn, pos := gj.frame.place, act := .sendDone (p.c b) k' }] : Array MemOp), op.act.touch? = none ∧ op.act.low w.heap.size ∧ ∀ g d, deafStep g d op = d := by
        intro op hop
        simp only [List.mem_toArray, List.mem_cons, List.not_mem_nil, or_false] at hop
        rcases hop with rfl | rfl | rfl | rfl <;> exact ⟨rfl, hlow, fun _ _ => rfl⟩
      have hD : ∀ g, Deaf (t ++ (MemOp.ofEvents 0 fn pos es ++ #[{ g := 0, fn := g₂.frame.fn, pos := g₂.frame.place, act := .recv (p.c b) (p.r b) 64 }, { g := 0, fn := g₂.frame.fn, pos := g₂.frame.place, act := .recvDone (p.c b) (p.r b) },
          { g := id b, fn := gj.frame.fn, pos := gj.frame.place, act := .send (p.c b) k' }, { g := id b, fn := gj.frame.fn, pos := gj.frame.place, act := .sendDone (p.c b) k' }])) g = Deaf t g := fun g => by
        rw [← Array.append_assoc, Deaf_quiet (fun op hop d => (hU op hop).2.2 g d)]; exact hD0 g
      have ecnt : cntOf p (updB st b (some (.snd (k' + 1)))) = cntOf p st := by have := cnt_upd hb (st := st) (some (.snd (k' + 1))); rw [hst] at this; simp [aOf] at this; omega
      refine ⟨_, _, upd q (id b) (3 * m' + 1), updB st b (some (.snd (k' + 1))), _, rfl, rm_setChan hb hcW _ _ _ _ _ _ _, by simp [hlt0], .inl ⟨by omega, rfl, ?_⟩⟩
      rw [← eto]
      refine S.stepR O (x' := Go.Conc.served g₀ undef) hb (fun g _ => hD g) (fun op hop => ?_) (by simp) (fun i hi h0 => ?_) ?_ (by rw [hD, hdd]; exact .run hd h (fun _ _ e => by cases e) (fun _ _ e => by cases e)) (by simp [World.setChan]) hsb (fun _ h => h) (fun _ h => .inl h)
        (by show p.r b + 1 ≤ k' + 1; omega) (by show k' + 1 ≤ X.n b ∧ k' + 1 - (p.r b + 1) ≤ 64; omega) (fun he => by rw [hun] at he; cases he) (heap_setChan_self _ hch _ _ _ _ _ _) (fun c hcb hne => heap_setChan_ne _ _ _ _ _ _ _ (hcC c hcb hne)) hpo
        (S.wg.keep (by rw [hst]; rfl) rfl ecnt (heap_setChan_ne _ _ _ _ _ _ _ hcW)) (by rw [ecnt]; exact Nat.le_refl _) ?_ (fun hcl => by cases hcl) (fun e => by cases e)
      · rcases Array.mem_append.1 hop with h | h
        · exact .inr (.inl (h1 op h))
        · exact .inr (.inr (hU op h).1)
      · rw [Array.getElem?_setIfInBounds_ne (fun e => h0 e.symm), Array.getElem?_setIfInBounds_ne (fun e => hi e.symm)]
      · rw [Array.getElem?_setIfInBounds_ne (by omega)]; simp [hlt]
      · rw [epl, ← Array.append_assoc]; have := htr0.appMute (fun op hop => (hU op hop).1) (fun op hop => (hU op hop).2.1); simpa [World.setChan] using this
  | @shut _ _ cap s r hc hp =>
    rw [hch] at hc
    obtain ⟨_, hnil, hcl, rfl, rfl⟩ : 64 = cap ∧ bufOf (X.it b) (p.r b) (sentOf (X.n b) (st b)) = #[] ∧ clOf (st b) = true ∧ sentOf (X.n b) (st b) = s ∧ p.r b = r := by simpa using hc
    have hrs : p.r b = sentOf (X.n b) (st b) := by
      have := bufOf_size (X.it b) (p.r b) (sentOf (X.n b) (st b))
      rw [hnil] at this
      simp at this
      omega
    have hsn : sentOf (X.n b) (st b) = X.n b := by
      cases e : st b with
      | none => rfl
      | some s => cases s <;> first | rfl | (rw [e] at hcl; cases hcl)
    have hU : ∀ op ∈ (#[{ g := 0, fn := g₂.frame.fn, pos := g₂.frame.place, act := .recvClosed (p.c b) }] : Array MemOp), op.g = 0 ∧ op.act.touch? = none ∧ op.act.low w.heap.size ∧ ∀ g d, deafStep g d op = d := by
      intro op hop
      simp only [List.mem_toArray, List.mem_singleton] at hop
      subst hop
      exact ⟨rfl, rfl, hlow, fun _ _ => rfl⟩
    have hg0 : ∀ op ∈ MemOp.ofEvents 0 fn pos es ++ #[{ g := 0, fn := g₂.frame.fn, pos := g₂.frame.place, act := .recvClosed (p.c b) }], op.g = 0 := fun op hop => (Array.mem_append.1 hop).elim (h1 op) fun h => (hU op h).1
    have S1 := S.step0 (p' := p) (gs' := gs.setIfInBounds 0 (Go.Conc.served g₂ (commResult cases .select k X.z false))) (w' := w) (T := MemOp.ofEvents 0 fn pos es ++ #[{ g := 0, fn := g₂.frame.fn, pos := g₂.frame.place, act := .recvClosed (p.c b) }]) ⟨rfl, rfl, rfl, rfl, rfl⟩ O hg0
      (fun i hi => Array.getElem?_setIfInBounds_ne (fun e => hi e.symm)) (by simp) (Nat.le_refl _) S.keep (fun _ _ => rfl) (fun _ _ _ => rfl) S.wg S.w2 S.w10
      (fun op hop c hc' => (Array.mem_append.1 hop).elim (fun h => h2 op h c hc') fun h => by rw [(hU op h).2.1] at hc'; cases hc') (fun op hop => (Array.mem_append.1 hop).elim (h3 op) fun h => (hU op h).2.2.1)
      (by rw [← Array.append_assoc, Deaf_quiet (fun op hop d => (hU op hop).2.2.2 0 d), hD0]; exact S.d0)
    refine ⟨_, _, q, st, _, rfl, RM.refl _ _ _, by simp [hlt0], .inr ⟨by omega, rfl, ?_⟩⟩
    refine ⟨S1.n0, S1.wsz, S1.csz, S1.cge, S1.cne, S1.pvl, S1.pvd, S1.idp, S1.idi, fun h2' => ?_, S1.old, S1.above, fun c hc => (let ⟨g, h1, h2⟩ := S1.snd c hc; ⟨g, h1, h2.move rfl (fun _ h => h) (fun _ _ => rfl)⟩), S1.rle, S1.sle, fun c hcb he => ?_, S1.chan, S1.wg, S1.w2, S1.w10, S1.keep, ?_, S1.cla, S1.d0, S1.pk⟩
    · obtain ⟨u1, u2, u3⟩ := S.unb h2'
      refine ⟨u1, u2, ?_⟩
      show updB p.e b true true = false
      have : true ≠ b := by
        rintro rfl
        rcases hb with e | e
        · cases e
        · have h2'' : p.two = false := h2'
          rw [h2''] at e; cases e
      rw [updB_ne _ _ this]; exact u3
    · by_cases hcb' : c = b
      · subst hcb'; exact ⟨hcl, by show p.r c = _; omega⟩
      · have he' : updB p.e b true c = true := he
        rw [updB_ne _ _ hcb'] at he'; exact S1.ecl c hcb he'
    · have := (htr0.join (g := id b) (c := p.c b) (by rw [hD0, S.d0, hdf]; rfl) ((S.cla b hb hcl).appOther fun op hop => .inl (by rw [h1 op hop]; omega)) g₂.frame.fn g₂.frame.place hlow)
      rw [← Array.append_assoc]
      have e2 : (fun g => ∃ c, p.born c ∧ g = id c ∧ updB p.e b true c = false) = (fun g => (∃ c, p.born c ∧ g = id c ∧ p.e c = false) ∧ g ≠ id b) := by
        funext g
        apply propext
        constructor
        · rintro ⟨c, hcb, rfl, he⟩
          by_cases hcb' : c = b
          · subst hcb'; rw [updB_same] at he; cases he
          · rw [updB_ne _ _ hcb'] at he
            exact ⟨⟨c, hcb, rfl, he⟩, S.idne hcb hb hcb'⟩
        · rintro ⟨⟨c, hcb, rfl, he⟩, hne⟩
          have hcb' : c ≠ b := fun e => hne (by rw [e])
          exact ⟨c, hcb, rfl, by rw [updB_ne _ _ hcb']; exact he⟩
      show TrI _ _ _ _ _ (fun g => ∃ c, p.born c ∧ g = id c ∧ updB p.e b true c = false) (PvL p id) _
      rw [e2]
      exact this
end
end Go.Proofs.Ytafnbmokegomaaa
