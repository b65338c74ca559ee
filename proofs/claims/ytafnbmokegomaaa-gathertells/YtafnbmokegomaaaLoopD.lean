/-
  meet's loop.
-/
import Derived.Test.YtafnbmokegomaaaLoopC
set_option linter.unusedSimpArgs false
set_option linter.unusedVariables false
set_option linter.unusedSectionVars false
namespace Go.Proofs.Ytafnbmokegomaaa
open Go.Conc Go.RowKit
open Go.ConcR (KK wgBlock WgAt stA smA rd wr)

/-- How far the gathering is: k pairs were met, l are left over. -/
inductive Far (n r : Bool → Nat) (wt en : Bool → Bool) : Nat → Nat → Prop
  | none {k} (he : ∀ b, en b = false) (hr : ∀ b, r b = k + (if wt b then 1 else 0)) (hn : ∀ b, r b ≤ n b) (hw : ∃ b, wt b = false) : Far n r wt en k 0
  | one {k l} (b : Bool) (he : en b = true) (he' : en (!b) = false) (hw : ∀ b, wt b = false) (hr : r b = n b) (hk : k = n b) (hr' : r (!b) = k + l) (hn : r (!b) ≤ n (!b)) : Far n r wt en k l

/-- What is left to come. -/
def toCome (n r : Bool → Nat) (en : Bool → Bool) : Nat := (n false - r false) + (n true - r true) + (if en false then 0 else 1) + (if en true then 0 else 1)

theorem bool_ne {a b : Bool} (h : a ≠ b) : a = !b := by cases a <;> cases b <;> simp_all

structure LoopAt (X : Cfg) (sh : Nat → Prop) (cc : Bool → Nat) (MI : Nat → PM → Prop) (A B M : Value) (W : Nat) (β : Bool → Nat) (rw' : Bool → Nat → Rt) (s : Gh) (m : PM) (a : Act) (p : Ph) (nx : Bool → Rt) (wt en : Bool → Bool) (k l : Nat) (x : Nat → Value) : Prop where
  hs : s = .inn sh X p
  two : p.two = true
  df : p.df = false
  hw : p.w = 0
  hc : p.c = cc
  st : Strs m β p.c nx wt en
  hen : ∀ b, en b = p.e b
  mi : MI k m
  hnx : ∀ b, wt b = true → nx b = rw' b k
  far : Far X.n p.r wt en k l
  ha : a = actL A B M W (β false) (β true) l x

section
variable [Io] {Fin : Value → World → Prop}

theorem toCome_up {n r : Bool → Nat} {en : Bool → Bool} {b : Bool} (h : r b < n b) : toCome n (updB r b (r b + 1)) en < toCome n r en := by
  unfold toCome
  cases b
  · rw [updB_same, updB_ne _ _ (by simp)]; omega
  · rw [updB_same, updB_ne _ _ (by simp)]; omega
theorem toCome_end {n r : Bool → Nat} {en : Bool → Bool} {b : Bool} (h : en b = false) : toCome n r (updB en b true) < toCome n r en := by
  unfold toCome
  cases b
  · rw [updB_same, updB_ne _ _ (by simp), h]; simp
  · rw [updB_same, updB_ne _ _ (by simp), h]; simp

/-- The loop's invariant. -/
def LoopI (X : Cfg) (sh : Nat → Prop) (cc : Bool → Nat) (MI : Nat → PM → Prop) (A B M : Value) (W : Nat) (β : Bool → Nat) (rw' : Bool → Nat → Rt) (s : Gh) (m : PM) (a : Act) : Prop := ∃ p nx wt en k l x, LoopAt X sh cc MI A B M W β rw' s m a p nx wt en k l x
def muG : Gh → Nat
  | .inn _ X p => toCome X.n p.r p.e
  | _ => 0

/-- Behind the switch. -/
theorem mid_j {Q : QJ} {X : Cfg} {sh : Nat → Prop} {cc : Bool → Nat} {MI : Nat → PM → Prop} {A B : Value} {f : FuncId} {cap : Array Value} {W : Nat} {β : Bool → Nat} {rw' : Bool → Nat → Rt} {p : Ph} {nx : Bool → Rt} {wt en : Bool → Bool} {k l N : Nat} {x : Nat → Value} {m : PM}
    (hβ : β false ≠ β true) (hl : l < 1000000000000) (two : p.two = true) (df : p.df = false) (w : p.w = 0) (c : p.c = cc) (st : Strs m β p.c nx wt en) (hen : ∀ b, en b = p.e b) (mi : MI k m) (hN : toCome X.n p.r p.e < N)
    (hmet : ∀ k m, k < X.n false → k < X.n true → MI k m → (∀ b, m (β b) ≠ none) → ∀ s, s.low = X.N0 → CallsJ Try.prog Fin f (#[.agg (rw' false k).cs.toArray, .agg (rw' true k).cs.toArray] ++ cap) s m fun s' m' _ => s' = s ∧ MI (k + 1) m' ∧ ∀ b o, m (β b) = some o → m' (β b) = some o)
    (hfr : ∀ k m m', MI k m → ExtBut (fun γ => γ = β false ∨ γ = β true) m m' → MI k m')
    (MP : wt false = true → wt true = true → k < X.n false ∧ k < X.n true ∧ nx false = rw' false k ∧ nx true = rw' true k ∧ Far X.n p.r (fun _ => false) en (k + 1) l)
    (ME : en false = true → en true = true → ∃ b, k = X.n b ∧ X.n (!b) = k + l)
    (ML : (wt false && wt true) = false → (en false && en true) = false → (en false && wt true || en true && wt false) = true → Far X.n p.r (fun _ => false) en k (l + 1))
    (MN : (wt false && wt true) = false → (en false && en true) = false → (en false && wt true || en true && wt false) = false → Far X.n p.r wt en k l ∧ ∀ b, wt b = true → nx b = rw' b k)
    (hQ : ∀ p' m' k l x', p'.two = true → p'.df = false → p'.w = 0 → (∀ b, p'.e b = true) → (∃ b, k = X.n b ∧ X.n (!b) = k + l) → MI k m' → Q (.inn sh X p') m' .normal (actL A B (.func (.func f) #[] cap) W (β false) (β true) l x')) :
    wpJ Try.prog Fin 10 part2 (QJ.inBlock 1 (QJ.then (fun s' m' a' => LoopI X sh cc MI A B (.func (.func f) #[] cap) W β rw' s' m' a' ∧ muG s' < N) (QJ.inBlock 0 Q))) (.inn sh X p) m (actL A B (.func (.func f) #[] cap) W (β false) (β true) l x) := by
  have strs : ∀ {m'' : PM} {w0 w1 : Bool}, m'' (β false) = some (.cells (stC (p.c false) (nx false) w0 (en false)) 55 (0, 0)) → m'' (β true) = some (.cells (stC (p.c true) (nx true) w1 (en true)) 55 (0, 0)) → Strs m'' β p.c nx (fun b => if b then w1 else w0) en := by
    intro m'' w0 w1 h0 h1 b
    cases b
    · exact h0
    · exact h1
  have ff : (fun b : Bool => if b then false else false) = fun _ => false := by funext b; cases b <;> rfl
  refine part2_j (K := MI (k + 1)) hβ (st false) (st true) ⟨by omega, by omega⟩ (fun a1 a2 x' => ?_) (fun a1 a2 m' m'' x' hK k0 k1 hx => ?_) (fun a1 a2 a3 x' => ?_) (fun a1 a2 a3 m'' x' k0 k1 hx => ?_) (fun a1 a2 a3 x' => ?_)
  · obtain ⟨h1, h2, h3, h4, _⟩ := MP a1 a2
    have hc := hmet k m h1 h2 mi (fun b => by rw [st b]; simp) (.inn sh X p) rfl
    rw [← h3, ← h4] at hc
    refine reg12_j (st false) (st true) hc fun s' m' v x'' ⟨q1, q2, q3⟩ => ?_
    exact ⟨q1, ⟨x'', rfl⟩, q3 false _ (st false), q3 true _ (st true), q2⟩
  · obtain ⟨_, _, _, _, h5⟩ := MP a1 a2
    refine ⟨⟨p, nx, fun _ => false, en, k + 1, l, x', rfl, two, df, w, c, ff ▸ strs k0 k1, hen, hfr _ _ _ hK hx, fun b h => (by cases h), h5, rfl⟩, hN⟩
  · exact hQ p m k l x' two df w (fun b => by rw [← hen b]; cases b <;> assumption) (ME a2 a3) mi
  · refine ⟨⟨p, nx, fun _ => false, en, k, l + 1, x', rfl, two, df, w, c, ff ▸ strs k0 k1, hen, hfr _ _ _ mi hx, fun b h => (by cases h), ML a1 a2 a3, by simp⟩, hN⟩
  · obtain ⟨h1, h2⟩ := MN a1 a2 a3
    exact ⟨⟨p, nx, wt, en, k, l, x', rfl, two, df, w, c, st, hen, mi, h2, h1, rfl⟩, hN⟩

theorem far_val {n r : Bool → Nat} {wt en : Bool → Bool} {k l : Nat} {b : Bool} {nx : Bool → Rt} {f : Bool → Nat → Rt} (F : Far n r wt en k l) (hw : wt b = false) (he : en b = false) (hr : r b < n b) (hnx : ∀ b, wt b = true → nx b = f b k) :
    (updB wt b true false = true → updB wt b true true = true → k < n false ∧ k < n true ∧ updB nx b (f b (r b)) false = f false k ∧ updB nx b (f b (r b)) true = f true k ∧ Far n (updB r b (r b + 1)) (fun _ => false) en (k + 1) l) ∧
    (en false = true → en true = true → False) ∧
    ((updB wt b true false && updB wt b true true) = false → (en false && updB wt b true true || en true && updB wt b true false) = true → Far n (updB r b (r b + 1)) (fun _ => false) en k (l + 1)) ∧
    ((updB wt b true false && updB wt b true true) = false → (en false && updB wt b true true || en true && updB wt b true false) = false → Far n (updB r b (r b + 1)) (updB wt b true) en k l ∧ ∀ c, updB wt b true c = true → updB nx b (f b (r b)) c = f c k) := by
  cases F with
  | none h1 h2 h3 h4 =>
    have e0 := h1 false
    have e1 := h1 true
    have r0 := h2 false
    have r1 := h2 true
    have m0 := h3 false
    have m1 := h3 true
    refine ⟨fun a1 a2 => ?_, fun a1 _ => (by rw [e0] at a1; cases a1), fun _ a => (by rw [e0, e1] at a; simp at a), fun a _ => ⟨.none h1 (fun c => ?_) (fun c => ?_) ?_, fun c hc => ?_⟩⟩
    · cases b
      · rw [updB_ne _ _ (by simp)] at a2
        rw [hw] at r0
        rw [a2] at r1
        simp at r0 r1
        refine ⟨by omega, by omega, ?_, ?_, .none h1 (fun c => ?_) (fun c => ?_) ⟨false, rfl⟩⟩
        · rw [updB_same, r0]
        · rw [updB_ne _ _ (by simp)]; exact hnx true a2
        · cases c
          · rw [updB_same]; simp; omega
          · rw [updB_ne _ _ (by simp)]; simp; omega
        · cases c
          · rw [updB_same]; omega
          · rw [updB_ne _ _ (by simp)]; omega
      · rw [updB_ne _ _ (by simp)] at a1
        rw [hw] at r1
        rw [a1] at r0
        simp at r0 r1
        refine ⟨by omega, by omega, ?_, ?_, .none h1 (fun c => ?_) (fun c => ?_) ⟨false, rfl⟩⟩
        · rw [updB_ne _ _ (by simp)]; exact hnx false a1
        · rw [updB_same, r1]
        · cases c
          · rw [updB_ne _ _ (by simp)]; simp; omega
          · rw [updB_same]; simp; omega
        · cases c
          · rw [updB_ne _ _ (by simp)]; omega
          · rw [updB_same]; omega
    · by_cases h : c = b
      · subst h
        have := h2 c
        rw [hw] at this
        rw [updB_same, updB_same]
        simp at this ⊢
        omega
      · rw [updB_ne _ _ h, updB_ne _ _ h]; exact h2 c
    · by_cases h : c = b
      · subst h; rw [updB_same]; omega
      · rw [updB_ne _ _ h]; exact h3 c
    · refine ⟨!b, ?_⟩
      cases b
      · rw [updB_same] at a
        simpa using a
      · rw [updB_same] at a
        simpa using a
    · by_cases h : c = b
      · subst h
        have := h2 c
        rw [hw] at this
        simp at this
        rw [updB_same, this]
      · rw [updB_ne _ _ h] at hc ⊢; exact hnx c hc
  | one c h1 h2 h3 h4 h5 h6 h7 =>
    have hbc : b = !c := bool_ne fun e => by subst e; rw [h1] at he; cases he
    subst hbc
    refine ⟨fun a1 a2 => ?_, fun a1 a2 => ?_, fun _ _ => .one c h1 h2 (fun _ => rfl) ?_ h5 ?_ ?_, fun _ a => ?_⟩
    · cases c
      · rw [updB_ne _ _ (by simp), h3] at a1; cases a1
      · rw [updB_ne _ _ (by simp), h3] at a2; cases a2
    · cases c
      · simp at h2; rw [h2] at a2; cases a2
      · simp at h2; rw [h2] at a1; cases a1
    · rw [updB_ne _ _ (by cases c <;> simp)]; exact h4
    · rw [updB_same]; omega
    · rw [updB_same]; omega
    · cases c
      · rw [h1, show (!false) = true from rfl, updB_same] at a; simp at a
      · rw [h1, show (!true) = false from rfl, updB_same] at a; simp at a

theorem far_end {n r : Bool → Nat} {wt en : Bool → Bool} {k l : Nat} {b : Bool} {nx : Bool → Rt} {f : Bool → Nat → Rt} {y : Rt} (F : Far n r wt en k l) (hw : wt b = false) (he : en b = false) (hr : r b = n b) (hnx : ∀ b, wt b = true → nx b = f b k) :
    (wt false = true → wt true = true → False) ∧
    (updB en b true false = true → updB en b true true = true → ∃ b, k = n b ∧ n (!b) = k + l) ∧
    ((updB en b true false && updB en b true true) = false → (updB en b true false && wt true || updB en b true true && wt false) = true → Far n r (fun _ => false) (updB en b true) k (l + 1)) ∧
    ((updB en b true false && updB en b true true) = false → (updB en b true false && wt true || updB en b true true && wt false) = false → Far n r wt (updB en b true) k l ∧ ∀ c, wt c = true → updB nx b y c = f c k) := by
  cases F with
  | none h1 h2 h3 h4 =>
    have e1 := h1 (!b)
    have r0 := h2 b
    have r1 := h2 (!b)
    have m1 := h3 (!b)
    rw [hw] at r0
    simp at r0
    have hnb : ∀ {α : Type} (g : Bool → α) (v : α), updB g b v (!b) = g (!b) := fun g v => updB_ne _ _ (by cases b <;> simp)
    refine ⟨fun a1 a2 => (by cases b; rw [hw] at a1; cases a1; rw [hw] at a2; cases a2), fun a1 a2 => ?_, fun _ a => ?_, fun _ a => ⟨?_, fun c hc => ?_⟩⟩
    · cases b
      · rw [updB_ne _ _ (by simp), h1] at a2; cases a2
      · rw [updB_ne _ _ (by simp), h1] at a1; cases a1
    · have hwn : wt (!b) = true := by
        cases b
        · rw [updB_same, updB_ne _ _ (by simp), h1 true] at a; simpa using a
        · rw [updB_same, updB_ne _ _ (by simp), h1 false] at a; simpa using a
      rw [hwn] at r1
      simp at r1
      exact .one b (updB_same _ _ _) (by rw [hnb]; exact e1) (fun _ => rfl) hr (by omega) (by omega) m1
    · have hwn : wt (!b) = false := by
        cases b
        · rw [updB_same, updB_ne _ _ (by simp), h1 true] at a; simpa using a
        · rw [updB_same, updB_ne _ _ (by simp), h1 false] at a; simpa using a
      rw [hwn] at r1
      simp at r1
      exact .one b (updB_same _ _ _) (by rw [hnb]; exact e1) (fun c => by by_cases h : c = b; rw [h]; exact hw; rw [bool_ne h]; exact hwn) hr (by omega) (by omega) m1
    · rw [updB_ne _ _ (fun e => by rw [e, hw] at hc; cases hc)]; exact hnx c hc
  | one c h1 h2 h3 h4 h5 h6 h7 =>
    have hbc : b = !c := bool_ne fun e => by subst e; rw [h1] at he; cases he
    subst hbc
    refine ⟨fun a1 _ => (by rw [h3] at a1; cases a1), fun _ _ => ⟨c, h5, (by rw [← hr]; exact h6)⟩, fun a _ => ?_, fun a _ => ?_⟩
    · exfalso
      cases c
      · rw [updB_ne _ _ (by simp), h1, show (!false) = true from rfl, updB_same] at a; simp at a
      · rw [show (!true) = false from rfl, updB_same, updB_ne _ _ (by simp), h1] at a; simp at a
    · exfalso
      cases c
      · rw [updB_ne _ _ (by simp), h1, show (!false) = true from rfl, updB_same] at a; simp at a
      · rw [show (!true) = false from rfl, updB_same, updB_ne _ _ (by simp), h1] at a; simp at a

/-- ████ meet's LOOP. ████ -/
theorem loop_j {Q : QJ} {X : Cfg} {sh : Nat → Prop} {cc : Bool → Nat} {MI : Nat → PM → Prop} {A B : Value} {f : FuncId} {cap : Array Value} {W : Nat} {β : Bool → Nat} {rw' : Bool → Nat → Rt} {s : Gh} {m : PM} {a : Act}
    (hβ : β false ≠ β true) (hit : ∀ b k, X.it b k = .agg (rw' b k).cs.toArray) (hz0 : X.z = .agg r0.cs.toArray) (hbig : ∀ b, X.n b < 1000000000000)
    (hmet : ∀ k m, k < X.n false → k < X.n true → MI k m → (∀ b, m (β b) ≠ none) → ∀ s, s.low = X.N0 → CallsJ Try.prog Fin f (#[.agg (rw' false k).cs.toArray, .agg (rw' true k).cs.toArray] ++ cap) s m fun s' m' _ => s' = s ∧ MI (k + 1) m' ∧ ∀ b o, m (β b) = some o → m' (β b) = some o)
    (hfr : ∀ k m m', MI k m → ExtBut (fun γ => γ = β false ∨ γ = β true) m m' → MI k m')
    (hQ : ∀ p' m' k l x', p'.two = true → p'.df = false → p'.w = 0 → (∀ b, p'.e b = true) → (∃ b, k = X.n b ∧ X.n (!b) = k + l) → MI k m' → Q (.inn sh X p') m' .normal (actL A B (.func (.func f) #[] cap) W (β false) (β true) l x'))
    (h : LoopI X sh cc MI A B (.func (.func f) #[] cap) W β rw' s m a) : wpJ Try.prog Fin 10 meetLoop Q s m a := by
  refine wpJ_block (id := 0) ?_
  refine wpJ_loop (LoopI X sh cc MI A B (.func (.func f) #[] cap) W β rw') (fun s _ _ => muG s) h fun s m a hI => ?_
  obtain ⟨p, nx, wt, en, k, l, x, L⟩ := hI
  obtain rfl := L.hs
  obtain rfl := L.ha
  have hll : l < 1000000000000 := by
    cases L.far with
    | none => omega
    | one b h1 h2 h3 h4 h5 h6 h7 => have := hbig (!b); omega
  have een : en = p.e := funext L.hen
  have hex : ∀ {b : Bool} {m' : PM}, ExtBut (· = β b) m m' → ExtBut (fun γ => γ = β false ∨ γ = β true) m m' := fun {b m'} hx γ o hn e => hx γ o (fun h => hn (by cases b; exact .inl h; exact .inr h)) e
  have hβ' : ∀ {a b : Bool}, a ≠ b → β a ≠ β b := fun {a b} h e => by
    cases a <;> cases b
    · exact h rfl
    · exact hβ e
    · exact hβ e.symm
    · exact h rfl
  refine wpJ_block (id := 1) ?_
  refine wpJ_seq_l (y := part2) part1 rfl ?_
  refine part1_j hβ L.st L.two L.df L.hen hit hz0 ?_ (fun b m' x' hw he hr hst hx => ?_) (fun b m' x' hw he hr hst hx => ?_)
  · cases L.far with
    | none h1 h2 h3 h4 => obtain ⟨b, hb⟩ := h4; exact ⟨b, by rw [hb, h1]; rfl⟩
    | one b h1 h2 h3 h4 => exact ⟨!b, by rw [h3, h2]; rfl⟩
  · obtain ⟨f1, f2, f3, f4⟩ := far_val (f := rw') L.far hw he hr L.hnx
    refine mid_j (p := { p with r := updB p.r b (p.r b + 1) }) (nx := updB nx b (rw' b (p.r b))) (wt := updB wt b true) (en := en) (k := k) (l := l) hβ hll L.two L.df L.hw L.hc (fun c => ?_) L.hen (hfr _ _ _ L.mi (hex hx)) ?_ hmet hfr f1 (fun a1 a2 => (f2 a1 a2).elim) (fun a1 _ a3 => f3 a1 a3) (fun a1 _ a3 => f4 a1 a3) hQ
    · by_cases h : c = b
      · subst h; rw [updB_same, updB_same, he]; exact hst
      · rw [updB_ne _ _ h, updB_ne _ _ h]; exact hx _ _ (hβ' h) (L.st c)
    · show toCome X.n (updB p.r b (p.r b + 1)) p.e < toCome X.n p.r p.e
      exact toCome_up hr
  · obtain ⟨f1, f2, f3, f4⟩ := far_end (f := rw') (y := r0) L.far hw he hr L.hnx
    refine mid_j (p := { p with e := updB p.e b true }) (nx := updB nx b r0) (wt := wt) (en := updB en b true) (k := k) (l := l) hβ hll L.two L.df L.hw L.hc (fun c => ?_) (fun c => ?_) (hfr _ _ _ L.mi (hex hx)) ?_ hmet hfr (fun a1 a2 => (f1 a1 a2).elim) f2 (fun _ => f3) (fun _ => f4) hQ
    · by_cases h : c = b
      · subst h; rw [updB_same, updB_same, hw]; exact hst
      · rw [updB_ne _ _ h, updB_ne _ _ h]; exact hx _ _ (hβ' h) (L.st c)
    · rw [een]
    · show toCome X.n p.r (updB p.e b true) < toCome X.n p.r p.e
      exact toCome_end (by rw [← L.hen b]; exact he)
end
end Go.Proofs.Ytafnbmokegomaaa
