/-
  ████ WHATEVER THE TAPE, GOROUTINE 0 COMES TO ITS ANCHOR: each kind of step. ████
-/
import Derived.Test.YtafnbmokegomaaaReach
set_option linter.unusedSimpArgs false
namespace Go.Proofs.Ytafnbmokegomaaa
open Go.Conc
open Go.ConcR (KK wgBlock WgAt stA smA rd wr deafBehind_cons deafBehind_one)
open Go.ConcN (sumTo upd sumTo_upd upd_ne upd_same)

section
variable {X : Cfg} {p : Ph} {gs gs' : Array Goroutine} {w w' : World} {t T : Trace} {q : Nat → Nat} {id : Bool → Nat} {st : Bool → Option Stg} {sl : Option (Nat × Nat)} {g : Goroutine} {w0 : World}

theorem Sim.refl (g : Goroutine) : Sim g g := ⟨rfl, rfl, rfl⟩

/-- The machine went on by goroutine 0's step. -/
theorem onward {p' : Ph} {a' : Goroutine} {sl : Option (Nat × Nat)} (h : RR X p' a' w') (S : SI X p' gs' w' T q id st) (ha : gs'[0]? = some a') : Rch X (crowd gs' w' sl) T :=
  h.2 p'.pv gs' w' T q id st sl a' S (RM.refl _ _ _) ha (Sim.refl _) h.1

theorem chWg (S : SI X p gs w t q id st) {v : Value} : ((∀ b, p.born b → (w.setCell (stA X.Wg) v).heap[p.c b]? = w.heap[p.c b]?) ∧ ∀ b n, p.pv b n → (w.setCell (stA X.Wg) v).heap[n]? = w.heap[n]?) ∧
    ((∀ b, p.born b → (w.setCell (smA X.Wg) v).heap[p.c b]? = w.heap[p.c b]?) ∧ ∀ b n, p.pv b n → (w.setCell (smA X.Wg) v).heap[n]? = w.heap[n]?) :=
  ⟨⟨fun b hb => heap_setCell_ne (S.cge b hb).2, fun b n hn => heap_setCell_ne (S.pvl b n hn).2.2.2.1⟩, ⟨fun b hb => heap_setCell_ne (S.cge b hb).2, fun b n hn => heap_setCell_ne (S.pvl b n hn).2.2.2.1⟩⟩
theorem kWg (O : X.Ok) (S : SI X p gs w t q id st) {v : Int} : X.K (w.setCell (stA X.Wg) (.int .u64 v)) ∧ X.K (w.setCell (smA X.Wg) (.int .u32 v)) :=
  ⟨O.kf _ _ S.keep (by simp [World.setCell]) (S.stb O (rm_setSt w v)), O.kf _ _ S.keep (by simp [World.setCell]) (S.stb O (rm_setSm w v))⟩

theorem calm_of (S : SI X p gs w t q id st) (hw : p.w ≠ 1) : (∀ b, lastOf (st b) = false) ∧ WgAt X.ty X.Wg w (cntOf p st * KK) 0 := by
  cases S.wg with
  | calm _ hl h => exact ⟨hl, h⟩
  | wait h => exact absurd h hw
  | one h => exact absurd h hw
  | zero h => exact absurd h hw
  | up h => exact absurd h hw

theorem node_own (O : X.Ok) (hg : g.status = .running) (h : ∀ pv w₁, RM X p w0 pv w₁ → (stepG X.P true g w₁).goes fun g' w' es => DM X (p.to pv) w₁ w' es ∧ RR X (p.to pv) g' w') : RR X p g w0 := by
  refine awakeNode O hg fun pv gs w t q id st sl a S hR ha hs _ => ?_
  obtain ⟨g', w', es, e1, hD, hRR⟩ := goes_elim (h pv w hR)
  obtain ⟨h1, h2, h3, h4⟩ := evM_ops (X := X) (fn := a.frame.fn) (pos := a.frame.place) hD.ev
  obtain ⟨gs', r1, _, r3, r4⟩ := goOn (sl := sl) (p' := p.to pv) O S ha ((hs.stepG w).trans e1) ⟨rfl, rfl, rfl, rfl, rfl⟩ hD.sz (hD.k S.keep) (fun b hb => hD.fr _ (F_C hb)) (fun b n hn => hD.fr _ (F_pv hn)) (S.wg.world (hD.fr _ F_Wg)) S.w2 S.w10 ⟨h1, h2, h3⟩ (by rw [h4]; exact S.d0)
  exact ⟨_, _, r1, onward hRR r4 r3⟩

theorem node_mark (O : X.Ok) (hg : g.status = .running) (m : Mark) (hm : (p.df = false ∧ m = .disable) ∨ (p.df = true ∧ m = .enable))
    (h : ∀ pv w₁, RM X p w0 pv w₁ → ∃ g', stepG X.P true g w₁ = .go g' w₁ #[Go.ConcR.mk m] ∧ RR X { p.to pv with df := !p.df } g' w₁) : RR X p g w0 := by
  refine awakeNode O hg fun pv gs w t q id st sl a S hR ha hs _ => ?_
  obtain ⟨g', e1, hRR⟩ := h pv w hR
  have hT := wgM_ops O S (fn := a.frame.fn) (pos := a.frame.place) (es := #[Go.ConcR.mk m]) (fun e he => by
    simp only [List.mem_toArray, List.mem_singleton] at he
    subst he
    rcases hm with ⟨_, rfl⟩ | ⟨_, rfl⟩ <;> exact ⟨fun y hy => by simp [Go.ConcR.mk, MemAct.ofEvent, MemAct.touch?] at hy, trivial⟩)
  obtain ⟨gs', r1, _, r3, r4⟩ := goOn (sl := sl) (p' := { p.to pv with df := !p.df }) O S ha ((hs.stepG w).trans e1) ⟨rfl, rfl, rfl, rfl, rfl⟩ (Nat.le_refl _) S.keep (fun b hb => rfl) (fun _ _ _ => rfl) S.wg S.w2 S.w10 hT (by
    rw [S.d0]
    rcases hm with ⟨e, rfl⟩ | ⟨e, rfl⟩ <;> simp [e, Ph.to, Go.ConcR.mk, deafBehind])
  exact ⟨_, _, r1, onward hRR r4 r3⟩

theorem rdwr_all {w : World} (hsz : X.Wg < w.heap.size) {es : Array Event} (h : ∀ e ∈ es, e = rd (stA X.Wg) ∨ e = wr (stA X.Wg) ∨ e = rd (smA X.Wg) ∨ e = wr (smA X.Wg)) :
    ∀ e ∈ es, (∀ y, (MemAct.ofEvent e).touch? = some y → y.kind = .atomic ∧ ∃ a, y.loc = .cell a ∧ a.block = X.Wg) ∧ (MemAct.ofEvent e).low w.heap.size := fun e he => rdwr_ok hsz (h e he)

theorem node_add (O : X.Ok) (hg : g.status = .running) (h2 : p.two = false) (hA : p.ad = false) (hw : p.w = 0)
    (h : ∀ pv w₁ (v : Nat), RM X p w0 pv w₁ → v ≤ 1 → WgAt X.ty X.Wg w₁ (v * KK) 0 →
      ∃ g', stepG X.P true g w₁ = .go g' (w₁.setCell (stA X.Wg) (.int .u64 ((v + 1) * KK))) #[rd (stA X.Wg), wr (stA X.Wg)] ∧ RR X { p.to pv with ad := true } g' (w₁.setCell (stA X.Wg) (.int .u64 ((v + 1) * KK)))) : RR X p g w0 := by
  refine awakeNode O hg fun pv gs w t q id st sl a S hR ha hs _ => ?_
  obtain ⟨hl, hwA⟩ := calm_of S (by show p.w ≠ 1; omega)
  have ha1 : aOf (st false) ≤ 1 := by unfold aOf; split <;> omega
  have hc : cntOf (p.to pv) st = aOf (st false) := by simp [cntOf, Ph.to, h2, hA]
  obtain ⟨g', e1, hRR⟩ := h pv w (cntOf (p.to pv) st) hR (by omega) hwA
  have hT := wgM_ops O S (fn := a.frame.fn) (pos := a.frame.place) (rdwr_all (es := #[rd (stA X.Wg), wr (stA X.Wg)]) S.wsz (fun e he => by simp at he; rcases he with rfl | rfl <;> simp))
  have hsz : (w.setCell (stA X.Wg) (.int .u64 ((cntOf (p.to pv) st + 1) * KK))).heap.size = w.heap.size := by simp [World.setCell]
  obtain ⟨gs', r1, _, r3, r4⟩ := goOn (sl := sl) (p' := { p.to pv with ad := true }) O S ha ((hs.stepG w).trans e1) ⟨rfl, rfl, rfl, rfl, rfl⟩ (by rw [hsz]; exact Nat.le_refl _) (kWg O S).1 (chWg S).1.1 (chWg S).1.2
    (.calm (by show p.w ≠ 1; omega) hl (by
      have e : cntOf { p.to pv with ad := true } st = cntOf (p.to pv) st + 1 := by simp [cntOf, Ph.to, h2, hA]
      rw [e]
      have := hwA.setSt ((cntOf (p.to pv) st + 1) * KK)
      simpa using this)) (fun e => by have : p.w = 2 := e; omega) (fun v e => by have : p.w = 10 + v := e; omega) ⟨hT.1, hT.2.1, by rw [hsz]; exact hT.2.2⟩ (by
    have : deafBehind (Deaf t 0) #[rd (stA X.Wg), wr (stA X.Wg)] = Deaf t 0 := rfl
    rw [this]; exact S.d0)
  exact ⟨_, _, r1, onward hRR r4 r3⟩

theorem node_ld (O : X.Ok) (hg : g.status = .running) (bd : Nat) (hw : (p.w = 0 ∧ bd = 2) ∨ p.w = 10 + bd) (h : ∀ pv w₁ (v : Nat), RM X p w0 pv w₁ → v ≤ bd → WgAt X.ty X.Wg w₁ (v * KK) 0 →
      ∃ g', stepG X.P true g w₁ = .go g' w₁ #[rd (stA X.Wg)] ∧ RR X { p.to pv with w := if v = 0 then 2 else 10 + v } g' w₁) : RR X p g w0 := by
  refine awakeNode O hg fun pv gs w t q id st sl a S hR ha hs _ => ?_
  obtain ⟨hl, hwA⟩ := calm_of S (by show p.w ≠ 1; omega)
  obtain ⟨g', e1, hRR⟩ := h pv w (cntOf (p.to pv) st) hR (by rcases hw with ⟨_, e⟩ | e; rw [e]; exact cnt_le; exact S.w10 bd e) hwA
  have hT := wgM_ops O S (fn := a.frame.fn) (pos := a.frame.place) (rdwr_all (es := #[rd (stA X.Wg)]) S.wsz (fun e he => by simp at he; subst he; simp))
  obtain ⟨gs', r1, _, r3, r4⟩ := goOn (sl := sl) (p' := { p.to pv with w := if cntOf (p.to pv) st = 0 then 2 else 10 + cntOf (p.to pv) st }) O S ha ((hs.stepG w).trans e1) ⟨rfl, rfl, rfl, rfl, rfl⟩ (Nat.le_refl _) S.keep (fun b hb => rfl) (fun _ _ _ => rfl)
    (.calm (by show (if cntOf (p.to pv) st = 0 then 2 else 10 + cntOf (p.to pv) st) ≠ 1; split <;> omega) hl hwA) (fun e => by
      have e' : (if cntOf (p.to pv) st = 0 then 2 else 10 + cntOf (p.to pv) st) = 2 := e
      show cntOf (p.to pv) st = 0
      split at e' <;> omega) (fun v e => by
      have e' : (if cntOf (p.to pv) st = 0 then 2 else 10 + cntOf (p.to pv) st) = 10 + v := e
      show cntOf (p.to pv) st ≤ v
      split at e' <;> omega) hT (by
    have : deafBehind (Deaf t 0) #[rd (stA X.Wg)] = Deaf t 0 := rfl
    rw [this]; exact S.d0)
  exact ⟨_, _, r1, onward hRR r4 r3⟩

theorem node_cas (O : X.Ok) (hg : g.status = .running) (v0 : Nat) (hw : p.w = 10 + v0) (hv0 : v0 ≠ 0) (h : ∀ pv w₁ (v : Nat), RM X p w0 pv w₁ → v ≤ v0 → WgAt X.ty X.Wg w₁ (v * KK) 0 →
      (v = v0 → ∃ g', stepG X.P true g w₁ = .go g' (w₁.setCell (stA X.Wg) (.int .u64 (v * KK + 1))) #[rd (stA X.Wg), wr (stA X.Wg)] ∧ RR X { p.to pv with w := 1 } g' (w₁.setCell (stA X.Wg) (.int .u64 (v * KK + 1)))) ∧
      (v ≠ v0 → ∃ g', stepG X.P true g w₁ = .go g' w₁ #[rd (stA X.Wg)] ∧ RR X { p.to pv with w := 10 + v } g' w₁)) : RR X p g w0 := by
  refine awakeNode O hg fun pv gs w t q id st sl a S hR ha hs _ => ?_
  obtain ⟨hl, hwA⟩ := calm_of S (by show p.w ≠ 1; omega)
  obtain ⟨hit, miss⟩ := h pv w (cntOf (p.to pv) st) hR (S.w10 v0 hw) hwA
  by_cases hv : cntOf (p.to pv) st = v0
  · obtain ⟨g', e1, hRR⟩ := hit hv
    have hT := wgM_ops O S (fn := a.frame.fn) (pos := a.frame.place) (rdwr_all (es := #[rd (stA X.Wg), wr (stA X.Wg)]) S.wsz (fun e he => by simp at he; rcases he with rfl | rfl <;> simp))
    have hsz : (w.setCell (stA X.Wg) (.int .u64 (cntOf (p.to pv) st * KK + 1))).heap.size = w.heap.size := by simp [World.setCell]
    obtain ⟨gs', r1, _, r3, r4⟩ := goOn (sl := sl) (p' := { p.to pv with w := 1 }) O S ha ((hs.stepG w).trans e1) ⟨rfl, rfl, rfl, rfl, rfl⟩ (by rw [hsz]; exact Nat.le_refl _) (kWg O S).1 (chWg S).1.1 (chWg S).1.2
      (.wait rfl (by show 0 < cntOf (p.to pv) st; omega) hl (hwA.setSt _)) (fun e => by have : (1 : Nat) = 2 := e; omega) (fun v e => by have : (1 : Nat) = 10 + v := e; omega) ⟨hT.1, hT.2.1, by rw [hsz]; exact hT.2.2⟩ (by
      have : deafBehind (Deaf t 0) #[rd (stA X.Wg), wr (stA X.Wg)] = Deaf t 0 := rfl
      rw [this]; exact S.d0)
    exact ⟨_, _, r1, onward hRR r4 r3⟩
  · obtain ⟨g', e1, hRR⟩ := miss hv
    have hT := wgM_ops O S (fn := a.frame.fn) (pos := a.frame.place) (rdwr_all (es := #[rd (stA X.Wg)]) S.wsz (fun e he => by simp at he; subst he; simp))
    obtain ⟨gs', r1, _, r3, r4⟩ := goOn (sl := sl) (p' := { p.to pv with w := 10 + cntOf (p.to pv) st }) O S ha ((hs.stepG w).trans e1) ⟨rfl, rfl, rfl, rfl, rfl⟩ (Nat.le_refl _) S.keep (fun b hb => rfl) (fun _ _ _ => rfl)
      (.calm (by show 10 + cntOf (p.to pv) st ≠ 1; omega) hl hwA) (fun e => by have : 10 + cntOf (p.to pv) st = 2 := e; omega) (fun v e => by have : 10 + cntOf (p.to pv) st = 10 + v := e; show cntOf (p.to pv) st ≤ v; omega) hT (by
      have : deafBehind (Deaf t 0) #[rd (stA X.Wg)] = Deaf t 0 := rfl
      rw [this]; exact S.d0)
    exact ⟨_, _, r1, onward hRR r4 r3⟩

theorem node_look (O : X.Ok) (hg : g.status = .running) (hw : p.w = 2) (h : ∀ pv w₁, RM X p w0 pv w₁ → WgAt X.ty X.Wg w₁ 0 0 → ∃ g', stepG X.P true g w₁ = .go g' w₁ #[rd (stA X.Wg)] ∧ RR X (p.to pv) g' w₁) : RR X p g w0 := by
  refine awakeNode O hg fun pv gs w t q id st sl a S hR ha hs _ => ?_
  obtain ⟨hl, hwA⟩ := calm_of S (by show p.w ≠ 1; omega)
  rw [S.w2 hw] at hwA
  obtain ⟨g', e1, hRR⟩ := h pv w hR (by simpa using hwA)
  have hT := wgM_ops O S (fn := a.frame.fn) (pos := a.frame.place) (rdwr_all (es := #[rd (stA X.Wg)]) S.wsz (fun e he => by simp at he; subst he; simp))
  obtain ⟨gs', r1, _, r3, r4⟩ := goOn (sl := sl) (p' := p.to pv) O S ha ((hs.stepG w).trans e1) ⟨rfl, rfl, rfl, rfl, rfl⟩ (Nat.le_refl _) S.keep (fun b hb => rfl) (fun _ _ _ => rfl) S.wg S.w2 S.w10 hT (by
    have : deafBehind (Deaf t 0) #[rd (stA X.Wg)] = Deaf t 0 := rfl
    rw [this]; exact S.d0)
  exact ⟨_, _, r1, onward hRR r4 r3⟩

theorem node_done (hg : g.status = .running) (h2 : p.two = true) (he : ∀ b, p.e b = true) (hd : p.df = false) (hw : p.w = 2) (h : ∀ pv w₁, RM X p w0 pv w₁ → X.Anch g w₁) : RR X p g w0 := by
  refine ⟨hg, fun pv gs w t q id st sl a S hR ha hs hr => ⟨0, _, t, rfl, gs, w, sl, fun i => q i, a, g, rfl, ha, hs, hr, h pv w hR, ⟨fun i x hi hx => ?_, S.above⟩, ?_, S.keep, S.tr.soft⟩⟩
  · obtain ⟨hl, _⟩ := calm_of S (by show p.w ≠ 1; omega)
    have hc := S.w2 hw
    by_cases hb : ∃ b, (p.to pv).born b ∧ i = id b
    · obtain ⟨b, hb, rfl⟩ := hb
      obtain ⟨y, hy, hS⟩ := S.snd b hb
      rw [hx] at hy
      obtain rfl := Option.some.inj hy
      have hlb := hl b
      have hcb : aOf (st b) = 0 := by
        unfold cntOf at hc
        have h2' : (p.to pv).two = true := h2
        rw [h2'] at hc
        simp only [if_true] at hc
        cases b <;> omega
      generalize hst : st b = s at hS hlb hcb
      generalize Deaf t (id b) = d0 at hS ⊢
      generalize q (id b) = q0 at hS ⊢
      cases hS with
      | @run s m g d hd h => cases s <;> simp [aOf, lastOf] at hcb hlb
      | park hd hk h => simp [aOf] at hcb
      | @quit m d g h =>
        have mono : ∀ {m n d : Nat} {g : Goroutine}, m ≤ n → QuitsD X.P m d g → QuitsD X.P n d g := by
          intro m n d g hmn
          induction m generalizing n d g with
          | zero => intro h; cases n with
            | zero => exact h
            | succ n => exact .inl h
          | succ m ih =>
            intro h
            obtain ⟨n, rfl⟩ : ∃ k, n = k + 1 := ⟨n - 1, by omega⟩
            rcases h with h | ⟨h1, g', es, h2, h3, h4⟩
            · exact .inl h
            · exact .inr ⟨h1, g', es, h2, h3, ih (by omega) h4⟩
        exact mono (by omega) h
    · obtain ⟨m, hqi, hq⟩ := S.old i x hi (fun b hb' e => hb ⟨b, hb', e⟩) hx
      have mono : ∀ {m n d : Nat} {g : Goroutine}, m ≤ n → QuitsD X.P m d g → QuitsD X.P n d g := by
        intro m n d g hmn
        induction m generalizing n d g with
        | zero => intro h; cases n with
          | zero => exact h
          | succ n => exact .inl h
        | succ m ih =>
          intro h
          obtain ⟨n, rfl⟩ : ∃ k, n = k + 1 := ⟨n - 1, by omega⟩
          rcases h with h | ⟨h1, g', es, h2, h3, h4⟩
          · exact .inl h
          · exact .inr ⟨h1, g', es, h2, h3, ih (by omega) h4⟩
      exact mono (by omega) hq
  · exact S.tr.toPast (by rw [S.d0]; show (if p.df then 1 else 0) = 0; rw [hd]; rfl) fun g ⟨b, _, _, e⟩ => by have e' : p.e b = false := e; rw [he b] at e'; cases e'
end
end Go.Proofs.Ytafnbmokegomaaa
