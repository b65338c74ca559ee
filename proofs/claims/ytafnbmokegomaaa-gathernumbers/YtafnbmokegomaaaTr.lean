/-
  THE TRACE WHILE TWO SENDERS ARE AT WORK BESIDE GOROUTINE 0: no data race; goroutine 0 knows every touch but atomic ones of shunned places and plain reads of still places by a sender that is not yet joined.
-/
import Derived.Conc.TokenTrace
import Derived.Conc.CrowdCom2
namespace Go.Proofs.Ytafnbmokegomaaa
open Go.Conc

structure TrI (Shun New Still : Loc → Prop) (B : Nat) (Mem Un : Nat → Prop) (Pv : Nat → Loc → Prop) (t : Trace) : Prop where
  clean : ∀ said, ¬ Race said t
  known : ∀ i a, touchAt t i = some a → a.loc.isMemory = true → Knows t 0 i ∨ (Shun a.loc ∧ a.kind = .atomic) ∨ (a.kind = .plain ∧ ∃ g, t.g? i = some g ∧ Un g ∧ ((a.write = false ∧ Still a.loc) ∨ Pv g a.loc))
  wrote : ∀ i a, touchAt t i = some a → a.write = true → Still a.loc → Knows t 0 i ∧ ∀ g, Mem g → Knows t g i
  soft : ∀ i a, touchAt t i = some a → New a.loc → a.kind ≠ .plain
  over : ∀ i g, t.g? i = some g → g ≠ 0 → t.counts i → (∃ j, t.g? j = some 0 ∧ HappensBefore t i j) ∨ Un g
  priv : ∀ i a g, touchAt t i = some a → Pv g a.loc → t.g? i = some g
  seen : ∀ op ∈ t, op.act.low B

/-- The sender g has closed c, hearing; all that counts of it stands at or ahead of that. -/
def ClosedAt (g c : Nat) (t : Trace) : Prop :=
  ∃ y, t.act? y = some (.close c) ∧ t.heard y ∧ t.g? y = some g ∧ ∀ i a, t.g? i = some g → touchAt t i = some a → (a.kind ≠ .atomic ∨ t.heard i) → i ≤ y

section
variable {Shun New Still : Loc → Prop} {B : Nat} {Mem Un : Nat → Prop} {Pv : Nat → Loc → Prop} {t u : Trace}

theorem lt_of_g? {i g : Nat} (h : t.g? i = some g) : i < t.size := by
  unfold Trace.g? at h
  obtain ⟨z, hz, _⟩ := Option.map_eq_some_iff.1 h
  exact lt_size_of_getElem? hz

theorem TrI.mono {B' : Nat} (h : TrI Shun New Still B Mem Un Pv t) (hB : B ≤ B') : TrI Shun New Still B' Mem Un Pv t :=
  ⟨h.clean, h.known, h.wrote, h.soft, h.over, h.priv, fun op hop => MemAct.low_mono hB (h.seen op hop)⟩

theorem over_old (h : TrI Shun New Still B Mem Un Pv t) {i g : Nat} (hi : i < t.size) (hg : (t ++ u).g? i = some g) (hne : g ≠ 0) (hc : (t ++ u).counts i) :
    (∃ j, (t ++ u).g? j = some 0 ∧ HappensBefore (t ++ u) i j) ∨ Un g := by
  rw [g?_old hi] at hg
  rcases h.over i g hg hne ((counts_old hi).1 hc) with ⟨j, hj, hb⟩ | hu
  · exact .inl ⟨j, by rw [g?_old (lt_of_g? hj)]; exact hj, hb_app u hb⟩
  · exact .inr hu

theorem known_old (h : TrI Shun New Still B Mem Un Pv t) {i : Nat} {a : Touch} {x : MemOp} (hi : i < t.size) (hx' : t[i]? = some x) (hxa : x.act.touch? = some a) (hm : a.loc.isMemory = true) :
    Knows (t ++ u) 0 i ∨ (Shun a.loc ∧ a.kind = .atomic) ∨ (a.kind = .plain ∧ ∃ g, (t ++ u).g? i = some g ∧ Un g ∧ ((a.write = false ∧ Still a.loc) ∨ Pv g a.loc)) := by
  rcases h.known i a (by rw [touchAt_of hx']; exact hxa) hm with hk | hs | ⟨q, g, hg, hu⟩
  · exact .inl (hk.app u)
  · exact .inr (.inl hs)
  · exact .inr (.inr ⟨q, g, by rw [g?_old hi]; exact hg, hu⟩)

theorem priv_old (h : TrI Shun New Still B Mem Un Pv t) {i : Nat} {a : Touch} {x : MemOp} {g : Nat} (hi : i < t.size) (hx' : t[i]? = some x) (hxa : x.act.touch? = some a) (hp : Pv g a.loc) : (t ++ u).g? i = some g := by
  rw [g?_old hi]; exact h.priv i a g (by rw [touchAt_of hx']; exact hxa) hp

/-- Goroutine 0's own operations. -/
theorem TrI.app0 (h : TrI Shun New Still B Mem Un Pv t) (hNS : ∀ l, New l → Shun l) (hu : ∀ op ∈ u, op.g = 0)
    (hs : ∀ op ∈ u, ∀ b, op.act.touch? = some b → (Shun b.loc → b.kind ≠ .plain) ∧ (Still b.loc → b.write = false) ∧ ∀ g, ¬ Pv g b.loc) (hl : ∀ op ∈ u, op.act.low B) :
    TrI Shun New Still B Mem Un Pv (t ++ u) := by
  refine ⟨fun said => noRace_append (h.clean said) hu fun i a ha op hop b hb hc => ?_, fun i a ha hm => ?_, fun i a ha hw hS => ?_, fun i a ha hN => ?_, fun i g hg hne hc => ?_, fun i a g ha hp => ?_, seen_app h.seen hl⟩
  · rcases h.known i a ha hc.2.1 with hk | ⟨hsa, hka⟩ | ⟨hk, g, _, _, ⟨hw, hS⟩ | hpv⟩
    · exact hk
    · have hkb := (hs op hop b hb).1 (hc.1 ▸ hsa)
      obtain ⟨_, _, _, hcase⟩ := hc
      rw [hka] at hcase
      rcases hcase with x | x | ⟨_, x, _⟩
      · cases x
      · exact absurd x hkb
      · cases x
    · have hb0 := (hs op hop b hb).2.1 (hc.1 ▸ hS)
      rcases hc.2.2.1 with x | x
      · rw [hw] at x; cases x
      · rw [hb0] at x; cases x
    · exact absurd (hc.1 ▸ hpv) ((hs op hop b hb).2.2 g)
  · obtain ⟨x, hx, hxa⟩ := touch_of ha
    rcases getElem?_append_cases hx with ⟨hi, hx'⟩ | ⟨_, hxu⟩
    · exact known_old h hi hx' hxa hm
    · have := knows_own hx
      rw [hu x hxu] at this
      exact .inl this
  · obtain ⟨x, hx, hxa⟩ := touch_of ha
    rcases getElem?_append_cases hx with ⟨_, hx'⟩ | ⟨_, hxu⟩
    · have := h.wrote i a (by rw [touchAt_of hx']; exact hxa) hw hS
      exact ⟨this.1.app u, fun g hg => (this.2 g hg).app u⟩
    · rw [(hs x hxu a hxa).2.1 hS] at hw; cases hw
  · obtain ⟨x, hx, hxa⟩ := touch_of ha
    rcases getElem?_append_cases hx with ⟨_, hx'⟩ | ⟨_, hxu⟩
    · exact h.soft i a (by rw [touchAt_of hx']; exact hxa) hN
    · exact (hs x hxu a hxa).1 (hNS _ hN)
  · rcases Nat.lt_or_ge i t.size with hi | hi
    · exact over_old h hi hg hne hc
    · obtain ⟨z, hz, hzg⟩ := Option.map_eq_some_iff.1 hg
      rcases getElem?_append_cases hz with ⟨hi', _⟩ | ⟨_, hzu⟩
      · omega
      · rw [hu z hzu] at hzg; exact absurd hzg.symm hne
  · obtain ⟨x, hx, hxa⟩ := touch_of ha
    rcases getElem?_append_cases hx with ⟨hi, hx'⟩ | ⟨_, hxu⟩
    · exact priv_old h hi hx' hxa hp
    · exact absurd hp ((hs x hxu a hxa).2.2 g)

/-- Operations that touch nothing, whoever makes them. -/
theorem TrI.appMute (h : TrI Shun New Still B Mem Un Pv t) (hn : ∀ op ∈ u, op.act.touch? = none) (hl : ∀ op ∈ u, op.act.low B) : TrI Shun New Still B Mem Un Pv (t ++ u) := by
  refine ⟨fun said => noRace_appendMute (h.clean said) hn, fun i a ha hm => ?_, fun i a ha hw hS => ?_, fun i a ha hN => ?_, fun i g hg hne hc => ?_, fun i a g ha hp => ?_, seen_app h.seen hl⟩
  · obtain ⟨x, hx, hxa⟩ := touch_of ha
    rcases getElem?_append_cases hx with ⟨hi, hx'⟩ | ⟨_, hxu⟩
    · exact known_old h hi hx' hxa hm
    · rw [hn x hxu] at hxa; cases hxa
  · obtain ⟨x, hx, hxa⟩ := touch_of ha
    rcases getElem?_append_cases hx with ⟨_, hx'⟩ | ⟨_, hxu⟩
    · have := h.wrote i a (by rw [touchAt_of hx']; exact hxa) hw hS
      exact ⟨this.1.app u, fun g hg => (this.2 g hg).app u⟩
    · rw [hn x hxu] at hxa; cases hxa
  · obtain ⟨x, hx, hxa⟩ := touch_of ha
    rcases getElem?_append_cases hx with ⟨_, hx'⟩ | ⟨_, hxu⟩
    · exact h.soft i a (by rw [touchAt_of hx']; exact hxa) hN
    · rw [hn x hxu] at hxa; cases hxa
  · obtain ⟨a, ha, _⟩ := hc
    obtain ⟨x, hx, hxa⟩ := touch_of ha
    rcases getElem?_append_cases hx with ⟨hi, _⟩ | ⟨_, hxu⟩
    · exact over_old h hi hg hne ⟨a, ha, ‹_›⟩
    · rw [hn x hxu] at hxa; cases hxa
  · obtain ⟨x, hx, hxa⟩ := touch_of ha
    rcases getElem?_append_cases hx with ⟨hi, hx'⟩ | ⟨_, hxu⟩
    · exact priv_old h hi hx' hxa hp
    · rw [hn x hxu] at hxa; cases hxa

/-- A sender reads still places, and does with its private ones what it will. -/
theorem TrI.appRead {g : Nat} (h : TrI Shun New Still B Mem Un Pv t) (hd : ∀ l, New l → ¬ Still l) (hdp : ∀ l, New l → ¬ Pv g l) (hsp : ∀ g l, Still l → ¬ Pv g l) (hg : Mem g) (hU : Un g) (hu : ∀ op ∈ u, op.g = g)
    (hr : ∀ op ∈ u, ∀ b, op.act.touch? = some b → b.kind = .plain ∧ ((b.write = false ∧ Still b.loc) ∨ Pv g b.loc)) (hpp : ∀ g' l, Pv g l → Pv g' l → g' = g) (hl : ∀ op ∈ u, op.act.low B) : TrI Shun New Still B Mem Un Pv (t ++ u) := by
  refine ⟨fun said => noRace_append (h.clean said) hu fun i a ha op hop b hb hc => ?_, fun i a ha hm => ?_, fun i a ha hw hS => ?_, fun i a ha hN => ?_, fun i g' hg' hne hc => ?_, fun i a g' ha hp => ?_, seen_app h.seen hl⟩
  · obtain ⟨_, ⟨hb0, hbS⟩ | hbP⟩ := hr op hop b hb
    · rcases hc.2.2.1 with x | x
      · exact (h.wrote i a ha x (hc.1 ▸ hbS)).2 g hg
      · rw [hb0] at x; cases x
    · have hgi := h.priv i a g ha (hc.1 ▸ hbP)
      obtain ⟨z, hz, hzg⟩ := Option.map_eq_some_iff.1 hgi
      have := knows_own hz
      rw [hzg] at this
      exact this
  · obtain ⟨x, hx, hxa⟩ := touch_of ha
    rcases getElem?_append_cases hx with ⟨hi, hx'⟩ | ⟨_, hxu⟩
    · exact known_old h hi hx' hxa hm
    · obtain ⟨q, r⟩ := hr x hxu a hxa
      exact .inr (.inr ⟨q, g, by rw [g?_of hx, hu x hxu], hU, r⟩)
  · obtain ⟨x, hx, hxa⟩ := touch_of ha
    rcases getElem?_append_cases hx with ⟨_, hx'⟩ | ⟨_, hxu⟩
    · have := h.wrote i a (by rw [touchAt_of hx']; exact hxa) hw hS
      exact ⟨this.1.app u, fun g hg => (this.2 g hg).app u⟩
    · rcases (hr x hxu a hxa).2 with ⟨e, _⟩ | e
      · rw [e] at hw; cases hw
      · exact absurd e (hsp g _ hS)
  · obtain ⟨x, hx, hxa⟩ := touch_of ha
    rcases getElem?_append_cases hx with ⟨_, hx'⟩ | ⟨_, hxu⟩
    · exact h.soft i a (by rw [touchAt_of hx']; exact hxa) hN
    · rcases (hr x hxu a hxa).2 with ⟨_, e⟩ | e
      · exact absurd e (hd _ hN)
      · exact absurd e (hdp _ hN)
  · rcases Nat.lt_or_ge i t.size with hi | hi
    · exact over_old h hi hg' hne hc
    · obtain ⟨z, hz, hzg⟩ := Option.map_eq_some_iff.1 hg'
      rcases getElem?_append_cases hz with ⟨hi', _⟩ | ⟨_, hzu⟩
      · omega
      · rw [hu z hzu] at hzg; exact .inr (hzg ▸ hU)
  · obtain ⟨x, hx, hxa⟩ := touch_of ha
    rcases getElem?_append_cases hx with ⟨hi, hx'⟩ | ⟨_, hxu⟩
    · exact priv_old h hi hx' hxa hp
    · rcases (hr x hxu a hxa).2 with ⟨_, e⟩ | e
      · exact absurd hp (hsp g' _ e)
      · rw [g?_of hx, hu x hxu, hpp g' _ e hp]

/-- A sender has a private place more, which nobody has touched. -/
theorem TrI.own {Pv' : Nat → Loc → Prop} (h : TrI Shun New Still B Mem Un Pv t) (hP : ∀ g l, Pv g l → Pv' g l) (hn : ∀ g l, Pv' g l → Pv g l ∨ ¬ l.low B) : TrI Shun New Still B Mem Un Pv' t := by
  refine ⟨h.clean, fun i a ha hm => ?_, h.wrote, h.soft, h.over, fun i a g ha hp => ?_, h.seen⟩
  · rcases h.known i a ha hm with hk | hs | ⟨q, g, hg, hu, r⟩
    · exact .inl hk
    · exact .inr (.inl hs)
    · exact .inr (.inr ⟨q, g, hg, hu, r.imp (fun x => x) (hP g _)⟩)
  · rcases hn g _ hp with hp' | hlow
    · exact h.priv i a g ha hp'
    · exfalso
      obtain ⟨x, hx, hxa⟩ := touch_of ha
      have hl := h.seen x (mem_of_getElem? hx)
      apply hlow
      obtain ⟨g, fn, pos, act⟩ := x
      cases act with
      | access e => simp [MemAct.touch?] at hxa; subst hxa; exact hl
      | mark m => cases m <;> simp [MemAct.touch?] at hxa <;> subst hxa <;> exact hl
      | _ => simp [MemAct.touch?] at hxa

/-- A sender's atomic touches of new places. -/
theorem TrI.appAtom {g : Nat} (h : TrI Shun New Still B Mem Un Pv t) (hNS : ∀ l, New l → Shun l) (hd : ∀ l, New l → ¬ Still l) (hdp : ∀ g l, New l → ¬ Pv g l) (hu : ∀ op ∈ u, op.g = g)
    (hr : ∀ op ∈ u, ∀ b, op.act.touch? = some b → b.kind = .atomic ∧ New b.loc) (ho : ∀ i, t.size ≤ i → (t ++ u).counts i → Un g) (hl : ∀ op ∈ u, op.act.low B) : TrI Shun New Still B Mem Un Pv (t ++ u) := by
  refine ⟨fun said => noRace_append (h.clean said) hu fun i a ha op hop b hb hc => ?_, fun i a ha hm => ?_, fun i a ha hw hS => ?_, fun i a ha hN => ?_, fun i g' hg' hne hc => ?_, fun i a g' ha hp => ?_, seen_app h.seen hl⟩
  · obtain ⟨hb0, hbN⟩ := hr op hop b hb
    have ha0 := h.soft i a ha (hc.1 ▸ hbN)
    obtain ⟨_, _, _, hcase⟩ := hc
    rcases hcase with x | x | ⟨_, _, x⟩
    · exact absurd x ha0
    · rw [hb0] at x; cases x
    · rw [hb0] at x; cases x
  · obtain ⟨x, hx, hxa⟩ := touch_of ha
    rcases getElem?_append_cases hx with ⟨hi, hx'⟩ | ⟨_, hxu⟩
    · exact known_old h hi hx' hxa hm
    · obtain ⟨p, q⟩ := hr x hxu a hxa
      exact .inr (.inl ⟨hNS _ q, p⟩)
  · obtain ⟨x, hx, hxa⟩ := touch_of ha
    rcases getElem?_append_cases hx with ⟨_, hx'⟩ | ⟨_, hxu⟩
    · have := h.wrote i a (by rw [touchAt_of hx']; exact hxa) hw hS
      exact ⟨this.1.app u, fun g hg => (this.2 g hg).app u⟩
    · exact absurd hS (hd _ (hr x hxu a hxa).2)
  · obtain ⟨x, hx, hxa⟩ := touch_of ha
    rcases getElem?_append_cases hx with ⟨_, hx'⟩ | ⟨_, hxu⟩
    · exact h.soft i a (by rw [touchAt_of hx']; exact hxa) hN
    · rw [(hr x hxu a hxa).1]; intro e; cases e
  · rcases Nat.lt_or_ge i t.size with hi | hi
    · exact over_old h hi hg' hne hc
    · obtain ⟨z, hz, hzg⟩ := Option.map_eq_some_iff.1 hg'
      rcases getElem?_append_cases hz with ⟨hi', _⟩ | ⟨_, hzu⟩
      · omega
      · rw [hu z hzu] at hzg; exact .inr (hzg ▸ ho i hi hc)
  · obtain ⟨x, hx, hxa⟩ := touch_of ha
    rcases getElem?_append_cases hx with ⟨hi, hx'⟩ | ⟨_, hxu⟩
    · exact priv_old h hi hx' hxa hp
    · exact absurd hp (hdp g' _ (hr x hxu a hxa).2)

/-- Goroutine 0 finds the sender's channel closed: that sender is joined. -/
theorem TrI.join {g c : Nat} (h : TrI Shun New Still B Mem Un Pv t) (h0 : Deaf t 0 = 0) (hc : ClosedAt g c t) (fn : FuncId) (pos : String) (hB : c < B) :
    TrI Shun New Still B Mem (fun x => Un x ∧ x ≠ g) Pv (t ++ #[{ g := 0, fn := fn, pos := pos, act := .recvClosed c }]) := by
  obtain ⟨y, hya, hyh, hyg, hyl⟩ := hc
  generalize hu : (#[{ g := 0, fn := fn, pos := pos, act := .recvClosed c }] : Trace) = u
  have hlt := lt_of_g? hyg
  have hmem : ∀ op ∈ u, op = { g := 0, fn := fn, pos := pos, act := .recvClosed c } := by
    intro op hop; subst hu; simpa using hop
  have hn : ∀ op ∈ u, op.act.touch? = none := fun op hop => by rw [hmem op hop]; rfl
  have hl : ∀ op ∈ u, op.act.low B := fun op hop => by rw [hmem op hop]; exact hB
  have e0 : (t ++ u)[t.size]? = some { g := 0, fn := fn, pos := pos, act := .recvClosed c } := by subst hu; simp
  have edge : HappensBefore (t ++ u) y t.size :=
    Relation.TransGen.single (.inr ⟨.closed (by rw [act?_old hlt]; exact hya) (act?_of e0), (heard_old hlt).2 hyh, ⟨0, g?_of e0, by rw [deaf_old (Nat.le_refl _)]; exact h0⟩⟩)
  have key : ∀ i a, t.g? i = some g → touchAt t i = some a → (a.kind ≠ .atomic ∨ t.heard i) → HappensBefore (t ++ u) i t.size := by
    intro i a hg ha hk
    have hle := hyl i a hg ha hk
    rcases Nat.lt_or_ge i y with hlt' | hge
    · obtain ⟨x, hx, hxg⟩ := Option.map_eq_some_iff.1 hg
      obtain ⟨z, hz, hzg⟩ := Option.map_eq_some_iff.1 hyg
      exact (hb_app u (hb_po hlt' hx hz (hxg.trans hzg.symm))).trans edge
    · obtain rfl : i = y := by omega
      exact edge
  have H := h.appMute hn hl
  refine ⟨H.clean, fun i a ha hm => ?_, H.wrote, H.soft, fun i g' hg' hne hcn => ?_, H.priv, H.seen⟩
  · rcases H.known i a ha hm with hk | hs | ⟨q, g', hg', hU, r⟩
    · exact .inl hk
    · exact .inr (.inl hs)
    · by_cases e : g' = g
      · subst e
        obtain ⟨x, hx, hxa⟩ := touch_of ha
        rcases getElem?_append_cases hx with ⟨hi, hx'⟩ | ⟨_, hxu⟩
        · exact .inl ⟨t.size, _, e0, rfl, .inr (key i a (by rw [← g?_old (u := u) hi]; exact hg') (by rw [touchAt_of hx']; exact hxa) (.inl (by rw [q]; intro e; cases e)))⟩
        · rw [hn x hxu] at hxa; cases hxa
      · exact .inr (.inr ⟨q, g', hg', ⟨hU, e⟩, r⟩)
  · rcases H.over i g' hg' hne hcn with hb | hU
    · exact .inl hb
    · by_cases e : g' = g
      · subst e
        obtain ⟨a, ha, hm, hk⟩ := hcn
        obtain ⟨x, hx, hxa⟩ := touch_of ha
        rcases getElem?_append_cases hx with ⟨hi, hx'⟩ | ⟨_, hxu⟩
        · exact .inl ⟨t.size, by rw [g?_of e0], key i a (by rw [← g?_old (u := u) hi]; exact hg') (by rw [touchAt_of hx']; exact hxa) (hk.imp id (heard_old hi).1)⟩
        · rw [hn x hxu] at hxa; cases hxa
      · exact .inr ⟨hU, e⟩

/-- Goroutine 0 starts a sender. -/
theorem TrI.spawn {c : Nat} (h : TrI Shun New Still B Mem Un Pv t) (h0 : Deaf t 0 = 0) (hc0 : Deaf t c = 0) (fh : FuncId) (ph : String) (fc : FuncId) (pc : String) :
    TrI Shun New Still B (fun g => Mem g ∨ g = c) (fun g => Un g ∨ g = c) Pv (t ++ #[{ g := 0, fn := fh, pos := ph, act := .go c }, { g := c, fn := fc, pos := pc, act := .start }]) := by
  generalize hu : (#[{ g := 0, fn := fh, pos := ph, act := .go c }, { g := c, fn := fc, pos := pc, act := .start }] : Trace) = u
  have hn : ∀ op ∈ u, op.act.touch? = none := by
    intro op hop; subst hu
    simp only [List.mem_toArray, List.mem_cons, List.not_mem_nil, or_false] at hop
    rcases hop with rfl | rfl <;> rfl
  have hq : ∀ g, ∀ op ∈ u, ∀ d, deafStep g d op = d := by
    intro g op hop d; subst hu
    simp only [List.mem_toArray, List.mem_cons, List.not_mem_nil, or_false] at hop
    rcases hop with rfl | rfl <;> rfl
  have hl : ∀ op ∈ u, op.act.low B := by
    intro op hop; subst hu
    simp only [List.mem_toArray, List.mem_cons, List.not_mem_nil, or_false] at hop
    rcases hop with rfl | rfl <;> trivial
  have e0 : (t ++ u)[t.size]? = some { g := 0, fn := fh, pos := ph, act := .go c } := by subst hu; simp
  have e1 : (t ++ u)[t.size + 1]? = some { g := c, fn := fc, pos := pc, act := .start } := by subst hu; simp
  have edge : HappensBefore (t ++ u) t.size (t.size + 1) :=
    Relation.TransGen.single (.inr ⟨.spawn (act?_of e0) (act?_of e1) (g?_of e1), ⟨0, g?_of e0, by rw [deaf_old (Nat.le_refl _)]; exact h0⟩, ⟨c, g?_of e1, by rw [deaf_quiet (hq c) 1 (by subst hu; simp)]; exact hc0⟩⟩)
  have H := h.appMute hn hl
  refine ⟨H.clean, fun i a ha hm => ?_, fun i a ha hw hS => ?_, H.soft, fun i g hg hne hc => (H.over i g hg hne hc).imp id .inl, H.priv, H.seen⟩
  · rcases H.known i a ha hm with hk | hs | ⟨q, g', hg', hU, r⟩
    · exact .inl hk
    · exact .inr (.inl hs)
    · exact .inr (.inr ⟨q, g', hg', .inl hU, r⟩)
  · obtain ⟨x, hx, hxa⟩ := touch_of ha
    rcases getElem?_append_cases hx with ⟨_, hx'⟩ | ⟨_, hxu⟩
    · have hold := h.wrote i a (by rw [touchAt_of hx']; exact hxa) hw hS
      refine ⟨hold.1.app u, fun g hg => ?_⟩
      rcases hg with hg | rfl
      · exact (hold.2 g hg).app u
      · exact ⟨t.size + 1, _, e1, rfl, .inr ((hold.1.hb_new (Nat.le_refl _) e0 rfl).trans edge)⟩
    · rw [hn x hxu] at hxa; cases hxa

/-- From the frame beside goroutines that only leave; nobody has touched the new places plainly. -/
theorem TrI.ofPast {B0 : Nat} {Shun' : Loc → Prop} (H : Past Shun B t) (hSS : ∀ l, Shun l → Shun' l) (hS : ∀ l, Still l → l.isMemory = true ∧ ¬ Shun l) (hN : ∀ i a, touchAt t i = some a → New a.loc → a.kind ≠ .plain) (hle : B ≤ B0) :
    TrI Shun' New Still B0 (fun _ => False) (fun _ => False) (fun _ _ => False) t := by
  refine ⟨H.clean, fun i a ha hm => (H.known i a ha hm).imp id fun x => .inl ⟨hSS _ x.1, x.2⟩, fun i a ha hw hs => ⟨?_, fun _ h => h.elim⟩, hN, fun i g hg hne hc => .inl (H.over i g hg hne hc), fun _ _ _ _ h => h.elim, fun op hop => MemAct.low_mono hle (H.seen op hop)⟩
  exact (H.known i a ha (hS _ hs).1).elim id fun x => absurd x.1 (hS _ hs).2

/-- Back to it, all senders joined. -/
theorem TrI.toPast (h : TrI Shun New Still B Mem Un Pv t) (h0 : Deaf t 0 = 0) (hU : ∀ g, ¬ Un g) : Past Shun B t := by
  refine ⟨h.clean, fun i a ha hm => ?_, fun i g hg hne hc => (h.over i g hg hne hc).elim id fun x => absurd x (hU g), h0, h.seen⟩
  rcases h.known i a ha hm with hk | hs | ⟨_, g, _, hu, _⟩
  · exact .inl hk
  · exact .inr hs
  · exact absurd hu (hU g)

/-- What was closed stays so, whatever others do, and whatever the sender itself does that does not count. -/
theorem ClosedAt.app {g c : Nat} (h : ClosedAt g c t) (hu : ∀ i a, t.size ≤ i → (t ++ u).g? i = some g → touchAt (t ++ u) i = some a → a.kind = .atomic ∧ ¬ (t ++ u).heard i) : ClosedAt g c (t ++ u) := by
  obtain ⟨y, hya, hyh, hyg, hyl⟩ := h
  have hlt := lt_of_g? hyg
  refine ⟨y, by rw [act?_old hlt]; exact hya, (heard_old hlt).2 hyh, by rw [g?_old hlt]; exact hyg, fun i a hg ha hk => ?_⟩
  rcases Nat.lt_or_ge i t.size with hi | hi
  · exact hyl i a (by rw [← g?_old (u := u) hi]; exact hg) (by rw [← touchAt_old (u := u) hi]; exact ha) (hk.imp id (heard_old hi).1)
  · obtain ⟨p, q⟩ := hu i a hi hg ha
    rcases hk with hk | hk
    · exact absurd p hk
    · exact absurd hk q
theorem ClosedAt.appOther {g c : Nat} (h : ClosedAt g c t) (hu : ∀ op ∈ u, op.g ≠ g ∨ op.act.touch? = none) : ClosedAt g c (t ++ u) := by
  refine h.app fun i a hi hg ha => ?_
  obtain ⟨x, hx, hxa⟩ := touch_of ha
  rcases getElem?_append_cases hx with ⟨hi', _⟩ | ⟨_, hxu⟩
  · omega
  · rcases hu x hxu with h1 | h1
    · rw [g?_of hx] at hg; exact absurd (Option.some.inj hg) h1
    · rw [h1] at hxa; cases hxa
/-- The close itself. -/
theorem ClosedAt.new {g c : Nat} {fn : FuncId} {pos : String} (hd : Deaf t g = 0) :
    ClosedAt g c (t ++ #[{ g := g, fn := fn, pos := pos, act := .access ⟨.obj c, false, true⟩ }, { g := g, fn := fn, pos := pos, act := .close c }]) := by
  generalize hu : (#[{ g := g, fn := fn, pos := pos, act := .access ⟨.obj c, false, true⟩ }, { g := g, fn := fn, pos := pos, act := .close c }] : Trace) = u
  have hq : ∀ op ∈ u, ∀ d, deafStep g d op = d := by
    intro op hop d; subst hu
    simp only [List.mem_toArray, List.mem_cons, List.not_mem_nil, or_false] at hop
    rcases hop with rfl | rfl <;> rfl
  have e1 : (t ++ u)[t.size + 1]? = some { g := g, fn := fn, pos := pos, act := .close c } := by subst hu; simp
  have hsz : (t ++ u).size = t.size + 2 := by subst hu; simp
  refine ⟨t.size + 1, act?_of e1, ⟨g, g?_of e1, by rw [deaf_quiet hq 1 (by subst hu; simp)]; exact hd⟩, g?_of e1, fun i a hg _ _ => ?_⟩
  have := lt_of_g? hg
  omega
end
end Go.Proofs.Ytafnbmokegomaaa
