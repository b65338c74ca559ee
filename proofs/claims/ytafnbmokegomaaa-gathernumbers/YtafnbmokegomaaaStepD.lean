/-
  THE STEP OF WHOEVER IS NOT GOROUTINE 0; goroutine 0's own steps.
-/
import Derived.Test.YtafnbmokegomaaaStepC
set_option linter.unusedSimpArgs false
namespace Go.Proofs.Ytafnbmokegomaaa
open Go.Conc
open Go.ConcR (KK wgBlock WgAt stA smA rd wr deafBehind_cons deafBehind_one)
open Go.ConcN (sumTo upd sumTo_upd upd_ne upd_same)

section
variable {X : Cfg} {p : Ph} {gs gs' : Array Goroutine} {w w' : World} {t T : Trace} {q : Nat → Nat} {id : Bool → Nat} {st : Bool → Option Stg} {sl : Option (Nat × Nat)}

theorem updB_self (st : Bool → Option Stg) (b : Bool) : updB st b (st b) = st := by
  funext a
  by_cases h : a = b
  · subst h; rw [updB_same]
  · exact updB_ne _ _ h

theorem mute_ops {i : Nat} {fn : FuncId} {pos : String} {es : Array Event} (h : ∀ e ∈ es, e.mute = true) (B : Nat) :
    (∀ op ∈ MemOp.ofEvents i fn pos es, op.act.touch? = none) ∧ (∀ op ∈ MemOp.ofEvents i fn pos es, op.act.low B) := by
  refine ⟨fun op hop => ?_, fun op hop => ?_⟩
  · obtain ⟨_, e, he, hea⟩ := mem_ofEvents' hop
    rw [hea]; exact touch_mute (h e he)
  · obtain ⟨_, e, he, hea⟩ := mem_ofEvents' hop
    rw [hea]; exact low_mute (h e he) B

theorem SI.other (O : X.Ok) (S : SI X p gs w t q id st) {i : Nat} {x a : Goroutine} (hi : i ≠ 0) (hx : gs[i]? = some x) (hrun : x.status = .running) (ha : gs[0]? = some a) (hM : M0 X p st a) :
    GoOut X p gs w t q id sl a i ∨ MetOut X p gs w t q id sl a i := by
  by_cases hs : ∃ b, p.born b ∧ i = id b
  · obtain ⟨b, hb, rfl⟩ := hs
    obtain ⟨g, hg, hS⟩ := S.snd b hb
    rw [hx] at hg
    obtain rfl := Option.some.inj hg
    generalize hst : st b = s at hS
    generalize hd : Deaf t (id b) = d at hS
    generalize hq : q (id b) = qq at hS
    cases hS with
    | @run s m M g d hd' h hMm hMp =>
      cases m with
      | zero => exact h.elim
      | succ m =>
        rcases S.senderOwn (sl := sl) O hb hx ha hM hst (hd.trans hd') hq h.2 hMm hMp with h1 | ⟨k, g₂, z, rfl, hk, h1, h3⟩
        · exact .inl h1
        · exact S.senderSend O hb hx ha hM hst (hd.trans hd') hq hk h1 h3
    | park _ _ _ => cases hrun
    | @quit m d g h =>
      left
      cases m with
      | zero => rw [h.1] at hrun; cases hrun
      | succ m =>
        rcases h with ⟨hf, _⟩ | ⟨_, g', es, hm, hstp, hq'⟩
        · rw [hf] at hrun; cases hrun
        obtain ⟨m1, m2⟩ := mute_ops (i := id b) (fn := x.frame.fn) (pos := x.frame.place) hm w.heap.size
        have hch := S.chan b hb
        have e0 : updB st b none = st := by rw [← hst]; exact updB_self st b
        refine S.senderGoS O hb hx ha hM (hstp w) (s' := none) (q' := 3 * m) (by rw [hd]; exact .quit hq') (by omega) (RM.refl _ _ _) rfl (by rw [← hst]; exact S.rle b hb) (by rw [← hst]; exact S.sle b hb) (fun _ => rfl) (by rw [← hst]; exact hch) (fun _ _ _ => rfl) (fun _ _ _ _ => rfl) (.inl ⟨by rw [hst], by rw [hst], rfl⟩)
          (by rw [e0]; exact S.wg) (by rw [e0]; exact Nat.le_refl _) (S.tr.appMute m1 m2) (fun _ => (S.cla b hb (by rw [hst]; rfl)).appOther fun op hop => .inr (m1 op hop)) (quits_free hq') (fun e => .inl e)
  · left
    have hn : ∀ b, p.born b → i ≠ id b := fun b hb e => hs ⟨b, hb, e⟩
    obtain ⟨m, hqi, h⟩ := S.old i x (by omega) hn hx
    cases m with
    | zero => rw [h.1] at hrun; cases hrun
    | succ m =>
      rcases h with ⟨hf, _⟩ | ⟨_, g', es, hm, hstp, hq'⟩
      · rw [hf] at hrun; cases hrun
      obtain ⟨m1, m2⟩ := mute_ops (i := i) (fn := x.frame.fn) (pos := x.frame.place) hm w.heap.size
      have hlt : i < gs.size := (Array.getElem?_eq_some_iff.1 hx).1
      have hi0 : (i == 0) = false := by simp; omega
      obtain ⟨a', hw0, hM', hcase⟩ := M0.woken (X := X) (x := x) (x' := g') (w' := w) (b := false) (s' := st false) S hM (fun _ _ _ => rfl) (.inl ⟨rfl, rfl, rfl⟩)
      rw [updB_self] at hM'
      refine ⟨(gs.map (woken X.P x g' w)).setIfInBounds i g', w, MemOp.ofEvents i x.frame.fn x.frame.place es, upd q i (3 * m), st, a', p.pv, runT_crowd_go hx (by rw [hi0]; exact hstp w), by simp, RM.refl _ _ _, sum_le hlt (by omega), ?_, ?_, hM'.to, hcase, fun _ _ e => .inr e⟩
      · rw [Array.getElem?_setIfInBounds_ne (by omega), Array.getElem?_map, ha, Option.map_some, hw0]
      · exact S.stepL (x' := g') (by omega) hlt hn (fun op hop => (mem_ofEvents' hop).1) (by simp) (fun j hj h0 => S.fixed (fun _ _ _ => rfl) hj h0) (by simp [hlt]) (by rw [Deaf_own]; exact hq') m1 m2

theorem WgI.world {pw c : Nat} (h : WgI X w pw c st) (hw : w'.heap[X.Wg]? = w.heap[X.Wg]?) : WgI X w' pw c st := by
  have tr : ∀ {x y}, WgAt X.ty X.Wg w x y → WgAt X.ty X.Wg w' x y := fun e => hw.trans e
  cases h with
  | calm h1 h2 h3 => exact .calm h1 h2 (tr h3)
  | wait h1 h2 h3 h4 => exact .wait h1 h2 h3 (tr h4)
  | one h1 h2 a ha ho h3 => exact .one h1 h2 a ha ho (tr h3)
  | zero h1 h2 a ha ho h3 => exact .zero h1 h2 a ha ho (tr h3)
  | up h1 h2 h3 h4 => exact .up h1 h2 h3 (tr h4)

/-- ████ A STEP OF GOROUTINE 0's. ████ What of the phase may turn: is it deaf; is the second count added; how far the wait is. -/
theorem SI.step0 (S : SI X p gs w t q id st) {p' : Ph} (hp : p'.two = p.two ∧ p'.r = p.r ∧ p'.e = p.e ∧ p'.c = p.c ∧ p'.pv = p.pv) (O : X.Ok)
    (hTg : ∀ op ∈ T, op.g = 0) (hoth : ∀ i, i ≠ 0 → gs'[i]? = gs[i]?) (hgs : gs'.size = gs.size)
    (hsz : w.heap.size ≤ w'.heap.size) (hK : X.K w') (hch : ∀ b, p.born b → w'.heap[p.c b]? = w.heap[p.c b]?) (hpo : ∀ b n, p.pv b n → w'.heap[n]? = w.heap[n]?)
    (hwg : WgI X w' p'.w (cntOf p' st) st) (h2 : p'.w = 2 → cntOf p' st = 0) (h10 : ∀ v, p'.w = 10 + v → cntOf p' st ≤ v)
    (hs : ∀ op ∈ T, ∀ b, op.act.touch? = some b → (X.Shun b.loc → b.kind ≠ .plain) ∧ (X.Still b.loc → b.write = false) ∧ ∀ g, ¬ PvL p id g b.loc) (hl : ∀ op ∈ T, op.act.low w'.heap.size)
    (hd : Deaf (t ++ T) 0 = if p'.df then 1 else 0) : SI X p' gs' w' (t ++ T) q id st := by
  obtain ⟨hp2, hpr, hpe, hpc, hpp⟩ := hp
  have hbn : ∀ b, p'.born b ↔ p.born b := fun b => by unfold Ph.born; rw [hp2]
  refine ⟨Nat.le_trans S.n0 hsz, Nat.lt_of_lt_of_le S.wsz hsz, fun b hb => by rw [hpc]; exact Nat.lt_of_lt_of_le (S.csz b ((hbn b).1 hb)) hsz, fun b hb => by rw [hpc]; exact S.cge b ((hbn b).1 hb), fun h => by rw [hpc]; exact S.cne (hp2 ▸ h), fun b β h => ?_, fun β h => by rw [hpp] at h ⊢; exact S.pvd β h,
    fun b hb => S.idp b ((hbn b).1 hb), fun h => S.idi (hp2 ▸ h), fun h => ?_, fun i g hi hn hg => ?_, fun j hj => ?_, fun b hb => ?_, fun b hb => ?_, fun b hb => ?_, fun b hb => ?_, fun b hb => ?_,
    hwg, h2, h10, hK, ?_, fun b hb hc => ?_, hd, fun b g hb hg hst => ?_⟩
  · rw [hpp] at h
    obtain ⟨k1, k2, k3, k4, k5⟩ := S.pvl b β h
    exact ⟨(hbn b).2 k1, k2, Nat.lt_of_lt_of_le k3 hsz, k4, fun a ha => by rw [hpc]; exact k5 a ((hbn a).1 ha)⟩
  · rw [hpr, hpe]; exact S.unb (hp2 ▸ h)
  · rw [hoth i (by omega)] at hg
    rw [Deaf_other t (g' := 0) (by omega) T hTg]
    exact S.old i g hi (fun b hb => hn b ((hbn b).2 hb)) hg
  · have : 0 < gs.size := by
      obtain ⟨g, hg, _⟩ := S.snd false (.inl rfl)
      have := (Array.getElem?_eq_some_iff.1 hg).1
      omega
    rw [Deaf_other t (g' := 0) (by omega) T hTg]
    exact S.above j (by omega)
  · have hb' := (hbn b).1 hb
    obtain ⟨g, hg, hS⟩ := S.snd b hb'
    have := S.idp b hb'
    exact ⟨g, by rw [hoth _ (by omega)]; exact hg, by rw [Deaf_other t (g' := 0) (by omega) T hTg]; exact hS.move (by rw [hpc]) (fun n h => by rw [hpp]; exact h) (hpo b)⟩
  · rw [hpr]; exact S.rle b ((hbn b).1 hb)
  · rw [hpr]; exact S.sle b ((hbn b).1 hb)
  · rw [hpe, hpr]; exact S.ecl b ((hbn b).1 hb)
  · have hb' := (hbn b).1 hb
    rw [hpr, hpc, hch b hb']; exact S.chan b hb'
  · have e1 : (fun g => ∃ b, p'.born b ∧ g = id b) = (fun g => ∃ b, p.born b ∧ g = id b) := by funext g; simp only [hbn]
    have e2 : (fun g => ∃ b, p'.born b ∧ g = id b ∧ p'.e b = false) = (fun g => ∃ b, p.born b ∧ g = id b ∧ p.e b = false) := by funext g; simp only [hbn, hpe]
    have e3 : PvL p' id = PvL p id := by funext g l; simp only [PvL, hbn, hpp]
    rw [e1, e2, e3]
    exact (S.tr.mono hsz).app0 O.shun hTg hs hl
  · have hb' := (hbn b).1 hb
    have := S.idp b hb'
    rw [hpc]
    exact (S.cla b hb' hc).appOther fun op hop => .inl (by rw [hTg op hop]; omega)
  · have hb' := (hbn b).1 hb
    have := S.idp b hb'
    rw [hoth _ (by omega)] at hg
    rw [hpr]; exact S.pk b g hb' hg hst

theorem evM_ops {fn : FuncId} {pos : String} {es : Array Event} {B : Nat} (h : ∀ e ∈ es, EvM X p.sb B e) :
    (∀ op ∈ MemOp.ofEvents 0 fn pos es, op.g = 0) ∧ (∀ op ∈ MemOp.ofEvents 0 fn pos es, ∀ b, op.act.touch? = some b → (X.Shun b.loc → b.kind ≠ .plain) ∧ (X.Still b.loc → b.write = false) ∧ ∀ g, ¬ PvL p id g b.loc) ∧
      (∀ op ∈ MemOp.ofEvents 0 fn pos es, op.act.low B) ∧ ∀ d, deafBehind d es = d := by
  refine ⟨fun op hop => (mem_ofEvents' hop).1, fun op hop b hb => ?_, fun op hop => ?_, fun d => deafBehind_still (fun e he => ⟨(h e he).2.1, (h e he).2.2.1⟩) d⟩
  · obtain ⟨_, e, he, hea⟩ := mem_ofEvents' hop
    rw [hea] at hb
    obtain ⟨h1, h2, h3⟩ := (h e he).1 b hb
    exact ⟨h1, h2, fun g ⟨c, a, _, _, hl, hp⟩ => h3 a hl ⟨c, hp⟩⟩
  · obtain ⟨_, e, he, hea⟩ := mem_ofEvents' hop
    rw [hea]; exact (h e he).2.2.2

/-- The same of the group's own cells, and of marks. -/
theorem wgM_ops (O : X.Ok) (S : SI X p gs w t q id st) {fn : FuncId} {pos : String} {es : Array Event} (h : ∀ e ∈ es, (∀ y, (MemAct.ofEvent e).touch? = some y → y.kind = .atomic ∧ ∃ a, y.loc = .cell a ∧ a.block = X.Wg) ∧ (MemAct.ofEvent e).low w.heap.size) :
    (∀ op ∈ MemOp.ofEvents 0 fn pos es, op.g = 0) ∧ (∀ op ∈ MemOp.ofEvents 0 fn pos es, ∀ b, op.act.touch? = some b → (X.Shun b.loc → b.kind ≠ .plain) ∧ (X.Still b.loc → b.write = false) ∧ ∀ g, ¬ PvL p id g b.loc) ∧
      (∀ op ∈ MemOp.ofEvents 0 fn pos es, op.act.low w.heap.size) := by
  refine ⟨fun op hop => (mem_ofEvents' hop).1, fun op hop b hb => ?_, fun op hop => ?_⟩
  · obtain ⟨_, e, he, hea⟩ := mem_ofEvents' hop
    rw [hea] at hb
    obtain ⟨h1, a, h2, h3⟩ := (h e he).1 b hb
    have hN : X.New b.loc := .inl ⟨a, h2, h3⟩
    exact ⟨fun _ => (by rw [h1]; intro e; cases e), fun hS => absurd hS (O.still _ hN), fun g => (S.pvs O).1 g _ hN⟩
  · obtain ⟨_, e, he, hea⟩ := mem_ofEvents' hop
    rw [hea]; exact (h e he).2
end
end Go.Proofs.Ytafnbmokegomaaa
