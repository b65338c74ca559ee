/- Words for the walk of SaveMends. -/
import Derived.Test.YtfhijdnbhbonpaaDoorAks
import Derived.Test.YtfhijdnbhbonpaaDoorMendV
import Derived.Deep.RegionHeld3
namespace Go.Proofs.YtfhijdnbhbonpaaDoor.Walks
open Go.ChangeShapes Go.WideShapes Go.ChangeAt Go.RowKit
set_option linter.unusedVariables false
theorem wd_upd0 {n : Nat} {f : Nat → Nat} (h : Wd n f) : Wd n (upd f 0 0) := fun j hj => by
  by_cases e : j = 0
  · subst e; rw [upd_at]; decide
  · rw [upd_off _ _ _ _ e]; exact h j hj
theorem STwo.low {B C M b d M' b' d' F nx G ny A : Nat} {Φ Ψ : (Nat → Nat) → Prop} {w wr w2 : World} (h : STwo B C M b d M' b' d' Φ F nx Ψ G ny w wr) (t : TouA A wr w2) (hA : A < B) (h0 : 0 < A) : STwo B C M b d M' b' d' Φ F nx Ψ G ny w2 w2 := by
  obtain ⟨⟨ws, f, p, l, s⟩, ⟨ws', f', p', l', s'⟩, fr, lo, hi, ne, bc, cs⟩ := h
  exact ⟨⟨ws, f, p, l, s.arr t (by omega) (by omega) (by omega) h0⟩, ⟨ws', f', p', l', s'.arr t (by omega) (by omega) (by omega) h0⟩, FrB.refl _ _, lo, hi, ne, bc, by rw [t.size]; exact cs⟩
theorem SV.laidM {Φ : (Nat → Nat) → Prop} {M b d F nx : Nat} {w : World} (h : SV Φ M b d F nx w) : Laid w := by
  obtain ⟨ws, f, _, _, s⟩ := h
  exact s.laid
theorem two_low {C X A : Nat} {rr cc : Nat → Nat} {w w' : World} (h : Two C X rr cc w) (t : TouA A w w') (hA : X + 1 < A) : Two C X rr cc w' := h.toua t hA
theorem at_list {P : Program} {ops : Array Oper} {Q : Exit → Act → World → Prop} {l : List Oper} {a : Act} {w : World} (h : wpList P ops Q l a w) : wpList P ops Q l a w := h
/-- both boxes of the arguments -/
structure Bxs (X : Nat) (a b : Ak) (w : World) : Prop where
  a : BxAt X a.l w
  b : BxAt (X + 1) b.l w
theorem Bxs.frb {X B : Nat} {a b : Ak} {w w' : World} (h : Bxs X a b w) (t : FrB B w w') (hX : X + 1 < B) : Bxs X a b w' := ⟨h.a.of_block (t.block _ (by omega)), h.b.of_block (t.block _ hX)⟩
theorem Bxs.new (w : World) (a b : Ak) : Bxs w.heap.size a b ((w.alloc (.cells a.l.toArray 30)).alloc (.cells b.l.toArray 30)) := by
  have h := BxAt.new (w.alloc (.cells a.l.toArray 30)) b.l 30
  rw [show (w.alloc (.cells a.l.toArray 30)).heap.size = w.heap.size + 1 by simp] at h
  exact ⟨(BxAt.new w a.l 30).of_block ((FrB.alloc (w.alloc (.cells a.l.toArray 30)) _).block _ (by simp)), h⟩
/-- the book's Within, of the bits -/
def wv (n : Int) : Int := if 0 ≤ n ∧ n ≤ 3080 then n else if n.tmod 3081 < 0 then n.tmod 3081 + 3081 else n.tmod 3081
theorem wv_in (n : Int) : 0 ≤ wv n ∧ wv n ≤ 3080 := by
  have h1 := Int.lt_tmod_of_pos n (b := 3081) (by decide)
  have h2 := Int.tmod_lt_of_pos n (b := 3081) (by decide)
  unfold wv
  split
  · assumption
  · split <;> omega
def WvTold (n : Int) (e : Ending) : Prop := ∃ r, e = .returned (.int .i64 r) ∧ r = wv n
set_option maxHeartbeats 1000000 in
theorem within_wv (n : Int) (w : World) : Calls Tryd.prog 10 #[.int .i64 n, .int .i64 0, .int .i64 3080] w fun e w' => WvTold n e ∧ w' = w := by
  obtain ⟨q, Q, q0, q1⟩ : ∃ q, n.tmod 3081 = q ∧ -3081 < q ∧ q < 3081 := ⟨_, rfl, by have := Int.lt_tmod_of_pos n (b := 3081) (by decide); omega, Int.tmod_lt_of_pos n (by decide)⟩
  have V : wv n = if 0 ≤ n ∧ n ≤ 3080 then n else if q < 0 then q + 3081 else q := by unfold wv; rw [Q]
  have V' := hideP V
  clear V
  go_enter Tryd.func10, Tryd.ntmps10
  go_wp2
  all_goals
    go_ret
    refine ⟨⟨_, rfl, ?_⟩, rfl⟩
    rw [V'.out]
    split
    · omega
    · first
        | omega
        | (split <;> omega)
end Go.Proofs.YtfhijdnbhbonpaaDoor.Walks
