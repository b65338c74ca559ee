/- Contracts of regs and csrs: a copy's registers and CSRs. -/
import Derived.Test.YtfhijdnbhbonpaaDoorPointOf
import Derived.WalkLawsBesides
namespace Go.Proofs.YtfhijdnbhbonpaaDoor.Walks
open Go.ChangeShapes Go.WideShapes Go.ChangeAt Go.RowKit
set_option linter.unusedVariables false
/-- registers of a copy: number 0 is 0 -/
def rgs (p : Nat → Nat) (i : Nat) : Nat := if 1 ≤ i ∧ i ≤ 31 then p i else 0
def css (p : Nat → Nat) (i : Nat) : Nat := p (32 + i)
structure RgAt (w : World) (A : Nat) (p q : Nat → Nat) (wr : World) : Prop where
  a : ArrAt A 39 p wr
  a0 : ArrAt w.heap.size 32 w0 wr
  a1 : ArrAt (w.heap.size + 1) 32 q wr
  fr : FrB w.heap.size w wr
theorem RgAt.start (w : World) (A : Nat) (p : Nat → Nat) (h : ArrAt A 39 p w) (hA : A < w.heap.size) : RgAt w A p w0 ((w.alloc (.cells z32 27)).alloc (.cells z32 27)) := by
  have s1 : (w.alloc (.cells z32 27)).heap.size = w.heap.size + 1 := by simp
  have b1 := ArrAt.zero32 (w.alloc (.cells z32 27)) 27
  have f1 := FrB.alloc (w.alloc (.cells z32 27)) (.cells z32 27)
  rw [s1] at b1 f1
  have fr := (FrB.alloc w (.cells z32 27)).trans (f1.mono (by omega))
  exact ⟨h.frb fr hA, (ArrAt.zero32 w 27).frb f1 (by omega), b1, fr⟩
theorem RgAt.drew {w wr : World} {A : Nat} {p q : Nat → Nat} (h : RgAt w A p q wr) : RgAt w A p q wr.drew :=
  have a : wr.drew.Alike wr := ⟨rfl, rfl, rfl⟩
  ⟨h.a.alike a, h.a0.alike a, h.a1.alike a, h.fr.trans (FrB.alike a)⟩
theorem RgAt.put {w wr w' : World} {A : Nat} {p q r : Nat → Nat} (h : RgAt w A p q wr) (hA : A < w.heap.size) (a : ArrAt (w.heap.size + 1) 32 r w') (t : TouA (w.heap.size + 1) wr w') : RgAt w A p r w' :=
  ⟨h.a.of_block (t.block _ (by omega)), h.a0.of_block (t.block _ (by omega)), a, h.fr.trans (FrB.toua t (by omega))⟩
theorem rgs_put (p : Nat → Nat) : ovr w0 1 31 (fun j => p (1 + j)) = rgs p := by
  funext i
  unfold ovr rgs w0
  by_cases h : 1 ≤ i ∧ i < 1 + 31
  · rw [if_pos h, if_pos (by omega)]; show p (1 + (i - 1)) = _; rw [show 1 + (i - 1) = i by omega]
  · rw [if_neg h, if_neg (by omega)]
set_option maxRecDepth 100000 in
set_option maxHeartbeats 1000000 in
theorem regs_as (A : Nat) (p : Nat → Nat) (w : World) (hA : Hid (A < w.heap.size)) (hP : Hid (ArrAt A 39 p w)) :
    Calls Tryd.prog 29 #[.pointer (some ⟨A, 0, none⟩)] w fun e w' => e = .returned (.agg (wn (rgs p) 32).toArray) ∧ FrB w.heap.size w w' := by
  have P4 := hideP ((RgAt.start w A p hP.out hA.out).drew)
  go_enter Tryd.func29, Tryd.ntmps29
  go_wp2_with fail
  go_region_law (refine step_copyA rfl (.tmp 4) (.tmp 7) rfl (w.heap.size + 1) 32 w0 P4.out.a1 1 31 31 (by decide) A 1 38 (fun j => p (1 + j)) (fun j hj => P4.out.a.hw (1 + j) (by omega)) (by simp [Act.eval, Act.put]) (by simp [Act.eval, Act.put]) ?_; intro w6 hX hT; have P6 := hideP (P4.out.put hA.out hX.out hT.out); clear hX hT)
  all_goals
    have R7 := hideP P6.out.a1.range
    go_wp2_with (first
      | (refine load_want (by rfl) 27 _ rfl (w.heap.size + 1) 0 rfl (wn _ 32) _ R7.out Tryd.underlying27 rfl (by rw [wn_len]; exact size27) ?_)
      | (refine wpList_arrG 27 32 size27 _ w.heap.size w0 P6.out.a0 (by rfl) _ _ rfl _ _ rfl rfl rfl ?_; intro W' hX hT; have FW : Hid (FrB w.heap.size w W') := P6.out.fr.trans (FrB.toua hT.out (by omega)); have HL := hX.out.told 27 _ Tryd.underlying27 rfl size27; clear hX hT))
    refine bodyPost_ret (v := .agg (wn (ovr w0 1 31 (fun j => p (1 + j))) 32).toArray) (by simp [results, Tryd.results29, asAddr, Act.put, HL]) rfl ⟨?_, FW.out⟩
    rw [rgs_put]
set_option maxRecDepth 100000 in
set_option maxHeartbeats 1000000 in
theorem csrs_as (A : Nat) (p : Nat → Nat) (w : World) (hA : Hid (A < w.heap.size)) (hP : Hid (ArrAt A 39 p w)) :
    Calls Tryd.prog 30 #[.pointer (some ⟨A, 0, none⟩)] w fun e w' => e = .returned (.agg (wn (css p) 5).toArray) ∧ FrB w.heap.size w w' := by
  have Z := hideP (ArrAt.zero5 w 28)
  have F := hideP (FrB.alloc w (.cells z5 28))
  have R : Hid ((w.alloc (.cells z5 28)).rangeAt A 32 (wn (css p) 5)) := by
    intro j u hu
    have hj : j < 5 := by have := (List.getElem?_eq_some_iff.1 hu).1; rwa [wn_len] at this
    rw [wn_at _ 5 j hj] at hu
    injection hu with hu
    subst hu
    exact (hP.out.frb F.out hA.out).hw (32 + j) (by omega)
  have hat : ∀ w, (Instr.arrayAt 28 (.slice (some ⟨A, 32, none⟩) 5 7)).run Tryd.prog w = .ok (.pointer (some ⟨A, 32, none⟩)) w := fun w => run_arrayAt w 28 _ 5 _ 5 7 Tryd.underlying28 (by decide)
  go_enter Tryd.func30, Tryd.ntmps30
  go_wp2_with (first
      | (refine load_want (by rfl) 28 _ rfl A 32 rfl (wn (css p) 5) _ R.out Tryd.underlying28 rfl (by rw [wn_len]; exact size28) ?_)
      | (refine wpList_arrG 28 5 size28 _ w.heap.size w0 Z.out (by rfl) _ _ rfl _ _ rfl rfl rfl ?_; intro W' hX hT; have FW : Hid (FrB w.heap.size w W') := F.out.trans (FrB.toua hT.out (by omega)); have HL := hX.out.told 28 _ Tryd.underlying28 rfl size28; clear hX hT))
  refine bodyPost_ret (v := .agg (wn (css p) 5).toArray) (by simp [results, Tryd.results30, asAddr, Act.put, HL]) rfl ⟨rfl, FW.out⟩
end Go.Proofs.YtfhijdnbhbonpaaDoor.Walks
