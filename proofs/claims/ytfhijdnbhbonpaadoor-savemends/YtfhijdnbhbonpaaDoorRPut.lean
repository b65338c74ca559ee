/- Contract of the document's own put. -/
import Derived.Test.YtfhijdnbhbonpaaDoorPut
import Derived.Test.YtfhijdnbhbonpaaDoorRefAs
namespace Go.Proofs.YtfhijdnbhbonpaaDoor.Walks
open Go.ChangeShapes Go.WideShapes Go.ChangeAt Go.RowKit
set_option linter.unusedVariables false
/-- k words lie at a place of a block -/
def Lie (A a0 k : Nat) (p : Nat → Nat) (w : World) : Prop := ∀ i, i < k → w.cell? ⟨A, a0 + i, none⟩ = some (.int .u32 ((p i : Nat) : Int))
theorem Lie.tub {A a0 k B M b d : Nat} {p : Nat → Nat} {w w' : World} (h : Lie A a0 k p w) (t : Tub B M b d w w') (hA : A < B) (h0 : A ≠ M) (h1 : A ≠ b) (h2 : A ≠ d) : Lie A a0 k p w' := fun i hi => by
  rw [World.cell?_of_block (w := w) (t.block A hA h0 h1 h2)]; exact h i hi
theorem Lie.frb {A a0 k B : Nat} {p : Nat → Nat} {w w' : World} (h : Lie A a0 k p w) (t : FrB B w w') (hA : A < B) : Lie A a0 k p w' := fun i hi => by
  rw [World.cell?_of_block (w := w) (t.block A hA)]; exact h i hi
set_option maxRecDepth 100000 in
set_option maxHeartbeats 1000000 in
theorem rput_core (M b d f nx o A a0 c : Nat) (ws p : Nat → Nat) (x : Int) (X : Hid ((o : Int) = x)) (ho : (o : Int) ≤ 1) (hp : Hid (∀ i, i < 39 → p i < 4294967296)) (hm : Hid (p 38 = mk (p 37))) (w : World) (hS : Hid (SAt M b d ws f nx w)) (hA : Hid (A < w.heap.size ∧ A ≠ M ∧ A ≠ b ∧ A ≠ d)) (hl : Hid (Lie A a0 38 p w)) :
    Calls Tryd.prog 33 #[.pointer (some ⟨M, 0, none⟩), .int .i64 x, .slice (some ⟨A, a0, none⟩) 38 c] w fun e w' => e = .returned (.tuple #[]) ∧ SNow M b d (ptK ws (39 * o) p 39) f nx w w' := by
  obtain rfl := X.out
  have S1 := hideP (SNow.refl hS.out)
  go_enter Tryd.func33, Tryd.ntmps33
  go_wp2_with fail
  go_loopw [9] (fun t wr => ∃ k : Nat, (k : Int) ≤ 38 ∧ t = .int .i64 k ∧ Hid (SNow M b d (ptK ws (39 * o) p k) f nx w wr)) (fun t _ => 38 - (intOf t).toNat)
  case atStart => exact ⟨0, by decide, rfl, S1⟩
  case round =>
    obtain ⟨k, hk, rfl, HA⟩ := hrel
    rename_i wr
    clear S1
    have hr := HA.out.1.mem.hr
    have R := hideP HA.out.1.mem.row
    by_cases hlt : (k : Int) < 38
    · have HI : Hid (39 * (o : Int) + k = ((39 * o + k : Nat) : Int)) := by unfold Hid; omega
      obtain ⟨g, G⟩ : ∃ g, Hid (inB 79 (39 * (o : Int) + k) = g) := ⟨_, rfl⟩
      have p1 : ((p k : Nat) : Int) < 4294967296 := by have := hp.out k (by omega); omega
      have W1 : IntKind.i64.wrap (39 * (o : Int)) = 39 * (o : Int) := by rw [IntKind.wrap_i64]; omega
      have W2 : IntKind.i64.wrap (39 * (o : Int) + k) = 39 * (o : Int) + k := by rw [IntKind.wrap_i64]; omega
      have hck := (hl.out.tub HA.out.2 hA.out.1 hA.out.2.1 hA.out.2.2.1 hA.out.2.2.2) k (by omega)
      go_wp2_with fail
      go_region_with (go_at_call 36; refine (refput_as b d 79 f _ _ _ g G (by omega) p1 (by decide) _ (by exact R.out.heap rfl)).mono ?_; rintro e w2 ⟨rfl, hN⟩)
      all_goals
        have A2 : Hid (SNow M b d (ptK ws (39 * o) p (k + 1)) f nx w w2) := by
          have := HA.out.trans (HA.out.1.now hN.drew)
          rw [HI.out] at this
          exact this
        clear hN
        go_wp2_with fail
        exact ⟨⟨k + 1, by omega, by rw [Int.natCast_add]; rfl, A2⟩, by simp [intOf]; omega⟩
    · have e : k = 38 := by omega
      subst e
      obtain ⟨z, HZ⟩ : ∃ z : Nat, Hid (p 37 = z) := ⟨_, rfl⟩
      obtain ⟨m, HM⟩ : ∃ m : Int, Hid (((mk z : Nat) : Int) = m) := ⟨_, rfl⟩
      have HZ4 : Hid (z < 4294967296) := by unfold Hid; rw [← HZ.out]; exact hp.out 37 (by decide)
      have hc37 := (hl.out.tub HA.out.2 hA.out.1 hA.out.2.1 hA.out.2.2.1 hA.out.2.2.2) 37 (by decide)
      rw [HZ.out] at hc37
      have W1 : IntKind.i64.wrap (39 * (o : Int)) = 39 * (o : Int) := by rw [IntKind.wrap_i64]; omega
      have W2 : IntKind.i64.wrap (39 * (o : Int) + 38) = 39 * (o : Int) + 38 := by rw [IntKind.wrap_i64]; omega
      have m1 : 0 ≤ m ∧ m < 4294967296 := by have := mk_lt z; rw [← HM.out]; omega
      obtain ⟨m0, m1⟩ := m1
      have HI : Hid (39 * (o : Int) + 38 = ((39 * o + 38 : Nat) : Int)) := by unfold Hid; omega
      obtain ⟨g, G⟩ : ∃ g, Hid (inB 79 (39 * (o : Int) + 38) = g) := ⟨_, rfl⟩
      go_wp2_with fail
      go_region_with (first
        | (go_at_call 42; refine (rmark_as z _ HM HZ4 _).mono ?_; rintro e w' ⟨rfl, rfl⟩)
        | (go_at_call 36; refine (refput_as b d 79 f _ _ _ g G m0 m1 (by decide) _ (by exact R.out.heap rfl)).mono ?_; rintro e w2 ⟨rfl, hN⟩))
      all_goals
        have A2 : Hid (SNow M b d (ptK ws (39 * o) p 39) f nx w w2) := by
          have := HA.out.trans (HA.out.1.now hN.drew)
          rw [HI.out, ← HM.out, Int.toNat_natCast, ← HZ.out, ← hm.out] at this
          exact this
        clear hN
        go_wp2_with fail
        go_end0
        exact ⟨rfl, A2.out⟩
end Go.Proofs.YtfhijdnbhbonpaaDoor.Walks
