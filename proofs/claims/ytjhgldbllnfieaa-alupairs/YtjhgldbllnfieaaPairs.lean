/- Proved: for all uint32 a, b the call AluPairs(a, b) returns true and leaves its arguments as they were. No condition. -/
import Derived.Test.YtjhgldbllnfieaaRows
import Derived.Test.YtjhgldbllnfieaaSame
import Derived.Test.YtjhgldbllnfieaaSet
import Derived.BigQuiet
import Derived.Deep.QuietTactic
import Derived.WalkKit
import Derived.ProofKit
import Derived.OpenShut
namespace Go.Proofs.Ytjhgldbllnfieaa.aluPairs
open Go.ChangeShapes Go.WideShapes Go.ChangeAt Go.RowKit Walks
set_option linter.unusedVariables false      -- a walk need not use every 'w<i>' (that an integer argument fits its kind)

theorem own : ownKnob Try.prog.godebug = none := by kernel_rfl

abbrev tab : Array Value := #[.int .i64 5, .int .i64 6, .int .i64 7, .int .i64 8, .int .i64 9, .int .i64 10]
theorem fr_drewN {u w : World} (h : Fr u w) (n : Nat) : Fr u (w.drewN n) := h.alike ⟨rfl, rfl, rfl⟩
set_option maxRecDepth 100000 in
set_option maxHeartbeats 4000000 in
theorem core (a b k u r c x s t : Int) (gf : Int → Bool) (a0 : 0 ≤ a) (a1 : a ≤ 4294967295) (b0 : 0 ≤ b) (b1 : b ≤ 4294967295) (hk : bits .and .u32 b 31 = k) (k0 : 0 ≤ k) (k1 : k ≤ 31) (k2 : k ≤ 4294967295)
    (u0 : 0 ≤ u) (u1 : u ≤ 4294967295) (c0 : 0 ≤ c) (c1 : c ≤ 4294967295) (x0 : 0 ≤ x) (x1 : x ≤ 4294967295)
    (G : ∀ op : Int, Hid (Num.tk op a b = gf op))
    (N5 : (gf 5 == gf 6) = false) (N7 : (gf 7 == gf 8) = false) (N9 : (gf 9 == gf 10) = false)
    (C1 : Hid (Num.ad 28 a b = c)) (C2 : Hid (Num.ad 29 c b = a)) (U1 : Hid (Num.ad 30 a k = u)) (U2 : Hid (Num.ad 34 u k = r)) (E1 : a * 2 ^ k.toNat % 4294967296 = u) (E2 : u / 2 ^ k.toNat = r)
    (X1 : Hid (Num.ad 33 a b = x)) (X2 : Hid (Num.ad 33 x b = a)) (S1 : Hid (Num.ad 31 a b = s)) (S2 : (s == 1) = gf 7) (T1 : Hid (Num.ad 32 a b = t)) (T2 : (t == 1) = gf 9) (w : World) :
    Calls Try.prog 6 #[.int .u32 a, .int .u32 b] w fun e w' => e = .returned (.bool true) ∧ Fr w w' := by
  go_enter Try.func6, Try.ntmps6
  go_wp2_with fail
  go_loopw [14] (fun t wr => ∃ n : Nat, (n : Int) ≤ 3 ∧ t = .int .i64 n ∧ Hid (Fr (w.alloc (.cells tab 30)) wr)) (fun t _ => 3 - (intOf t).toNat)
  case atStart => exact ⟨0, by decide, rfl, Fr.refl _⟩
  case round =>
    rename World => wr
    obtain ⟨n, hn, rfl, HN⟩ := hrel
    by_cases hnl : (n : Int) < 3
    · have q0 : wr.cell? ⟨w.heap.size, 0, none⟩ = some (.int .i64 5) := box_cell _ _ _ _ HN.out 0
      have q1 : wr.cell? ⟨w.heap.size, 1, none⟩ = some (.int .i64 6) := box_cell _ _ _ _ HN.out 1
      have q2 : wr.cell? ⟨w.heap.size, 2, none⟩ = some (.int .i64 7) := box_cell _ _ _ _ HN.out 2
      have q3 : wr.cell? ⟨w.heap.size, 3, none⟩ = some (.int .i64 8) := box_cell _ _ _ _ HN.out 3
      have q4 : wr.cell? ⟨w.heap.size, 4, none⟩ = some (.int .i64 9) := box_cell _ _ _ _ HN.out 4
      have q5 : wr.cell? ⟨w.heap.size, 5, none⟩ = some (.int .i64 10) := box_cell _ _ _ _ HN.out 5
      rcases (show n = 0 ∨ n = 1 ∨ n = 2 by omega) with rfl | rfl | rfl
      · go_wp2_with fail
        go_quiet ((go_at_call 11; exact Calls.quiet_of_same (taken_as _ _ _ _ (G _) _)))
        go_wp2_with fail
        exact ⟨⟨1, by decide, rfl, fr_drewN (HN.out.alloc _) _⟩, by decide⟩
      · go_wp2_with fail
        go_quiet ((go_at_call 11; exact Calls.quiet_of_same (taken_as _ _ _ _ (G _) _)))
        go_wp2_with fail
        exact ⟨⟨2, by decide, rfl, fr_drewN (HN.out.alloc _) _⟩, by decide⟩
      · go_wp2_with fail
        go_quiet ((go_at_call 11; exact Calls.quiet_of_same (taken_as _ _ _ _ (G _) _)))
        go_wp2_with fail
        exact ⟨⟨3, by decide, rfl, fr_drewN (HN.out.alloc _) _⟩, by decide⟩
    · go_wp2_with fail
      refine (do_as _ _ _ _ a0 a1 k0 k2 U1 _).mono ?_; rintro e w' ⟨rfl, rfl⟩
      go_wp2_with fail
      refine (do_as _ _ _ _ a0 a1 b0 b1 C1 _).mono ?_; rintro e w' ⟨rfl, rfl⟩
      go_wp2_with fail
      refine (do_as _ _ _ _ c0 c1 b0 b1 C2 _).mono ?_; rintro e w' ⟨rfl, rfl⟩
      go_wp2_with fail
      refine (do_as _ _ _ _ u0 u1 k0 k2 U2 _).mono ?_; rintro e w' ⟨rfl, rfl⟩
      go_wp2_with fail
      refine (do_as _ _ _ _ a0 a1 b0 b1 X1 _).mono ?_; rintro e w' ⟨rfl, rfl⟩
      go_wp2_with fail
      refine (do_as _ _ _ _ x0 x1 b0 b1 X2 _).mono ?_; rintro e w' ⟨rfl, rfl⟩
      go_wp2_with fail
      refine (do_as _ _ _ _ a0 a1 b0 b1 S1 _).mono ?_; rintro e w' ⟨rfl, rfl⟩
      go_wp2_with fail
      refine (taken_as _ _ _ _ (G _) _).mono ?_; rintro e w' ⟨rfl, rfl⟩
      go_wp2_with fail
      refine (do_as _ _ _ _ a0 a1 b0 b1 T1 _).mono ?_; rintro e w' ⟨rfl, rfl⟩
      go_wp2_with fail
      refine (taken_as _ _ _ _ (G _) _).mono ?_; rintro e w' ⟨rfl, rfl⟩
      go_wp2_with fail
      refine (known _).mono ?_; rintro e w' ⟨rfl, rfl⟩
      go_wp2_with fail
      go_ret
      exact ⟨rfl, ((Fr.refl w).alloc _).trans HN.out⟩
theorem xor_back (a b : Int) (a0 : 0 ≤ a) (a1 : a ≤ 4294967295) (b0 : 0 ≤ b) (b1 : b ≤ 4294967295) : ∃ x : Int, 0 ≤ x ∧ x ≤ 4294967295 ∧ bits .xor .u32 a b = x ∧ bits .xor .u32 x b = a := by
  obtain ⟨m, rfl⟩ := Int.eq_ofNat_of_zero_le a0
  obtain ⟨n, rfl⟩ := Int.eq_ofNat_of_zero_le b0
  have l : m ^^^ n < 2 ^ 32 := Nat.xor_lt_two_pow (by omega) (by omega)
  have l' : m ^^^ n < 4294967296 := l
  refine ⟨((m ^^^ n : Nat) : Int), by omega, by omega, u32_xor_nat _ _ (by omega) (by omega), ?_⟩
  rw [u32_xor_nat _ _ l' (by omega), Nat.xor_assoc, Nat.xor_self, Nat.xor_zero]
theorem one_one (c : Bool) : (Num.one c == 1) = c := by cases c <;> rfl
theorem walk (a0 : Int) (a1 : Int) (w0 : (Lit.int .u32 a0).wf = true) (w1 : (Lit.int .u32 a1).wf = true) (w : World) :
    Calls Try.prog 6 #[.int .u32 a0, .int .u32 a1] w fun e w' => e = .returned (.bool true) ∧ Fr w w' := by
  obtain ⟨h0, h1'⟩ := bounds_u32 w0
  obtain ⟨h2, h3'⟩ := bounds_u32 w1
  have h1 : a0 ≤ 4294967295 := by omega
  have h3 : a1 ≤ 4294967295 := by omega
  obtain ⟨x, x0, x1, X1, X2⟩ := xor_back a0 a1 h0 h1 h2 h3
  have e : a1 % 32 % 32 = a1 % 32 := by omega
  refine core a0 a1 (a1 % 32) (a0 * 2 ^ (a1 % 32).toNat % 4294967296) _ ((a0 + a1) % 4294967296) x _ _ (fun op => Num.tk op a0 a1) h0 h1 h2 h3 (Num.low5 a1 h2 h3) (by omega) (by omega) (by omega)
    (Int.emod_nonneg _ (by decide)) (by have := Int.emod_lt_of_pos (a0 * 2 ^ (a1 % 32).toNat) (show (0 : Int) < 4294967296 by decide); omega) (by omega) (by omega) x0 x1
    (fun _ => rfl) ?_ ?_ ?_ rfl ?_ ?_ ?_ rfl rfl X1 X2 rfl ?_ rfl ?_ w
  · show ((a0 == a1) == (a0 != a1)) = false
    cases h : (a0 == a1) <;> simp [bne, h]
  · show (decide (wrap32 a0 < wrap32 a1) == !decide (wrap32 a0 < wrap32 a1)) = false
    cases decide (wrap32 a0 < wrap32 a1) <;> rfl
  · show (decide (a0 < a1) == !decide (a0 < a1)) = false
    cases decide (a0 < a1) <;> rfl
  · show ((a0 + a1) % 4294967296 - a1) % 4294967296 = a0
    omega
  · show a0 * 2 ^ (a1 % 32 % 32).toNat % 4294967296 = _
    rw [e]
  · show a0 * 2 ^ (a1 % 32).toNat % 4294967296 / 2 ^ (a1 % 32 % 32).toNat = _
    rw [e]
  · exact one_one _
  · exact one_one _

/-! ### THE ROW's STEP: WRITTEN OUT: LEAVE IT -/
set_option maxRecDepth 100000 in
theorem lifted (os : Os) (started : os.Started) (H : Type) (enc : TypeId × Value → H) :
    ReturnsInHanded {} Try.checked os 6 .any (Rows.aluPairsSpec.pre6 enc Try.prog Try.f6 Rows.aluPairsRow.domain false) (Rows.aluPairsSpec.post enc Try.prog Try.f6 false true false false) := by
  refine returnsInHanded_of_change (C := Try.checked) own started (by kernel_rfl) Try.func6
    (ChangeSpec.witness6 (enc := enc) (C := Try.checked) false ⟨#[], #[.int .u32 0, .int .u32 0], []⟩ 8 (by kernel_rfl) (by kernel_rfl) (by kernel_rfl) (by kernel_rfl)) ?_
  intro W base args ds gs before hval0 hW hcnd _
  have hval : ∀ (j : Nat) t v, Try.f6.params[j]? = some t → args[j]? = some v → Value.okWide Try.prog W .any base t v := hval0
  have hW' := hW
  obtain ⟨p, q, hA0, hV, rfl, hfz, hnd⟩ := hW
  have hA : DataW.TrodAll enc Try.prog W 0 (fun _ => true) true Try.f6.params.toList args.toList ds p := hA0
  rw [Try.params6] at hA hval
  obtain ⟨v0, vs0, d0, ds0, p0, q0, hargs, rfl, rfl, h0, r0⟩ := trodAll_cons hA
  obtain ⟨v1, vs1, d1, ds1, p1, q1, rfl, rfl, rfl, h1, r1⟩ := trodAll_cons r0
  obtain ⟨rfl, rfl, rfl⟩ := trodAll_nil r1
  obtain rfl : args = #[v0, v1] := by cases args; simp_all
  obtain ⟨rfl, rfl⟩ := trodVars_none hV
  obtain ⟨a0, rfl, rfl, rfl, w0⟩ := open_int Try.underlying22 (hval 0 22 v0 rfl rfl) h0
  obtain ⟨a1, rfl, rfl, rfl, w1⟩ := open_int Try.underlying22 (hval 1 22 v1 rfl rfl) h1
  clear hA0 hval0
  simp only [List.append_nil] at hW'
  refine (walk a0 a1 w0 w1 W).mono fun e W' ⟨he, hg⟩ => ?_
  subst he
  exact ⟨_, rfl, _, _, _, [], [], [], hW', (trodAll_cons_mk (shut_bool Try.underlying4 _) trodAll_mk0), (trodAll_cons_mk (shut_int Try.underlying22 w0) (trodAll_cons_mk (shut_int Try.underlying22 w1) trodAll_mk0)), rfl, hg.kept _, fun h => by cases h⟩

theorem over : Rows.aluPairsRow.holds Try.pinned (OpenSpec.ofChange Rows.aluPairsSpec) :=
  OpenClaim.holds_of_wide 6 Try.f6 rfl rfl rfl rfl rfl rfl rfl ⟨rfl, rfl, rfl, rfl, rfl⟩ rfl rfl rfl rfl rfl (by kernel_rfl) Try.func6 (by kernel_rfl)
    (of_decide_eq_true (by kernel_rfl)) (by unfold Func.isWrapper; first | (rw [if_pos (by decide +kernel)]; kernel_rfl) | (rw [if_neg (by decide +kernel)]; exact ⟨rfl, rfl⟩))
    (fun os started H enc _ => lifted os started H enc)

/-- ████ THE STATEMENT ████ -/
theorem proved : Rows.AluPairsSaid :=
  over
#print axioms proved
end Go.Proofs.Ytjhgldbllnfieaa.aluPairs
