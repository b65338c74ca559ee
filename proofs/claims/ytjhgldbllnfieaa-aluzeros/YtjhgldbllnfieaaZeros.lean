/- Proved: for every uint32 a the call AluZeros(a) returns true and leaves its argument as it was. No condition. -/
import Derived.Test.YtjhgldbllnfieaaRows
import Derived.Test.YtjhgldbllnfieaaSame
import Derived.WalkKit
import Derived.ProofKit
import Derived.OpenShut
namespace Go.Proofs.Ytjhgldbllnfieaa.aluZeros
open Go.ChangeShapes Go.WideShapes Go.ChangeAt Go.RowKit Walks
set_option linter.unusedVariables false      -- a walk need not use every 'w<i>' (that an integer argument fits its kind)

theorem own : ownKnob Try.prog.godebug = none := by kernel_rfl

theorem xor_self (x : Int) (h0 : 0 ≤ x) (h1 : x ≤ 4294967295) : bits .xor .u32 x x = 0 := by
  obtain ⟨n, rfl⟩ := Int.eq_ofNat_of_zero_le h0
  rw [u32_xor_nat _ _ (by omega) (by omega), Nat.xor_self]; rfl
theorem and_self (x : Int) (h0 : 0 ≤ x) (h1 : x ≤ 4294967295) : bits .and .u32 x x = x := by
  obtain ⟨n, rfl⟩ := Int.eq_ofNat_of_zero_le h0
  rw [u32_and_nat _ _ (by omega) (by omega), Nat.and_self]
theorem or_zero (x : Int) (h0 : 0 ≤ x) (h1 : x ≤ 4294967295) : bits .or .u32 x 0 = x := by
  obtain ⟨n, rfl⟩ := Int.eq_ofNat_of_zero_le h0
  rw [show (0 : Int) = ((0 : Nat) : Int) from rfl, u32_or_nat _ _ (by omega) (by omega), Nat.or_zero]
set_option maxHeartbeats 1000000 in
theorem core (a : Int) (a0 : 0 ≤ a) (a1 : a ≤ 4294967295) (h1 : Hid (Num.ad 28 a 0 = a)) (h2 : Hid (Num.ad 29 a a = 0)) (h3 : Hid (Num.ad 33 a a = 0)) (h4 : Hid (Num.ad 37 a a = a)) (h5 : Hid (Num.ad 36 a 0 = a))
    (h6 : Hid (Num.ad 38 a 1 = a)) (h7 : Hid (Num.ad 41 a 1 = 0)) (h8 : Hid (Num.ad 43 a 1 = a)) (h9 : Hid (Num.ad 45 a 1 = 0)) (h10 : Hid (Num.ad 32 a 0 = 0)) (h11 : Hid (Num.ad 31 a a = 0))
    (h12 : Hid (Num.tk 5 a a = true)) (h13 : Hid (Num.tk 10 a 0 = true)) (h14 : Hid (Num.tk 9 a a = false)) (w : World) :
    Calls Try.prog 7 #[.int .u32 a] w fun e w' => e = .returned (.bool true) ∧ w' = w := by
  go_enter Try.func7, Try.ntmps7
  go_wp2_with fail
  refine (do_as _ _ _ _ a0 a1 (by decide) (by decide) h1 _).mono ?_; rintro e w' ⟨rfl, rfl⟩
  go_wp2_with fail
  refine (do_as _ _ _ _ a0 a1 a0 a1 h2 _).mono ?_; rintro e w' ⟨rfl, rfl⟩
  go_wp2_with fail
  refine (do_as _ _ _ _ a0 a1 a0 a1 h3 _).mono ?_; rintro e w' ⟨rfl, rfl⟩
  go_wp2_with fail
  refine (do_as _ _ _ _ a0 a1 a0 a1 h4 _).mono ?_; rintro e w' ⟨rfl, rfl⟩
  go_wp2_with fail
  refine (do_as _ _ _ _ a0 a1 (by decide) (by decide) h5 _).mono ?_; rintro e w' ⟨rfl, rfl⟩
  go_wp2_with fail
  refine (do_as _ _ _ _ a0 a1 (by decide) (by decide) h6 _).mono ?_; rintro e w' ⟨rfl, rfl⟩
  go_wp2_with fail
  refine (do_as _ _ _ _ a0 a1 (by decide) (by decide) h7 _).mono ?_; rintro e w' ⟨rfl, rfl⟩
  go_wp2_with fail
  refine (do_as _ _ _ _ a0 a1 (by decide) (by decide) h8 _).mono ?_; rintro e w' ⟨rfl, rfl⟩
  go_wp2_with fail
  refine (do_as _ _ _ _ a0 a1 (by decide) (by decide) h9 _).mono ?_; rintro e w' ⟨rfl, rfl⟩
  go_wp2_with fail
  refine (do_as _ _ _ _ a0 a1 (by decide) (by decide) h10 _).mono ?_; rintro e w' ⟨rfl, rfl⟩
  go_wp2_with fail
  refine (do_as _ _ _ _ a0 a1 a0 a1 h11 _).mono ?_; rintro e w' ⟨rfl, rfl⟩
  go_wp2_with fail
  refine (taken_as _ _ _ _ h12 _).mono ?_; rintro e w' ⟨rfl, rfl⟩
  go_wp2_with fail
  refine (taken_as _ _ _ _ h13 _).mono ?_; rintro e w' ⟨rfl, rfl⟩
  go_wp2_with fail
  refine (taken_as _ _ _ _ h14 _).mono ?_; rintro e w' ⟨rfl, rfl⟩
  go_wp2_with fail
  refine (known _).mono ?_; rintro e w' ⟨rfl, rfl⟩
  go_wp2_with fail
  go_ret
  exact ⟨rfl, rfl⟩
theorem walk (a0 : Int) (w0 : (Lit.int .u32 a0).wf = true) (w : World) :
    Calls Try.prog 7 #[.int .u32 a0] w fun e w' => e = .returned (.bool true) ∧ Grown w w' := by
  obtain ⟨h0, h1'⟩ := bounds_u32 w0
  have h1 : a0 ≤ 4294967295 := by omega
  refine (core a0 h0 h1 ?_ ?_ ?_ ?_ ?_ ?_ ?_ ?_ ?_ ?_ ?_ ?_ ?_ ?_ w).mono fun e w' h => ?_
  · show (a0 + 0) % 4294967296 = a0; omega
  · show (a0 - a0) % 4294967296 = 0; omega
  · exact xor_self a0 h0 h1
  · exact and_self a0 h0 h1
  · exact or_zero a0 h0 h1
  · show a0 * 1 % 4294967296 = a0; omega
  · show a0 * 1 / 4294967296 % 4294967296 = 0; omega
  · show a0 / 1 = a0; omega
  · show a0 % 1 = 0; omega
  · show Num.one (decide (a0 < 0)) = 0; rw [decide_eq_false (by omega)]; rfl
  · show Num.one (decide (wrap32 a0 < wrap32 a0)) = 0; rw [decide_eq_false (Int.lt_irrefl _)]; rfl
  · show (a0 == a0) = true; simp
  · show (!decide (a0 < 0)) = true; rw [decide_eq_false (by omega)]; rfl
  · show decide (a0 < a0) = false; rw [decide_eq_false (Int.lt_irrefl _)]
  obtain ⟨rfl, rfl⟩ := h
  exact ⟨rfl, Grown.refl _⟩

/-! ### THE ROW's STEP: WRITTEN OUT: LEAVE IT -/
set_option maxRecDepth 100000 in
theorem lifted (os : Os) (started : os.Started) (H : Type) (enc : TypeId × Value → H) :
    ReturnsInHanded {} Try.checked os 7 .any (Rows.aluZerosSpec.pre6 enc Try.prog Try.f7 Rows.aluZerosRow.domain false) (Rows.aluZerosSpec.post enc Try.prog Try.f7 false true false false) := by
  refine returnsInHanded_of_change (C := Try.checked) own started (by kernel_rfl) Try.func7
    (ChangeSpec.witness6 (enc := enc) (C := Try.checked) false ⟨#[], #[.int .u32 0], []⟩ 8 (by kernel_rfl) (by kernel_rfl) (by kernel_rfl) (by kernel_rfl)) ?_
  intro W base args ds gs before hval0 hW hcnd _
  have hval : ∀ (j : Nat) t v, Try.f7.params[j]? = some t → args[j]? = some v → Value.okWide Try.prog W .any base t v := hval0
  have hW' := hW
  obtain ⟨p, q, hA0, hV, rfl, hfz, hnd⟩ := hW
  have hA : DataW.TrodAll enc Try.prog W 0 (fun _ => true) true Try.f7.params.toList args.toList ds p := hA0
  rw [Try.params7] at hA hval
  obtain ⟨v0, vs0, d0, ds0, p0, q0, hargs, rfl, rfl, h0, r0⟩ := trodAll_cons hA
  obtain ⟨rfl, rfl, rfl⟩ := trodAll_nil r0
  obtain rfl : args = #[v0] := by cases args; simp_all
  obtain ⟨rfl, rfl⟩ := trodVars_none hV
  obtain ⟨a0, rfl, rfl, rfl, w0⟩ := open_int Try.underlying22 (hval 0 22 v0 rfl rfl) h0
  clear hA0 hval0
  simp only [List.append_nil] at hW'
  refine (walk a0 w0 W).mono fun e W' ⟨he, hg⟩ => ?_
  subst he
  exact ⟨_, rfl, post_of_same (pa := []) (pv := []) hW' (fun _ _ _ => (trodAll_cons_mk (shut_bool Try.underlying4 _) trodAll_mk0)) (fun sp _ => (trodAll_cons_mk (shut_int Try.underlying22 w0) trodAll_mk0)) (fun _ _ => rfl) rfl
    (hg.frame _) hg.2.1 (ok_one (by kernel_rfl) rfl (okWide_bool_mk Try.underlying4 _))⟩

theorem over : Rows.aluZerosRow.holds Try.pinned (OpenSpec.ofChange Rows.aluZerosSpec) :=
  OpenClaim.holds_of_wide 7 Try.f7 rfl rfl rfl rfl rfl rfl rfl ⟨rfl, rfl, rfl, rfl, rfl⟩ rfl rfl rfl rfl rfl (by kernel_rfl) Try.func7 (by kernel_rfl)
    (of_decide_eq_true (by kernel_rfl)) (by unfold Func.isWrapper; first | (rw [if_pos (by decide +kernel)]; kernel_rfl) | (rw [if_neg (by decide +kernel)]; exact ⟨rfl, rfl⟩))
    (fun os started H enc _ => lifted os started H enc)

/-- ████ THE STATEMENT ████ -/
theorem proved : Rows.AluZerosSaid :=
  over
#print axioms proved
end Go.Proofs.Ytjhgldbllnfieaa.aluZeros
