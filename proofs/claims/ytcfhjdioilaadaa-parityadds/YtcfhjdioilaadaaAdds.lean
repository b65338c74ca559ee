/- Proved: for every uint64 n the call ParityAdds(n) returns true and leaves its argument as it was: the count of bits of n is that of its two halves, the complement has what is left of 64, and the parity of n is that of its halves turned into one another. No condition. -/
import Derived.Test.YtcfhjdioilaadaaRows
import Derived.Test.YtcfhjdioilaadaaWalks
import Derived.WalkKit
import Derived.ProofKit
import Derived.OpenShut
namespace Go.Proofs.Ytcfhjdioilaadaa.parityAdds
open Go.ChangeShapes Go.WideShapes Go.ChangeAt Go.RowKit Walks
set_option linter.unusedVariables false      -- a walk need not use every 'w<i>' (that an integer argument fits its kind)

theorem own : ownKnob Try.prog.godebug = none := by kernel_rfl

set_option maxHeartbeats 400000 in
theorem core (n lo no x c1 c2 p : Int) (h0 : 0 ≤ n) (h1 : n < 18446744073709551616)
    (a0 : 0 ≤ c1) (a1 : c1 ≤ 64) (a2 : 0 ≤ c2) (a3 : c2 ≤ 64) (l0 : 0 ≤ lo) (l1 : lo < 18446744073709551616)
    (k0 : 0 ≤ no) (k1 : no < 18446744073709551616) (x0 : 0 ≤ x) (x1 : x < 18446744073709551616)
    (hlo : bits .and .u64 n 4294967295 = lo) (hno : bits .xor .u64 IntKind.u64.max n = no) (hx : bits .xor .u64 (n / 4294967296) lo = x)
    (H0 : Hid (((Num.cnt n.toNat : Nat) : Int) = c1 + c2)) (H1 : Hid (((Num.cnt (n / 4294967296).toNat : Nat) : Int) = c1))
    (H2 : Hid (((Num.cnt lo.toNat : Nat) : Int) = c2)) (H3 : Hid (((Num.cnt no.toNat : Nat) : Int) = 64 - (c1 + c2)))
    (P0 : Hid (((Num.par n.toNat : Nat) : Int) = p)) (P1 : Hid (((Num.par x.toNat : Nat) : Int) = p)) (w : World) :
    Calls Try.prog 4 #[.int .u64 n] w fun e w' => e = .returned (.bool true) ∧ w' = w := by
  have hs : IntKind.u64.signed = false := rfl
  go_enter Try.func4, Try.ntmps4
  go_wp2_with fail
  refine (count_as _ (c1 + c2) (by omega) (by omega) H0 _).mono ?_; rintro e w' ⟨rfl, rfl⟩
  go_wp2_with fail
  refine (count_as _ c1 (by omega) (by omega) H1 _).mono ?_; rintro e w' ⟨rfl, rfl⟩
  go_wp2_with fail
  refine (count_as _ c2 (by omega) (by omega) H2 _).mono ?_; rintro e w' ⟨rfl, rfl⟩
  go_wp2_with fail
  refine (count_as _ _ (by omega) (by omega) H3 _).mono ?_; rintro e w' ⟨rfl, rfl⟩
  go_wp2_with fail
  refine (count_as _ _ (by omega) (by omega) H0 _).mono ?_; rintro e w' ⟨rfl, rfl⟩
  go_wp2_with fail
  refine (of_as _ _ (by omega) (by omega) P0 _).mono ?_; rintro e w' ⟨rfl, rfl⟩
  go_wp2_with fail
  refine (of_as _ _ (by omega) (by omega) P1 _).mono ?_; rintro e w' ⟨rfl, rfl⟩
  go_wp2_with fail
  refine (known _).mono ?_; rintro e w' ⟨rfl, rfl⟩
  go_wp2_with fail
  go_ret
  exact ⟨rfl, rfl⟩
theorem lo_eq (k : Nat) (h : k < 18446744073709551616) : bits .and .u64 (k : Int) 4294967295 = ((k % 4294967296 : Nat) : Int) := by
  rw [show (4294967295 : Int) = ((4294967295 : Nat) : Int) from rfl, u64_and_nat _ _ h (by decide)]
  exact congrArg _ (Nat.and_two_pow_sub_one_eq_mod k 32)
theorem no_eq (k : Nat) (h : k < 18446744073709551616) : bits .xor .u64 IntKind.u64.max (k : Int) = ((18446744073709551615 - k : Nat) : Int) := by
  have e : IntKind.u64.max = ((18446744073709551615 : Nat) : Int) := by decide
  rw [e, u64_xor_nat _ _ (by decide) h, Nat.xor_comm]
  exact congrArg _ (Num.xor_all 64 k h)
theorem walk (a0 : Int) (w0 : (Lit.int .u64 a0).wf = true) (w : World) :
    Calls Try.prog 4 #[.int .u64 a0] w fun e w' => e = .returned (.bool true) ∧ Grown w w' := by
  obtain ⟨h0, h1⟩ := bounds_u64 w0
  obtain ⟨k, rfl⟩ := Int.eq_ofNat_of_zero_le h0
  have hk : k < 18446744073709551616 := by omega
  have c := Num.cnt_halves k hk
  have d := Num.cnt_not k hk
  have g1 := Num.cnt_le (k / 4294967296)
  have g2 := Num.cnt_le (k % 4294967296)
  have e1 : ((k : Int) / 4294967296) = ((k / 4294967296 : Nat) : Int) := by omega
  have hx : k / 4294967296 ^^^ k % 4294967296 < 2 ^ 64 := Nat.xor_lt_two_pow (by omega) (by omega)
  have px := Num.par_xor (k / 4294967296) (k % 4294967296)
  refine (core k (k % 4294967296 : Nat) (18446744073709551615 - k : Nat) (k / 4294967296 ^^^ k % 4294967296 : Nat) (Num.cnt (k / 4294967296) : Nat) (Num.cnt (k % 4294967296) : Nat) (Num.par k : Nat)
    h0 (by omega) (by omega) (by omega) (by omega) (by omega) (by omega) (by omega) (by omega) (by omega) (by omega) (by omega)
    (lo_eq k hk) (no_eq k hk) (by rw [e1]; exact u64_xor_nat _ _ (by omega) (by omega))
    (by unfold Hid; rw [Int.toNat_natCast]; omega) (by unfold Hid; rw [e1, Int.toNat_natCast]) (by unfold Hid; rw [Int.toNat_natCast])
    (by unfold Hid; rw [Int.toNat_natCast]; omega) (by unfold Hid; rw [Int.toNat_natCast]) (by unfold Hid; rw [Int.toNat_natCast, px]; unfold Num.par; omega) w).mono fun e w' h => ?_
  obtain ⟨rfl, rfl⟩ := h
  exact ⟨rfl, Grown.refl _⟩
/-! ### THE ROW's STEP: WRITTEN OUT: LEAVE IT -/
set_option maxRecDepth 100000 in
theorem lifted (os : Os) (started : os.Started) (H : Type) (enc : TypeId × Value → H) :
    ReturnsInHanded {} Try.checked os 4 .any (Rows.parityAddsSpec.pre6 enc Try.prog Try.f4 Rows.parityAddsRow.domain false) (Rows.parityAddsSpec.post enc Try.prog Try.f4 false true false false) := by
  refine returnsInHanded_of_change (C := Try.checked) own started (by kernel_rfl) Try.func4
    (ChangeSpec.witness6 (enc := enc) (C := Try.checked) false ⟨#[], #[.int .u64 0], []⟩ 8 (by kernel_rfl) (by kernel_rfl) (by kernel_rfl) (by kernel_rfl)) ?_
  intro W base args ds gs before hval0 hW hcnd _
  have hval : ∀ (j : Nat) t v, Try.f4.params[j]? = some t → args[j]? = some v → Value.okWide Try.prog W .any base t v := hval0
  have hW' := hW
  obtain ⟨p, q, hA0, hV, rfl, hfz, hnd⟩ := hW
  have hA : DataW.TrodAll enc Try.prog W 0 (fun _ => true) true Try.f4.params.toList args.toList ds p := hA0
  rw [Try.params4] at hA hval
  obtain ⟨v0, vs0, d0, ds0, p0, q0, hargs, rfl, rfl, h0, r0⟩ := trodAll_cons hA
  obtain ⟨rfl, rfl, rfl⟩ := trodAll_nil r0
  obtain rfl : args = #[v0] := by cases args; simp_all
  obtain ⟨rfl, rfl⟩ := trodVars_none hV
  obtain ⟨a0, rfl, rfl, rfl, w0⟩ := open_int Try.underlying23 (hval 0 23 v0 rfl rfl) h0
  clear hA0 hval0
  simp only [List.append_nil] at hW'
  refine (walk a0 w0 W).mono fun e W' ⟨he, hg⟩ => ?_
  subst he
  exact ⟨_, rfl, post_of_same (pa := []) (pv := []) hW' (fun _ _ _ => (trodAll_cons_mk (shut_bool Try.underlying4 _) trodAll_mk0)) (fun sp _ => (trodAll_cons_mk (shut_int Try.underlying23 w0) trodAll_mk0)) (fun _ _ => rfl) rfl
    (hg.frame _) hg.2.1 (ok_one (by kernel_rfl) rfl (okWide_bool_mk Try.underlying4 _))⟩

theorem over : Rows.parityAddsRow.holds Try.pinned (OpenSpec.ofChange Rows.parityAddsSpec) :=
  OpenClaim.holds_of_wide 4 Try.f4 rfl rfl rfl rfl rfl rfl rfl ⟨rfl, rfl, rfl, rfl, rfl⟩ rfl rfl rfl rfl rfl (by kernel_rfl) Try.func4 (by kernel_rfl)
    (of_decide_eq_true (by kernel_rfl)) (by unfold Func.isWrapper; first | (rw [if_pos (by decide +kernel)]; kernel_rfl) | (rw [if_neg (by decide +kernel)]; exact ⟨rfl, rfl⟩))
    (fun os started H enc _ => lifted os started H enc)

/-- ████ THE STATEMENT ████ -/
theorem proved : Rows.ParityAddsSaid :=
  over
#print axioms proved
end Go.Proofs.Ytcfhjdioilaadaa.parityAdds
