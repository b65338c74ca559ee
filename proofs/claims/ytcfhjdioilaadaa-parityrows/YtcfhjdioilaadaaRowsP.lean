/- Proved: for all uint64 a, b and uint32 n the call ParityRows(a, b, n) returns true and leaves its arguments as they were. No condition. -/
import Derived.Test.YtcfhjdioilaadaaRows
import Derived.Test.YtcfhjdioilaadaaWalks
import Derived.WalkKit
import Derived.ProofKit
import Derived.OpenShut
namespace Go.Proofs.Ytcfhjdioilaadaa.parityRows
open Go.ChangeShapes Go.WideShapes Go.ChangeAt Go.RowKit Walks
set_option linter.unusedVariables false      -- a walk need not use every 'w<i>' (that an integer argument fits its kind)

theorem own : ownKnob Try.prog.godebug = none := by kernel_rfl

set_option maxHeartbeats 400000 in
theorem core (a b n x o d p q r c1 c2 c3 c4 v t : Int) (h0 : 0 ≤ a) (h1 : a < 18446744073709551616) (h2 : 0 ≤ b) (h3 : b < 18446744073709551616)
    (n0 : 0 ≤ n) (n1 : n < 4294967296) (x0 : 0 ≤ x) (x1 : x < 18446744073709551616) (o0 : 0 ≤ o) (o1 : o < 18446744073709551616)
    (d0 : 0 ≤ d) (d1 : d < 18446744073709551616) (v0 : 0 ≤ v) (v1 : v < 18446744073709551616)
    (a0 : 0 ≤ c1) (a1 : c1 ≤ 64) (a2 : 0 ≤ c2) (a3 : c2 ≤ 64)
    (hx : bits .xor .u64 a b = x) (ho : bits .or .u64 a b = o) (hd : bits .and .u64 a b = d) (hr : bits .xor .u64 p q = r)
    (hc : c1 + c2 = c3 + c4) (hv : v / 4294967296 = t)
    (P0 : Hid (((Num.par x.toNat : Nat) : Int) = r)) (P1 : Hid (((Num.par a.toNat : Nat) : Int) = p)) (P2 : Hid (((Num.par b.toNat : Nat) : Int) = q))
    (C1 : Hid (((Num.cnt o.toNat : Nat) : Int) = c1)) (C2 : Hid (((Num.cnt d.toNat : Nat) : Int) = c2))
    (C3 : Hid (((Num.cnt a.toNat : Nat) : Int) = c3)) (C4 : Hid (((Num.cnt b.toNat : Nat) : Int) = c4))
    (V : Hid (((n.toNat + 4294967296 * Num.par n.toNat : Nat) : Int) = v)) (T : Hid (((Num.par n.toNat : Nat) : Int) = t)) (Z : Hid (((Num.par v.toNat : Nat) : Int) = 0)) (w : World) :
    Calls Try.prog 5 #[.int .u64 a, .int .u64 b, .int .u32 n] w fun e w' => e = .returned (.bool true) ∧ w' = w := by
  go_enter Try.func5, Try.ntmps5
  go_wp2_with fail
  refine (of_as _ _ (by omega) (by omega) P0 _).mono ?_; rintro e w' ⟨rfl, rfl⟩
  go_wp2_with fail
  refine (of_as _ _ (by omega) (by omega) P1 _).mono ?_; rintro e w' ⟨rfl, rfl⟩
  go_wp2_with fail
  refine (of_as _ _ (by omega) (by omega) P2 _).mono ?_; rintro e w' ⟨rfl, rfl⟩
  go_wp2_with fail
  refine (count_as _ _ (by omega) (by omega) C1 _).mono ?_; rintro e w' ⟨rfl, rfl⟩
  go_wp2_with fail
  refine (count_as _ _ (by omega) (by omega) C2 _).mono ?_; rintro e w' ⟨rfl, rfl⟩
  go_wp2_with fail
  refine (count_as _ _ (by omega) (by omega) C3 _).mono ?_; rintro e w' ⟨rfl, rfl⟩
  go_wp2_with fail
  refine (count_as _ _ (by omega) (by omega) C4 _).mono ?_; rintro e w' ⟨rfl, rfl⟩
  go_wp2_with fail
  refine (put_as _ _ (by omega) (by omega) V _).mono ?_; rintro e w' ⟨rfl, rfl⟩
  go_wp2_with fail
  refine (of_as _ _ (by omega) (by omega) T _).mono ?_; rintro e w' ⟨rfl, rfl⟩
  go_wp2_with fail
  refine (put_as _ _ (by omega) (by omega) V _).mono ?_; rintro e w' ⟨rfl, rfl⟩
  go_wp2_with fail
  refine (of_as _ _ (by omega) (by omega) Z _).mono ?_; rintro e w' ⟨rfl, rfl⟩
  go_wp2_with fail
  refine (known _).mono ?_; rintro e w' ⟨rfl, rfl⟩
  go_wp2_with fail
  go_ret
  exact ⟨rfl, rfl⟩
theorem walk (a0 : Int) (a1 : Int) (a2 : Int) (w0 : (Lit.int .u64 a0).wf = true) (w1 : (Lit.int .u64 a1).wf = true) (w2 : (Lit.int .u32 a2).wf = true) (w : World) :
    Calls Try.prog 5 #[.int .u64 a0, .int .u64 a1, .int .u32 a2] w fun e w' => e = .returned (.bool true) ∧ Grown w w' := by
  obtain ⟨h0, h1⟩ := bounds_u64 w0
  obtain ⟨h2, h3⟩ := bounds_u64 w1
  obtain ⟨h4, h5⟩ := bounds_u32 w2
  obtain ⟨a, rfl⟩ := Int.eq_ofNat_of_zero_le h0
  obtain ⟨b, rfl⟩ := Int.eq_ofNat_of_zero_le h2
  obtain ⟨n, rfl⟩ := Int.eq_ofNat_of_zero_le h4
  have ha : a < 2 ^ 64 := by omega
  have hb : b < 2 ^ 64 := by omega
  have bx : a ^^^ b < 2 ^ 64 := Nat.xor_lt_two_pow ha hb
  have bo : a ||| b < 2 ^ 64 := Nat.or_lt_two_pow ha hb
  have bd : a &&& b < 2 ^ 64 := Nat.and_lt_two_pow _ hb
  have px := Num.par_xor a b
  have pa := Num.par_lt a
  have pb := Num.par_lt b
  have pn := Num.par_lt n
  have co := Num.cnt_or a b
  have g1 := Num.cnt_le (a ||| b)
  have g2 := Num.cnt_le (a &&& b)
  have z := Num.par_put n (by omega)
  have pq : Num.par a ^^^ Num.par b = (Num.par a + Num.par b) % 2 := Num.xor_small _ _ pa pb
  refine (core a b n (a ^^^ b : Nat) (a ||| b : Nat) (a &&& b : Nat) (Num.par a : Nat) (Num.par b : Nat) (Num.par (a ^^^ b) : Nat)
    (Num.cnt (a ||| b) : Nat) (Num.cnt (a &&& b) : Nat) (Num.cnt a : Nat) (Num.cnt b : Nat) (n + 4294967296 * Num.par n : Nat) (Num.par n : Nat)
    h0 (by omega) h2 (by omega) h4 (by omega) (by omega) (by omega) (by omega) (by omega) (by omega) (by omega) (by omega) (by omega)
    (by omega) (by omega) (by omega) (by omega)
    (u64_xor_nat _ _ (by omega) (by omega)) (u64_or_nat _ _ (by omega) (by omega)) (u64_and_nat _ _ (by omega) (by omega))
    (by rw [u64_xor_nat _ _ (by omega) (by omega), pq, px]) (by omega) (by omega)
    (by unfold Hid; rw [Int.toNat_natCast]) (by unfold Hid; rw [Int.toNat_natCast]) (by unfold Hid; rw [Int.toNat_natCast])
    (by unfold Hid; rw [Int.toNat_natCast]) (by unfold Hid; rw [Int.toNat_natCast]) (by unfold Hid; rw [Int.toNat_natCast]) (by unfold Hid; rw [Int.toNat_natCast])
    (by unfold Hid; rw [Int.toNat_natCast]) (by unfold Hid; rw [Int.toNat_natCast]) (by unfold Hid; rw [Int.toNat_natCast, z]; rfl) w).mono fun e w' h => ?_
  obtain ⟨rfl, rfl⟩ := h
  exact ⟨rfl, Grown.refl _⟩

/-! ### THE ROW's STEP: WRITTEN OUT: LEAVE IT -/
set_option maxRecDepth 100000 in
theorem lifted (os : Os) (started : os.Started) (H : Type) (enc : TypeId × Value → H) :
    ReturnsInHanded {} Try.checked os 5 .any (Rows.parityRowsSpec.pre6 enc Try.prog Try.f5 Rows.parityRowsRow.domain false) (Rows.parityRowsSpec.post enc Try.prog Try.f5 false true false false) := by
  refine returnsInHanded_of_change (C := Try.checked) own started (by kernel_rfl) Try.func5
    (ChangeSpec.witness6 (enc := enc) (C := Try.checked) false ⟨#[], #[.int .u64 0, .int .u64 0, .int .u32 0], []⟩ 8 (by kernel_rfl) (by kernel_rfl) (by kernel_rfl) (by kernel_rfl)) ?_
  intro W base args ds gs before hval0 hW hcnd _
  have hval : ∀ (j : Nat) t v, Try.f5.params[j]? = some t → args[j]? = some v → Value.okWide Try.prog W .any base t v := hval0
  have hW' := hW
  obtain ⟨p, q, hA0, hV, rfl, hfz, hnd⟩ := hW
  have hA : DataW.TrodAll enc Try.prog W 0 (fun _ => true) true Try.f5.params.toList args.toList ds p := hA0
  rw [Try.params5] at hA hval
  obtain ⟨v0, vs0, d0, ds0, p0, q0, hargs, rfl, rfl, h0, r0⟩ := trodAll_cons hA
  obtain ⟨v1, vs1, d1, ds1, p1, q1, rfl, rfl, rfl, h1, r1⟩ := trodAll_cons r0
  obtain ⟨v2, vs2, d2, ds2, p2, q2, rfl, rfl, rfl, h2, r2⟩ := trodAll_cons r1
  obtain ⟨rfl, rfl, rfl⟩ := trodAll_nil r2
  obtain rfl : args = #[v0, v1, v2] := by cases args; simp_all
  obtain ⟨rfl, rfl⟩ := trodVars_none hV
  obtain ⟨a0, rfl, rfl, rfl, w0⟩ := open_int Try.underlying23 (hval 0 23 v0 rfl rfl) h0
  obtain ⟨a1, rfl, rfl, rfl, w1⟩ := open_int Try.underlying23 (hval 1 23 v1 rfl rfl) h1
  obtain ⟨a2, rfl, rfl, rfl, w2⟩ := open_int Try.underlying22 (hval 2 22 v2 rfl rfl) h2
  clear hA0 hval0
  simp only [List.append_nil] at hW'
  refine (walk a0 a1 a2 w0 w1 w2 W).mono fun e W' ⟨he, hg⟩ => ?_
  subst he
  exact ⟨_, rfl, post_of_same (pa := []) (pv := []) hW' (fun _ _ _ => (trodAll_cons_mk (shut_bool Try.underlying4 _) trodAll_mk0)) (fun sp _ => (trodAll_cons_mk (shut_int Try.underlying23 w0) (trodAll_cons_mk (shut_int Try.underlying23 w1) (trodAll_cons_mk (shut_int Try.underlying22 w2) trodAll_mk0)))) (fun _ _ => rfl) rfl
    (hg.frame _) hg.2.1 (ok_one (by kernel_rfl) rfl (okWide_bool_mk Try.underlying4 _))⟩

theorem over : Rows.parityRowsRow.holds Try.pinned (OpenSpec.ofChange Rows.parityRowsSpec) :=
  OpenClaim.holds_of_wide 5 Try.f5 rfl rfl rfl rfl rfl rfl rfl ⟨rfl, rfl, rfl, rfl, rfl⟩ rfl rfl rfl rfl rfl (by kernel_rfl) Try.func5 (by kernel_rfl)
    (of_decide_eq_true (by kernel_rfl)) (by unfold Func.isWrapper; first | (rw [if_pos (by decide +kernel)]; kernel_rfl) | (rw [if_neg (by decide +kernel)]; exact ⟨rfl, rfl⟩))
    (fun os started H enc _ => lifted os started H enc)

/-- ████ THE STATEMENT ████ -/
theorem proved : Rows.ParityRowsSaid :=
  over
#print axioms proved
end Go.Proofs.Ytcfhjdioilaadaa.parityRows
