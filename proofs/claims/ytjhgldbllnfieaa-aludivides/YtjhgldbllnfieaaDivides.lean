/- Proved: for all uint32 a, b the call AluDivides(a, b) returns true and leaves its arguments as they were. No condition. -/
import Derived.Test.YtjhgldbllnfieaaRows
import Derived.Test.YtjhgldbllnfieaaSame
import Derived.WalkKit
import Derived.ProofKit
import Derived.OpenShut
namespace Go.Proofs.Ytjhgldbllnfieaa.aluDivides
open Go.ChangeShapes Go.WideShapes Go.ChangeAt Go.RowKit Walks
set_option linter.unusedVariables false      -- a walk need not use every 'w<i>' (that an integer argument fits its kind)

theorem own : ownKnob Try.prog.godebug = none := by kernel_rfl

set_option maxHeartbeats 4000000 in
theorem core (a b q r d m hi lo p s t y nt ny : Int) (a0 : 0 ≤ a) (a1 : a ≤ 4294967295) (b0 : 0 ≤ b) (b1 : b ≤ 4294967295) (hb : (b == 0) = false) (hb' : (b != 0) = true)
    (Q : Hid (Num.ad 43 a b = q)) (R : Hid (Num.ad 45 a b = r)) (D : Hid (Num.ad 42 a b = d)) (M : Hid (Num.ad 44 a b = m)) (H : Hid (Num.ad 41 a b = hi)) (L : Hid (Num.ad 38 a b = lo))
    (hi0 : 0 ≤ hi) (hi1 : hi ≤ 4294967295) (lo0 : 0 ≤ lo) (lo1 : lo ≤ 4294967295) (S : wrap32 d = s) (TT : wrap32 m = t)
    (O : bits .or .u64 (hi * 4294967296) lo = p) (P : IntKind.u64.wrap (a * b) = p) (hr : r < b) (QB : (q * b + r) % 4294967296 = a) (SB : (s % 4294967296 * b + t) % 4294967296 = a)
    (WT : wrap64 t = t) (Y : wrap64 (wrap32 b) = y) (NT : wrap64 (-t) = nt) (NY : wrap64 (-y) = ny)
    (hf : Hid ((t < 0 → y < 0 → nt < ny) ∧ (t < 0 → 0 ≤ y → nt < y) ∧ (0 ≤ t → y < 0 → t < ny) ∧ (0 ≤ t → 0 ≤ y → t < y))) (w : World) :
    Calls Try.prog 5 #[.int .u32 a, .int .u32 b] w fun e w' => e = .returned (.bool true) ∧ w' = w := by
  go_enter Try.func5, Try.ntmps5
  go_wp2_with fail
  refine (do_as _ _ _ _ a0 a1 b0 b1 Q _).mono ?_; rintro e w' ⟨rfl, rfl⟩
  go_wp2_with fail
  refine (do_as _ _ _ _ a0 a1 b0 b1 R _).mono ?_; rintro e w' ⟨rfl, rfl⟩
  go_wp2_with fail
  refine (do_as _ _ _ _ a0 a1 b0 b1 D _).mono ?_; rintro e w' ⟨rfl, rfl⟩
  go_wp2_with fail
  refine (do_as _ _ _ _ a0 a1 b0 b1 M _).mono ?_; rintro e w' ⟨rfl, rfl⟩
  go_wp2_with fail
  refine (do_as _ _ _ _ a0 a1 b0 b1 H _).mono ?_; rintro e w' ⟨rfl, rfl⟩
  go_wp2_with fail
  refine (do_as _ _ _ _ a0 a1 b0 b1 L _).mono ?_; rintro e w' ⟨rfl, rfl⟩
  obtain ⟨f1, f2, f3, f4⟩ := hf.out
  by_cases ht : t < 0
  · by_cases hy : y < 0
    · replace f1 := f1 ht hy
      clear f2 f3 f4
      go_wp2_with fail
      refine (known _).mono ?_; rintro e w' ⟨rfl, rfl⟩
      go_wp2_with fail
      go_ret
      exact ⟨rfl, rfl⟩
    · replace f1 := f2 ht (by omega)
      clear f2 f3 f4
      replace hy : 0 ≤ y := by omega
      go_wp2_with fail
      refine (known _).mono ?_; rintro e w' ⟨rfl, rfl⟩
      go_wp2_with fail
      go_ret
      exact ⟨rfl, rfl⟩
  · replace ht : 0 ≤ t := by omega
    by_cases hy : y < 0
    · replace f1 := f3 ht hy
      clear f2 f3 f4
      go_wp2_with fail
      refine (known _).mono ?_; rintro e w' ⟨rfl, rfl⟩
      go_wp2_with fail
      go_ret
      exact ⟨rfl, rfl⟩
    · replace f1 := f4 ht (by omega)
      clear f2 f3 f4
      replace hy : 0 ≤ y := by omega
      go_wp2_with fail
      refine (known _).mono ?_; rintro e w' ⟨rfl, rfl⟩
      go_wp2_with fail
      go_ret
      exact ⟨rfl, rfl⟩
set_option maxHeartbeats 4000000 in
theorem core0 (a t nt : Int) (a0 : 0 ≤ a) (a1 : a ≤ 4294967295)
    (Q : Hid (Num.ad 43 a 0 = 4294967295)) (R : Hid (Num.ad 45 a 0 = a)) (D : Hid (Num.ad 42 a 0 = 4294967295)) (M : Hid (Num.ad 44 a 0 = a)) (H : Hid (Num.ad 41 a 0 = 0)) (L : Hid (Num.ad 38 a 0 = 0))
    (TT : wrap32 a = t) (TA : t % 4294967296 = a) (WT : wrap64 t = t) (NT : wrap64 (-t) = nt) (w : World) :
    Calls Try.prog 5 #[.int .u32 a, .int .u32 0] w fun e w' => e = .returned (.bool true) ∧ w' = w := by
  go_enter Try.func5, Try.ntmps5
  go_wp2_with fail
  refine (do_as _ _ _ _ a0 a1 (by decide) (by decide) Q _).mono ?_; rintro e w' ⟨rfl, rfl⟩
  go_wp2_with fail
  refine (do_as _ _ _ _ a0 a1 (by decide) (by decide) R _).mono ?_; rintro e w' ⟨rfl, rfl⟩
  go_wp2_with fail
  refine (do_as _ _ _ _ a0 a1 (by decide) (by decide) D _).mono ?_; rintro e w' ⟨rfl, rfl⟩
  go_wp2_with fail
  refine (do_as _ _ _ _ a0 a1 (by decide) (by decide) M _).mono ?_; rintro e w' ⟨rfl, rfl⟩
  go_wp2_with fail
  refine (do_as _ _ _ _ a0 a1 (by decide) (by decide) H _).mono ?_; rintro e w' ⟨rfl, rfl⟩
  go_wp2_with fail
  refine (do_as _ _ _ _ a0 a1 (by decide) (by decide) L _).mono ?_; rintro e w' ⟨rfl, rfl⟩
  by_cases ht : t < 0
  · go_wp2_with fail
    refine (known _).mono ?_; rintro e w' ⟨rfl, rfl⟩
    go_wp2_with fail
    go_ret
    exact ⟨rfl, rfl⟩
  · replace ht : 0 ≤ t := by omega
    go_wp2_with fail
    refine (known _).mono ?_; rintro e w' ⟨rfl, rfl⟩
    go_wp2_with fail
    go_ret
    exact ⟨rfl, rfl⟩
theorem w32_mod (x : Int) : wrap32 x % 4294967296 = x % 4294967296 := by unfold wrap32; omega
theorem mod_id (x : Int) (h0 : 0 ≤ x) (h1 : x ≤ 4294967295) : x % 4294967296 = x := by omega
theorem ab_in (a b : Int) (a0 : 0 ≤ a) (a1 : a ≤ 4294967295) (b0 : 0 ≤ b) (b1 : b ≤ 4294967295) : 0 ≤ a * b ∧ a * b ≤ 18446744065119617025 := by
  have h : (a * b).natAbs ≤ 4294967295 * 4294967295 := by rw [Int.natAbs_mul]; exact Nat.mul_le_mul (by omega) (by omega)
  have p : 0 ≤ a * b := Int.mul_nonneg a0 b0
  omega
theorem or_whole (hi lo : Int) (h0 : 0 ≤ hi) (h1 : hi ≤ 4294967295) (l0 : 0 ≤ lo) (l1 : lo ≤ 4294967295) : bits .or .u64 (hi * 4294967296) lo = hi * 4294967296 + lo := by
  obtain ⟨m, rfl⟩ := Int.eq_ofNat_of_zero_le h0
  obtain ⟨n, rfl⟩ := Int.eq_ofNat_of_zero_le l0
  have e : (m : Int) * (4294967296 : Int) = ((m <<< 32 : Nat) : Int) := by rw [Nat.shiftLeft_eq]; omega
  have f : m <<< 32 < 18446744073709551616 := by rw [Nat.shiftLeft_eq]; omega
  rw [e, u64_or_nat _ _ f (by omega), ← Nat.shiftLeft_add_eq_or_of_lt (by omega : n < 2 ^ 32)]
  omega
theorem back (a b : Int) (a0 : 0 ≤ a) (a1 : a ≤ 4294967295) (b0 : 0 ≤ b) (b1 : b ≤ 4294967295) (x y q r : Int) (X : x % 4294967296 = a) (Y : y % 4294967296 = b) (h : y * q + r = x) :
    (q % 4294967296 * b + r) % 4294967296 = a := by
  rw [Int.add_emod, ← Y, ← Int.mul_emod, ← Int.add_emod, Int.mul_comm, h, X]
theorem tmod_lt (x y : Int) (hy : y ≠ 0) : (x.tmod y).natAbs < y.natAbs := by
  rw [Int.natAbs_tmod]
  exact Nat.mod_lt _ (by omega)
theorem walk (a0 : Int) (a1 : Int) (w0 : (Lit.int .u32 a0).wf = true) (w1 : (Lit.int .u32 a1).wf = true) (w : World) :
    Calls Try.prog 5 #[.int .u32 a0, .int .u32 a1] w fun e w' => e = .returned (.bool true) ∧ Grown w w' := by
  obtain ⟨h0, h1'⟩ := bounds_u32 w0
  obtain ⟨h2, h3'⟩ := bounds_u32 w1
  have h1 : a0 ≤ 4294967295 := by omega
  have h3 : a1 ≤ 4294967295 := by omega
  have xi := Num.w32_in a0
  have yi := Num.w32_in a1
  by_cases hb : a1 = 0
  · subst hb
    refine (core0 a0 _ _ h0 h1 rfl rfl rfl rfl ?_ ?_ rfl ?_ (Num.w64_w32 a0) rfl w).mono fun e w' h => ?_
    · show a0 * 0 / 4294967296 % 4294967296 = 0; omega
    · show a0 * 0 % 4294967296 = 0; omega
    · rw [w32_mod, mod_id a0 h0 h1]
    obtain ⟨rfl, rfl⟩ := h
    exact ⟨rfl, Grown.refl _⟩
  · have ny := Num.w32_zero a1 h2 h3 hb
    have tl := tmod_lt (wrap32 a0) (wrap32 a1) ny
    have pi := ab_in a0 a1 h0 h1 h2 h3
    have T : wrap32 (Num.ad 44 a0 a1) = (wrap32 a0).tmod (wrap32 a1) := by
      rw [show Num.ad 44 a0 a1 = Num.rm a0 a1 from rfl, Num.rm, if_neg hb]
      generalize (wrap32 a0).tmod (wrap32 a1) = z at tl ⊢
      unfold wrap32 at yi tl ⊢
      omega
    have S : wrap32 (Num.ad 42 a0 a1) % 4294967296 = (wrap32 a0).tdiv (wrap32 a1) % 4294967296 := by
      rw [w32_mod, show Num.ad 42 a0 a1 = Num.dv a0 a1 from rfl, Num.dv, if_neg hb, Int.emod_emod]
    have hn : 0 ≤ a0 % a1 ∧ a0 % a1 < a1 := ⟨Int.emod_nonneg _ hb, Int.emod_lt_of_pos _ (by omega)⟩
    refine (core a0 a1 (a0 / a1) (a0 % a1) _ _ (a0 * a1 / 4294967296 % 4294967296) (a0 * a1 % 4294967296) (a0 * a1) _ ((wrap32 a0).tmod (wrap32 a1)) _ _ _ h0 h1 h2 h3 (by simp [hb]) (by simp [hb])
      ?_ ?_ rfl rfl rfl rfl (by omega) (by omega) (by omega) (by omega) rfl T ?_ (u64_in a0 a1 h0 h1 h2 h3) hn.2 ?_ ?_ ?_ (Num.w64_w32 a1) rfl rfl ?_ w).mono fun e w' h => ?_
    · show Num.du a0 a1 = _; rw [Num.du, if_neg hb]
    · show Num.ru a0 a1 = _; rw [Num.ru, if_neg hb]
    · rw [or_whole _ _ (by omega) (by omega) (by omega) (by omega)]
      generalize a0 * a1 = z at pi ⊢
      omega
    · rw [Int.mul_comm, Int.mul_ediv_add_emod, mod_id a0 h0 h1]
    · rw [S]
      exact back a0 a1 h0 h1 h2 h3 (wrap32 a0) (wrap32 a1) _ _ (by rw [w32_mod, mod_id a0 h0 h1]) (by rw [w32_mod, mod_id a1 h2 h3]) (Int.mul_tdiv_add_tmod _ _)
    · have := Num.tmod_in (wrap32 a0) (wrap32 a1) xi.1 xi.2
      exact Num.w64_of (by omega)
    · have ti := Num.tmod_in (wrap32 a0) (wrap32 a1) xi.1 xi.2
      unfold Hid
      rw [Num.w64_of (n := -(wrap32 a0).tmod (wrap32 a1)) (by omega), Num.w64_of (n := -wrap32 a1) (by omega)]
      generalize (wrap32 a0).tmod (wrap32 a1) = z at tl ⊢
      omega
    obtain ⟨rfl, rfl⟩ := h
    exact ⟨rfl, Grown.refl _⟩

/-! ### THE ROW's STEP: WRITTEN OUT: LEAVE IT -/
set_option maxRecDepth 100000 in
theorem lifted (os : Os) (started : os.Started) (H : Type) (enc : TypeId × Value → H) :
    ReturnsInHanded {} Try.checked os 5 .any (Rows.aluDividesSpec.pre6 enc Try.prog Try.f5 Rows.aluDividesRow.domain false) (Rows.aluDividesSpec.post enc Try.prog Try.f5 false true false false) := by
  refine returnsInHanded_of_change (C := Try.checked) own started (by kernel_rfl) Try.func5
    (ChangeSpec.witness6 (enc := enc) (C := Try.checked) false ⟨#[], #[.int .u32 0, .int .u32 0], []⟩ 8 (by kernel_rfl) (by kernel_rfl) (by kernel_rfl) (by kernel_rfl)) ?_
  intro W base args ds gs before hval0 hW hcnd _
  have hval : ∀ (j : Nat) t v, Try.f5.params[j]? = some t → args[j]? = some v → Value.okWide Try.prog W .any base t v := hval0
  have hW' := hW
  obtain ⟨p, q, hA0, hV, rfl, hfz, hnd⟩ := hW
  have hA : DataW.TrodAll enc Try.prog W 0 (fun _ => true) true Try.f5.params.toList args.toList ds p := hA0
  rw [Try.params5] at hA hval
  obtain ⟨v0, vs0, d0, ds0, p0, q0, hargs, rfl, rfl, h0, r0⟩ := trodAll_cons hA
  obtain ⟨v1, vs1, d1, ds1, p1, q1, rfl, rfl, rfl, h1, r1⟩ := trodAll_cons r0
  obtain ⟨rfl, rfl, rfl⟩ := trodAll_nil r1
  obtain rfl : args = #[v0, v1] := by cases args; simp_all
  obtain ⟨rfl, rfl⟩ := trodVars_none hV
  obtain ⟨a0, rfl, rfl, rfl, w0⟩ := open_int Try.underlying22 (hval 0 22 v0 rfl rfl) h0
  obtain ⟨a1, rfl, rfl, rfl, w1⟩ := open_int Try.underlying22 (hval 1 22 v1 rfl rfl) h1
  clear hA0 hval0
  simp only [List.append_nil] at hW'
  refine (walk a0 a1 w0 w1 W).mono fun e W' ⟨he, hg⟩ => ?_
  subst he
  exact ⟨_, rfl, post_of_same (pa := []) (pv := []) hW' (fun _ _ _ => (trodAll_cons_mk (shut_bool Try.underlying4 _) trodAll_mk0)) (fun sp _ => (trodAll_cons_mk (shut_int Try.underlying22 w0) (trodAll_cons_mk (shut_int Try.underlying22 w1) trodAll_mk0))) (fun _ _ => rfl) rfl
    (hg.frame _) hg.2.1 (ok_one (by kernel_rfl) rfl (okWide_bool_mk Try.underlying4 _))⟩

theorem over : Rows.aluDividesRow.holds Try.pinned (OpenSpec.ofChange Rows.aluDividesSpec) :=
  OpenClaim.holds_of_wide 5 Try.f5 rfl rfl rfl rfl rfl rfl rfl ⟨rfl, rfl, rfl, rfl, rfl⟩ rfl rfl rfl rfl rfl (by kernel_rfl) Try.func5 (by kernel_rfl)
    (of_decide_eq_true (by kernel_rfl)) (by unfold Func.isWrapper; first | (rw [if_pos (by decide +kernel)]; kernel_rfl) | (rw [if_neg (by decide +kernel)]; exact ⟨rfl, rfl⟩))
    (fun os started H enc _ => lifted os started H enc)

/-- ████ THE STATEMENT ████ -/
theorem proved : Rows.AluDividesSaid :=
  over
#print axioms proved
end Go.Proofs.Ytjhgldbllnfieaa.aluDivides
