/- Proved: for every int op and every uint32 addr the call TrapFits(op, addr) returns true and leaves its arguments as they were. No condition. -/
import Derived.Test.YtbkhemgkhlonhaaRows
import Derived.Test.YtbkhemgkhlonhaaAnds
import Derived.WalkKit
import Derived.ProofKit
import Derived.OpenShut
namespace Go.Proofs.Ytbkhemgkhlonhaa.trapFits
open Go.ChangeShapes Go.WideShapes Go.ChangeAt Go.RowKit Walks
set_option linter.unusedVariables false      -- a walk need not use every 'w<i>' (that an integer argument fits its kind)

theorem own : ownKnob Try.prog.godebug = none := by kernel_rfl

/-- a load or a store of place 0 inside memory makes no trap -/
theorem calm (c a : Int) (c0 : 0 ≤ c) (c1 : c ≤ 7) (a0 : 0 ≤ a) (hi : a < 4096) (h4 : a % 4 = 0) (w : World) : Calls Try.prog 10 #[.int .i64 (11 + c), .int .u32 a] w fun e w' => e = two 0 false ∧ w' = w := by
  have I : Hid (Num.ins a = true) := decide_eq_true hi
  have : c = 0 ∨ c = 1 ∨ c = 2 ∨ c = 3 ∨ c = 4 ∨ c = 5 ∨ c = 6 ∨ c = 7 := by omega
  rcases this with rfl | rfl | rfl | rfl | rfl | rfl | rfl | rfl
  · exact access_as 11 a 0 true false true true false _ 0 false a0 h4 rfl I rfl rfl rfl rfl rfl rfl w
  · exact access_as 12 a 0 true false true true false _ 0 false a0 h4 rfl I rfl rfl rfl rfl rfl rfl w
  · exact access_as 13 a 0 true false true true false _ 0 false a0 h4 rfl I rfl rfl rfl rfl rfl rfl w
  · exact access_as 14 a 0 true false true true false _ 0 false a0 h4 rfl I rfl rfl rfl rfl rfl rfl w
  · exact access_as 15 a 0 true false true true false _ 0 false a0 h4 rfl I rfl rfl rfl rfl rfl rfl w
  · exact access_as 16 a 0 false true true true false _ 0 false a0 h4 rfl I rfl rfl rfl rfl rfl rfl w
  · exact access_as 17 a 0 false true true true false _ 0 false a0 h4 rfl I rfl rfl rfl rfl rfl rfl w
  · exact access_as 18 a 0 false true true true true _ 0 false a0 h4 rfl I rfl rfl rfl rfl rfl rfl w
/-- at a device: a store of a word alone -/
theorem port (c a : Int) (c0 : 0 ≤ c) (c1 : c ≤ 7) (b : Bool) (B : ((11 + c) == 18) = b) (a0 : 0 ≤ a) (hi : Num.ins a = false) (hd : Num.dev a = true) (h4 : a % 4 = 0) : ∃ m : Int, ∀ w : World, Calls Try.prog 10 #[.int .i64 (11 + c), .int .u32 a] w fun e w' => e = two m (!b) ∧ w' = w := by
  subst B
  have I : Hid (Num.ins a = false) := hi
  have D : Hid (Num.dev a = true) := hd
  have : c = 0 ∨ c = 1 ∨ c = 2 ∨ c = 3 ∨ c = 4 ∨ c = 5 ∨ c = 6 ∨ c = 7 := by omega
  rcases this with rfl | rfl | rfl | rfl | rfl | rfl | rfl | rfl
  · exact ⟨5, access_as 11 a 0 true false true false false true 5 true a0 h4 rfl I rfl rfl rfl D rfl rfl⟩
  · exact ⟨5, access_as 12 a 0 true false true false false true 5 true a0 h4 rfl I rfl rfl rfl D rfl rfl⟩
  · exact ⟨5, access_as 13 a 0 true false true false false true 5 true a0 h4 rfl I rfl rfl rfl D rfl rfl⟩
  · exact ⟨5, access_as 14 a 0 true false true false false true 5 true a0 h4 rfl I rfl rfl rfl D rfl rfl⟩
  · exact ⟨5, access_as 15 a 0 true false true false false true 5 true a0 h4 rfl I rfl rfl rfl D rfl rfl⟩
  · exact ⟨7, access_as 16 a 0 false true true false false true 7 true a0 h4 rfl I rfl rfl rfl D rfl rfl⟩
  · exact ⟨7, access_as 17 a 0 false true true false false true 7 true a0 h4 rfl I rfl rfl rfl D rfl rfl⟩
  · exact ⟨0, access_as 18 a 0 false true true false true true 0 false a0 h4 rfl I rfl rfl rfl D rfl rfl⟩
set_option maxHeartbeats 1000000 in
theorem core (op x c k u v f t m m' : Int) (b i : Bool) (hc : bits .and .i64 op 7 = c) (c0 : 0 ≤ c) (c1 : c ≤ 7) (T : (c + 8).tmod 8 = c) (hk : 11 + c = k) (B : (b = true ∧ k = 18) ∨ (b = false ∧ (k != 18) = true ∧ ¬ k = 18)) (hu : bits .and .u32 x 4095 = u) (hv : bits .andNot .u32 u 3 = v) (hf : bits .andNot .u32 x 3 = f)
    (f0 : 0 ≤ f) (F : Hid ((f % 4 == 0) = true)) (I : Hid (Num.ins f = i)) (ht : bits .and .u32 x 4 = t) (t0 : 0 ≤ t) (t1 : t ≤ 4)
    (A1 : ∀ w : World, Calls Try.prog 10 #[.int .i64 k, .int .u32 v] w fun e w' => e = two 0 false ∧ w' = w)
    (A2 : ∀ w : World, Calls Try.prog 10 #[.int .i64 k, .int .u32 268435456] w fun e w' => e = two m (!b) ∧ w' = w)
    (A3 : ∀ w : World, Calls Try.prog 10 #[.int .i64 18, .int .u32 (268435456 + t)] w fun e w' => e = two m' false ∧ w' = w) (w : World) :
    Calls Try.prog 5 #[.int .i64 op, .int .u32 x] w fun e w' => e = .returned (.bool true) ∧ Fr w w' := by
  rcases B with ⟨rfl, rfl⟩ | ⟨rfl, N, B⟩ <;> cases i
  all_goals
    go_enter Try.func5, Try.ntmps5
    go_wp2_with fail
    refine (A1 _).mono ?_; rintro e w ⟨rfl, rfl⟩
    go_wp2_with fail
    refine (A2 _).mono ?_; rintro e w ⟨rfl, rfl⟩
    go_wp2_with fail
    refine (A3 _).mono ?_; rintro e w ⟨rfl, rfl⟩
    go_wp2_with fail
    refine (fetch_as _ f0 _ _ _ _ F I rfl rfl _).mono ?_; rintro e w ⟨rfl, rfl⟩
    go_wp2_with fail
    refine (inside_as _ _ I _).mono ?_; rintro e w ⟨rfl, rfl⟩
    go_wp2_with fail
    refine (known _).mono ?_; rintro e w ⟨rfl, rfl⟩
    go_wp2_with fail
    go_ret
    exact ⟨rfl, Fr.refl _⟩
theorem walk (a0 : Int) (a1 : Int) (w0 : (Lit.int .i64 a0).wf = true) (w1 : (Lit.int .u32 a1).wf = true) (w : World) :
    Calls Try.prog 5 #[.int .i64 a0, .int .u32 a1] w fun e w' => e = .returned (.bool true) ∧ Fr w w' := by
  obtain ⟨x0, x1⟩ := bounds_u32 w1
  obtain ⟨c, hc, c0, c1⟩ := Num.and_small 7 a0 3 (by decide) (by decide)
  obtain ⟨u, hu, u0, u1⟩ := Num.and_word a1 4095 x0 (by omega) (by decide)
  obtain ⟨v, hv, v0, v1, v4⟩ := Num.low_clear u u0 (by omega)
  obtain ⟨f, hf, f0, f1, f4⟩ := Num.low_clear a1 x0 (by omega)
  obtain ⟨t, ht, t4⟩ := Num.and_four a1 x0 (by omega)
  obtain ⟨m, A2⟩ := port c 268435456 c0 c1 _ rfl (by decide) (by decide +kernel) (by decide +kernel) (by decide)
  have A3 : ∃ m' : Int, ∀ w : World, Calls Try.prog 10 #[.int .i64 18, .int .u32 (268435456 + t)] w fun e w' => e = two m' false ∧ w' = w := by
    rcases t4 with rfl | rfl
    · exact port 7 268435456 (by decide) (by decide) true rfl (by decide) (by decide +kernel) (by decide +kernel) (by decide)
    · exact port 7 268435460 (by decide) (by decide) true rfl (by decide) (by decide +kernel) (by decide +kernel) (by decide)
  obtain ⟨m', A3⟩ := A3
  refine core a0 a1 c _ u v f t m m' _ _ hc c0 c1 ?_ rfl ?_ hu hv hf f0 ?_ rfl ht (by omega) (by omega) (calm c v c0 c1 v0 (by omega) v4) A2 A3 w
  · rw [Int.tmod_eq_emod_of_nonneg (by omega)]; omega
  · by_cases h : 11 + c = 18
    · exact Or.inl ⟨by rw [h]; rfl, h⟩
    · exact Or.inr ⟨by rw [beq_eq_false_iff_ne]; exact h, bne_iff_ne.mpr h, h⟩
  · show (f % 4 == 0) = true
    rw [f4]; rfl

/-! ### THE ROW's STEP: WRITTEN OUT: LEAVE IT -/
set_option maxRecDepth 100000 in
theorem lifted (os : Os) (started : os.Started) (H : Type) (enc : TypeId × Value → H) :
    ReturnsInHanded {} Try.checked os 5 .any (Rows.trapFitsSpec.pre6 enc Try.prog Try.f5 Rows.trapFitsRow.domain false) (Rows.trapFitsSpec.post enc Try.prog Try.f5 false true false false) := by
  refine returnsInHanded_of_change (C := Try.checked) own started (by kernel_rfl) Try.func5
    (ChangeSpec.witness6 (enc := enc) (C := Try.checked) false ⟨#[], #[.int .i64 0, .int .u32 0], []⟩ 8 (by kernel_rfl) (by kernel_rfl) (by kernel_rfl) (by kernel_rfl)) ?_
  intro W base args ds gs before hval0 hW hcnd _
  have hval : ∀ (j : Nat) t v, Try.f5.params[j]? = some t → args[j]? = some v → Value.okWide Try.prog W .any base t v := hval0
  have hW' := hW
  obtain ⟨p, q, hA0, hV, rfl, hfz, hnd⟩ := hW
  have hA : DataW.TrodAll enc Try.prog W 0 (fun _ => true) true Try.f5.params.toList args.toList ds p := hA0
  rw [Try.params5] at hA hval
  obtain ⟨v0, vs0, d0, ds0, p0, q0, hargs, rfl, rfl, h0, r0⟩ := trodAll_cons hA
  obtain ⟨v1, vs1, d1, ds1, p1, q1, rfl, rfl, rfl, h1, r1⟩ := trodAll_cons r0
  obtain ⟨rfl, rfl, rfl⟩ := trodAll_nil r1
  obtain rfl : args = #[v0, v1] := by cases args; simp_all
  obtain ⟨rfl, rfl⟩ := trodVars_none hV
  obtain ⟨a0, rfl, rfl, rfl, w0⟩ := open_int Try.underlying3 (hval 0 3 v0 rfl rfl) h0
  obtain ⟨a1, rfl, rfl, rfl, w1⟩ := open_int Try.underlying22 (hval 1 22 v1 rfl rfl) h1
  clear hA0 hval0
  simp only [List.append_nil] at hW'
  refine (walk a0 a1 w0 w1 W).mono fun e W' ⟨he, hg⟩ => ?_
  subst he
  exact ⟨_, rfl, _, _, _, [], [], [], hW', (trodAll_cons_mk (shut_bool Try.underlying4 _) trodAll_mk0), (trodAll_cons_mk (shut_int Try.underlying3 w0) (trodAll_cons_mk (shut_int Try.underlying22 w1) trodAll_mk0)), rfl, hg.kept _, fun h => by cases h⟩

theorem over : Rows.trapFitsRow.holds Try.pinned (OpenSpec.ofChange Rows.trapFitsSpec) :=
  OpenClaim.holds_of_wide 5 Try.f5 rfl rfl rfl rfl rfl rfl rfl ⟨rfl, rfl, rfl, rfl, rfl⟩ rfl rfl rfl rfl rfl (by kernel_rfl) Try.func5 (by kernel_rfl)
    (of_decide_eq_true (by kernel_rfl)) (by unfold Func.isWrapper; first | (rw [if_pos (by decide +kernel)]; kernel_rfl) | (rw [if_neg (by decide +kernel)]; exact ⟨rfl, rfl⟩))
    (fun os started H enc _ => lifted os started H enc)

/-- ████ THE STATEMENT ████ -/
theorem proved : Rows.TrapFitsSaid :=
  over
#print axioms proved
end Go.Proofs.Ytbkhemgkhlonhaa.trapFits
