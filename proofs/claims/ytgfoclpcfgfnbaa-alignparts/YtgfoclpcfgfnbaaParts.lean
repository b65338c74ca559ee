/- Proved: for all uint32 n, old, at the call AlignParts(n, old, at) returns true and leaves its arguments as they were. No condition. -/
import Derived.Test.YtgfoclpcfgfnbaaRows
import Derived.Test.YtgfoclpcfgfnbaaSame
import Derived.Test.YtgfoclpcfgfnbaaSet
import Derived.Test.YtgfoclpcfgfnbaaCmp
import Derived.WalkKit
import Derived.ProofKit
import Derived.OpenShut
namespace Go.Proofs.Ytgfoclpcfgfnbaa.alignParts
open Go.ChangeShapes Go.WideShapes Go.ChangeAt Go.RowKit Walks
set_option linter.unusedVariables false      -- a walk need not use every 'w<i>' (that an integer argument fits its kind)

theorem own : ownKnob Try.prog.godebug = none := by kernel_rfl

set_option maxRecDepth 100000 in
set_option maxHeartbeats 4000000 in
theorem core (n o x b : Int) (V H D E : Nat → Int) (n0 : 0 ≤ n) (n1 : n ≤ 4294967295) (hb : bits .andNot .u32 x 3 = b) (b0 : 0 ≤ b) (b1 : b ≤ 4294967292) (hb4 : b % 4 = 0)
    (VI : Hid (∀ k, 0 ≤ V k ∧ V k ≤ 4294967295)) (HI : Hid (∀ k, 0 ≤ H k ∧ H k ≤ 4294967295)) (DI : Hid (∀ k, 0 ≤ D k ∧ D k ≤ 4294967295)) (EI : Hid (∀ k, 0 ≤ E k ∧ E k ≤ 4294967295))
    (v0 : Hid (V 0 = o)) (v4 : Hid (V 4 = n)) (h0 : Hid (H 0 = o)) (h4 : Hid (H 4 = n))
    (S0 : Hid (Num.st 16 0 n = D 0)) (S1 : Hid (Num.st 16 1 (n / 256) = D 1)) (S2 : Hid (Num.st 16 2 (n / 65536) = D 2)) (S3 : Hid (Num.st 16 3 (n / 16777216) = D 3))
    (G0 : Hid (Num.mgm (V 0) (D 0) 1 = V 1)) (G1 : Hid (Num.mgm (V 1) (D 1) 2 = V 2)) (G2 : Hid (Num.mgm (V 2) (D 2) 4 = V 3)) (G3 : Hid (Num.mgm (V 3) (D 3) 8 = V 4))
    (T0 : Hid (Num.st 17 0 n = E 0)) (T2 : Hid (Num.st 17 2 (n / 65536) = E 2)) (F0 : Hid (Num.mgm (H 0) (E 0) 3 = H 2)) (F2 : Hid (Num.mgm (H 2) (E 2) 12 = H 4)) (w : World) :
    Calls Try.prog 6 #[.int .u32 n, .int .u32 o, .int .u32 x] w fun e w' => e = .returned (.bool true) ∧ Fr w w' := by
  have P0 : Hid (b % 4 = 0) := hb4
  have P1 : Hid ((b + 1) % 4 = 1) := by unfold Hid; omega
  have P2 : Hid ((b + 2) % 4 = 2) := by unfold Hid; omega
  have P3 : Hid ((b + 3) % 4 = 3) := by unfold Hid; omega
  clear hb4
  go_enter Try.func6, Try.ntmps6
  go_wp2_with fail
  go_loopw [8, 10] (fun v t wr => ∃ k : Nat, (k : Int) ≤ 4 ∧ t = .int .u32 k ∧ v = .int .u32 (V k) ∧ Hid (wr.Alike w)) (fun _ t _ => 4 - (intOf t).toNat)
  case atStart => exact ⟨0, by decide, rfl, by rw [v0.out], rfl, rfl, rfl⟩
  case round =>
    rename World => wr
    obtain ⟨k, hk, rfl, rfl, HA⟩ := hrel
    by_cases hkl : (k : Int) < 4
    · rcases (show k = 0 ∨ k = 1 ∨ k = 2 ∨ k = 3 by omega) with rfl | rfl | rfl | rfl
      · go_wp2_with fail
        refine (store_as _ _ _ _ (by omega) (by omega) (by omega) (by omega) P0 _ _ S0 rfl _).mono ?_; rintro e w1 ⟨rfl, ha⟩
        have HB : Hid (w1.Alike _) := ha
        clear ha
        go_wp2_with fail
        refine (merge_as _ _ _ _ (VI.out 0).1 (VI.out 0).2 (DI.out 0).1 (DI.out 0).2 G0 _).mono ?_; rintro e w1 ⟨rfl, rfl⟩
        go_wp2_with fail
        exact ⟨⟨1, by decide, rfl, rfl, alike_trans HB.out HA.out⟩, by decide⟩
      · go_wp2_with fail
        refine (store_as _ _ _ _ (by omega) (by omega) (by omega) (by omega) P1 _ _ S1 rfl _).mono ?_; rintro e w1 ⟨rfl, ha⟩
        have HB : Hid (w1.Alike _) := ha
        clear ha
        go_wp2_with fail
        refine (merge_as _ _ _ _ (VI.out 1).1 (VI.out 1).2 (DI.out 1).1 (DI.out 1).2 G1 _).mono ?_; rintro e w1 ⟨rfl, rfl⟩
        go_wp2_with fail
        exact ⟨⟨2, by decide, rfl, rfl, alike_trans HB.out HA.out⟩, by decide⟩
      · go_wp2_with fail
        refine (store_as _ _ _ _ (by omega) (by omega) (by omega) (by omega) P2 _ _ S2 rfl _).mono ?_; rintro e w1 ⟨rfl, ha⟩
        have HB : Hid (w1.Alike _) := ha
        clear ha
        go_wp2_with fail
        refine (merge_as _ _ _ _ (VI.out 2).1 (VI.out 2).2 (DI.out 2).1 (DI.out 2).2 G2 _).mono ?_; rintro e w1 ⟨rfl, rfl⟩
        go_wp2_with fail
        exact ⟨⟨3, by decide, rfl, rfl, alike_trans HB.out HA.out⟩, by decide⟩
      · go_wp2_with fail
        refine (store_as _ _ _ _ (by omega) (by omega) (by omega) (by omega) P3 _ _ S3 rfl _).mono ?_; rintro e w1 ⟨rfl, ha⟩
        have HB : Hid (w1.Alike _) := ha
        clear ha
        go_wp2_with fail
        refine (merge_as _ _ _ _ (VI.out 3).1 (VI.out 3).2 (DI.out 3).1 (DI.out 3).2 G3 _).mono ?_; rintro e w1 ⟨rfl, rfl⟩
        go_wp2_with fail
        exact ⟨⟨4, by decide, rfl, rfl, alike_trans HB.out HA.out⟩, by decide⟩
    · obtain rfl : k = 4 := by omega
      have v4' : V 4 = n := v4.out
      go_wp2_with fail
      go_loopw [9, 13] (fun v t w2 => ∃ k : Nat, (k = 0 ∨ k = 2 ∨ k = 4) ∧ t = .int .u32 k ∧ v = .int .u32 (H k) ∧ Hid (w2.Alike w)) (fun _ t _ => 4 - (intOf t).toNat)
      case atStart => exact ⟨0, .inl rfl, rfl, by rw [h0.out], HA⟩
      case round =>
        rename World => w2
        obtain ⟨k, hk2, rfl, rfl, HC⟩ := hrel
        rcases hk2 with rfl | rfl | rfl
        · go_wp2_with fail
          refine (store_as _ _ _ _ (by omega) (by omega) (by omega) (by omega) P0 _ _ T0 rfl _).mono ?_; rintro e w1 ⟨rfl, ha⟩
          have HB : Hid (w1.Alike _) := ha
          clear ha
          go_wp2_with fail
          refine (merge_as _ _ _ _ (HI.out 0).1 (HI.out 0).2 (EI.out 0).1 (EI.out 0).2 F0 _).mono ?_; rintro e w1 ⟨rfl, rfl⟩
          go_wp2_with fail
          exact ⟨⟨2, .inr (.inl rfl), rfl, rfl, alike_trans HB.out HC.out⟩, by decide⟩
        · go_wp2_with fail
          refine (store_as _ _ _ _ (by omega) (by omega) (by omega) (by omega) P2 _ _ T2 rfl _).mono ?_; rintro e w1 ⟨rfl, ha⟩
          have HB : Hid (w1.Alike _) := ha
          clear ha
          go_wp2_with fail
          refine (merge_as _ _ _ _ (HI.out 2).1 (HI.out 2).2 (EI.out 2).1 (EI.out 2).2 F2 _).mono ?_; rintro e w1 ⟨rfl, rfl⟩
          go_wp2_with fail
          exact ⟨⟨4, .inr (.inr rfl), rfl, rfl, alike_trans HB.out HC.out⟩, by decide⟩
        · have h4' : H 4 = n := h4.out
          have S4 : Hid (Num.st 18 0 n = n) := rfl
          go_wp2_with fail
          refine (store_as _ _ _ _ (by omega) (by omega) (by omega) (by omega) P0 _ _ S4 rfl _).mono ?_; rintro e w1 ⟨rfl, ha⟩
          have HB : Hid (w1.Alike _) := ha
          clear ha
          go_wp2_with fail
          refine (known _).mono ?_; rintro e w3 ⟨rfl, ha⟩
          have HD : Hid (w3.Alike _) := ha
          clear ha
          go_wp2_with fail
          go_ret
          exact ⟨rfl, (Fr.refl w).alike (alike_trans HD.out (alike_trans HB.out HC.out))⟩
theorem low_clear (x : Int) (h0 : 0 ≤ x) (h1 : x ≤ 4294967295) : ∃ b : Int, bits .andNot .u32 x 3 = b ∧ 0 ≤ b ∧ b ≤ 4294967292 ∧ b % 4 = 0 := by
  obtain ⟨n, rfl⟩ := Int.eq_ofNat_of_zero_le h0
  have l : n &&& 4294967292 ≤ 4294967292 := Nat.and_le_right
  have z : (n &&& 4294967292) % 2 ^ 2 = 0 := by rw [Nat.and_mod_two_pow]; simp
  exact ⟨((n &&& 4294967292 : Nat) : Int), u32_andNot_nat n 3 (by omega) (by decide), by omega, by omega, by omega⟩
theorem walk (a0 : Int) (a1 : Int) (a2 : Int) (w0 : (Lit.int .u32 a0).wf = true) (w1 : (Lit.int .u32 a1).wf = true) (w2 : (Lit.int .u32 a2).wf = true) (w : World) :
    Calls Try.prog 6 #[.int .u32 a0, .int .u32 a1, .int .u32 a2] w fun e w' => e = .returned (.bool true) ∧ Fr w w' := by
  obtain ⟨n0, n1'⟩ := bounds_u32 w0
  obtain ⟨o0, o1'⟩ := bounds_u32 w1
  obtain ⟨x0, x1'⟩ := bounds_u32 w2
  have n1 : a0 ≤ 4294967295 := by omega
  have o1 : a1 ≤ 4294967295 := by omega
  have x1 : a2 ≤ 4294967295 := by omega
  obtain ⟨b, hb, b0, b1, b4⟩ := low_clear a2 x0 x1
  obtain ⟨m0, m1, m2, m3, hm0, hm1, hm2, hm3, hn⟩ := Num.cmp_of a0 n0 n1
  obtain ⟨c0, c1, c2, c3, hc0, hc1, hc2, hc3, ho⟩ := Num.cmp_of a1 o0 o1
  clear w0 w1 w2 n1' o1' x1'
  subst hn ho
  have z := Num.by0
  refine core _ _ a2 b
    (fun k => if k = 0 then Num.cmp c0 c1 c2 c3 else if k = 1 then Num.cmp m0 c1 c2 c3 else if k = 2 then Num.cmp m0 m1 c2 c3 else if k = 3 then Num.cmp m0 m1 m2 c3 else Num.cmp m0 m1 m2 m3)
    (fun k => if k = 0 then Num.cmp c0 c1 c2 c3 else if k = 2 then Num.cmp m0 m1 c2 c3 else Num.cmp m0 m1 m2 m3)
    (fun k => if k = 0 then Num.cmp m0 0 0 0 else if k = 1 then Num.cmp 0 m1 0 0 else if k = 2 then Num.cmp 0 0 m2 0 else Num.cmp 0 0 0 m3)
    (fun k => if k = 0 then Num.cmp m0 m1 0 0 else Num.cmp 0 0 m2 m3)
    n0 n1 hb b0 b1 b4 ?_ ?_ ?_ ?_ rfl rfl rfl rfl ?_ ?_ ?_ ?_ ?_ ?_ ?_ ?_ ?_ ?_ ?_ ?_ w
  · intro k; repeat' split
    all_goals exact Num.cmp_in _ _ _ _ (by assumption) (by assumption) (by assumption) (by assumption)
  · intro k; repeat' split
    all_goals exact Num.cmp_in _ _ _ _ (by assumption) (by assumption) (by assumption) (by assumption)
  · intro k; repeat' split
    all_goals exact Num.cmp_in _ _ _ _ (by assumption) (by assumption) (by assumption) (by assumption)
  · intro k; repeat' split
    all_goals exact Num.cmp_in _ _ _ _ (by assumption) (by assumption) (by assumption) (by assumption)
  · show Num.cmp m0 m1 m2 m3 % 256 * 1 = Num.cmp m0 0 0 0
    rw [Num.cmp0 _ _ _ _ hm0 hm1 hm2 hm3]; unfold Num.cmp; omega
  · show Num.cmp m0 m1 m2 m3 / 256 % 256 * 256 = Num.cmp 0 m1 0 0
    rw [Num.cmp1 _ _ _ _ hm0 hm1 hm2 hm3]; unfold Num.cmp; omega
  · show Num.cmp m0 m1 m2 m3 / 65536 % 256 * 65536 = Num.cmp 0 0 m2 0
    rw [Num.cmp2 _ _ _ _ hm0 hm1 hm2 hm3]; unfold Num.cmp; omega
  · show Num.cmp m0 m1 m2 m3 / 16777216 % 256 * 16777216 = Num.cmp 0 0 0 m3
    rw [Num.cmp3 _ _ _ _ hm0 hm1 hm2 hm3]; unfold Num.cmp; omega
  · show Num.mgm (Num.cmp c0 c1 c2 c3) (Num.cmp m0 0 0 0) 1 = Num.cmp m0 c1 c2 c3
    rw [Num.at1, Num.mg_cmp _ _ _ _ _ _ _ _ _ _ _ _ hc0 hc1 hc2 hc3 hm0 z z z]; rfl
  · show Num.mgm (Num.cmp m0 c1 c2 c3) (Num.cmp 0 m1 0 0) 2 = Num.cmp m0 m1 c2 c3
    rw [Num.at2, Num.mg_cmp _ _ _ _ _ _ _ _ _ _ _ _ hm0 hc1 hc2 hc3 z hm1 z z]; rfl
  · show Num.mgm (Num.cmp m0 m1 c2 c3) (Num.cmp 0 0 m2 0) 4 = Num.cmp m0 m1 m2 c3
    rw [Num.at4, Num.mg_cmp _ _ _ _ _ _ _ _ _ _ _ _ hm0 hm1 hc2 hc3 z z hm2 z]; rfl
  · show Num.mgm (Num.cmp m0 m1 m2 c3) (Num.cmp 0 0 0 m3) 8 = Num.cmp m0 m1 m2 m3
    rw [Num.at8, Num.mg_cmp _ _ _ _ _ _ _ _ _ _ _ _ hm0 hm1 hm2 hc3 z z z hm3]; rfl
  · show Num.cmp m0 m1 m2 m3 % 65536 * 1 = Num.cmp m0 m1 0 0
    rw [Num.cmp_lo _ _ _ _ hm0 hm1 hm2 hm3]; unfold Num.cmp; omega
  · show Num.cmp m0 m1 m2 m3 / 65536 % 65536 * 65536 = Num.cmp 0 0 m2 m3
    rw [Num.cmp_hi _ _ _ _ hm0 hm1 hm2 hm3]; unfold Num.cmp; omega
  · show Num.mgm (Num.cmp c0 c1 c2 c3) (Num.cmp m0 m1 0 0) 3 = Num.cmp m0 m1 c2 c3
    rw [Num.at3, Num.mg_cmp _ _ _ _ _ _ _ _ _ _ _ _ hc0 hc1 hc2 hc3 hm0 hm1 z z]; rfl
  · show Num.mgm (Num.cmp m0 m1 c2 c3) (Num.cmp 0 0 m2 m3) 12 = Num.cmp m0 m1 m2 m3
    rw [Num.at12, Num.mg_cmp _ _ _ _ _ _ _ _ _ _ _ _ hm0 hm1 hc2 hc3 z z hm2 hm3]; rfl

/-! ### THE ROW's STEP: WRITTEN OUT: LEAVE IT -/
set_option maxRecDepth 100000 in
theorem lifted (os : Os) (started : os.Started) (H : Type) (enc : TypeId × Value → H) :
    ReturnsInHanded {} Try.checked os 6 .any (Rows.alignPartsSpec.pre6 enc Try.prog Try.f6 Rows.alignPartsRow.domain false) (Rows.alignPartsSpec.post enc Try.prog Try.f6 false true false false) := by
  refine returnsInHanded_of_change (C := Try.checked) own started (by kernel_rfl) Try.func6
    (ChangeSpec.witness6 (enc := enc) (C := Try.checked) false ⟨#[], #[.int .u32 0, .int .u32 0, .int .u32 0], []⟩ 8 (by kernel_rfl) (by kernel_rfl) (by kernel_rfl) (by kernel_rfl)) ?_
  intro W base args ds gs before hval0 hW hcnd _
  have hval : ∀ (j : Nat) t v, Try.f6.params[j]? = some t → args[j]? = some v → Value.okWide Try.prog W .any base t v := hval0
  have hW' := hW
  obtain ⟨p, q, hA0, hV, rfl, hfz, hnd⟩ := hW
  have hA : DataW.TrodAll enc Try.prog W 0 (fun _ => true) true Try.f6.params.toList args.toList ds p := hA0
  rw [Try.params6] at hA hval
  obtain ⟨v0, vs0, d0, ds0, p0, q0, hargs, rfl, rfl, h0, r0⟩ := trodAll_cons hA
  obtain ⟨v1, vs1, d1, ds1, p1, q1, rfl, rfl, rfl, h1, r1⟩ := trodAll_cons r0
  obtain ⟨v2, vs2, d2, ds2, p2, q2, rfl, rfl, rfl, h2, r2⟩ := trodAll_cons r1
  obtain ⟨rfl, rfl, rfl⟩ := trodAll_nil r2
  obtain rfl : args = #[v0, v1, v2] := by cases args; simp_all
  obtain ⟨rfl, rfl⟩ := trodVars_none hV
  obtain ⟨a0, rfl, rfl, rfl, w0⟩ := open_int Try.underlying22 (hval 0 22 v0 rfl rfl) h0
  obtain ⟨a1, rfl, rfl, rfl, w1⟩ := open_int Try.underlying22 (hval 1 22 v1 rfl rfl) h1
  obtain ⟨a2, rfl, rfl, rfl, w2⟩ := open_int Try.underlying22 (hval 2 22 v2 rfl rfl) h2
  clear hA0 hval0
  simp only [List.append_nil] at hW'
  refine (walk a0 a1 a2 w0 w1 w2 W).mono fun e W' ⟨he, hg⟩ => ?_
  subst he
  exact ⟨_, rfl, _, _, _, [], [], [], hW', (trodAll_cons_mk (shut_bool Try.underlying4 _) trodAll_mk0), (trodAll_cons_mk (shut_int Try.underlying22 w0) (trodAll_cons_mk (shut_int Try.underlying22 w1) (trodAll_cons_mk (shut_int Try.underlying22 w2) trodAll_mk0))), rfl, hg.kept _, fun h => by cases h⟩

theorem over : Rows.alignPartsRow.holds Try.pinned (OpenSpec.ofChange Rows.alignPartsSpec) :=
  OpenClaim.holds_of_wide 6 Try.f6 rfl rfl rfl rfl rfl rfl rfl ⟨rfl, rfl, rfl, rfl, rfl⟩ rfl rfl rfl rfl rfl (by kernel_rfl) Try.func6 (by kernel_rfl)
    (of_decide_eq_true (by kernel_rfl)) (by unfold Func.isWrapper; first | (rw [if_pos (by decide +kernel)]; kernel_rfl) | (rw [if_neg (by decide +kernel)]; exact ⟨rfl, rfl⟩))
    (fun os started H enc _ => lifted os started H enc)

/-- ████ THE STATEMENT ████ -/
theorem proved : Rows.AlignPartsSaid :=
  over
#print axioms proved
end Go.Proofs.Ytgfoclpcfgfnbaa.alignParts
