/- Proved: for every uint32 w and all ints rd, rs the call DecodeLoads(w, rd, rs) returns true and leaves its arguments as they were. No condition. -/
import Derived.Test.YtdnbgboonkoccaaRows
import Derived.Test.YtdnbgboonkoccaaKnown
import Derived.Test.YtdnbgboonkoccaaThree
import Derived.Test.YtdnbgboonkoccaaSet
import Derived.WalkKit
import Derived.ProofKit
import Derived.OpenShut
namespace Go.Proofs.Ytdnbgboonkoccaa.decodeLoads
open Go.ChangeShapes Go.WideShapes Go.ChangeAt Go.RowKit Walks
set_option linter.unusedVariables false      -- a walk need not use every 'w<i>' (that an integer argument fits its kind)

theorem own : ownKnob Try.prog.godebug = none := by kernel_rfl

set_option maxHeartbeats 4000000 in
theorem core_no (W rd rs u v x y t v2 : Int) (U : bits .andNot .u32 W 1019903 = u) (V : bits .or .u32 u 51 = v) (X : bits .and .i64 rd 31 = x) (Y : bits .and .i64 rs 31 = y) (x0 : 0 ≤ x) (x1 : x ≤ 31) (y0 : 0 ≤ y) (y1 : y ≤ 31)
    (P : bits .or .u32 v (x * 128) = t) (Q : bits .or .u32 t (y * 32768) = v2) (v0 : Hid (0 ≤ v)) (v1 : Hid (v ≤ 4294967295)) (t0 : Hid (0 ≤ v2)) (t1 : Hid (v2 ≤ 4294967295))
    (D1 : Hid (Num.Dec v 0 0 0 0 0 false)) (D2 : Hid (Num.Dec v2 0 0 0 0 0 false)) (w : World) :
    Calls Try.prog 6 #[.int .u32 W, .int .i64 rd, .int .i64 rs] w fun e w' => e = .returned (.bool true) ∧ Fr w w' := by
  go_enter Try.func6, Try.ntmps6
  go_wp2_with fail
  refine (decode_as _ _ _ _ _ _ _ D1 v0.out v1.out _).mono ?_; rintro e w1 ⟨rfl, hF⟩
  have F1 := hideP hF
  clear hF
  go_wp2_with fail
  refine (decode_as _ _ _ _ _ _ _ D2 t0.out t1.out _).mono ?_; rintro e w2 ⟨rfl, hF⟩
  have F2 := hideP hF
  clear hF
  go_wp2_with fail
  refine (known _).mono ?_; rintro e w3 ⟨rfl, hF⟩
  have F3 := hideP hF
  clear hF
  go_wp2_with fail
  go_ret
  exact ⟨rfl, (((F1.out.alloc _).trans F2.out).alloc _).trans F3.out⟩
set_option maxHeartbeats 4000000 in
theorem core_yes (W rd rs u v x y t v2 o z : Int) (r : Bool) (U : bits .andNot .u32 W 1019903 = u) (V : bits .or .u32 u 51 = v) (X : bits .and .i64 rd 31 = x) (Y : bits .and .i64 rs 31 = y) (x0 : 0 ≤ x) (x1 : x ≤ 31) (y0 : 0 ≤ y) (y1 : y ≤ 31)
    (P : bits .or .u32 v (x * 128) = t) (Q : bits .or .u32 t (y * 32768) = v2) (v0 : Hid (0 ≤ v)) (v1 : Hid (v ≤ 4294967295)) (t0 : Hid (0 ≤ v2)) (t1 : Hid (v2 ≤ 4294967295))
    (D1 : Hid (Num.Dec v o 0 0 z 0 true)) (D2 : Hid (Num.Dec v2 o x y z 0 true)) (R : Hid (Num.wr (Num.fm o) x = r)) (G : (x != 0) = r) (w : World) :
    Calls Try.prog 6 #[.int .u32 W, .int .i64 rd, .int .i64 rs] w fun e w' => e = .returned (.bool true) ∧ Fr w w' := by
  go_enter Try.func6, Try.ntmps6
  go_wp2_with fail
  refine (decode_as _ _ _ _ _ _ _ D1 v0.out v1.out _).mono ?_; rintro e w1 ⟨rfl, hF⟩
  have F1 := hideP hF
  clear hF
  go_wp2_with fail
  refine (decode_as _ _ _ _ _ _ _ D2 t0.out t1.out _).mono ?_; rintro e w2 ⟨rfl, hF⟩
  have F2 := hideP hF
  clear hF
  obtain ⟨c0, c1, c2, c3, c4⟩ := box5 w1 (w2.alloc (.cells #[.int .i64 o, .int .i64 x, .int .i64 y, .int .i64 z, .int .i32 0] 28)) o 0 0 z 0 (F2.out.alloc _)
  have z1 : (w2.alloc (.cells #[.int .i64 o, .int .i64 x, .int .i64 y, .int .i64 z, .int .i32 0] 28)).frozen? ⟨w1.heap.size, 1, none⟩ = false := by
    rw [(F2.out.alloc _).frozen _ _ (by simp), World.frozen?_alloc_at _ _ _ _ rfl]
  have z2 : (w2.alloc (.cells #[.int .i64 o, .int .i64 x, .int .i64 y, .int .i64 z, .int .i32 0] 28)).frozen? ⟨w1.heap.size, 2, none⟩ = false := by
    rw [(F2.out.alloc _).frozen _ _ (by simp), World.frozen?_alloc_at _ _ _ _ rfl]
  have ne : ¬ w2.heap.size = w1.heap.size := by have := F2.out.size; simp at this; omega
  have ne' : ¬ w1.heap.size = w2.heap.size := by omega
  go_wp2_with fail
  refine (writes_as _ _ _ _ _ _ R _).mono ?_; rintro e w' ⟨rfl, rfl⟩
  go_wp2_with fail
  refine (known _).mono ?_; rintro e w3 ⟨rfl, hF⟩
  have F3 := hideP hF
  clear hF
  go_wp2_with fail
  go_ret
  have s1 : w.heap.size ≤ w1.heap.size := F1.out.size
  exact ⟨rfl, (Fr.alloc (Fr.setCell (Fr.setCell (((F1.out.alloc _).trans F2.out).alloc _) s1 _) s1 _) _).trans F3.out⟩
theorem walk (a0 : Int) (a1 : Int) (a2 : Int) (w0 : (Lit.int .u32 a0).wf = true) (w1 : (Lit.int .i64 a1).wf = true) (w2 : (Lit.int .i64 a2).wf = true) (w : World) :
    Calls Try.prog 6 #[.int .u32 a0, .int .i64 a1, .int .i64 a2] w fun e w' => e = .returned (.bool true) ∧ Fr w w' := by
  obtain ⟨h0, h1⟩ := bounds_u32 w0
  obtain ⟨x, hx, x0, x1⟩ := Num.and_small 31 a1 5 (by decide) (by decide)
  obtain ⟨y, hy, y0, y1⟩ := Num.and_small 31 a2 5 (by decide) (by decide)
  have U := Num.clear3 a0 h0 h1
  obtain ⟨u, hu⟩ : ∃ u, a0 / 1048576 * 1048576 + a0 / 4096 % 8 * 4096 = u := ⟨_, rfl⟩
  have q1 : a0 / 1048576 ≤ 4095 := by omega
  have q2 : 0 ≤ a0 / 1048576 := by omega
  have q3 : 0 ≤ a0 / 4096 % 8 ∧ a0 / 4096 % 8 ≤ 7 := by omega
  generalize a0 / 1048576 = p at *
  generalize a0 / 4096 % 8 = f at *
  have V : bits .or .u32 u 51 = u + 51 := Num.or_join 12 4096 u 51 (by decide) (by omega) (by omega) (by decide) (by decide) (by omega) (by decide)
  have P := Num.put7 (u + 51) x (by omega) (by omega) x0 x1 (by omega)
  have Q := Num.put15 (u + 51 + x * 128) y (by omega) (by omega) y0 y1 (by omega)
  rw [hu] at U
  rcases Num.two (u + 51) (u + 51 + x * 128 + y * 32768) x y (by omega) (by omega) (by omega) (by omega) (by omega) (by omega) (by omega) (by omega) (by omega) with ⟨D1, D2⟩ | ⟨o, z, hf, D1, D2⟩
  · exact core_no a0 a1 a2 u _ x y _ _ U V hx hy x0 x1 y0 y1 P Q (hideP (by omega)) (hideP (by omega)) (hideP (by omega)) (hideP (by omega)) D1 D2 w
  · exact core_yes a0 a1 a2 u _ x y _ _ o z _ U V hx hy x0 x1 y0 y1 P Q (hideP (by omega)) (hideP (by omega)) (hideP (by omega)) (hideP (by omega)) D1 D2 (hideP (by rw [hf, Num.wr]; rfl)) rfl w

/-! ### THE ROW's STEP: WRITTEN OUT: LEAVE IT -/
set_option maxRecDepth 100000 in
theorem lifted (os : Os) (started : os.Started) (H : Type) (enc : TypeId × Value → H) :
    ReturnsInHanded {} Try.checked os 6 .any (Rows.decodeLoadsSpec.pre6 enc Try.prog Try.f6 Rows.decodeLoadsRow.domain false) (Rows.decodeLoadsSpec.post enc Try.prog Try.f6 false true false false) := by
  refine returnsInHanded_of_change (C := Try.checked) own started (by kernel_rfl) Try.func6
    (ChangeSpec.witness6 (enc := enc) (C := Try.checked) false ⟨#[], #[.int .u32 0, .int .i64 0, .int .i64 0], []⟩ 8 (by kernel_rfl) (by kernel_rfl) (by kernel_rfl) (by kernel_rfl)) ?_
  intro W base args ds gs before hval0 hW hcnd _
  have hval : ∀ (j : Nat) t v, Try.f6.params[j]? = some t → args[j]? = some v → Value.okWide Try.prog W .any base t v := hval0
  have hW' := hW
  obtain ⟨p, q, hA0, hV, rfl, hfz, hnd⟩ := hW
  have hA : DataW.TrodAll enc Try.prog W 0 (fun _ => true) true Try.f6.params.toList args.toList ds p := hA0
  rw [Try.params6] at hA hval
  obtain ⟨v0, vs0, d0, ds0, p0, q0, hargs, rfl, rfl, h0, r0⟩ := trodAll_cons hA
  obtain ⟨v1, vs1, d1, ds1, p1, q1, rfl, rfl, rfl, h1, r1⟩ := trodAll_cons r0
  obtain ⟨v2, vs2, d2, ds2, p2, q2, rfl, rfl, rfl, h2, r2⟩ := trodAll_cons r1
  obtain ⟨rfl, rfl, rfl⟩ := trodAll_nil r2
  obtain rfl : args = #[v0, v1, v2] := by cases args; simp_all
  obtain ⟨rfl, rfl⟩ := trodVars_none hV
  obtain ⟨a0, rfl, rfl, rfl, w0⟩ := open_int Try.underlying22 (hval 0 22 v0 rfl rfl) h0
  obtain ⟨a1, rfl, rfl, rfl, w1⟩ := open_int Try.underlying3 (hval 1 3 v1 rfl rfl) h1
  obtain ⟨a2, rfl, rfl, rfl, w2⟩ := open_int Try.underlying3 (hval 2 3 v2 rfl rfl) h2
  clear hA0 hval0
  simp only [List.append_nil] at hW'
  refine (walk a0 a1 a2 w0 w1 w2 W).mono fun e W' ⟨he, hg⟩ => ?_
  subst he
  exact ⟨_, rfl, _, _, _, [], [], [], hW', (trodAll_cons_mk (shut_bool Try.underlying4 _) trodAll_mk0), (trodAll_cons_mk (shut_int Try.underlying22 w0) (trodAll_cons_mk (shut_int Try.underlying3 w1) (trodAll_cons_mk (shut_int Try.underlying3 w2) trodAll_mk0))), rfl, hg.kept _, fun h => by cases h⟩

theorem over : Rows.decodeLoadsRow.holds Try.pinned (OpenSpec.ofChange Rows.decodeLoadsSpec) :=
  OpenClaim.holds_of_wide 6 Try.f6 rfl rfl rfl rfl rfl rfl rfl ⟨rfl, rfl, rfl, rfl, rfl⟩ rfl rfl rfl rfl rfl (by kernel_rfl) Try.func6 (by kernel_rfl)
    (of_decide_eq_true (by kernel_rfl)) (by unfold Func.isWrapper; first | (rw [if_pos (by decide +kernel)]; kernel_rfl) | (rw [if_neg (by decide +kernel)]; exact ⟨rfl, rfl⟩))
    (fun os started H enc _ => lifted os started H enc)

/-- ████ THE STATEMENT ████ -/
theorem proved : Rows.DecodeLoadsSaid :=
  over
#print axioms proved
end Go.Proofs.Ytdnbgboonkoccaa.decodeLoads
