/- Proved: for every uint64 w, every uint32 n and all ints a, b, c the call HsiaoTells(w, n, a, b, c) returns true and leaves its arguments as they were. Condition: the table hsiao.rows holds what its own initialiser lays (tied). -/
import Derived.Test.YtaodjkjmemmkeaaDoorRows
import Derived.Test.YtaodjkjmemmkeaaDoorCards
import Derived.Test.YtaodjkjmemmkeaaDoorTie
import Derived.Test.YtaodjkjmemmkeaaDoorMet
import Derived.SevenTiedAt
import Derived.Test.YtaodjkjmemmkeaaDoorRefMend
import Derived.WalkKit
import Derived.ProofKit
import Derived.OpenShut
namespace Go.Proofs.YtaodjkjmemmkeaaDoor.hsiaoTells
open Go.ChangeShapes Go.WideShapes Go.ChangeAt Go.RowKit Walks
set_option linter.unusedVariables false      -- a walk need not use every 'w<i>' (that an integer argument fits its kind)

theorem own : ownKnob Tryd.prog.godebug = none := by kernel_rfl

set_option maxHeartbeats 1000000 in
theorem core (v n a b d c i0 k0 l0 x p q r : Int) (v0 : 0 ≤ v) (v1 : v < 18446744073709551616) (n0 : 0 ≤ n) (n1 : n < 4294967296)
    (e0 : 0 ≤ i0) (e1 : i0 < 64) (e2 : 0 ≤ k0) (e3 : k0 < 64) (e4 : 0 ≤ l0) (e5 : l0 < 64) (x0 : 0 ≤ x) (x1 : x < 18446744073709551616)
    (p0 : 0 ≤ p) (p1 : p < 18446744073709551616) (q0 : 0 ≤ q) (q1 : q < 18446744073709551616) (r0 : 0 ≤ r) (r1 : r < 18446744073709551616)
    (hi : bits .and .i64 a 63 = i0) (hk : bits .and .i64 b 63 = k0) (hl : bits .and .i64 d 63 = l0) (hx : bits .and .u64 v 549755813887 = x)
    (hp : bits .xor .u64 c (IntKind.u64.wrap (2 ^ (i0 % 39).toNat)) = p) (hq : bits .xor .u64 p (IntKind.u64.wrap (2 ^ (k0 % 39).toNat)) = q) (hr : bits .xor .u64 q (IntKind.u64.wrap (2 ^ (l0 % 39).toNat)) = r)
    (C : Hid (((Num.enc n.toNat : Nat) : Int) = c)) (w : World) (hL : Hid (Laid w)) :
    Calls Tryd.prog 3 #[.int .u64 v, .int .u32 n, .int .i64 a, .int .i64 b, .int .i64 d] w fun e w' => e = .returned (.bool true) ∧ w'.Alike w := by
  go_enter Tryd.func3, Tryd.ntmps3
  go_wp2_with fail
  refine (refencode_as _ _ n0 n1 C _).mono ?_; rintro e w' ⟨rfl, rfl⟩
  go_wp2_with fail
  refine (same _ _ v0 v1 n0 n1 _ hL).mono ?_; rintro e w1 ⟨rfl, ha⟩
  have hL1 : Hid (Laid w1) := hL.out.alike ha
  have HA1 : Hid (w1.Alike _) := ha
  clear ha
  go_wp2_with fail
  refine (same _ _ x0 x1 n0 n1 _ hL1).mono ?_; rintro e w2 ⟨rfl, ha⟩
  have hL2 : Hid (Laid w2) := hL1.out.alike ha
  have HA2 : Hid (w2.Alike _) := alike_trans ha HA1.out
  clear ha
  go_wp2_with fail
  refine (same _ _ p0 p1 n0 n1 _ hL2).mono ?_; rintro e w3 ⟨rfl, ha⟩
  have hL3 : Hid (Laid w3) := hL2.out.alike ha
  have HA3 : Hid (w3.Alike _) := alike_trans ha HA2.out
  clear ha
  go_wp2_with fail
  refine (same _ _ q0 q1 n0 n1 _ hL3).mono ?_; rintro e w4 ⟨rfl, ha⟩
  have hL4 : Hid (Laid w4) := hL3.out.alike ha
  have HA4 : Hid (w4.Alike _) := alike_trans ha HA3.out
  clear ha
  go_wp2_with fail
  refine (same _ _ r0 r1 n0 n1 _ hL4).mono ?_; rintro e w5 ⟨rfl, ha⟩
  have hL5 : Hid (Laid w5) := hL4.out.alike ha
  have HA5 : Hid (w5.Alike _) := alike_trans ha HA4.out
  clear ha
  go_wp2_with fail
  refine (known _ hL5).mono ?_; rintro e w6 ⟨rfl, ha⟩
  have HA6 : Hid (w6.Alike _) := alike_trans ha HA5.out
  clear ha
  go_wp2_with fail
  go_ret
  exact ⟨rfl, HA6.out⟩
theorem walk (a0 : Int) (a1 : Int) (a2 : Int) (a3 : Int) (a4 : Int) (w0 : (Lit.int .u64 a0).wf = true) (w1 : (Lit.int .u32 a1).wf = true) (w2 : (Lit.int .i64 a2).wf = true) (w3 : (Lit.int .i64 a3).wf = true) (w4 : (Lit.int .i64 a4).wf = true) (w : World) (hL : Laid w) :
    Calls Tryd.prog 3 #[.int .u64 a0, .int .u32 a1, .int .i64 a2, .int .i64 a3, .int .i64 a4] w fun e w' => e = .returned (.bool true) ∧ w'.Alike w := by
  obtain ⟨h0, h1⟩ := bounds_u64 w0
  obtain ⟨h2, h3⟩ := bounds_u32 w1
  obtain ⟨i0, hi0, hi1⟩ := and63 a2
  obtain ⟨k0, hk0, hk1⟩ := and63 a3
  obtain ⟨l0, hl0, hl1⟩ := and63 a4
  exact core a0 a1 a2 a3 a4 _ i0 k0 l0 _ _ _ _ h0 (by omega) h2 (by omega) (by omega) (by omega) (by omega) (by omega) (by omega) (by omega)
    (bits_lo_u64 _ _ _) (bits_lt _ _ _) (bits_lo_u64 _ _ _) (bits_lt _ _ _) (bits_lo_u64 _ _ _) (bits_lt _ _ _) (bits_lo_u64 _ _ _) (bits_lt _ _ _) hi0 hk0 hl0 rfl rfl rfl rfl rfl w hL

/-! ### THE ROW's STEP: WRITTEN OUT: LEAVE IT -/
set_option maxRecDepth 100000 in
theorem lifted (os : Os) (started : os.Started) (H : Type) (enc : TypeId × Value → H) :
    ReturnsInHanded {} Tryd.checked os 3 .any (fun w args => (Rows.hsiaoTellsSpec.pre enc Tryd.prog Tryd.f3 [] false w args ∧ laidMetH Tryd.prog Met.lst w) ∧ sizedMet enc Tryd.prog Tryd.f3 (OpenSpec.ofChange Rows.hsiaoTellsSpec) false w args) (Rows.hsiaoTellsSpec.post enc Tryd.prog Tryd.f3 false true false false) := by
  refine returnsInHanded_of_change_and (C := Tryd.checked) (X := fun w _ => laidMetH Tryd.prog Met.lst w) (fun _ _ _ hh h => h.of_heap hh) own started (by kernel_rfl) Tryd.func3
    (ChangeSpec.witness_shaped (enc := enc) (C := Tryd.checked) (os := os) (X := fun w _ => laidMetH Tryd.prog Met.lst w) false (World.doorLaid Tryd.prog Met.steps os) #[.int .u64 0, .int .u32 0, .int .i64 0, .int .i64 0, .int .i64 0] 8 rfl (World.shaped_of_RefB (by kernel_rfl) (by kernel_rfl)) (by kernel_rfl) (by kernel_rfl) (by kernel_rfl) (Met.door_met os _)) ?_
  intro W base args ds gs before hval0 hW _ _ hL _
  have hval : ∀ (j : Nat) t v, Tryd.f3.params[j]? = some t → args[j]? = some v → Value.okWide Tryd.prog W .any base t v := hval0
  have hW' := hW
  obtain ⟨p, q, hA0, hV, rfl, hfz, hnd⟩ := hW
  have hA : DataW.TrodAll enc Tryd.prog W 0 (fun _ => true) true Tryd.f3.params.toList args.toList ds p := hA0
  rw [Tryd.params3] at hA hval
  obtain ⟨v0, vs0, d0, ds0, p0, q0, hargs, rfl, rfl, h0, r0⟩ := trodAll_cons hA
  obtain ⟨v1, vs1, d1, ds1, p1, q1, rfl, rfl, rfl, h1, r1⟩ := trodAll_cons r0
  obtain ⟨v2, vs2, d2, ds2, p2, q2, rfl, rfl, rfl, h2, r2⟩ := trodAll_cons r1
  obtain ⟨v3, vs3, d3, ds3, p3, q3, rfl, rfl, rfl, h3, r3⟩ := trodAll_cons r2
  obtain ⟨v4, vs4, d4, ds4, p4, q4, rfl, rfl, rfl, h4, r4⟩ := trodAll_cons r3
  obtain ⟨rfl, rfl, rfl⟩ := trodAll_nil r4
  obtain rfl : args = #[v0, v1, v2, v3, v4] := by cases args; simp_all
  obtain ⟨rfl, rfl⟩ := trodVars_none hV
  obtain ⟨a0, rfl, rfl, rfl, w0⟩ := open_int Tryd.underlying22 (hval 0 22 v0 rfl rfl) h0
  obtain ⟨a1, rfl, rfl, rfl, w1⟩ := open_int Tryd.underlying23 (hval 1 23 v1 rfl rfl) h1
  obtain ⟨a2, rfl, rfl, rfl, w2⟩ := open_int Tryd.underlying3 (hval 2 3 v2 rfl rfl) h2
  obtain ⟨a3, rfl, rfl, rfl, w3⟩ := open_int Tryd.underlying3 (hval 3 3 v3 rfl rfl) h3
  obtain ⟨a4, rfl, rfl, rfl, w4⟩ := open_int Tryd.underlying3 (hval 4 3 v4 rfl rfl) h4
  clear hA0 hval0
  simp only [List.append_nil] at hW'
  refine (walk a0 a1 a2 a3 a4 w0 w1 w2 w3 w4 W (Met.of_laid hL)).mono fun e W' ⟨he, hg⟩ => ?_
  subst he
  exact ⟨_, rfl, ChangeSpec.post_alike (post_of_same (pa := []) (pv := []) hW' (fun _ _ _ => (trodAll_cons_mk (shut_bool Tryd.underlying4 _) trodAll_mk0)) (fun sp _ => (trodAll_cons_mk (shut_int Tryd.underlying22 w0) (trodAll_cons_mk (shut_int Tryd.underlying23 w1) (trodAll_cons_mk (shut_int Tryd.underlying3 w2) (trodAll_cons_mk (shut_int Tryd.underlying3 w3) (trodAll_cons_mk (shut_int Tryd.underlying3 w4) trodAll_mk0)))))) (fun _ _ => rfl) rfl
    (World.keptBut_refl _ _) (fun _ => rfl) (ok_one (by kernel_rfl) rfl (okWide_bool_mk Tryd.underlying4 _))) hg⟩

theorem over : Rows.hsiaoTellsRow.holds Tryd.pinned (OpenSpec.ofChange Rows.hsiaoTellsSpec) :=
  OpenClaim.holds_of_wide 3 Tryd.f3 rfl rfl rfl rfl rfl rfl rfl ⟨rfl, rfl, rfl, rfl, rfl⟩ rfl rfl rfl rfl rfl (by kernel_rfl) Tryd.func3 (by kernel_rfl)
    (of_decide_eq_true (by kernel_rfl)) (by unfold Func.isWrapper; first | (rw [if_pos (by decide +kernel)]; kernel_rfl) | (rw [if_neg (by decide +kernel)]; exact ⟨rfl, rfl⟩))
    (fun os started H enc _ => lifted os started H enc)

/-- ████ THE STATEMENT ████ -/
theorem proved : Rows.HsiaoTellsCardSaid :=
  Claim7.holds_tied_plain_at .later [] [.data] true (true, "835c757cf008591c3346fb44e5d3290509ba724393922d877330e6c88a1d6c3b") false
    over (fun _ h => by cases h) (by kernel_rfl) (fun _ h => by cases h) hsiaoTells_row_tie rfl ⟨rfl, rfl⟩ (by kernel_rfl) rfl
    (fun f fn hf hfn => by
      obtain rfl : f = 3 := Option.some.inj ((show Tryd.prog.funcNamed "dioscuri/dioscurilaw2.HsiaoTells" = some 3 by kernel_rfl).symm.trans hf) |>.symm
      obtain rfl : fn = Tryd.f3 := (Option.some.inj (Tryd.func3.symm.trans hfn)).symm
      exact ⟨by kernel_rfl, fun j t ht => by
        rw [Tryd.params3] at ht
        have hm : t ∈ [22, 23, 3, 3, 3] := by simpa using Array.mem_of_getElem? ht
        have hall : ([22, 23, 3, 3, 3].all fun u => !Tryd.prog.wantsStandIn u) = true := by kernel_rfl
        exact (show Tryd.prog.wantsStandIn t = false by simpa using List.all_eq_true.1 hall t hm)⟩)
    (by kernel_rfl)
#print axioms proved
end Go.Proofs.YtaodjkjmemmkeaaDoor.hsiaoTells
