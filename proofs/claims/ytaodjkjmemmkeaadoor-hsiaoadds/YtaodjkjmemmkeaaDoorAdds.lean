/- Proved: for all uint32 n, m and all ints a, b the call HsiaoAdds(n, m, a, b) returns true and leaves its arguments as they were. Condition: the table hsiao.rows holds what its own initialiser lays (tied). -/
import Derived.Test.YtaodjkjmemmkeaaDoorRows
import Derived.Test.YtaodjkjmemmkeaaDoorCards
import Derived.Test.YtaodjkjmemmkeaaDoorTie
import Derived.Test.YtaodjkjmemmkeaaDoorMet
import Derived.SevenTiedAt
import Derived.Test.YtaodjkjmemmkeaaDoorRefCount
import Derived.WalkKit
import Derived.ProofKit
import Derived.OpenShut
namespace Go.Proofs.YtaodjkjmemmkeaaDoor.hsiaoAdds
open Go.ChangeShapes Go.WideShapes Go.ChangeAt Go.RowKit Walks
set_option linter.unusedVariables false      -- a walk need not use every 'w<i>' (that an integer argument fits its kind)

theorem own : ownKnob Tryd.prog.godebug = none := by kernel_rfl

set_option maxHeartbeats 400000 in
theorem core (n m a b i0 k0 x cn cm cx ci ck cc : Int) (g1 g2 g3 : Bool) (n0 : 0 ≤ n) (n1 : n < 4294967296) (m0 : 0 ≤ m) (m1 : m < 4294967296) (x0 : 0 ≤ x) (x1 : x < 4294967296)
    (e0 : 0 ≤ i0) (e1 : i0 < 64) (e2 : 0 ≤ k0) (e3 : k0 < 64) (c0 : 0 ≤ ci) (c1 : ci < 128)
    (hi : bits .and .i64 a 63 = i0) (hk : bits .and .i64 b 63 = k0)
    (hx : bits .xor .u32 n m = x) (hc : bits .xor .u64 cn cm = cx)
    (h1 : (cc == 3) = g1) (h2 : decide (i0 % 39 < 32) = g1) (h3 : (cc == 1) = g2) (h4 : decide (32 ≤ i0 % 39) = g2) (h5 : (ci == ck) = g3) (h6 : (i0 % 39 == k0 % 39) = g3)
    (EN : Hid (((Num.enc n.toNat : Nat) : Int) = cn)) (EM : Hid (((Num.enc m.toNat : Nat) : Int) = cm)) (EX : Hid (((Num.enc x.toNat : Nat) : Int) = cx))
    (CI : Hid (((Num.col (i0 % 39).toNat : Nat) : Int) = ci)) (CK : Hid (((Num.col (k0 % 39).toNat : Nat) : Int) = ck)) (CC : Hid (((Num.cnt ci.toNat : Nat) : Int) = cc)) (w : World) (hL : Hid (Laid w)) :
    Calls Tryd.prog 5 #[.int .u32 n, .int .u32 m, .int .i64 a, .int .i64 b] w fun e w' => e = .returned (.bool true) ∧ w'.Alike w := by
  go_enter Tryd.func5, Tryd.ntmps5
  go_wp2_with fail
  refine (column_as _ _ (by omega) (by omega) CI _ hL).mono ?_; rintro e w2 ⟨rfl, rfl⟩
  go_wp2_with fail
  refine (refcount_as _ _ (by omega) (by omega) CC _).mono ?_; rintro e w2 ⟨rfl, rfl⟩
  go_wp2_with fail
  refine (encode_as _ _ (by omega) (by omega) EN _ hL).mono ?_; rintro e w' ⟨rfl, rfl⟩
  go_wp2_with fail
  refine (encode_as _ _ (by omega) (by omega) EM _ hL).mono ?_; rintro e w' ⟨rfl, rfl⟩
  go_wp2_with fail
  refine (encode_as _ _ (by omega) (by omega) EX _ hL).mono ?_; rintro e w' ⟨rfl, rfl⟩
  go_wp2_with fail
  refine (column_as _ _ (by omega) (by omega) CI _ hL).mono ?_; rintro e w2 ⟨rfl, rfl⟩
  go_wp2_with fail
  refine (column_as _ _ (by omega) (by omega) CK _ hL).mono ?_; rintro e w2 ⟨rfl, rfl⟩
  go_wp2_with fail
  refine (known _ hL).mono ?_; rintro e w6 ⟨rfl, hb⟩
  have HB : Hid (w6.Alike _) := hb
  clear hb
  go_wp2_with fail
  go_ret
  exact ⟨rfl, HB.out⟩
theorem walk (a0 : Int) (a1 : Int) (a2 : Int) (a3 : Int) (w0 : (Lit.int .u32 a0).wf = true) (w1 : (Lit.int .u32 a1).wf = true) (w2 : (Lit.int .i64 a2).wf = true) (w3 : (Lit.int .i64 a3).wf = true) (w : World) (hL : Laid w) :
    Calls Tryd.prog 5 #[.int .u32 a0, .int .u32 a1, .int .i64 a2, .int .i64 a3] w fun e w' => e = .returned (.bool true) ∧ w'.Alike w := by
  obtain ⟨h0, h1⟩ := bounds_u32 w0
  obtain ⟨h2, h3⟩ := bounds_u32 w1
  obtain ⟨n, rfl⟩ := Int.eq_ofNat_of_zero_le h0
  obtain ⟨m, rfl⟩ := Int.eq_ofNat_of_zero_le h2
  obtain ⟨i0, hi0, hi1⟩ := and63 a2
  obtain ⟨k0, hk0, hk1⟩ := and63 a3
  have hn : n < 4294967296 := by omega
  have hm : m < 4294967296 := by omega
  have li : i0 % 39 < 39 := Nat.mod_lt _ (by decide)
  have lk : k0 % 39 < 39 := Nat.mod_lt _ (by decide)
  have ei : ((i0 : Int) % 39).toNat = i0 % 39 := by omega
  have ek : ((k0 : Int) % 39).toNat = k0 % 39 := by omega
  have hx : n ^^^ m < 2 ^ 32 := Nat.xor_lt_two_pow (by omega) (by omega)
  have bn := Num.enc_lt n hn
  have bm := Num.enc_lt m hm
  have ea := Num.enc_add n m hn hm
  have cl := Num.col_lt _ li
  have cc := Num.col_cnt _ li
  have inj := Num.col_inj _ _ li lk
  exact core n m a2 a3 i0 k0 (n ^^^ m : Nat) (Num.enc n : Nat) (Num.enc m : Nat) (Num.enc (n ^^^ m) : Nat) (Num.col (i0 % 39) : Nat) (Num.col (k0 % 39) : Nat) (Num.cnt (Num.col (i0 % 39)) : Nat)
    (decide (i0 % 39 < 32)) (decide (32 ≤ i0 % 39)) (decide (i0 % 39 = k0 % 39))
    h0 (by omega) h2 (by omega) (by omega) (by omega) (by omega) (by omega) (by omega) (by omega) (by omega) (by omega) hi0 hk0
    (u32_xor_nat _ _ hn hm) (by rw [u64_xor_nat _ _ (by omega) (by omega), ea])
    (by rw [Bool.eq_iff_iff, beq_iff_eq, decide_eq_true_iff, cc]; split <;> omega) (by rw [Bool.eq_iff_iff, decide_eq_true_iff, decide_eq_true_iff]; omega)
    (by rw [Bool.eq_iff_iff, beq_iff_eq, decide_eq_true_iff, cc]; split <;> omega) (by rw [Bool.eq_iff_iff, decide_eq_true_iff, decide_eq_true_iff]; omega)
    (by rw [Bool.eq_iff_iff, beq_iff_eq, decide_eq_true_iff, ← inj]; omega) (by rw [Bool.eq_iff_iff, beq_iff_eq, decide_eq_true_iff]; omega)
    (by unfold Hid; rw [Int.toNat_natCast]) (by unfold Hid; rw [Int.toNat_natCast]) (by unfold Hid; rw [Int.toNat_natCast])
    (by unfold Hid; rw [ei]) (by unfold Hid; rw [ek]) (by unfold Hid; rw [Int.toNat_natCast]) w hL

/-! ### THE ROW's STEP: WRITTEN OUT: LEAVE IT -/
set_option maxRecDepth 100000 in
theorem lifted (os : Os) (started : os.Started) (H : Type) (enc : TypeId × Value → H) :
    ReturnsInHanded {} Tryd.checked os 5 .any (fun w args => (Rows.hsiaoAddsSpec.pre enc Tryd.prog Tryd.f5 [] false w args ∧ laidMetH Tryd.prog Met.lst w) ∧ sizedMet enc Tryd.prog Tryd.f5 (OpenSpec.ofChange Rows.hsiaoAddsSpec) false w args) (Rows.hsiaoAddsSpec.post enc Tryd.prog Tryd.f5 false true false false) := by
  refine returnsInHanded_of_change_and (C := Tryd.checked) (X := fun w _ => laidMetH Tryd.prog Met.lst w) (fun _ _ _ hh h => h.of_heap hh) own started (by kernel_rfl) Tryd.func5
    (ChangeSpec.witness_shaped (enc := enc) (C := Tryd.checked) (os := os) (X := fun w _ => laidMetH Tryd.prog Met.lst w) false (World.doorLaid Tryd.prog Met.steps os) #[.int .u32 0, .int .u32 0, .int .i64 0, .int .i64 0] 8 rfl (World.shaped_of_RefB (by kernel_rfl) (by kernel_rfl)) (by kernel_rfl) (by kernel_rfl) (by kernel_rfl) (Met.door_met os _)) ?_
  intro W base args ds gs before hval0 hW _ _ hL _
  have hval : ∀ (j : Nat) t v, Tryd.f5.params[j]? = some t → args[j]? = some v → Value.okWide Tryd.prog W .any base t v := hval0
  have hW' := hW
  obtain ⟨p, q, hA0, hV, rfl, hfz, hnd⟩ := hW
  have hA : DataW.TrodAll enc Tryd.prog W 0 (fun _ => true) true Tryd.f5.params.toList args.toList ds p := hA0
  rw [Tryd.params5] at hA hval
  obtain ⟨v0, vs0, d0, ds0, p0, q0, hargs, rfl, rfl, h0, r0⟩ := trodAll_cons hA
  obtain ⟨v1, vs1, d1, ds1, p1, q1, rfl, rfl, rfl, h1, r1⟩ := trodAll_cons r0
  obtain ⟨v2, vs2, d2, ds2, p2, q2, rfl, rfl, rfl, h2, r2⟩ := trodAll_cons r1
  obtain ⟨v3, vs3, d3, ds3, p3, q3, rfl, rfl, rfl, h3, r3⟩ := trodAll_cons r2
  obtain ⟨rfl, rfl, rfl⟩ := trodAll_nil r3
  obtain rfl : args = #[v0, v1, v2, v3] := by cases args; simp_all
  obtain ⟨rfl, rfl⟩ := trodVars_none hV
  obtain ⟨a0, rfl, rfl, rfl, w0⟩ := open_int Tryd.underlying23 (hval 0 23 v0 rfl rfl) h0
  obtain ⟨a1, rfl, rfl, rfl, w1⟩ := open_int Tryd.underlying23 (hval 1 23 v1 rfl rfl) h1
  obtain ⟨a2, rfl, rfl, rfl, w2⟩ := open_int Tryd.underlying3 (hval 2 3 v2 rfl rfl) h2
  obtain ⟨a3, rfl, rfl, rfl, w3⟩ := open_int Tryd.underlying3 (hval 3 3 v3 rfl rfl) h3
  clear hA0 hval0
  simp only [List.append_nil] at hW'
  refine (walk a0 a1 a2 a3 w0 w1 w2 w3 W (Met.of_laid hL)).mono fun e W' ⟨he, hg⟩ => ?_
  subst he
  exact ⟨_, rfl, ChangeSpec.post_alike (post_of_same (pa := []) (pv := []) hW' (fun _ _ _ => (trodAll_cons_mk (shut_bool Tryd.underlying4 _) trodAll_mk0)) (fun sp _ => (trodAll_cons_mk (shut_int Tryd.underlying23 w0) (trodAll_cons_mk (shut_int Tryd.underlying23 w1) (trodAll_cons_mk (shut_int Tryd.underlying3 w2) (trodAll_cons_mk (shut_int Tryd.underlying3 w3) trodAll_mk0))))) (fun _ _ => rfl) rfl
    (World.keptBut_refl _ _) (fun _ => rfl) (ok_one (by kernel_rfl) rfl (okWide_bool_mk Tryd.underlying4 _))) hg⟩

theorem over : Rows.hsiaoAddsRow.holds Tryd.pinned (OpenSpec.ofChange Rows.hsiaoAddsSpec) :=
  OpenClaim.holds_of_wide 5 Tryd.f5 rfl rfl rfl rfl rfl rfl rfl ⟨rfl, rfl, rfl, rfl, rfl⟩ rfl rfl rfl rfl rfl (by kernel_rfl) Tryd.func5 (by kernel_rfl)
    (of_decide_eq_true (by kernel_rfl)) (by unfold Func.isWrapper; first | (rw [if_pos (by decide +kernel)]; kernel_rfl) | (rw [if_neg (by decide +kernel)]; exact ⟨rfl, rfl⟩))
    (fun os started H enc _ => lifted os started H enc)

/-- ████ THE STATEMENT ████ -/
theorem proved : Rows.HsiaoAddsCardSaid :=
  Claim7.holds_tied_plain_at .later [] [.data] true (true, "835c757cf008591c3346fb44e5d3290509ba724393922d877330e6c88a1d6c3b") false
    over (fun _ h => by cases h) (by kernel_rfl) (fun _ h => by cases h) hsiaoAdds_row_tie rfl ⟨rfl, rfl⟩ (by kernel_rfl) rfl
    (fun f fn hf hfn => by
      obtain rfl : f = 5 := Option.some.inj ((show Tryd.prog.funcNamed "dioscuri/dioscurilaw2.HsiaoAdds" = some 5 by kernel_rfl).symm.trans hf) |>.symm
      obtain rfl : fn = Tryd.f5 := (Option.some.inj (Tryd.func5.symm.trans hfn)).symm
      exact ⟨by kernel_rfl, fun j t ht => by
        rw [Tryd.params5] at ht
        have hm : t ∈ [23, 23, 3, 3] := by simpa using Array.mem_of_getElem? ht
        have hall : ([23, 23, 3, 3].all fun u => !Tryd.prog.wantsStandIn u) = true := by kernel_rfl
        exact (show Tryd.prog.wantsStandIn t = false by simpa using List.all_eq_true.1 hall t hm)⟩)
    (by kernel_rfl)
#print axioms proved
end Go.Proofs.YtaodjkjmemmkeaaDoor.hsiaoAdds
