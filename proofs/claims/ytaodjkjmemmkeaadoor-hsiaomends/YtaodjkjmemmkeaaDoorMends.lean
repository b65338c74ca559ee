/- Proved: for every uint32 n and all ints a, b the call HsiaoMends(n, a, b) returns true and leaves its arguments as they were. Condition: the table hsiao.rows holds what its own initialiser lays (tied). -/
import Derived.Test.YtaodjkjmemmkeaaDoorRows
import Derived.Test.YtaodjkjmemmkeaaDoorCards
import Derived.Test.YtaodjkjmemmkeaaDoorTie
import Derived.Test.YtaodjkjmemmkeaaDoorMet
import Derived.SevenTiedAt
import Derived.Test.YtaodjkjmemmkeaaDoorMend
import Derived.WalkKit
import Derived.ProofKit
import Derived.OpenShut
namespace Go.Proofs.YtaodjkjmemmkeaaDoor.hsiaoMends
open Go.ChangeShapes Go.WideShapes Go.ChangeAt Go.RowKit Walks
set_option linter.unusedVariables false      -- a walk need not use every 'w<i>' (that an integer argument fits its kind)

theorem own : ownKnob Tryd.prog.godebug = none := by kernel_rfl

set_option maxHeartbeats 400000 in
theorem core (n a b c i0 k0 z y d st : Int) (g : Bool) (n0 : 0 ≤ n) (n1 : n < 4294967296) (c0 : 0 ≤ c) (c1 : c < 549755813888)
    (e0 : 0 ≤ i0) (e1 : i0 < 64) (e2 : 0 ≤ k0) (e3 : k0 < 64) (z0 : 0 ≤ z) (z1 : z < 549755813888) (y0 : 0 ≤ y) (y1 : y < 549755813888)
    (hi : bits .and .i64 a 63 = i0) (hk : bits .and .i64 b 63 = k0)
    (hz : bits .xor .u64 c (IntKind.u64.wrap (2 ^ (i0 % 39).toNat)) = z) (hy : bits .xor .u64 z (IntKind.u64.wrap (2 ^ (k0 % 39).toNat)) = y)
    (hst : (st == 2) = g) (hik : (i0 % 39 != k0 % 39) = g)
    (E : Hid (((Num.enc n.toNat : Nat) : Int) = c)) (W1 : Hid (((Num.mendW c.toNat % 4294967296 : Nat) : Int) = n)) (S1 : Hid (((Num.mendS c.toNat : Nat) : Int) = 0))
    (W2 : Hid (((Num.mendW z.toNat % 4294967296 : Nat) : Int) = n)) (S2 : Hid (((Num.mendS z.toNat : Nat) : Int) = 1)) (W3 : Hid (((Num.mendW z.toNat : Nat) : Int) = c))
    (W4 : Hid (((Num.mendW y.toNat % 4294967296 : Nat) : Int) = d)) (S4 : Hid (((Num.mendS y.toNat : Nat) : Int) = st))
    (S : Hid (((Num.syn c.toNat : Nat) : Int) = 0)) (w : World) (hL : Hid (Laid w)) :
    Calls Tryd.prog 4 #[.int .u32 n, .int .i64 a, .int .i64 b] w fun e w' => e = .returned (.bool true) ∧ w'.Alike w := by
  go_enter Tryd.func4, Tryd.ntmps4
  go_wp2_with fail
  refine (encode_as _ _ (by omega) (by omega) E _ hL).mono ?_; rintro e w' ⟨rfl, rfl⟩
  go_wp2_with fail
  refine (decode_as _ _ _ (by omega) (by omega) W1 S1 _ hL).mono ?_; rintro e w1 ⟨rfl, ha⟩
  have hL1 : Hid (Laid w1) := hL.out.alike ha
  have HA1 : Hid (w1.Alike _) := ha
  clear ha
  go_wp2_with fail
  refine (decode_as _ _ _ (by omega) (by omega) W2 S2 _ hL1).mono ?_; rintro e w2 ⟨rfl, ha⟩
  have hL2 : Hid (Laid w2) := hL1.out.alike ha
  have HA2 : Hid (w2.Alike _) := alike_trans ha HA1.out
  clear ha
  go_wp2_with fail
  refine (mend_as _ _ _ (by omega) (by omega) W3 S2 _ hL2).mono ?_; rintro e w3 ⟨rfl, ha⟩
  have hL3 : Hid (Laid w3) := hL2.out.alike ha
  have HA3 : Hid (w3.Alike _) := alike_trans ha HA2.out
  clear ha
  go_wp2_with fail
  refine (decode_as _ _ _ (by omega) (by omega) W4 S4 _ hL3).mono ?_; rintro e w4 ⟨rfl, ha⟩
  have hL4 : Hid (Laid w4) := hL3.out.alike ha
  have HA4 : Hid (w4.Alike _) := alike_trans ha HA3.out
  clear ha
  go_wp2_with fail
  refine (syndrome_as _ _ (by omega) (by omega) S _ hL4).mono ?_; rintro e w5 ⟨rfl, rfl⟩
  go_wp2_with fail
  refine (known _ hL4).mono ?_; rintro e w6 ⟨rfl, hb⟩
  have HB : Hid (w6.Alike _) := alike_trans hb HA4.out
  clear hb
  go_wp2_with fail
  go_ret
  exact ⟨rfl, HB.out⟩
theorem walk (a0 : Int) (a1 : Int) (a2 : Int) (w0 : (Lit.int .u32 a0).wf = true) (w1 : (Lit.int .i64 a1).wf = true) (w2 : (Lit.int .i64 a2).wf = true) (w : World) (hL : Laid w) :
    Calls Tryd.prog 4 #[.int .u32 a0, .int .i64 a1, .int .i64 a2] w fun e w' => e = .returned (.bool true) ∧ w'.Alike w := by
  obtain ⟨h0, h1⟩ := bounds_u32 w0
  obtain ⟨v, rfl⟩ := Int.eq_ofNat_of_zero_le h0
  obtain ⟨i0, hi0, hi1⟩ := and63 a1
  obtain ⟨k0, hk0, hk1⟩ := and63 a2
  have hv : v < 4294967296 := by omega
  have li : i0 % 39 < 39 := Nat.mod_lt _ (by decide)
  have lk : k0 % 39 < 39 := Nat.mod_lt _ (by decide)
  have ei : ((i0 : Int) % 39).toNat = i0 % 39 := by omega
  have ek : ((k0 : Int) % 39).toNat = k0 % 39 := by omega
  have bc := Num.enc_lt v hv
  have bz := Num.xor39 bc (Num.bit_lt _ li)
  have bY := Num.xor39 bz (Num.bit_lt _ lk)
  have m := Num.mend_one v (i0 % 39) hv li
  have sc := Num.syn_enc v hv
  have m0 := Num.mend_good _ bc sc
  have em := Num.enc_mod v hv
  have two : Num.mendS (Num.enc v ^^^ 2 ^ (i0 % 39) ^^^ 2 ^ (k0 % 39)) = if i0 % 39 = k0 % 39 then 0 else 2 := by
    by_cases h : i0 % 39 = k0 % 39
    · rw [if_pos h, ← h]; exact Num.mend_same v _ hv
    · rw [if_neg h]; exact Num.mend_two v _ _ hv li lk h
  exact core v a1 a2 (Num.enc v : Nat) i0 k0 (Num.enc v ^^^ 2 ^ (i0 % 39) : Nat) (Num.enc v ^^^ 2 ^ (i0 % 39) ^^^ 2 ^ (k0 % 39) : Nat) _ (Num.mendS (Num.enc v ^^^ 2 ^ (i0 % 39) ^^^ 2 ^ (k0 % 39)) : Nat) (i0 % 39 != k0 % 39)
    h0 (by omega) (by omega) (by omega) (by omega) (by omega) (by omega) (by omega) (by omega) (by omega) (by omega) (by omega) hi0 hk0
    (by rw [ei]; exact xor_bit _ _ bc li) (by rw [ek]; exact xor_bit _ _ bz lk)
    (by rw [Bool.eq_iff_iff, beq_iff_eq, bne_iff_ne, two]; split <;> omega) (by rw [Bool.eq_iff_iff, bne_iff_ne, bne_iff_ne]; omega)
    (by unfold Hid; rw [Int.toNat_natCast]) (by unfold Hid; rw [Int.toNat_natCast, m0.1, em]) (by unfold Hid; rw [Int.toNat_natCast, m0.2]; rfl)
    (by unfold Hid; rw [Int.toNat_natCast, m.1, em]) (by unfold Hid; rw [Int.toNat_natCast, m.2]; rfl) (by unfold Hid; rw [Int.toNat_natCast, m.1])
    (by unfold Hid; rfl) (by unfold Hid; rw [Int.toNat_natCast]) (by unfold Hid; rw [Int.toNat_natCast, sc]; rfl) w hL

/-! ### THE ROW's STEP: WRITTEN OUT: LEAVE IT -/
set_option maxRecDepth 100000 in
theorem lifted (os : Os) (started : os.Started) (H : Type) (enc : TypeId × Value → H) :
    ReturnsInHanded {} Tryd.checked os 4 .any (fun w args => (Rows.hsiaoMendsSpec.pre enc Tryd.prog Tryd.f4 [] false w args ∧ laidMetH Tryd.prog Met.lst w) ∧ sizedMet enc Tryd.prog Tryd.f4 (OpenSpec.ofChange Rows.hsiaoMendsSpec) false w args) (Rows.hsiaoMendsSpec.post enc Tryd.prog Tryd.f4 false true false false) := by
  refine returnsInHanded_of_change_and (C := Tryd.checked) (X := fun w _ => laidMetH Tryd.prog Met.lst w) (fun _ _ _ hh h => h.of_heap hh) own started (by kernel_rfl) Tryd.func4
    (ChangeSpec.witness_shaped (enc := enc) (C := Tryd.checked) (os := os) (X := fun w _ => laidMetH Tryd.prog Met.lst w) false (World.doorLaid Tryd.prog Met.steps os) #[.int .u32 0, .int .i64 0, .int .i64 0] 8 rfl (World.shaped_of_RefB (by kernel_rfl) (by kernel_rfl)) (by kernel_rfl) (by kernel_rfl) (by kernel_rfl) (Met.door_met os _)) ?_
  intro W base args ds gs before hval0 hW _ _ hL _
  have hval : ∀ (j : Nat) t v, Tryd.f4.params[j]? = some t → args[j]? = some v → Value.okWide Tryd.prog W .any base t v := hval0
  have hW' := hW
  obtain ⟨p, q, hA0, hV, rfl, hfz, hnd⟩ := hW
  have hA : DataW.TrodAll enc Tryd.prog W 0 (fun _ => true) true Tryd.f4.params.toList args.toList ds p := hA0
  rw [Tryd.params4] at hA hval
  obtain ⟨v0, vs0, d0, ds0, p0, q0, hargs, rfl, rfl, h0, r0⟩ := trodAll_cons hA
  obtain ⟨v1, vs1, d1, ds1, p1, q1, rfl, rfl, rfl, h1, r1⟩ := trodAll_cons r0
  obtain ⟨v2, vs2, d2, ds2, p2, q2, rfl, rfl, rfl, h2, r2⟩ := trodAll_cons r1
  obtain ⟨rfl, rfl, rfl⟩ := trodAll_nil r2
  obtain rfl : args = #[v0, v1, v2] := by cases args; simp_all
  obtain ⟨rfl, rfl⟩ := trodVars_none hV
  obtain ⟨a0, rfl, rfl, rfl, w0⟩ := open_int Tryd.underlying23 (hval 0 23 v0 rfl rfl) h0
  obtain ⟨a1, rfl, rfl, rfl, w1⟩ := open_int Tryd.underlying3 (hval 1 3 v1 rfl rfl) h1
  obtain ⟨a2, rfl, rfl, rfl, w2⟩ := open_int Tryd.underlying3 (hval 2 3 v2 rfl rfl) h2
  clear hA0 hval0
  simp only [List.append_nil] at hW'
  refine (walk a0 a1 a2 w0 w1 w2 W (Met.of_laid hL)).mono fun e W' ⟨he, hg⟩ => ?_
  subst he
  exact ⟨_, rfl, ChangeSpec.post_alike (post_of_same (pa := []) (pv := []) hW' (fun _ _ _ => (trodAll_cons_mk (shut_bool Tryd.underlying4 _) trodAll_mk0)) (fun sp _ => (trodAll_cons_mk (shut_int Tryd.underlying23 w0) (trodAll_cons_mk (shut_int Tryd.underlying3 w1) (trodAll_cons_mk (shut_int Tryd.underlying3 w2) trodAll_mk0)))) (fun _ _ => rfl) rfl
    (World.keptBut_refl _ _) (fun _ => rfl) (ok_one (by kernel_rfl) rfl (okWide_bool_mk Tryd.underlying4 _))) hg⟩

theorem over : Rows.hsiaoMendsRow.holds Tryd.pinned (OpenSpec.ofChange Rows.hsiaoMendsSpec) :=
  OpenClaim.holds_of_wide 4 Tryd.f4 rfl rfl rfl rfl rfl rfl rfl ⟨rfl, rfl, rfl, rfl, rfl⟩ rfl rfl rfl rfl rfl (by kernel_rfl) Tryd.func4 (by kernel_rfl)
    (of_decide_eq_true (by kernel_rfl)) (by unfold Func.isWrapper; first | (rw [if_pos (by decide +kernel)]; kernel_rfl) | (rw [if_neg (by decide +kernel)]; exact ⟨rfl, rfl⟩))
    (fun os started H enc _ => lifted os started H enc)

/-- ████ THE STATEMENT ████ -/
theorem proved : Rows.HsiaoMendsCardSaid :=
  Claim7.holds_tied_plain_at .later [] [.data] true (true, "835c757cf008591c3346fb44e5d3290509ba724393922d877330e6c88a1d6c3b") false
    over (fun _ h => by cases h) (by kernel_rfl) (fun _ h => by cases h) hsiaoMends_row_tie rfl ⟨rfl, rfl⟩ (by kernel_rfl) rfl
    (fun f fn hf hfn => by
      obtain rfl : f = 4 := Option.some.inj ((show Tryd.prog.funcNamed "dioscuri/dioscurilaw2.HsiaoMends" = some 4 by kernel_rfl).symm.trans hf) |>.symm
      obtain rfl : fn = Tryd.f4 := (Option.some.inj (Tryd.func4.symm.trans hfn)).symm
      exact ⟨by kernel_rfl, fun j t ht => by
        rw [Tryd.params4] at ht
        have hm : t ∈ [23, 3, 3] := by simpa using Array.mem_of_getElem? ht
        have hall : ([23, 3, 3].all fun u => !Tryd.prog.wantsStandIn u) = true := by kernel_rfl
        exact (show Tryd.prog.wantsStandIn t = false by simpa using List.all_eq_true.1 hall t hm)⟩)
    (by kernel_rfl)
#print axioms proved
end Go.Proofs.YtaodjkjmemmkeaaDoor.hsiaoMends
