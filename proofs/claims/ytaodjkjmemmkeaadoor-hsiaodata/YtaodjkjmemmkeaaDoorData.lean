/- Proved: for every uint32 n and every int a the call HsiaoData(n, a) returns true and leaves its arguments as they were. Condition: the table hsiao.rows holds what its own initialiser lays (tied). -/
import Derived.Test.YtaodjkjmemmkeaaDoorRows
import Derived.Test.YtaodjkjmemmkeaaDoorCards
import Derived.Test.YtaodjkjmemmkeaaDoorTie
import Derived.Test.YtaodjkjmemmkeaaDoorMet
import Derived.SevenTiedAt
import Derived.Test.YtaodjkjmemmkeaaDoorMend
import Derived.WalkKit
import Derived.ProofKit
import Derived.OpenShut
namespace Go.Proofs.YtaodjkjmemmkeaaDoor.hsiaoData
open Go.ChangeShapes Go.WideShapes Go.ChangeAt Go.RowKit Walks
set_option linter.unusedVariables false      -- a walk need not use every 'w<i>' (that an integer argument fits its kind)

theorem own : ownKnob Tryd.prog.godebug = none := by kernel_rfl

set_option maxHeartbeats 400000 in
theorem core (n a c i0 z s st : Int) (n0 : 0 ≤ n) (n1 : n < 4294967296) (c0 : 0 ≤ c) (c1 : c < 549755813888)
    (e0 : 0 ≤ i0) (e1 : i0 < 64) (z0 : 0 ≤ z) (z1 : z < 549755813888) (hs : (s != 0) = true)
    (hi : bits .and .i64 a 63 = i0)
    (hz : bits .xor .u64 c (IntKind.u64.wrap (2 ^ (i0 % 39).toNat)) = z) (hn : c % 4294967296 = n)
    (E : Hid (((Num.enc n.toNat : Nat) : Int) = c)) (MW : Hid (((Num.mendW z.toNat : Nat) : Int) = c)) (MS : Hid (((Num.mendS z.toNat : Nat) : Int) = st))
    (S : Hid (((Num.syn z.toNat : Nat) : Int) = s)) (C : Hid (((Num.col (i0 % 39).toNat : Nat) : Int) = s)) (w : World) (hL : Hid (Laid w)) :
    Calls Tryd.prog 6 #[.int .u32 n, .int .i64 a] w fun e w' => e = .returned (.bool true) ∧ w'.Alike w := by
  go_enter Tryd.func6, Tryd.ntmps6
  go_wp2_with fail
  refine (encode_as _ _ (by omega) (by omega) E _ hL).mono ?_; rintro e w' ⟨rfl, rfl⟩
  go_wp2_with fail
  refine (mend_as _ _ _ (by omega) (by omega) MW MS _ hL).mono ?_; rintro e w1 ⟨rfl, ha⟩
  have hL1 : Hid (Laid w1) := hL.out.alike ha
  have HA : Hid (w1.Alike _) := ha
  clear ha
  go_wp2_with fail
  refine (syndrome_as _ _ (by omega) (by omega) S _ hL1).mono ?_; rintro e w2 ⟨rfl, rfl⟩
  go_wp2_with fail
  refine (column_as _ _ (by omega) (by omega) C _ hL1).mono ?_; rintro e w2 ⟨rfl, rfl⟩
  go_wp2_with fail
  refine (known _ hL1).mono ?_; rintro e w3 ⟨rfl, hb⟩
  have HB : Hid (w3.Alike _) := hb
  clear hb
  go_wp2_with fail
  go_ret
  exact ⟨rfl, alike_trans HB.out HA.out⟩
theorem walk (a0 : Int) (a1 : Int) (w0 : (Lit.int .u32 a0).wf = true) (w1 : (Lit.int .i64 a1).wf = true) (w : World) (hL : Laid w) :
    Calls Tryd.prog 6 #[.int .u32 a0, .int .i64 a1] w fun e w' => e = .returned (.bool true) ∧ w'.Alike w := by
  obtain ⟨h0, h1⟩ := bounds_u32 w0
  obtain ⟨v, rfl⟩ := Int.eq_ofNat_of_zero_le h0
  obtain ⟨i0, hi0, hi1⟩ := and63 a1
  have hv : v < 4294967296 := by omega
  have li : i0 % 39 < 39 := Nat.mod_lt _ (by decide)
  have ei : ((i0 : Int) % 39).toNat = i0 % 39 := by omega
  have bc := Num.enc_lt v hv
  have bz := Num.xor39 bc (Num.bit_lt _ li)
  have m := Num.mend_one v (i0 % 39) hv li
  have s := Num.syn_one v (i0 % 39) hv li
  have p := Num.col_pos (i0 % 39) li
  have em := Num.enc_mod v hv
  exact core v a1 (Num.enc v : Nat) i0 (Num.enc v ^^^ 2 ^ (i0 % 39) : Nat) (Num.col (i0 % 39) : Nat) 1
    h0 (by omega) (by omega) (by omega) (by omega) (by omega) (by omega) (by omega) (by rw [bne_iff_ne]; omega) hi0
    (by rw [ei]; exact xor_bit _ _ bc li) (by omega)
    (by unfold Hid; rw [Int.toNat_natCast]) (by unfold Hid; rw [Int.toNat_natCast, m.1]) (by unfold Hid; rw [Int.toNat_natCast, m.2]; rfl)
    (by unfold Hid; rw [Int.toNat_natCast, s]) (by unfold Hid; rw [ei]) w hL

/-! ### THE ROW's STEP: WRITTEN OUT: LEAVE IT -/
set_option maxRecDepth 100000 in
theorem lifted (os : Os) (started : os.Started) (H : Type) (enc : TypeId × Value → H) :
    ReturnsInHanded {} Tryd.checked os 6 .any (fun w args => (Rows.hsiaoDataSpec.pre enc Tryd.prog Tryd.f6 [] false w args ∧ laidMetH Tryd.prog Met.lst w) ∧ sizedMet enc Tryd.prog Tryd.f6 (OpenSpec.ofChange Rows.hsiaoDataSpec) false w args) (Rows.hsiaoDataSpec.post enc Tryd.prog Tryd.f6 false true false false) := by
  refine returnsInHanded_of_change_and (C := Tryd.checked) (X := fun w _ => laidMetH Tryd.prog Met.lst w) (fun _ _ _ hh h => h.of_heap hh) own started (by kernel_rfl) Tryd.func6
    (ChangeSpec.witness_shaped (enc := enc) (C := Tryd.checked) (os := os) (X := fun w _ => laidMetH Tryd.prog Met.lst w) false (World.doorLaid Tryd.prog Met.steps os) #[.int .u32 0, .int .i64 0] 8 rfl (World.shaped_of_RefB (by kernel_rfl) (by kernel_rfl)) (by kernel_rfl) (by kernel_rfl) (by kernel_rfl) (Met.door_met os _)) ?_
  intro W base args ds gs before hval0 hW _ _ hL _
  have hval : ∀ (j : Nat) t v, Tryd.f6.params[j]? = some t → args[j]? = some v → Value.okWide Tryd.prog W .any base t v := hval0
  have hW' := hW
  obtain ⟨p, q, hA0, hV, rfl, hfz, hnd⟩ := hW
  have hA : DataW.TrodAll enc Tryd.prog W 0 (fun _ => true) true Tryd.f6.params.toList args.toList ds p := hA0
  rw [Tryd.params6] at hA hval
  obtain ⟨v0, vs0, d0, ds0, p0, q0, hargs, rfl, rfl, h0, r0⟩ := trodAll_cons hA
  obtain ⟨v1, vs1, d1, ds1, p1, q1, rfl, rfl, rfl, h1, r1⟩ := trodAll_cons r0
  obtain ⟨rfl, rfl, rfl⟩ := trodAll_nil r1
  obtain rfl : args = #[v0, v1] := by cases args; simp_all
  obtain ⟨rfl, rfl⟩ := trodVars_none hV
  obtain ⟨a0, rfl, rfl, rfl, w0⟩ := open_int Tryd.underlying23 (hval 0 23 v0 rfl rfl) h0
  obtain ⟨a1, rfl, rfl, rfl, w1⟩ := open_int Tryd.underlying3 (hval 1 3 v1 rfl rfl) h1
  clear hA0 hval0
  simp only [List.append_nil] at hW'
  refine (walk a0 a1 w0 w1 W (Met.of_laid hL)).mono fun e W' ⟨he, hg⟩ => ?_
  subst he
  exact ⟨_, rfl, ChangeSpec.post_alike (post_of_same (pa := []) (pv := []) hW' (fun _ _ _ => (trodAll_cons_mk (shut_bool Tryd.underlying4 _) trodAll_mk0)) (fun sp _ => (trodAll_cons_mk (shut_int Tryd.underlying23 w0) (trodAll_cons_mk (shut_int Tryd.underlying3 w1) trodAll_mk0))) (fun _ _ => rfl) rfl
    (World.keptBut_refl _ _) (fun _ => rfl) (ok_one (by kernel_rfl) rfl (okWide_bool_mk Tryd.underlying4 _))) hg⟩

theorem over : Rows.hsiaoDataRow.holds Tryd.pinned (OpenSpec.ofChange Rows.hsiaoDataSpec) :=
  OpenClaim.holds_of_wide 6 Tryd.f6 rfl rfl rfl rfl rfl rfl rfl ⟨rfl, rfl, rfl, rfl, rfl⟩ rfl rfl rfl rfl rfl (by kernel_rfl) Tryd.func6 (by kernel_rfl)
    (of_decide_eq_true (by kernel_rfl)) (by unfold Func.isWrapper; first | (rw [if_pos (by decide +kernel)]; kernel_rfl) | (rw [if_neg (by decide +kernel)]; exact ⟨rfl, rfl⟩))
    (fun os started H enc _ => lifted os started H enc)

/-- ████ THE STATEMENT ████ -/
theorem proved : Rows.HsiaoDataCardSaid :=
  Claim7.holds_tied_plain_at .later [] [.data] true (true, "835c757cf008591c3346fb44e5d3290509ba724393922d877330e6c88a1d6c3b") false
    over (fun _ h => by cases h) (by kernel_rfl) (fun _ h => by cases h) hsiaoData_row_tie rfl ⟨rfl, rfl⟩ (by kernel_rfl) rfl
    (fun f fn hf hfn => by
      obtain rfl : f = 6 := Option.some.inj ((show Tryd.prog.funcNamed "dioscuri/dioscurilaw2.HsiaoData" = some 6 by kernel_rfl).symm.trans hf) |>.symm
      obtain rfl : fn = Tryd.f6 := (Option.some.inj (Tryd.func6.symm.trans hfn)).symm
      exact ⟨by kernel_rfl, fun j t ht => by
        rw [Tryd.params6] at ht
        have hm : t ∈ [23, 3] := by simpa using Array.mem_of_getElem? ht
        have hall : ([23, 3].all fun u => !Tryd.prog.wantsStandIn u) = true := by kernel_rfl
        exact (show Tryd.prog.wantsStandIn t = false by simpa using List.all_eq_true.1 hall t hm)⟩)
    (by kernel_rfl)
#print axioms proved
end Go.Proofs.YtaodjkjmemmkeaaDoor.hsiaoData
