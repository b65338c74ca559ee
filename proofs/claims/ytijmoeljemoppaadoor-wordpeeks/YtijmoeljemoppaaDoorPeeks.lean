/- Proved: for all uint32 n, m and all ints a, b the call WordPeeks(n, m, a, b) returns true and leaves its arguments as they were. Condition: the table hsiao.rows holds what its own initialiser lays (tied). -/
import Derived.Test.YtijmoeljemoppaaDoorRows
import Derived.Test.YtijmoeljemoppaaDoorCards
import Derived.Test.YtijmoeljemoppaaDoorTie
import Derived.Test.YtijmoeljemoppaaDoorMet
import Derived.SevenTiedAt
import Derived.Test.YtijmoeljemoppaaDoorRowNum
import Derived.WalkKit
import Derived.ProofKit
import Derived.OpenShut
namespace Go.Proofs.YtijmoeljemoppaaDoor.wordPeeks
open Go.ChangeShapes Go.WideShapes Go.ChangeAt Go.RowKit Walks
set_option linter.unusedVariables false      -- a walk need not use every 'w<i>' (that an integer argument fits its kind)

theorem own : ownKnob Tryd.prog.godebug = none := by kernel_rfl

set_option maxHeartbeats 1000000 in
theorem core (n m a b i0 k0 st : Int) (g : Bool) (n0 : 0 ≤ n) (n1 : n < 4294967296) (m0 : 0 ≤ m) (m1 : m < 4294967296) (e0 : 0 ≤ i0) (e1 : i0 < 64) (e2 : 0 ≤ k0) (e3 : k0 < 64)
    (hi : bits .and .i64 a 63 = i0) (hk : bits .and .i64 b 63 = k0) (hg : (39 + i0 % 39 == 39 + k0 % 39) = g) (hst : Hid ((if g then 0 else 2) = st))
    (p1 p2 p3 p4 : Nat → Nat) (P1 : Hid (ptW 3 Walks.w0 1 n.toNat = p1)) (P2 : Hid (flW 3 p1 (39 + i0 % 39) = p2)) (P3 : Hid (flW 3 p2 (39 + k0 % 39) = p3)) (P4 : Hid (ptW 3 p3 1 m.toNat = p4))
    (G2 : Hid (inF 3 (39 + i0 % 39) = true)) (G3 : Hid (inF 3 (39 + k0 % 39) = true)) (x3 : Int) (X3 : Hid (((pkV 3 p3 1 : Nat) : Int) = x3)) (S3 : Hid (((pkS 3 p3 1 : Nat) : Int) = st))
    (X0 : Hid (((pkV 3 p3 0 : Nat) : Int) = 0)) (S0 : Hid (((pkS 3 p3 0 : Nat) : Int) = 0)) (X4 : Hid (((pkV 3 p4 1 : Nat) : Int) = m)) (S4 : Hid (((pkS 3 p4 1 : Nat) : Int) = 0)) (F4' : Hid (gtF 3 p4 0 1 = 0))
    (w : World) (hL : Hid (Laid w)) :
    Calls Tryd.prog 6 #[.int .u32 n, .int .u32 m, .int .i64 a, .int .i64 b] w fun e w' => e = .returned (.bool true) ∧ FrB w.heap.size w w' := by
  have B0 := hideP hL.out.pos
  have g1 : Hid (inB 3 1 = true) := by unfold Hid; decide +kernel
  cases g
  all_goals
    obtain rfl := hst.out
    go_enter Tryd.func6, Tryd.ntmps6
    go_wp2_with fail
    refine (new_ex _ _ hL).mono ?_; rintro e w1 ⟨b, d, rfl, hF⟩
    have F1 : Hid (Fresh w.heap.size b d 3 Walks.w0 0 w w1) := hF
    have L1 : Hid (Laid w1) := F1.out.laid hL.out B0.out
    clear hF
    go_wp2_with fail
    refine (put_as b d 3 0 Walks.w0 _ _ _ g1 n0 n1 (by decide) _ L1 F1.out.1).mono ?_; rintro e w2 ⟨rfl, hF⟩
    have F2 : Hid (Fresh w.heap.size b d 3 p1 0 w w2) := F1.out.now (by rw [P1.out] at hF; exact hF)
    clear hF
    go_wp2_with fail
    refine (flip_as b d 3 0 p1 _ _ G2 (by decide) _ F2.out.1).mono ?_; rintro e w3 ⟨rfl, hF⟩
    have F3 : Hid (Fresh w.heap.size b d 3 p2 0 w w3) := F2.out.now (by rw [P2.out] at hF; exact hF)
    clear hF
    go_wp2_with fail
    refine (flip_as b d 3 0 p2 _ _ G3 (by decide) _ F3.out.1).mono ?_; rintro e w4 ⟨rfl, hF⟩
    have F4 : Hid (Fresh w.heap.size b d 3 p3 0 w w4) := F3.out.now (by rw [P3.out] at hF; exact hF)
    clear hF
    go_wp2_with fail
    go_loopw [13] (fun t wr => ∃ j : Nat, (j : Int) ≤ 3 ∧ t = .int .i64 j ∧ Hid (wr.Alike w4)) (fun t _ => 3 - (intOf t).toNat)
    case atStart => exact ⟨0, by decide, rfl, alike_refl _⟩
    case round =>
      obtain ⟨j, hj, rfl, HA⟩ := hrel
      rename_i wr
      have F5 : Hid (Fresh w.heap.size b d 3 p3 0 w wr) := F4.out.alike HA.out
      have L5 : Hid (Laid wr) := F5.out.laid hL.out B0.out
      by_cases hlt : (j : Int) < 3
      · go_wp2_with fail
        refine (peek_as b d 3 0 p3 _ _ _ X3 S3 (by decide) _ L5 F5.out.1).mono ?_; rintro e w5 ⟨rfl, hF⟩
        have F6 : Hid (Fresh w.heap.size b d 3 p3 0 w w5) := F5.out.alike hF
        have HA6 : Hid (w5.Alike w4) := alike_trans hF HA.out
        clear hF
        go_wp2_with fail
        refine (fixes_as b 0 _ F6.out.1.hf).mono ?_; rintro e w' ⟨rfl, rfl⟩
        go_wp2_with fail
        exact ⟨⟨j + 1, by omega, by rw [Int.natCast_add]; rfl, HA6⟩, by simp [intOf]; omega⟩
      · go_wp2_with fail
        refine (peek_as b d 3 0 p3 _ _ _ X0 S0 (by decide) _ L5 F5.out.1).mono ?_; rintro e w5 ⟨rfl, hF⟩
        have F6 : Hid (Fresh w.heap.size b d 3 p3 0 w w5) := F5.out.alike hF
        have L6 : Hid (Laid w5) := F6.out.laid hL.out B0.out
        clear hF
        go_wp2_with fail
        refine (put_as b d 3 0 p3 _ _ _ g1 m0 m1 (by decide) _ L6 F6.out.1).mono ?_; rintro e w6 ⟨rfl, hF⟩
        have F7 : Hid (Fresh w.heap.size b d 3 p4 0 w w6) := F6.out.now (by rw [P4.out] at hF; exact hF)
        have L7 : Hid (Laid w6) := F7.out.laid hL.out B0.out
        clear hF
        go_wp2_with fail
        refine (get_as b d 3 0 p4 _ _ _ X4 S4 (by decide) (by decide) _ L7 F7.out.1).mono ?_; rintro e w7 ⟨rfl, hF⟩
        have F8 : Hid (Fresh w.heap.size b d 3 (gtW 3 p4 1) 0 w w7) := F7.out.now (by rw [F4'.out] at hF; exact hF)
        have L8 : Hid (Laid w7) := F8.out.laid hL.out B0.out
        clear hF
        go_wp2_with fail
        refine (fixes_as b 0 _ F8.out.1.hf).mono ?_; rintro e w' ⟨rfl, rfl⟩
        go_wp2_with fail
        refine (known _ L8).mono ?_; rintro e w8 ⟨rfl, hF⟩
        have F9 := hideP (F8.out.2.1.trans (hF.mono F8.out.2.1.size))
        clear hF
        go_wp2_with fail
        go_ret
        exact ⟨rfl, F9.out⟩
theorem walk (a0 : Int) (a1 : Int) (a2 : Int) (a3 : Int) (w0 : (Lit.int .u32 a0).wf = true) (w1 : (Lit.int .u32 a1).wf = true) (w2 : (Lit.int .i64 a2).wf = true) (w3 : (Lit.int .i64 a3).wf = true) (w : World) (hL : Laid w) :
    Calls Tryd.prog 6 #[.int .u32 a0, .int .u32 a1, .int .i64 a2, .int .i64 a3] w fun e w' => e = .returned (.bool true) ∧ FrB w.heap.size w w' := by
  obtain ⟨h0, h1⟩ := bounds_u32 w0
  obtain ⟨h2, h3⟩ := bounds_u32 w1
  obtain ⟨n, rfl⟩ := Int.eq_ofNat_of_zero_le h0
  obtain ⟨m, rfl⟩ := Int.eq_ofNat_of_zero_le h2
  obtain ⟨i0, hi0, hi1⟩ := and63 a2
  obtain ⟨k0, hk0, hk1⟩ := and63 a3
  have hn : n < 4294967296 := by omega
  have hm : m < 4294967296 := by omega
  have li : i0 % 39 < 39 := Nat.mod_lt _ (by decide)
  have lk : k0 % 39 < 39 := Nat.mod_lt _ (by decide)
  have P1 : ptW 3 Walks.w0 1 n = upd Walks.w0 1 (Num.enc n) := ptW_in (n := 3) _ n (i := 1) (k := 1) rfl (by decide)
  have ei : (39 + (i0 : Int) % 39) = ((39 * 1 + i0 % 39 : Nat) : Int) := by omega
  have ek : (39 + (k0 : Int) % 39) = ((39 * 1 + k0 % 39 : Nat) : Int) := by omega
  obtain ⟨p1, E1⟩ : ∃ p1, ptW 3 Walks.w0 1 n = p1 := ⟨_, rfl⟩
  obtain ⟨p2, E2⟩ : ∃ p2, flW 3 p1 (39 + (i0 : Int) % 39) = p2 := ⟨_, rfl⟩
  obtain ⟨p3, E3⟩ : ∃ p3, flW 3 p2 (39 + (k0 : Int) % 39) = p3 := ⟨_, rfl⟩
  obtain ⟨p4, E4⟩ : ∃ p4, ptW 3 p3 1 m = p4 := ⟨_, rfl⟩
  have v1 : p1 1 = Num.enc n := by rw [← E1, P1, upd_at]
  have z1 : p1 0 = 0 := by rw [← E1, P1]; rfl
  have v2 : p2 1 = Num.enc n ^^^ 2 ^ (i0 % 39) := by rw [← E2, flW_in (n := 3) p1 ei (by decide) li, upd_at, v1]
  have z2 : p2 0 = 0 := by rw [← E2, flW_in (n := 3) p1 ei (by decide) li, upd_off _ _ _ _ (by decide), z1]
  have v3 : p3 1 = Num.enc n ^^^ 2 ^ (i0 % 39) ^^^ 2 ^ (k0 % 39) := by rw [← E3, flW_in (n := 3) p2 ek (by decide) lk, upd_at, v2]
  have z3 : p3 0 = 0 := by rw [← E3, flW_in (n := 3) p2 ek (by decide) lk, upd_off _ _ _ _ (by decide), z2]
  have v4 : p4 1 = Num.enc m := by rw [← E4, ptW_in (n := 3) p3 m (i := 1) (k := 1) rfl (by decide), upd_at]
  have me := mend_enc m hm
  have two : Num.mendS (Num.enc n ^^^ 2 ^ (i0 % 39) ^^^ 2 ^ (k0 % 39)) = if i0 % 39 = k0 % 39 then 0 else 2 := by
    by_cases h : i0 % 39 = k0 % 39
    · rw [if_pos h, ← h]; exact Num.mend_same n _ hn
    · rw [if_neg h]; exact Num.mend_two n _ _ hn li lk h
  have g39 : (39 + (i0 : Int) % 39 == 39 + (k0 : Int) % 39) = decide (i0 % 39 = k0 % 39) := by rw [Bool.eq_iff_iff, beq_iff_eq, decide_eq_true_eq]; omega
  have H2 : inF 3 (39 + (i0 : Int) % 39) = true := inF_in ei (by decide) li
  have H3 : inF 3 (39 + (k0 : Int) % 39) = true := inF_in ek (by decide) lk
  have S3 : ((pkS 3 p3 1 : Nat) : Int) = if decide (i0 % 39 = k0 % 39) then 0 else 2 := by
    rw [pkS_in (n := 3) p3 (i := 1) (k := 1) rfl (by decide), v3, two]
    by_cases h : i0 % 39 = k0 % 39 <;> simp [h]
  have X0 : ((pkV 3 p3 0 : Nat) : Int) = 0 := by rw [pkV_in (n := 3) p3 (i := 0) (k := 0) rfl (by decide), z3, mend_0.1]; rfl
  have S0 : ((pkS 3 p3 0 : Nat) : Int) = 0 := by rw [pkS_in (n := 3) p3 (i := 0) (k := 0) rfl (by decide), z3, mend_0.2]; rfl
  have X4 : ((pkV 3 p4 1 : Nat) : Int) = m := by rw [pkV_in (n := 3) p4 (i := 1) (k := 1) rfl (by decide), v4, me.1]
  have S4 : ((pkS 3 p4 1 : Nat) : Int) = 0 := by rw [pkS_in (n := 3) p4 (i := 1) (k := 1) rfl (by decide), v4, me.2]; rfl
  have T4 : gtF 3 p4 0 1 = 0 := by rw [gtF_in (n := 3) p4 0 (i := 1) (k := 1) rfl (by decide), v4, me.2]; rfl
  exact core n m a2 a3 i0 k0 _ _ h0 (by omega) h2 (by omega) (by omega) (by omega) (by omega) (by omega) hi0 hk0 g39 rfl p1 p2 p3 p4 (by unfold Hid; rw [Int.toNat_natCast]; exact E1) E2 E3 (by unfold Hid; rw [Int.toNat_natCast]; exact E4)
    H2 H3 _ rfl S3 X0 S0 X4 S4 T4 w hL


/-! ### THE ROW's STEP: WRITTEN OUT: LEAVE IT -/
set_option maxRecDepth 100000 in
theorem lifted (os : Os) (started : os.Started) (H : Type) (enc : TypeId × Value → H) :
    ReturnsInHanded {} Tryd.checked os 6 .any (fun w args => (Rows.wordPeeksSpec.pre enc Tryd.prog Tryd.f6 [] false w args ∧ laidMetH Tryd.prog Met.lst w) ∧ sizedMet enc Tryd.prog Tryd.f6 (OpenSpec.ofChange Rows.wordPeeksSpec) false w args) (Rows.wordPeeksSpec.post enc Tryd.prog Tryd.f6 false true false false) := by
  refine returnsInHanded_of_change_and (C := Tryd.checked) (X := fun w _ => laidMetH Tryd.prog Met.lst w) (fun _ _ _ hh h => h.of_heap hh) own started (by kernel_rfl) Tryd.func6
    (ChangeSpec.witness_shaped (enc := enc) (C := Tryd.checked) (os := os) (X := fun w _ => laidMetH Tryd.prog Met.lst w) false (World.doorLaid Tryd.prog Met.steps os) #[.int .u32 0, .int .u32 0, .int .i64 0, .int .i64 0] 8 rfl (World.shaped_of_RefB (by kernel_rfl) (by kernel_rfl)) (by kernel_rfl) (by kernel_rfl) (by kernel_rfl) (Met.door_met os _)) ?_
  intro W base args ds gs before hval0 hW _ _ hL _
  have hval : ∀ (j : Nat) t v, Tryd.f6.params[j]? = some t → args[j]? = some v → Value.okWide Tryd.prog W .any base t v := hval0
  have hW' := hW
  obtain ⟨p, q, hA0, hV, rfl, hfz, hnd⟩ := hW
  have hA : DataW.TrodAll enc Tryd.prog W 0 (fun _ => true) true Tryd.f6.params.toList args.toList ds p := hA0
  rw [Tryd.params6] at hA hval
  obtain ⟨v0, vs0, d0, ds0, p0, q0, hargs, rfl, rfl, h0, r0⟩ := trodAll_cons hA
  obtain ⟨v1, vs1, d1, ds1, p1, q1, rfl, rfl, rfl, h1, r1⟩ := trodAll_cons r0
  obtain ⟨v2, vs2, d2, ds2, p2, q2, rfl, rfl, rfl, h2, r2⟩ := trodAll_cons r1
  obtain ⟨v3, vs3, d3, ds3, p3, q3, rfl, rfl, rfl, h3, r3⟩ := trodAll_cons r2
  obtain ⟨rfl, rfl, rfl⟩ := trodAll_nil r3
  obtain rfl : args = #[v0, v1, v2, v3] := by cases args; simp_all
  obtain ⟨rfl, rfl⟩ := trodVars_none hV
  obtain ⟨a0, rfl, rfl, rfl, w0⟩ := open_int Tryd.underlying23 (hval 0 23 v0 rfl rfl) h0
  obtain ⟨a1, rfl, rfl, rfl, w1⟩ := open_int Tryd.underlying23 (hval 1 23 v1 rfl rfl) h1
  obtain ⟨a2, rfl, rfl, rfl, w2⟩ := open_int Tryd.underlying3 (hval 2 3 v2 rfl rfl) h2
  obtain ⟨a3, rfl, rfl, rfl, w3⟩ := open_int Tryd.underlying3 (hval 3 3 v3 rfl rfl) h3
  clear hA0 hval0
  simp only [List.append_nil] at hW'
  refine (walk a0 a1 a2 a3 w0 w1 w2 w3 W (Met.of_laid hL)).mono fun e W' ⟨he, hg⟩ => ?_
  subst he
  exact ⟨_, rfl, _, _, _, [], [], [], hW', (trodAll_cons_mk (shut_bool Tryd.underlying4 _) trodAll_mk0), (trodAll_cons_mk (shut_int Tryd.underlying23 w0) (trodAll_cons_mk (shut_int Tryd.underlying23 w1) (trodAll_cons_mk (shut_int Tryd.underlying3 w2) (trodAll_cons_mk (shut_int Tryd.underlying3 w3) trodAll_mk0)))), rfl, hg.kept _, fun h => by cases h⟩

theorem over : Rows.wordPeeksRow.holds Tryd.pinned (OpenSpec.ofChange Rows.wordPeeksSpec) :=
  OpenClaim.holds_of_wide 6 Tryd.f6 rfl rfl rfl rfl rfl rfl rfl ⟨rfl, rfl, rfl, rfl, rfl⟩ rfl rfl rfl rfl rfl (by kernel_rfl) Tryd.func6 (by kernel_rfl)
    (of_decide_eq_true (by kernel_rfl)) (by unfold Func.isWrapper; first | (rw [if_pos (by decide +kernel)]; kernel_rfl) | (rw [if_neg (by decide +kernel)]; exact ⟨rfl, rfl⟩))
    (fun os started H enc _ => lifted os started H enc)

/-- ████ THE STATEMENT ████ -/
theorem proved : Rows.WordPeeksCardSaid :=
  Claim7.holds_tied_plain_at .later [] [.data] true (true, "1854366ecf1d65a532bc43f35e8b1cd4a45de8cc6866e5736731fc8e10a083ac") false
    over (fun _ h => by cases h) (by kernel_rfl) (fun _ h => by cases h) wordPeeks_row_tie rfl ⟨rfl, rfl⟩ (by kernel_rfl) rfl
    (fun f fn hf hfn => by
      obtain rfl : f = 6 := Option.some.inj ((show Tryd.prog.funcNamed "dioscuri/dioscurilaw3.WordPeeks" = some 6 by kernel_rfl).symm.trans hf) |>.symm
      obtain rfl : fn = Tryd.f6 := (Option.some.inj (Tryd.func6.symm.trans hfn)).symm
      exact ⟨by kernel_rfl, fun j t ht => by
        rw [Tryd.params6] at ht
        have hm : t ∈ [23, 23, 3, 3] := by simpa using Array.mem_of_getElem? ht
        have hall : ([23, 23, 3, 3].all fun u => !Tryd.prog.wantsStandIn u) = true := by kernel_rfl
        exact (show Tryd.prog.wantsStandIn t = false by simpa using List.all_eq_true.1 hall t hm)⟩)
    (by kernel_rfl)
#print axioms proved
end Go.Proofs.YtijmoeljemoppaaDoor.wordPeeks
