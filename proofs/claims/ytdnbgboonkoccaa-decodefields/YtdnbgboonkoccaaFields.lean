/- Proved: for every uint32 w and every int low the call DecodeFields(w, low) returns true and leaves its arguments as they were. No condition. -/
import Derived.Test.YtdnbgboonkoccaaRows
import Derived.Test.YtdnbgboonkoccaaKnown
import Derived.Test.YtdnbgboonkoccaaSet
import Derived.WalkKit
import Derived.ProofKit
import Derived.OpenShut
namespace Go.Proofs.Ytdnbgboonkoccaa.decodeFields
open Go.ChangeShapes Go.WideShapes Go.ChangeAt Go.RowKit Walks
set_option linter.unusedVariables false      -- a walk need not use every 'w<i>' (that an integer argument fits its kind)

theorem own : ownKnob Try.prog.godebug = none := by kernel_rfl

abbrev tab : Array Value := #[.int .u32 55, .int .u32 23, .int .u32 111, .int .u32 103, .int .u32 99, .int .u32 3, .int .u32 35, .int .u32 19, .int .u32 51, .int .u32 115]
set_option maxHeartbeats 4000000 in
theorem core_no (W lo m u t v : Int) (k : Nat) (U : bits .andNot .u32 W 127 = u) (M : lo.tmod 10 = m) (m0 : -9 ≤ m) (m1 : m ≤ 9) (K : (m + 10).tmod 10 = (k : Int)) (k0 : (0 : Int) ≤ k) (k1 : (k : Int) < 10) (C : tab[k]? = some (.int .u32 t))
    (V : bits .or .u32 u t = v) (v0 : Hid (0 ≤ v)) (v1 : Hid (v ≤ 4294967295)) (D : Hid (Num.Dec v 0 0 0 0 0 false)) (w : World) :
    Calls Try.prog 5 #[.int .u32 W, .int .i64 lo] w fun e w' => e = .returned (.bool true) ∧ Fr w w' := by
  have R1 : Hid (Num.r1 (Num.fm 0) = false) := by unfold Hid; decide
  have R2 : Hid (Num.r2 (Num.fm 0) = false) := by unfold Hid; decide
  have WR : Hid (Num.wr (Num.fm 0) 0 = false) := by unfold Hid; decide
  go_enter Try.func5, Try.ntmps5
  go_wp2_with fail
  refine (decode_as _ _ _ _ _ _ _ D v0.out v1.out _).mono ?_; rintro e w1 ⟨rfl, hF⟩
  have F1 := hideP hF
  clear hF
  go_wp2_with fail
  refine (reads_as _ _ _ _ _ _ _ R1 R2 _).mono ?_; rintro e w' ⟨rfl, rfl⟩
  go_wp2_with fail
  refine (writes_as _ _ _ _ _ _ WR _).mono ?_; rintro e w' ⟨rfl, rfl⟩
  go_wp2_with fail
  refine (known _).mono ?_; rintro e w3 ⟨rfl, hF⟩
  have F3 := hideP hF
  clear hF
  go_wp2_with fail
  go_ret
  exact ⟨rfl, (Fr.alloc (Fr.alloc (Fr.alloc (((Fr.refl w).alloc _).trans F1.out) _) _) _).trans F3.out⟩
theorem in_ite (P : Int → Prop) (c : Prop) [Decidable c] (a b : Int) (ha : P a) (hb : P b) : P (if c then a else b) := by
  split
  · exact ha
  · exact hb
def In (x : Int) : Prop := 0 ≤ x ∧ x ≤ 55
theorem op_in (v : Int) : In (Num.op v) := by
  unfold Num.op Num.opc Num.first Num.oBranch Num.oLoad Num.oStore Num.oImm Num.oReg Num.oSys Num.oShift Num.oPlain Num.oMul Num.oOther Num.oBare
  repeat (first | (apply in_ite In) | (exact ⟨by decide, by decide⟩))
theorem sl_is (o : Int) : Num.sl o = 0 ∨ ((Num.sl o == 0) = false ∧ Num.r1 (Num.fm o) = true ∧ Num.r2 (Num.fm o) = true) := by
  rcases Num.sl_parts o with ⟨h0, h⟩ | ⟨rfl, h⟩ | ⟨rfl, h⟩ | ⟨rfl, h⟩ | ⟨rfl, h⟩ | ⟨rfl, h⟩ | ⟨rfl, h⟩ | ⟨rfl, h⟩ | ⟨rfl, h⟩ | ⟨h0, h⟩
  · exact .inl h
  all_goals first | exact .inl h | exact .inr (by decide)
theorem two_one (o : Int) : Num.r2 (Num.fm o) = false ∨ Num.r1 (Num.fm o) = true := by
  rcases Num.fm_is o with h | h | h | h | h | h | h | h | h | ⟨h, hb⟩ | ⟨h, hb⟩ <;> rw [h] <;> decide
theorem dec_in (v o d a b n : Int) (g : Bool) (D : Num.Dec v o d a b n g) : (0 ≤ d ∧ d ≤ 31) ∧ (0 ≤ a ∧ a ≤ 31) ∧ (0 ≤ b ∧ b ≤ 31) := by
  obtain ⟨ho, hd, ha, hb, hn, hg⟩ := D
  rw [← hd, ← ha, ← hb]
  refine ⟨?_, ?_, ?_⟩
  · exact in_ite (fun x => 0 ≤ x ∧ x ≤ 31) _ _ _ (by omega) (by omega)
  · exact in_ite (fun x => 0 ≤ x ∧ x ≤ 31) _ _ _ (by omega) (by omega)
  · exact in_ite (fun x => 0 ≤ x ∧ x ≤ 31) _ _ _ (by omega) (by omega)
theorem wr_pos (f d : Int) (d0 : 0 ≤ d) : Num.wr f d = false ∨ (Num.wr f d = true ∧ 0 < d) := by
  by_cases h : d = 0
  · subst h; left; simp [Num.wr]
  · cases e : Num.wr f d
    · exact .inl rfl
    · exact .inr ⟨rfl, by omega⟩
set_option maxHeartbeats 4000000 in
set_option maxRecDepth 100000 in
theorem core_tzf (W lo m u t v o d a b n : Int) (k : Nat) (U : bits .andNot .u32 W 127 = u) (M : lo.tmod 10 = m) (m0 : -9 ≤ m) (m1 : m ≤ 9) (K : (m + 10).tmod 10 = (k : Int)) (k0 : (0 : Int) ≤ k) (k1 : (k : Int) < 10) (T : tab[k]? = some (.int .u32 t))
    (V : bits .or .u32 u t = v) (v0 : Hid (0 ≤ v)) (v1 : Hid (v ≤ 4294967295)) (D : Hid (Num.Dec v o d a b n true)) (o0 : 1 ≤ o) (o1 : o ≤ 55) (d0 : 0 ≤ d) (d1 : d ≤ 31) (a0 : 0 ≤ a) (a1 : a ≤ 31) (b0 : 0 ≤ b) (b1 : b ≤ 31)
    (p : Bool) (P : Hid (Num.r1 (Num.fm o) = p)) (Q : Hid (Num.r2 (Num.fm o) = false)) (R : Hid (Num.wr (Num.fm o) d = true)) (C : Hid (Num.sl o = 0)) (dp : 0 < d) (w : World) :
    Calls Try.prog 5 #[.int .u32 W, .int .i64 lo] w fun e w' => e = .returned (.bool true) ∧ Fr w w' := by
  go_enter Try.func5, Try.ntmps5
  go_wp2_with fail
  refine (decode_as _ _ _ _ _ _ _ D v0.out v1.out _).mono ?_; rintro e w1 ⟨rfl, hF⟩
  have F1 := hideP hF
  clear hF
  go_wp2_with fail
  refine (reads_as _ _ _ _ _ _ _ P Q _).mono ?_; rintro e w' ⟨rfl, rfl⟩
  go_wp2_with fail
  refine (writes_as _ _ _ _ _ _ R _).mono ?_; rintro e w' ⟨rfl, rfl⟩
  go_wp2_with fail
  refine (slow_as _ _ _ _ _ _ C _).mono ?_; rintro e w' ⟨rfl, rfl⟩
  go_wp2_with fail
  all_goals
    refine (known _).mono ?_; rintro e w3 ⟨rfl, hF⟩
    have F3 := hideP hF
    clear hF
    go_wp2_with fail
    go_ret
    exact ⟨rfl, (Fr.alloc (Fr.alloc (Fr.alloc (Fr.alloc (((Fr.refl w).alloc _).trans F1.out) _) _) _) _).trans F3.out⟩
set_option maxHeartbeats 4000000 in
set_option maxRecDepth 100000 in
theorem core_tzt (W lo m u t v o d a b n : Int) (k : Nat) (U : bits .andNot .u32 W 127 = u) (M : lo.tmod 10 = m) (m0 : -9 ≤ m) (m1 : m ≤ 9) (K : (m + 10).tmod 10 = (k : Int)) (k0 : (0 : Int) ≤ k) (k1 : (k : Int) < 10) (T : tab[k]? = some (.int .u32 t))
    (V : bits .or .u32 u t = v) (v0 : Hid (0 ≤ v)) (v1 : Hid (v ≤ 4294967295)) (D : Hid (Num.Dec v o d a b n true)) (o0 : 1 ≤ o) (o1 : o ≤ 55) (d0 : 0 ≤ d) (d1 : d ≤ 31) (a0 : 0 ≤ a) (a1 : a ≤ 31) (b0 : 0 ≤ b) (b1 : b ≤ 31)
    (P : Hid (Num.r1 (Num.fm o) = true)) (Q : Hid (Num.r2 (Num.fm o) = true)) (R : Hid (Num.wr (Num.fm o) d = true)) (C : Hid (Num.sl o = 0)) (dp : 0 < d) (w : World) :
    Calls Try.prog 5 #[.int .u32 W, .int .i64 lo] w fun e w' => e = .returned (.bool true) ∧ Fr w w' := by
  go_enter Try.func5, Try.ntmps5
  go_wp2_with fail
  refine (decode_as _ _ _ _ _ _ _ D v0.out v1.out _).mono ?_; rintro e w1 ⟨rfl, hF⟩
  have F1 := hideP hF
  clear hF
  go_wp2_with fail
  refine (reads_as _ _ _ _ _ _ _ P Q _).mono ?_; rintro e w' ⟨rfl, rfl⟩
  go_wp2_with fail
  refine (writes_as _ _ _ _ _ _ R _).mono ?_; rintro e w' ⟨rfl, rfl⟩
  go_wp2_with fail
  refine (slow_as _ _ _ _ _ _ C _).mono ?_; rintro e w' ⟨rfl, rfl⟩
  go_wp2_with fail
  all_goals
    refine (known _).mono ?_; rintro e w3 ⟨rfl, hF⟩
    have F3 := hideP hF
    clear hF
    go_wp2_with fail
    go_ret
    exact ⟨rfl, (Fr.alloc (Fr.alloc (Fr.alloc (Fr.alloc (((Fr.refl w).alloc _).trans F1.out) _) _) _) _).trans F3.out⟩
set_option maxHeartbeats 4000000 in
set_option maxRecDepth 100000 in
theorem core_tnt (W lo m u t v o d a b n c : Int) (k : Nat) (U : bits .andNot .u32 W 127 = u) (M : lo.tmod 10 = m) (m0 : -9 ≤ m) (m1 : m ≤ 9) (K : (m + 10).tmod 10 = (k : Int)) (k0 : (0 : Int) ≤ k) (k1 : (k : Int) < 10) (T : tab[k]? = some (.int .u32 t))
    (V : bits .or .u32 u t = v) (v0 : Hid (0 ≤ v)) (v1 : Hid (v ≤ 4294967295)) (D : Hid (Num.Dec v o d a b n true)) (o0 : 1 ≤ o) (o1 : o ≤ 55) (d0 : 0 ≤ d) (d1 : d ≤ 31) (a0 : 0 ≤ a) (a1 : a ≤ 31) (b0 : 0 ≤ b) (b1 : b ≤ 31)
    (P : Hid (Num.r1 (Num.fm o) = true)) (Q : Hid (Num.r2 (Num.fm o) = true)) (R : Hid (Num.wr (Num.fm o) d = true)) (C : Hid (Num.sl o = c)) (cz : (c == 0) = false) (dp : 0 < d) (w : World) :
    Calls Try.prog 5 #[.int .u32 W, .int .i64 lo] w fun e w' => e = .returned (.bool true) ∧ Fr w w' := by
  go_enter Try.func5, Try.ntmps5
  go_wp2_with fail
  refine (decode_as _ _ _ _ _ _ _ D v0.out v1.out _).mono ?_; rintro e w1 ⟨rfl, hF⟩
  have F1 := hideP hF
  clear hF
  go_wp2_with fail
  refine (reads_as _ _ _ _ _ _ _ P Q _).mono ?_; rintro e w' ⟨rfl, rfl⟩
  go_wp2_with fail
  refine (writes_as _ _ _ _ _ _ R _).mono ?_; rintro e w' ⟨rfl, rfl⟩
  go_wp2_with fail
  refine (slow_as _ _ _ _ _ _ C _).mono ?_; rintro e w' ⟨rfl, rfl⟩
  go_wp2_with fail
  all_goals
    refine (known _).mono ?_; rintro e w3 ⟨rfl, hF⟩
    have F3 := hideP hF
    clear hF
    go_wp2_with fail
    go_ret
    exact ⟨rfl, (Fr.alloc (Fr.alloc (Fr.alloc (Fr.alloc (((Fr.refl w).alloc _).trans F1.out) _) _) _) _).trans F3.out⟩
set_option maxHeartbeats 4000000 in
set_option maxRecDepth 100000 in
theorem core_fzf (W lo m u t v o d a b n : Int) (k : Nat) (U : bits .andNot .u32 W 127 = u) (M : lo.tmod 10 = m) (m0 : -9 ≤ m) (m1 : m ≤ 9) (K : (m + 10).tmod 10 = (k : Int)) (k0 : (0 : Int) ≤ k) (k1 : (k : Int) < 10) (T : tab[k]? = some (.int .u32 t))
    (V : bits .or .u32 u t = v) (v0 : Hid (0 ≤ v)) (v1 : Hid (v ≤ 4294967295)) (D : Hid (Num.Dec v o d a b n true)) (o0 : 1 ≤ o) (o1 : o ≤ 55) (d0 : 0 ≤ d) (d1 : d ≤ 31) (a0 : 0 ≤ a) (a1 : a ≤ 31) (b0 : 0 ≤ b) (b1 : b ≤ 31)
    (p : Bool) (P : Hid (Num.r1 (Num.fm o) = p)) (Q : Hid (Num.r2 (Num.fm o) = false)) (R : Hid (Num.wr (Num.fm o) d = false)) (C : Hid (Num.sl o = 0)) (w : World) :
    Calls Try.prog 5 #[.int .u32 W, .int .i64 lo] w fun e w' => e = .returned (.bool true) ∧ Fr w w' := by
  go_enter Try.func5, Try.ntmps5
  go_wp2_with fail
  refine (decode_as _ _ _ _ _ _ _ D v0.out v1.out _).mono ?_; rintro e w1 ⟨rfl, hF⟩
  have F1 := hideP hF
  clear hF
  go_wp2_with fail
  refine (reads_as _ _ _ _ _ _ _ P Q _).mono ?_; rintro e w' ⟨rfl, rfl⟩
  go_wp2_with fail
  refine (writes_as _ _ _ _ _ _ R _).mono ?_; rintro e w' ⟨rfl, rfl⟩
  go_wp2_with fail
  refine (slow_as _ _ _ _ _ _ C _).mono ?_; rintro e w' ⟨rfl, rfl⟩
  go_wp2_with fail
  all_goals
    refine (known _).mono ?_; rintro e w3 ⟨rfl, hF⟩
    have F3 := hideP hF
    clear hF
    go_wp2_with fail
    go_ret
    exact ⟨rfl, (Fr.alloc (Fr.alloc (Fr.alloc (Fr.alloc (((Fr.refl w).alloc _).trans F1.out) _) _) _) _).trans F3.out⟩
set_option maxHeartbeats 4000000 in
set_option maxRecDepth 100000 in
theorem core_fzt (W lo m u t v o d a b n : Int) (k : Nat) (U : bits .andNot .u32 W 127 = u) (M : lo.tmod 10 = m) (m0 : -9 ≤ m) (m1 : m ≤ 9) (K : (m + 10).tmod 10 = (k : Int)) (k0 : (0 : Int) ≤ k) (k1 : (k : Int) < 10) (T : tab[k]? = some (.int .u32 t))
    (V : bits .or .u32 u t = v) (v0 : Hid (0 ≤ v)) (v1 : Hid (v ≤ 4294967295)) (D : Hid (Num.Dec v o d a b n true)) (o0 : 1 ≤ o) (o1 : o ≤ 55) (d0 : 0 ≤ d) (d1 : d ≤ 31) (a0 : 0 ≤ a) (a1 : a ≤ 31) (b0 : 0 ≤ b) (b1 : b ≤ 31)
    (P : Hid (Num.r1 (Num.fm o) = true)) (Q : Hid (Num.r2 (Num.fm o) = true)) (R : Hid (Num.wr (Num.fm o) d = false)) (C : Hid (Num.sl o = 0)) (w : World) :
    Calls Try.prog 5 #[.int .u32 W, .int .i64 lo] w fun e w' => e = .returned (.bool true) ∧ Fr w w' := by
  go_enter Try.func5, Try.ntmps5
  go_wp2_with fail
  refine (decode_as _ _ _ _ _ _ _ D v0.out v1.out _).mono ?_; rintro e w1 ⟨rfl, hF⟩
  have F1 := hideP hF
  clear hF
  go_wp2_with fail
  refine (reads_as _ _ _ _ _ _ _ P Q _).mono ?_; rintro e w' ⟨rfl, rfl⟩
  go_wp2_with fail
  refine (writes_as _ _ _ _ _ _ R _).mono ?_; rintro e w' ⟨rfl, rfl⟩
  go_wp2_with fail
  refine (slow_as _ _ _ _ _ _ C _).mono ?_; rintro e w' ⟨rfl, rfl⟩
  go_wp2_with fail
  all_goals
    refine (known _).mono ?_; rintro e w3 ⟨rfl, hF⟩
    have F3 := hideP hF
    clear hF
    go_wp2_with fail
    go_ret
    exact ⟨rfl, (Fr.alloc (Fr.alloc (Fr.alloc (Fr.alloc (((Fr.refl w).alloc _).trans F1.out) _) _) _) _).trans F3.out⟩
set_option maxHeartbeats 4000000 in
set_option maxRecDepth 100000 in
theorem core_fnt (W lo m u t v o d a b n c : Int) (k : Nat) (U : bits .andNot .u32 W 127 = u) (M : lo.tmod 10 = m) (m0 : -9 ≤ m) (m1 : m ≤ 9) (K : (m + 10).tmod 10 = (k : Int)) (k0 : (0 : Int) ≤ k) (k1 : (k : Int) < 10) (T : tab[k]? = some (.int .u32 t))
    (V : bits .or .u32 u t = v) (v0 : Hid (0 ≤ v)) (v1 : Hid (v ≤ 4294967295)) (D : Hid (Num.Dec v o d a b n true)) (o0 : 1 ≤ o) (o1 : o ≤ 55) (d0 : 0 ≤ d) (d1 : d ≤ 31) (a0 : 0 ≤ a) (a1 : a ≤ 31) (b0 : 0 ≤ b) (b1 : b ≤ 31)
    (P : Hid (Num.r1 (Num.fm o) = true)) (Q : Hid (Num.r2 (Num.fm o) = true)) (R : Hid (Num.wr (Num.fm o) d = false)) (C : Hid (Num.sl o = c)) (cz : (c == 0) = false) (w : World) :
    Calls Try.prog 5 #[.int .u32 W, .int .i64 lo] w fun e w' => e = .returned (.bool true) ∧ Fr w w' := by
  go_enter Try.func5, Try.ntmps5
  go_wp2_with fail
  refine (decode_as _ _ _ _ _ _ _ D v0.out v1.out _).mono ?_; rintro e w1 ⟨rfl, hF⟩
  have F1 := hideP hF
  clear hF
  go_wp2_with fail
  refine (reads_as _ _ _ _ _ _ _ P Q _).mono ?_; rintro e w' ⟨rfl, rfl⟩
  go_wp2_with fail
  refine (writes_as _ _ _ _ _ _ R _).mono ?_; rintro e w' ⟨rfl, rfl⟩
  go_wp2_with fail
  refine (slow_as _ _ _ _ _ _ C _).mono ?_; rintro e w' ⟨rfl, rfl⟩
  go_wp2_with fail
  all_goals
    refine (known _).mono ?_; rintro e w3 ⟨rfl, hF⟩
    have F3 := hideP hF
    clear hF
    go_wp2_with fail
    go_ret
    exact ⟨rfl, (Fr.alloc (Fr.alloc (Fr.alloc (Fr.alloc (((Fr.refl w).alloc _).trans F1.out) _) _) _) _).trans F3.out⟩
theorem tab_at (k : Nat) (h : k < 10) : ∃ t, tab[k]? = some (.int .u32 t) := by
  have : k = 0 ∨ k = 1 ∨ k = 2 ∨ k = 3 ∨ k = 4 ∨ k = 5 ∨ k = 6 ∨ k = 7 ∨ k = 8 ∨ k = 9 := by omega
  rcases this with rfl | rfl | rfl | rfl | rfl | rfl | rfl | rfl | rfl | rfl <;> exact ⟨_, rfl⟩
theorem tmod10 (a : Int) : -9 ≤ a.tmod 10 ∧ a.tmod 10 ≤ 9 := by
  by_cases h : 0 ≤ a
  · rw [Int.tmod_eq_emod_of_nonneg h]; omega
  · have e : a.tmod 10 = -((-a).tmod 10) := by rw [Int.neg_tmod, Int.neg_neg]
    rw [e, Int.tmod_eq_emod_of_nonneg (by omega)]; omega
theorem walk (a0 : Int) (a1 : Int) (w0 : (Lit.int .u32 a0).wf = true) (w1 : (Lit.int .i64 a1).wf = true) (w : World) :
    Calls Try.prog 5 #[.int .u32 a0, .int .i64 a1] w fun e w' => e = .returned (.bool true) ∧ Fr w w' := by
  obtain ⟨m0, m1⟩ := tmod10 a1
  have ke : (a1.tmod 10 + 10).tmod 10 = (a1.tmod 10 + 10) % 10 := Int.tmod_eq_emod_of_nonneg (by omega)
  have k0 : 0 ≤ (a1.tmod 10 + 10).tmod 10 := by omega
  have k1 : (a1.tmod 10 + 10).tmod 10 < 10 := by omega
  obtain ⟨k, hk⟩ := Int.eq_ofNat_of_zero_le k0
  rw [hk] at k0 k1
  obtain ⟨t, T⟩ := tab_at k (by omega)
  obtain ⟨u, U⟩ : ∃ u, bits .andNot .u32 a0 127 = u := ⟨_, rfl⟩
  have l0 := bits_lo_u32 .or u t
  have l1 := bits_hi_u32 .or u t
  obtain ⟨v, V⟩ : ∃ v, bits .or .u32 u t = v := ⟨_, rfl⟩
  rw [V] at l0 l1
  obtain ⟨o, d, a, b, n, g, D⟩ := Num.Dec.ex v
  obtain ⟨⟨d0, d1⟩, ⟨e0, e1⟩, ⟨b0, b1⟩⟩ := dec_in v o d a b n g D
  have oi := op_in v
  rw [D.ho] at oi
  cases g
  · have z : o = 0 := by simpa using D.hg
    subst z
    have D' : Num.Dec v 0 0 0 0 0 false := ⟨D.ho, rfl, rfl, rfl, rfl, rfl⟩
    exact core_no a0 a1 _ u t v k U rfl m0 m1 hk k0 k1 T V l0 l1 D' w
  · have z : o ≠ 0 := by simpa using D.hg
    have o0 : 1 ≤ o := by have := oi.1; omega
    have o1 : o ≤ 55 := oi.2
    rcases wr_pos (Num.fm o) d d0 with R | ⟨R, dp⟩
    · rcases sl_is o with C | ⟨cz, P, Q⟩
      · rcases two_one o with Q | P
        · exact core_fzf a0 a1 _ u t v o d a b n k U rfl m0 m1 hk k0 k1 T V l0 l1 D o0 o1 d0 d1 e0 e1 b0 b1 _ rfl Q R C w
        · cases Q : Num.r2 (Num.fm o)
          · exact core_fzf a0 a1 _ u t v o d a b n k U rfl m0 m1 hk k0 k1 T V l0 l1 D o0 o1 d0 d1 e0 e1 b0 b1 _ rfl Q R C w
          · exact core_fzt a0 a1 _ u t v o d a b n k U rfl m0 m1 hk k0 k1 T V l0 l1 D o0 o1 d0 d1 e0 e1 b0 b1 P Q R C w
      · exact core_fnt a0 a1 _ u t v o d a b n _ k U rfl m0 m1 hk k0 k1 T V l0 l1 D o0 o1 d0 d1 e0 e1 b0 b1 P Q R rfl cz w
    · rcases sl_is o with C | ⟨cz, P, Q⟩
      · rcases two_one o with Q | P
        · exact core_tzf a0 a1 _ u t v o d a b n k U rfl m0 m1 hk k0 k1 T V l0 l1 D o0 o1 d0 d1 e0 e1 b0 b1 _ rfl Q R C dp w
        · cases Q : Num.r2 (Num.fm o)
          · exact core_tzf a0 a1 _ u t v o d a b n k U rfl m0 m1 hk k0 k1 T V l0 l1 D o0 o1 d0 d1 e0 e1 b0 b1 _ rfl Q R C dp w
          · exact core_tzt a0 a1 _ u t v o d a b n k U rfl m0 m1 hk k0 k1 T V l0 l1 D o0 o1 d0 d1 e0 e1 b0 b1 P Q R C dp w
      · exact core_tnt a0 a1 _ u t v o d a b n _ k U rfl m0 m1 hk k0 k1 T V l0 l1 D o0 o1 d0 d1 e0 e1 b0 b1 P Q R rfl cz dp w

/-! ### THE ROW's STEP: WRITTEN OUT: LEAVE IT -/
set_option maxRecDepth 100000 in
theorem lifted (os : Os) (started : os.Started) (H : Type) (enc : TypeId × Value → H) :
    ReturnsInHanded {} Try.checked os 5 .any (Rows.decodeFieldsSpec.pre6 enc Try.prog Try.f5 Rows.decodeFieldsRow.domain false) (Rows.decodeFieldsSpec.post enc Try.prog Try.f5 false true false false) := by
  refine returnsInHanded_of_change (C := Try.checked) own started (by kernel_rfl) Try.func5
    (ChangeSpec.witness6 (enc := enc) (C := Try.checked) false ⟨#[], #[.int .u32 0, .int .i64 0], []⟩ 8 (by kernel_rfl) (by kernel_rfl) (by kernel_rfl) (by kernel_rfl)) ?_
  intro W base args ds gs before hval0 hW hcnd _
  have hval : ∀ (j : Nat) t v, Try.f5.params[j]? = some t → args[j]? = some v → Value.okWide Try.prog W .any base t v := hval0
  have hW' := hW
  obtain ⟨p, q, hA0, hV, rfl, hfz, hnd⟩ := hW
  have hA : DataW.TrodAll enc Try.prog W 0 (fun _ => true) true Try.f5.params.toList args.toList ds p := hA0
  rw [Try.params5] at hA hval
  obtain ⟨v0, vs0, d0, ds0, p0, q0, hargs, rfl, rfl, h0, r0⟩ := trodAll_cons hA
  obtain ⟨v1, vs1, d1, ds1, p1, q1, rfl, rfl, rfl, h1, r1⟩ := trodAll_cons r0
  obtain ⟨rfl, rfl, rfl⟩ := trodAll_nil r1
  obtain rfl : args = #[v0, v1] := by cases args; simp_all
  obtain ⟨rfl, rfl⟩ := trodVars_none hV
  obtain ⟨a0, rfl, rfl, rfl, w0⟩ := open_int Try.underlying22 (hval 0 22 v0 rfl rfl) h0
  obtain ⟨a1, rfl, rfl, rfl, w1⟩ := open_int Try.underlying3 (hval 1 3 v1 rfl rfl) h1
  clear hA0 hval0
  simp only [List.append_nil] at hW'
  refine (walk a0 a1 w0 w1 W).mono fun e W' ⟨he, hg⟩ => ?_
  subst he
  exact ⟨_, rfl, _, _, _, [], [], [], hW', (trodAll_cons_mk (shut_bool Try.underlying4 _) trodAll_mk0), (trodAll_cons_mk (shut_int Try.underlying22 w0) (trodAll_cons_mk (shut_int Try.underlying3 w1) trodAll_mk0)), rfl, hg.kept _, fun h => by cases h⟩

theorem over : Rows.decodeFieldsRow.holds Try.pinned (OpenSpec.ofChange Rows.decodeFieldsSpec) :=
  OpenClaim.holds_of_wide 5 Try.f5 rfl rfl rfl rfl rfl rfl rfl ⟨rfl, rfl, rfl, rfl, rfl⟩ rfl rfl rfl rfl rfl (by kernel_rfl) Try.func5 (by kernel_rfl)
    (of_decide_eq_true (by kernel_rfl)) (by unfold Func.isWrapper; first | (rw [if_pos (by decide +kernel)]; kernel_rfl) | (rw [if_neg (by decide +kernel)]; exact ⟨rfl, rfl⟩))
    (fun os started H enc _ => lifted os started H enc)

/-- ████ THE STATEMENT ████ -/
theorem proved : Rows.DecodeFieldsSaid :=
  over
#print axioms proved
end Go.Proofs.Ytdnbgboonkoccaa.decodeFields
