/- The document's own Encode returns a word, whatever the instruction. -/
import Derived.Test.YtdnbgboonkoccaaRefAs
import Derived.Test.YtdnbgboonkoccaaSet
import Derived.Deep.RegionWith
import Derived.Deep.DrawnRows
import Derived.Deep.CutRange
namespace Go.Proofs.Ytdnbgboonkoccaa.Walks
open Go.ChangeShapes Go.WideShapes Go.ChangeAt Go.RowKit
set_option linter.unusedVariables false
attribute [local go_sem ↓] Go.wp_at_zero Go.wp_at_succ
abbrev tabC : Array Value := #[.int .u32 55, .int .u32 23, .int .u32 111, .int .u32 103, .int .u32 99, .int .u32 4195, .int .u32 16483, .int .u32 20579, .int .u32 24675, .int .u32 28771, .int .u32 3, .int .u32 4099, .int .u32 8195, .int .u32 16387, .int .u32 20483, .int .u32 35, .int .u32 4131, .int .u32 8227, .int .u32 19, .int .u32 8211, .int .u32 12307, .int .u32 16403, .int .u32 24595, .int .u32 28691, .int .u32 4115, .int .u32 20499, .int .u32 1073762323, .int .u32 51, .int .u32 1073741875, .int .u32 4147, .int .u32 8243, .int .u32 12339, .int .u32 16435, .int .u32 20531, .int .u32 1073762355, .int .u32 24627, .int .u32 28723, .int .u32 33554483, .int .u32 33558579, .int .u32 33562675, .int .u32 33566771, .int .u32 33570867, .int .u32 33574963, .int .u32 33579059, .int .u32 33583155, .int .u32 15, .int .u32 115, .int .u32 1048691, .int .u32 807403635, .int .u32 4211, .int .u32 8307, .int .u32 12403, .int .u32 20595, .int .u32 24691, .int .u32 28787]
def TabC : Array Value := tabC
set_option maxRecDepth 100000 in
set_option maxHeartbeats 4000000 in
theorem codes_as (w : World) : Calls Try.prog 22 #[] w fun e w' => e = .returned (.slice (some ⟨w.heap.size, 0, none⟩) 55 55) ∧ w' = w.alloc (.cells TabC 22) := by
  go_enter Try.func22, Try.ntmps22
  go_wp2_with fail
  go_ret
  exact ⟨rfl, rfl⟩
def codeL : List Int := [55, 23, 111, 103, 99, 4195, 16483, 20579, 24675, 28771, 3, 4099, 8195, 16387, 20483, 35, 4131, 8227, 19, 8211, 12307, 16403, 24595, 28691, 4115, 20499, 1073762323, 51, 1073741875, 4147, 8243, 12339, 16435, 20531, 1073762355, 24627, 28723, 33554483, 33558579, 33562675, 33566771, 33570867, 33574963, 33579059, 33583155, 15, 115, 1048691, 807403635, 4211, 8307, 12403, 20595, 24691, 28787]
theorem tabC_eq : TabC = (codeL.map (Value.int .u32)).toArray := rfl
theorem tabC_at (k : Nat) (h : k < 55) : ∃ t : Int, TabC[k]? = some (.int .u32 t) := by
  have e : codeL.length = 55 := rfl
  refine ⟨codeL[k]'(by omega), ?_⟩
  rw [tabC_eq, List.getElem?_toArray, List.getElem?_map, List.getElem?_eq_getElem (by omega)]
  rfl
theorem rdecode_ex (v : Int) (v0 : 0 ≤ v) (v1 : v ≤ 4294967295) (w : World) :
    Calls Try.prog 16 #[.int .u32 v] w fun e w' => ∃ o d a b n g, e = .returned (.tuple #[.agg (cells o d a b n), .bool g]) ∧ Fr w w' := by
  obtain ⟨o, d, a, b, n, g, D⟩ := Num.Dec.ex v
  exact (rdecode_as v o d a b n g D v0 v1 w).mono fun e w' h => ⟨o, d, a, b, n, g, h⟩
set_option maxRecDepth 100000 in
set_option maxHeartbeats 4000000 in
theorem enc_f0 (o d a b n : Int) (F : Hid (Num.lt (Num.fm o) = 0)) (w : World) :
    Calls Try.prog 11 #[.agg (cells o d a b n)] w fun e w' => (∃ v g, e = .returned (.tuple #[.int .u32 v, .bool g]) ∧ 0 ≤ v ∧ v ≤ 4294967295) ∧ Fr w w' := by
  go_enter Try.func11, Try.ntmps11
  go_wp2_with fail
  refine (rformat_as _ _ F _).mono ?_; rintro e w' ⟨rfl, rfl⟩
  go_wp2_with fail
  go_ret2
  exact ⟨⟨0, false, rfl, by decide, by decide⟩, (Fr.refl _).alloc _⟩
set_option maxRecDepth 100000 in
set_option maxHeartbeats 4000000 in
theorem enc_b0 (o d a b n f : Int) (F : Hid (Num.lt (Num.fm o) = f)) (fz : (f == 0) = false) (x : d < 0) (w : World) :
    Calls Try.prog 11 #[.agg (cells o d a b n)] w fun e w' => (∃ v g, e = .returned (.tuple #[.int .u32 v, .bool g]) ∧ 0 ≤ v ∧ v ≤ 4294967295) ∧ Fr w w' := by
  go_enter Try.func11, Try.ntmps11
  go_wp2_with fail
  refine (rformat_as _ _ F _).mono ?_; rintro e w' ⟨rfl, rfl⟩
  go_wp2_with fail
  go_ret2
  exact ⟨⟨0, false, rfl, by decide, by decide⟩, (Fr.refl _).alloc _⟩
set_option maxRecDepth 100000 in
set_option maxHeartbeats 4000000 in
theorem enc_b1 (o d a b n f : Int) (F : Hid (Num.lt (Num.fm o) = f)) (fz : (f == 0) = false) (x : 31 < d) (w : World) :
    Calls Try.prog 11 #[.agg (cells o d a b n)] w fun e w' => (∃ v g, e = .returned (.tuple #[.int .u32 v, .bool g]) ∧ 0 ≤ v ∧ v ≤ 4294967295) ∧ Fr w w' := by
  go_enter Try.func11, Try.ntmps11
  go_wp2_with fail
  refine (rformat_as _ _ F _).mono ?_; rintro e w' ⟨rfl, rfl⟩
  go_wp2_with fail
  go_ret2
  exact ⟨⟨0, false, rfl, by decide, by decide⟩, (Fr.refl _).alloc _⟩
set_option maxRecDepth 100000 in
set_option maxHeartbeats 4000000 in
theorem enc_b2 (o d a b n f : Int) (F : Hid (Num.lt (Num.fm o) = f)) (fz : (f == 0) = false) (d0 : 0 ≤ d) (d1 : d ≤ 31) (x : a < 0) (w : World) :
    Calls Try.prog 11 #[.agg (cells o d a b n)] w fun e w' => (∃ v g, e = .returned (.tuple #[.int .u32 v, .bool g]) ∧ 0 ≤ v ∧ v ≤ 4294967295) ∧ Fr w w' := by
  go_enter Try.func11, Try.ntmps11
  go_wp2_with fail
  refine (rformat_as _ _ F _).mono ?_; rintro e w' ⟨rfl, rfl⟩
  go_wp2_with fail
  go_ret2
  exact ⟨⟨0, false, rfl, by decide, by decide⟩, (Fr.refl _).alloc _⟩
set_option maxRecDepth 100000 in
set_option maxHeartbeats 4000000 in
theorem enc_b3 (o d a b n f : Int) (F : Hid (Num.lt (Num.fm o) = f)) (fz : (f == 0) = false) (d0 : 0 ≤ d) (d1 : d ≤ 31) (x : 31 < a) (w : World) :
    Calls Try.prog 11 #[.agg (cells o d a b n)] w fun e w' => (∃ v g, e = .returned (.tuple #[.int .u32 v, .bool g]) ∧ 0 ≤ v ∧ v ≤ 4294967295) ∧ Fr w w' := by
  go_enter Try.func11, Try.ntmps11
  go_wp2_with fail
  refine (rformat_as _ _ F _).mono ?_; rintro e w' ⟨rfl, rfl⟩
  go_wp2_with fail
  go_ret2
  exact ⟨⟨0, false, rfl, by decide, by decide⟩, (Fr.refl _).alloc _⟩
set_option maxRecDepth 100000 in
set_option maxHeartbeats 4000000 in
theorem enc_b4 (o d a b n f : Int) (F : Hid (Num.lt (Num.fm o) = f)) (fz : (f == 0) = false) (d0 : 0 ≤ d) (d1 : d ≤ 31) (a0 : 0 ≤ a) (a1 : a ≤ 31) (x : b < 0) (w : World) :
    Calls Try.prog 11 #[.agg (cells o d a b n)] w fun e w' => (∃ v g, e = .returned (.tuple #[.int .u32 v, .bool g]) ∧ 0 ≤ v ∧ v ≤ 4294967295) ∧ Fr w w' := by
  go_enter Try.func11, Try.ntmps11
  go_wp2_with fail
  refine (rformat_as _ _ F _).mono ?_; rintro e w' ⟨rfl, rfl⟩
  go_wp2_with fail
  go_ret2
  exact ⟨⟨0, false, rfl, by decide, by decide⟩, (Fr.refl _).alloc _⟩
set_option maxRecDepth 100000 in
set_option maxHeartbeats 4000000 in
theorem enc_b5 (o d a b n f : Int) (F : Hid (Num.lt (Num.fm o) = f)) (fz : (f == 0) = false) (d0 : 0 ≤ d) (d1 : d ≤ 31) (a0 : 0 ≤ a) (a1 : a ≤ 31) (x : 31 < b) (w : World) :
    Calls Try.prog 11 #[.agg (cells o d a b n)] w fun e w' => (∃ v g, e = .returned (.tuple #[.int .u32 v, .bool g]) ∧ 0 ≤ v ∧ v ≤ 4294967295) ∧ Fr w w' := by
  go_enter Try.func11, Try.ntmps11
  go_wp2_with fail
  refine (rformat_as _ _ F _).mono ?_; rintro e w' ⟨rfl, rfl⟩
  go_wp2_with fail
  go_ret2
  exact ⟨⟨0, false, rfl, by decide, by decide⟩, (Fr.refl _).alloc _⟩
set_option maxRecDepth 100000 in
set_option maxHeartbeats 8000000 in
theorem enc_good (d a b n t f V : Int) (k : Nat) (k0 : (0 : Int) ≤ (k : Int)) (k1 : (k : Int) < 55) (kk : 0 ≤ (k : Int) ∧ (k : Int) < 55) (KW : IntKind.i64.wrap (k : Int) = (k : Int)) (C : TabC[k]? = some (.int .u32 t)) (F : Hid (Num.lt (Num.fm ((k : Int) + 1)) = f)) (fz : (f == 0) = false)
    (fs : Hid (f = 85 ∨ f = 74 ∨ f = 73 ∨ f = 66 ∨ f = 83 ∨ f = 72 ∨ f = 82 ∨ f = 67 ∨ f = 78)) (d0 : 0 ≤ d) (d1 : d ≤ 31) (a0 : 0 ≤ a) (a1 : a ≤ 31) (b0 : 0 ≤ b) (b1 : b ≤ 31) (VV : Hid (bits .or .u32 (bits .or .u32 t (IntKind.u32.wrap (IntKind.u32.wrap d * 128))) (IntKind.u32.wrap (IntKind.u32.wrap a * 32768)) = V)) (V0 : Hid (0 ≤ V)) (V1 : Hid (V ≤ 4294967295)) (w : World) :
    Calls Try.prog 11 #[.agg (cells ((k : Int) + 1) d a b n)] w fun e w' => (∃ v g, e = .returned (.tuple #[.int .u32 v, .bool g]) ∧ 0 ≤ v ∧ v ≤ 4294967295) ∧ Fr w w' := by
  go_enter Try.func11, Try.ntmps11
  go_wp2_with fail
  refine (rformat_as _ _ F _).mono ?_; rintro e w' ⟨rfl, rfl⟩
  go_upto_region 4 with fail
  go_cut [5] from 44 to 59 (fun s wx => s = .int .u32 V ∧ wx = ((w.alloc (.cells (cells ((k : Int) + 1) d a b n) 28)).alloc (.cells TabC 22)).drew)
  case first =>
    go_region_with (go_at_call 22; refine (codes_as _).mono ?_; rintro e w' ⟨rfl, rfl⟩)
    all_goals
      go_wp2_with fail
      go_meet
      exact ⟨by rw [VV.out], rfl⟩
  case rest =>
    obtain ⟨rfl, rfl⟩ := hcut
    rcases fs.out with rfl | rfl | rfl | rfl | rfl | rfl | rfl | rfl | rfl
    all_goals
      go_wp2_with fail
      refine (rdecode_ex _ (by first | exact bits_lo_u32 _ _ _ | exact V0.out) (by first | exact bits_hi_u32 _ _ _ | exact V1.out) _).mono ?_; rintro e w2 ⟨o', d', a', b', n', g', rfl, hF⟩
      have F2 := hideP hF
      clear hF
      obtain ⟨c0, c1, c2, c3, c4⟩ := box5 w (w2.alloc (.cells #[.int .i64 o', .int .i64 d', .int .i64 a', .int .i64 b', .int .i32 n'] 28)) ((k : Int) + 1) d a b n ((((Fr.refl _).alloc _).drew.trans F2.out).alloc _)
      cases g'
      · go_wp2_with fail
        go_ret2
        exact ⟨⟨_, _, rfl, by decide, by decide⟩, ((((Fr.refl _).alloc _).alloc _).drew.trans F2.out).alloc _⟩
      · go_wp2_with fail
        all_goals
          go_ret2
          first
          | exact ⟨⟨_, _, rfl, by decide, by decide⟩, ((((Fr.refl _).alloc _).alloc _).drew.trans F2.out).alloc _⟩
          | exact ⟨⟨_, _, rfl, bits_lo_u32 _ _ _, bits_hi_u32 _ _ _⟩, ((((Fr.refl _).alloc _).alloc _).drew.trans F2.out).alloc _⟩
          | exact ⟨⟨_, _, rfl, V0.out, V1.out⟩, ((((Fr.refl _).alloc _).alloc _).drew.trans F2.out).alloc _⟩
theorem enc_all (o d a b n : Int) (w : World) : Calls Try.prog 11 #[.agg (cells o d a b n)] w fun e w' => (∃ v g, e = .returned (.tuple #[.int .u32 v, .bool g]) ∧ 0 ≤ v ∧ v ≤ 4294967295) ∧ Fr w w' := by
  by_cases z : Num.lt (Num.fm o) = 0
  · exact enc_f0 o d a b n z w
  have fz : (Num.lt (Num.fm o) == 0) = false := by simp [z]
  by_cases h1 : d < 0
  · exact enc_b0 o d a b n _ rfl fz h1 w
  by_cases h2 : 31 < d
  · exact enc_b1 o d a b n _ rfl fz h2 w
  by_cases h3 : a < 0
  · exact enc_b2 o d a b n _ rfl fz (by omega) (by omega) h3 w
  by_cases h4 : 31 < a
  · exact enc_b3 o d a b n _ rfl fz (by omega) (by omega) h4 w
  by_cases h5 : b < 0
  · exact enc_b4 o d a b n _ rfl fz (by omega) (by omega) (by omega) (by omega) h5 w
  by_cases h6 : 31 < b
  · exact enc_b5 o d a b n _ rfl fz (by omega) (by omega) (by omega) (by omega) h6 w
  have oo : 1 ≤ o ∧ o ≤ 55 := by
    by_cases x : o < 1 ∨ 55 < o
    · exfalso; apply z; rw [Num.fm, if_pos x]; decide
    · omega
  obtain ⟨k, hk⟩ := Int.eq_ofNat_of_zero_le (show 0 ≤ o - 1 by omega)
  have e : o = (k : Int) + 1 := by omega
  subst e
  obtain ⟨t, ht⟩ := tabC_at k (by omega)
  have fs : Num.lt (Num.fm ((k : Int) + 1)) = 85 ∨ Num.lt (Num.fm ((k : Int) + 1)) = 74 ∨ Num.lt (Num.fm ((k : Int) + 1)) = 73 ∨ Num.lt (Num.fm ((k : Int) + 1)) = 66 ∨ Num.lt (Num.fm ((k : Int) + 1)) = 83 ∨ Num.lt (Num.fm ((k : Int) + 1)) = 72 ∨ Num.lt (Num.fm ((k : Int) + 1)) = 82 ∨ Num.lt (Num.fm ((k : Int) + 1)) = 67 ∨ Num.lt (Num.fm ((k : Int) + 1)) = 78 := by
    rcases Num.fm_is ((k : Int) + 1) with h | h | h | h | h | h | h | h | h | ⟨h, _⟩ | ⟨h, _⟩ <;> rw [h] at z ⊢ <;> first | (exact absurd rfl z) | decide
  exact enc_good d a b n t _ _ k (by omega) (by omega) ⟨by omega, by omega⟩ (by rw [IntKind.wrap_i64]; omega) ht rfl fz fs (by omega) (by omega) (by omega) (by omega) (by omega) (by omega) rfl (hideP (bits_lo_u32 _ _ _)) (hideP (bits_hi_u32 _ _ _)) w
end Go.Proofs.Ytdnbgboonkoccaa.Walks
