/- Contract of the program's Encode. -/
import Derived.Test.YtlnliiihcajboaaDoorRaw
import Derived.Test.YtlnliiihcajboaaDoorName
import Derived.Test.YtlnliiihcajboaaDoorSet
import Derived.Deep.RegionWith
import Derived.Deep.DrawnRows
import Derived.Deep.CutRange
namespace Go.Proofs.YtlnliiihcajboaaDoor.Walks
open Go.ChangeShapes Go.WideShapes Go.ChangeAt Go.RowKit
set_option linter.unusedVariables false
attribute [local go_sem ↓] Go.wp_at_zero Go.wp_at_succ
set_option maxRecDepth 100000 in
set_option maxHeartbeats 4000000 in
theorem encode_no (o d a b n f c p V o' d' a' b' n' : Int) (s : ByteArray) (S : Hid (Num.nm o = s)) (F : Hid (Num.fm o = f)) (C : Hid (Num.cd o = c)) (P : Hid (Num.ob f d a b n = p)) (VV : Hid (bits .or .u32 c p = V)) (V0 : Hid (0 ≤ V)) (V1 : Hid (V ≤ 4294967295))
    (D : Hid (Num.Dec V o' d' a' b' n' false)) (w : World) :
    Calls Tryd.prog 10 #[.agg (cells o d a b n)] w fun e w' => e = .returned (.tuple #[.int .u32 0, .bool false]) ∧ Fr w w' := by
  go_enter Tryd.func10, Tryd.ntmps10
  go_wp2_with fail
  refine (shape_as o f c s S F C _).mono ?_; rintro e w' ⟨rfl, rfl⟩
  go_upto_region 2 with fail
  go_cut [5] from 11 to 17 (fun s wx => s = .int .u32 V ∧ Fr (w.alloc (.cells (cells o d a b n) 27)) wx)
  case first =>
    go_region_with (go_at_call 20; refine (obits_as o d a b n f p F P _).mono ?_; rintro e w' ⟨rfl, m, rfl⟩)
    all_goals
      go_wp2_with fail
      go_meet
      exact ⟨by rw [VV.out], by repeat (first | with_reducible exact Fr.refl _ | with_reducible apply Fr.alloc | with_reducible apply Fr.drew | with_reducible apply Fr.drewN)⟩
  case rest =>
    obtain ⟨rfl, hF⟩ := hcut
    have F1 := hideP hF; clear hF
    go_wp2_with fail
    refine (decode_as V o' d' a' b' n' false D V0.out V1.out _).mono ?_; rintro e w2 ⟨rfl, hF⟩
    have F2 := hideP hF; clear hF
    go_wp2_with fail
    go_ret2
    exact ⟨rfl, (((Fr.refl _).alloc _).trans (F1.out.trans F2.out)).alloc _⟩
set_option maxRecDepth 100000 in
set_option maxHeartbeats 4000000 in
theorem encode_yes (o d a b n f c p V : Int) (s : ByteArray) (S : Hid (Num.nm o = s)) (F : Hid (Num.fm o = f)) (C : Hid (Num.cd o = c)) (P : Hid (Num.ob f d a b n = p)) (VV : Hid (bits .or .u32 c p = V)) (V0 : Hid (0 ≤ V)) (V1 : Hid (V ≤ 4294967295))
    (D : Hid (Num.Dec V o d a b n true)) (w : World) :
    Calls Tryd.prog 10 #[.agg (cells o d a b n)] w fun e w' => e = .returned (.tuple #[.int .u32 V, .bool true]) ∧ Fr w w' := by
  go_enter Tryd.func10, Tryd.ntmps10
  go_wp2_with fail
  refine (shape_as o f c s S F C _).mono ?_; rintro e w' ⟨rfl, rfl⟩
  go_upto_region 2 with fail
  go_cut [5] from 11 to 17 (fun s wx => s = .int .u32 V ∧ Fr (w.alloc (.cells (cells o d a b n) 27)) wx)
  case first =>
    go_region_with (go_at_call 20; refine (obits_as o d a b n f p F P _).mono ?_; rintro e w' ⟨rfl, m, rfl⟩)
    all_goals
      go_wp2_with fail
      go_meet
      exact ⟨by rw [VV.out], by repeat (first | with_reducible exact Fr.refl _ | with_reducible apply Fr.alloc | with_reducible apply Fr.drew | with_reducible apply Fr.drewN)⟩
  case rest =>
    obtain ⟨rfl, hF⟩ := hcut
    have F1 := hideP hF; clear hF
    go_wp2_with fail
    refine (decode_as V o d a b n true D V0.out V1.out _).mono ?_; rintro e w2 ⟨rfl, hF⟩
    have F2 := hideP hF; clear hF
    obtain ⟨c0, c1, c2, c3, c4⟩ := box5 w (w2.alloc (.cells #[.int .i64 o, .int .i64 d, .int .i64 a, .int .i64 b, .int .i32 n] 27)) o d a b n ((F1.out.trans F2.out).alloc _)
    go_wp2_with fail
    go_ret2
    exact ⟨rfl, (((Fr.refl _).alloc _).trans (F1.out.trans F2.out)).alloc _⟩
set_option maxRecDepth 100000 in
set_option maxHeartbeats 4000000 in
theorem encode_other (o d a b n f c p V o' d' a' b' n' : Int) (s : ByteArray) (S : Hid (Num.nm o = s)) (F : Hid (Num.fm o = f)) (C : Hid (Num.cd o = c)) (P : Hid (Num.ob f d a b n = p)) (VV : Hid (bits .or .u32 c p = V)) (V0 : Hid (0 ≤ V)) (V1 : Hid (V ≤ 4294967295))
    (D : Hid (Num.Dec V o' d' a' b' n' true)) (N : Hid (¬ (o' = o ∧ d' = d ∧ a' = a ∧ b' = b ∧ n' = n))) (w : World) :
    Calls Tryd.prog 10 #[.agg (cells o d a b n)] w fun e w' => e = .returned (.tuple #[.int .u32 0, .bool false]) ∧ Fr w w' := by
  go_enter Tryd.func10, Tryd.ntmps10
  go_wp2_with fail
  refine (shape_as o f c s S F C _).mono ?_; rintro e w' ⟨rfl, rfl⟩
  go_upto_region 2 with fail
  go_cut [5] from 11 to 17 (fun s wx => s = .int .u32 V ∧ Fr (w.alloc (.cells (cells o d a b n) 27)) wx)
  case first =>
    go_region_with (go_at_call 20; refine (obits_as o d a b n f p F P _).mono ?_; rintro e w' ⟨rfl, m, rfl⟩)
    all_goals
      go_wp2_with fail
      go_meet
      exact ⟨by rw [VV.out], by repeat (first | with_reducible exact Fr.refl _ | with_reducible apply Fr.alloc | with_reducible apply Fr.drew | with_reducible apply Fr.drewN)⟩
  case rest =>
    obtain ⟨rfl, hF⟩ := hcut
    have F1 := hideP hF; clear hF
    go_wp2_with fail
    refine (decode_as V o' d' a' b' n' true D V0.out V1.out _).mono ?_; rintro e w2 ⟨rfl, hF⟩
    have F2 := hideP hF; clear hF
    obtain ⟨c0, c1, c2, c3, c4⟩ := box5 w (w2.alloc (.cells #[.int .i64 o', .int .i64 d', .int .i64 a', .int .i64 b', .int .i32 n'] 27)) o d a b n ((F1.out.trans F2.out).alloc _)
    go_wp2_with fail
    all_goals first
      | (exfalso; exact N.out ⟨by assumption, by assumption, by assumption, by assumption, by assumption⟩)
      | (go_ret2; exact ⟨rfl, (((Fr.refl _).alloc _).trans (F1.out.trans F2.out)).alloc _⟩)
theorem encode_as (o d a b n v : Int) (g : Bool) (E : Hid (Num.En o d a b n v g)) (w : World) :
    Calls Tryd.prog 10 #[.agg (cells o d a b n)] w fun e w' => e = .returned (.tuple #[.int .u32 v, .bool g]) ∧ Fr w w' := by
  obtain ⟨hg, yes, no⟩ := E.out
  have r := Num.raw_ok o d a b n
  have v0 : 0 ≤ bits .or .u32 (Num.cd o) (Num.ob (Num.fm o) d a b n) := bits_lo_u32 _ _ _
  have v1 : bits .or .u32 (Num.cd o) (Num.ob (Num.fm o) d a b n) ≤ 4294967295 := bits_hi_u32 _ _ _
  generalize hV : bits .or .u32 (Num.cd o) (Num.ob (Num.fm o) d a b n) = V at r v0 v1
  obtain ⟨o', d', a', b', n', g', D⟩ := Num.Dec.ex V
  have B := Num.En.back r D
  have out : ¬ Num.Ok (Num.fm o) d a b n → g = false ∧ v = 0 := fun k => by
    cases g
    · exact ⟨rfl, no rfl⟩
    · exact absurd (hg.1 rfl) k
  cases g'
  · obtain ⟨rfl, rfl⟩ := out (fun k => absurd (B.2 k).1 (by decide))
    exact encode_no o d a b n _ _ _ V o' d' a' b' n' _ (hideP rfl) (hideP rfl) (hideP rfl) (hideP rfl) (hideP hV) (hideP v0) (hideP v1) (hideP D) w
  · by_cases q : o' = o ∧ d' = d ∧ a' = a ∧ b' = b ∧ n' = n
    · have k := B.1 ⟨rfl, q⟩
      obtain ⟨rfl, rfl, rfl, rfl, rfl⟩ := q
      have gg := hg.2 k
      have e := yes gg
      rw [gg, e, ← r k]
      exact encode_yes o' d' a' b' n' _ _ _ V _ (hideP rfl) (hideP rfl) (hideP rfl) (hideP rfl) (hideP hV) (hideP v0) (hideP v1) (hideP D) w
    · obtain ⟨rfl, rfl⟩ := out (fun k => q (B.2 k).2)
      exact encode_other o d a b n _ _ _ V o' d' a' b' n' _ (hideP rfl) (hideP rfl) (hideP rfl) (hideP rfl) (hideP hV) (hideP v0) (hideP v1) (hideP D) (hideP q) w
end Go.Proofs.YtlnliiihcajboaaDoor.Walks
