/- Contract of the laws' own known: it returns true. -/
import Derived.Test.YtlnliiihcajboaaDoorTextA
namespace Go.Proofs.YtlnliiihcajboaaDoor.Num
open Go.ChangeShapes Go.WideShapes Go.ChangeAt Go.RowKit
theorem En.mkY {o d a b n : Int} (k : Ok (fm o) d a b n) (v : Int) (h : wd o d a b n = v) : En o d a b n v true := ⟨⟨fun _ => k, fun _ => rfl⟩, fun _ => h.symm, fun x => absurd x (by decide)⟩
theorem En.mkN {o d a b n : Int} (k : ¬ Ok (fm o) d a b n) : En o d a b n 0 false := ⟨⟨fun x => absurd x (by decide), fun x => absurd x k⟩, fun x => absurd x (by decide), fun _ => rfl⟩
theorem fm19 : fm 19 = 3 := by decide
theorem fm47 : fm 47 = 1 := by decide
theorem fm53 : fm 53 = 10 := by decide
theorem e1 : En 19 1 2 0 (-3) 4291887251 true := En.mkY (by rw [fm19]; exact mk3 (by decide) (by decide) (by decide) (by decide) (by decide) (by decide)) _ (by decide)
theorem e2 : En 19 0 0 0 2048 0 false := En.mkN (by rw [fm19]; intro h; have := ok3 h; omega)
theorem e3 : En 47 0 0 0 0 115 true := En.mkY (by rw [fm47]; exact mk1) _ (by decide)
theorem e4 : ∃ v, En 53 3 4 0 832 v true := ⟨_, En.mkY (by rw [fm53]; exact mk10 (by decide) (by decide) (by decide) (by decide) (by decide) (by decide)) _ rfl⟩
theorem i1 : Lib.itoa 1 = [49] := by rw [Lib.itoa, if_neg (by decide), show (1 : Int).toNat = 1 from rfl, Lib.decDigits_one (by decide)]; rfl
theorem i2 : Lib.itoa 2 = [50] := by rw [Lib.itoa, if_neg (by decide), show (2 : Int).toNat = 2 from rfl, Lib.decDigits_one (by decide)]; rfl
theorem i3 : Lib.itoa 3 = [51] := by rw [Lib.itoa, if_neg (by decide), show (3 : Int).toNat = 3 from rfl, Lib.decDigits_one (by decide)]; rfl
theorem i4 : Lib.itoa 4 = [52] := by rw [Lib.itoa, if_neg (by decide), show (4 : Int).toNat = 4 from rfl, Lib.decDigits_one (by decide)]; rfl
theorem im3 : Lib.itoa (-3) = [45, 51] := by rw [Lib.itoa, if_pos (by decide), show (-3 : Int).natAbs = 3 from rfl, Lib.decDigits_one (by decide)]; rfl
theorem i832 : Lib.itoa 832 = [56, 51, 50] := by
  rw [Lib.itoa, if_neg (by decide), show (832 : Int).toNat = 832 from rfl, Lib.decDigits, dif_neg (by decide), show 832 / 10 = 83 from rfl, Lib.decDigits_two (by decide) (by decide)]; rfl
theorem t1 : bs (tx 19 1 2 0 (-3) true) = ⟨#[97, 100, 100, 105, 32, 120, 49, 32, 120, 50, 32, 45, 51]⟩ := by
  rw [tx, if_pos rfl, fm19, show opT 3 1 2 0 (-3) = [rg 1, rg 2, Lib.itoa (-3)] from rfl, rg, rg, i1, i2, im3]; rfl
theorem t2 : bs (tx 47 0 0 0 0 true) = ⟨#[101, 99, 97, 108, 108]⟩ := by
  rw [tx, if_pos rfl, fm47, show opT 1 0 0 0 0 = [] from rfl]; rfl
theorem t3 : bs (tx 53 3 4 0 832 true) = ⟨#[99, 115, 114, 114, 119, 105, 32, 120, 51, 32, 52, 32, 56, 51, 50]⟩ := by
  rw [tx, if_pos rfl, fm53, show opT 10 3 4 0 832 = [rg 3, Lib.itoa 4, Lib.itoa 832] from rfl, rg, i3, i4, i832]; rfl
end Go.Proofs.YtlnliiihcajboaaDoor.Num
namespace Go.Proofs.YtlnliiihcajboaaDoor.Walks
open Go.ChangeShapes Go.WideShapes Go.ChangeAt Go.RowKit
set_option linter.unusedVariables false
set_option maxRecDepth 100000 in
set_option maxHeartbeats 8000000 in
theorem known_as (w : World) (TT : Hid (Pow w)) : Calls Tryd.prog 8 #[] w fun e w' => e = .returned (.bool true) ∧ Fr w w' := by
  obtain ⟨v4, E4⟩ := Num.e4
  have E4' := hideP E4; clear E4
  go_enter Tryd.func8, Tryd.ntmps8
  go_wp2_with fail
  refine (encode_as 19 1 2 0 (-3) 4291887251 true (hideP Num.e1) _).mono ?_; rintro e w1 ⟨rfl, hF⟩
  have F1 := hideP hF; clear hF
  go_wp2_with fail
  refine (encode_as 19 0 0 0 2048 0 false (hideP Num.e2) _).mono ?_; rintro e w2 ⟨rfl, hF⟩
  have F2 := hideP (F1.out.trans hF); clear hF
  go_wp2_with fail
  refine (name_as 0 ⟨#[]⟩ (hideP rfl) _).mono ?_; rintro e w3 ⟨rfl, hF⟩
  have F3 := hideP (F2.out.trans hF); clear hF
  go_wp2_with fail
  refine (name_as 19 ⟨#[97, 100, 100, 105]⟩ (hideP rfl) _).mono ?_; rintro e w4 ⟨rfl, hF⟩
  have F4 := hideP (F3.out.trans hF); clear hF
  go_wp2_with fail
  refine (text_as 19 1 2 0 (-3) _ true _ (hideP Num.t1) (hideP Num.e1) _ (hideP (TT.out.fr F4.out))).mono ?_; rintro e w5 ⟨rfl, hF⟩
  have F5 := hideP (F4.out.trans hF); clear hF
  go_wp2_with fail
  refine (text_as 47 0 0 0 0 _ true _ (hideP Num.t2) (hideP Num.e3) _ (hideP (TT.out.fr F5.out))).mono ?_; rintro e w6 ⟨rfl, hF⟩
  have F6 := hideP (F5.out.trans hF); clear hF
  go_wp2_with fail
  refine (text_as 53 3 4 0 832 _ true _ (hideP Num.t3) E4' _ (hideP (TT.out.fr F6.out))).mono ?_; rintro e w7 ⟨rfl, hF⟩
  have F7 := hideP (F6.out.trans hF); clear hF
  go_wp2_with fail
  go_ret
  exact ⟨rfl, F7.out⟩
end Go.Proofs.YtlnliiihcajboaaDoor.Walks
