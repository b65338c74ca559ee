/- Numbers: names and fixed bits of ops; contracts of the program's shapes and of Name. -/
import Derived.Test.YtlnliiihcajboaaDoorJudged
import Derived.Test.YtlnliiihcajboaaDoorFmt
namespace Go.Proofs.YtlnliiihcajboaaDoor.Num
/-- the names of the ops, by their numbers -/
def nmL : List (List UInt8) := [[], [108, 117, 105], [97, 117, 105, 112, 99], [106, 97, 108], [106, 97, 108, 114], [98, 101, 113], [98, 110, 101], [98, 108, 116], [98, 103, 101], [98, 108, 116, 117], [98, 103, 101, 117], [108, 98], [108, 104], [108, 119], [108, 98, 117], [108, 104, 117], [115, 98], [115, 104], [115, 119], [97, 100, 100, 105], [115, 108, 116, 105], [115, 108, 116, 105, 117], [120, 111, 114, 105], [111, 114, 105], [97, 110, 100, 105], [115, 108, 108, 105], [115, 114, 108, 105], [115, 114, 97, 105], [97, 100, 100], [115, 117, 98], [115, 108, 108], [115, 108, 116], [115, 108, 116, 117], [120, 111, 114], [115, 114, 108], [115, 114, 97], [111, 114], [97, 110, 100], [109, 117, 108], [109, 117, 108, 104], [109, 117, 108, 104, 115, 117], [109, 117, 108, 104, 117], [100, 105, 118], [100, 105, 118, 117], [114, 101, 109], [114, 101, 109, 117], [102, 101, 110, 99, 101], [101, 99, 97, 108, 108], [101, 98, 114, 101, 97, 107], [109, 114, 101, 116], [99, 115, 114, 114, 119], [99, 115, 114, 114, 115], [99, 115, 114, 114, 99], [99, 115, 114, 114, 119, 105], [99, 115, 114, 114, 115, 105], [99, 115, 114, 114, 99, 105]]
def nm (o : Int) : ByteArray := ⟨(nmL.getD o.toNat []).toArray⟩
/-- the bits that all words of an op have -/
def cdL : List Int := [0, 55, 23, 111, 103, 99, 4195, 16483, 20579, 24675, 28771, 3, 4099, 8195, 16387, 20483, 35, 4131, 8227, 19, 8211, 12307, 16403, 24595, 28691, 4115, 20499, 1073762323, 51, 1073741875, 4147, 8243, 12339, 16435, 20531, 1073762355, 24627, 28723, 33554483, 33558579, 33562675, 33566771, 33570867, 33574963, 33579059, 33583155, 15, 115, 1048691, 807403635, 4211, 8307, 12403, 20595, 24691, 28787]
def cd (o : Int) : Int := cdL.getD o.toNat 0
theorem toNat_low (o : Int) (h : o < 1) : o.toNat = 0 := by omega
theorem nm_low (o : Int) (h : o < 1) : nm o = ⟨#[]⟩ := by rw [nm, toNat_low o h]; rfl
theorem cd_low (o : Int) (h : o < 1) : cd o = 0 := by rw [cd, toNat_low o h]; rfl
theorem nm_high (o : Int) (h : 55 < o) : nm o = ⟨#[]⟩ := by
  have l : nmL.length = 56 := rfl
  rw [nm, List.getD_eq_getElem?_getD, List.getElem?_eq_none (by omega)]; rfl
theorem cd_high (o : Int) (h : 55 < o) : cd o = 0 := by
  have l : cdL.length = 56 := rfl
  rw [cd, List.getD_eq_getElem?_getD, List.getElem?_eq_none (by omega)]; rfl
theorem fm_low (o : Int) (h : o < 1) : fm o = 0 := by rw [fm, if_pos (Or.inl h)]
theorem fm_high (o : Int) (h : 55 < o) : fm o = 0 := by rw [fm, if_pos (Or.inr h)]
end Go.Proofs.YtlnliiihcajboaaDoor.Num
namespace Go.Proofs.YtlnliiihcajboaaDoor.Walks
open Go.ChangeShapes Go.WideShapes Go.ChangeAt Go.RowKit
set_option linter.unusedVariables false
abbrev shp (s : ByteArray) (f c : Int) : Array Value := #[.string s, .int .i64 f, .int .u32 c]
abbrev zshp : Array Value := #[.string ⟨#[]⟩, .int .i64 0, .int .u32 0]
set_option maxHeartbeats 4000000 in
theorem jumpShape_as (o f c : Int) (s : ByteArray) (S : Hid (Num.nm o = s)) (F : Hid (Num.fm o = f)) (C : Hid (Num.cd o = c)) (h0 : 1 ≤ o) (h1 : o ≤ 4) (w : World) :
    Calls Tryd.prog 39 #[.int .i64 o] w fun e w' => e = .returned (.agg (shp s f c)) ∧ w' = w.alloc (.cells (shp s f c) 48) := by
  have p : o = 1 ∨ o = 2 ∨ o = 3 ∨ o = 4 := by omega
  rw [← S.out, ← F.out, ← C.out]; clear S F C h0 h1
  rcases p with rfl | rfl | rfl | rfl
  · go_enter Tryd.func39, Tryd.ntmps39
    go_wp2_with fail
    exact bodyPost_ret (v := .agg (shp ⟨#[108, 117, 105]⟩ 7 55)) (by simp [results, Tryd.results39, go_sem]) rfl ⟨rfl, rfl⟩
  · go_enter Tryd.func39, Tryd.ntmps39
    go_wp2_with fail
    exact bodyPost_ret (v := .agg (shp ⟨#[97, 117, 105, 112, 99]⟩ 7 23)) (by simp [results, Tryd.results39, go_sem]) rfl ⟨rfl, rfl⟩
  · go_enter Tryd.func39, Tryd.ntmps39
    go_wp2_with fail
    exact bodyPost_ret (v := .agg (shp ⟨#[106, 97, 108]⟩ 8 111)) (by simp [results, Tryd.results39, go_sem]) rfl ⟨rfl, rfl⟩
  · go_enter Tryd.func39, Tryd.ntmps39
    go_wp2_with fail
    exact bodyPost_ret (v := .agg (shp ⟨#[106, 97, 108, 114]⟩ 3 103)) (by simp [results, Tryd.results39, go_sem]) rfl ⟨rfl, rfl⟩
set_option maxHeartbeats 4000000 in
theorem branchShape_as (o f c : Int) (s : ByteArray) (S : Hid (Num.nm o = s)) (F : Hid (Num.fm o = f)) (C : Hid (Num.cd o = c)) (h0 : 5 ≤ o) (h1 : o ≤ 10) (w : World) :
    Calls Tryd.prog 40 #[.int .i64 o] w fun e w' => e = .returned (.agg (shp s f c)) ∧ w' = w.alloc (.cells (shp s f c) 48) := by
  have p : o = 5 ∨ o = 6 ∨ o = 7 ∨ o = 8 ∨ o = 9 ∨ o = 10 := by omega
  rw [← S.out, ← F.out, ← C.out]; clear S F C h0 h1
  rcases p with rfl | rfl | rfl | rfl | rfl | rfl
  · go_enter Tryd.func40, Tryd.ntmps40
    go_wp2_with fail
    exact bodyPost_ret (v := .agg (shp ⟨#[98, 101, 113]⟩ 6 99)) (by simp [results, Tryd.results40, go_sem]) rfl ⟨rfl, rfl⟩
  · go_enter Tryd.func40, Tryd.ntmps40
    go_wp2_with fail
    exact bodyPost_ret (v := .agg (shp ⟨#[98, 110, 101]⟩ 6 4195)) (by simp [results, Tryd.results40, go_sem]) rfl ⟨rfl, rfl⟩
  · go_enter Tryd.func40, Tryd.ntmps40
    go_wp2_with fail
    exact bodyPost_ret (v := .agg (shp ⟨#[98, 108, 116]⟩ 6 16483)) (by simp [results, Tryd.results40, go_sem]) rfl ⟨rfl, rfl⟩
  · go_enter Tryd.func40, Tryd.ntmps40
    go_wp2_with fail
    exact bodyPost_ret (v := .agg (shp ⟨#[98, 103, 101]⟩ 6 20579)) (by simp [results, Tryd.results40, go_sem]) rfl ⟨rfl, rfl⟩
  · go_enter Tryd.func40, Tryd.ntmps40
    go_wp2_with fail
    exact bodyPost_ret (v := .agg (shp ⟨#[98, 108, 116, 117]⟩ 6 24675)) (by simp [results, Tryd.results40, go_sem]) rfl ⟨rfl, rfl⟩
  · go_enter Tryd.func40, Tryd.ntmps40
    go_wp2_with fail
    exact bodyPost_ret (v := .agg (shp ⟨#[98, 103, 101, 117]⟩ 6 28771)) (by simp [results, Tryd.results40, go_sem]) rfl ⟨rfl, rfl⟩
set_option maxHeartbeats 4000000 in
theorem loadShape_as (o f c : Int) (s : ByteArray) (S : Hid (Num.nm o = s)) (F : Hid (Num.fm o = f)) (C : Hid (Num.cd o = c)) (h0 : 11 ≤ o) (h1 : o ≤ 15) (w : World) :
    Calls Tryd.prog 41 #[.int .i64 o] w fun e w' => e = .returned (.agg (shp s f c)) ∧ w' = w.alloc (.cells (shp s f c) 48) := by
  have p : o = 11 ∨ o = 12 ∨ o = 13 ∨ o = 14 ∨ o = 15 := by omega
  rw [← S.out, ← F.out, ← C.out]; clear S F C h0 h1
  rcases p with rfl | rfl | rfl | rfl | rfl
  · go_enter Tryd.func41, Tryd.ntmps41
    go_wp2_with fail
    exact bodyPost_ret (v := .agg (shp ⟨#[108, 98]⟩ 3 3)) (by simp [results, Tryd.results41, go_sem]) rfl ⟨rfl, rfl⟩
  · go_enter Tryd.func41, Tryd.ntmps41
    go_wp2_with fail
    exact bodyPost_ret (v := .agg (shp ⟨#[108, 104]⟩ 3 4099)) (by simp [results, Tryd.results41, go_sem]) rfl ⟨rfl, rfl⟩
  · go_enter Tryd.func41, Tryd.ntmps41
    go_wp2_with fail
    exact bodyPost_ret (v := .agg (shp ⟨#[108, 119]⟩ 3 8195)) (by simp [results, Tryd.results41, go_sem]) rfl ⟨rfl, rfl⟩
  · go_enter Tryd.func41, Tryd.ntmps41
    go_wp2_with fail
    exact bodyPost_ret (v := .agg (shp ⟨#[108, 98, 117]⟩ 3 16387)) (by simp [results, Tryd.results41, go_sem]) rfl ⟨rfl, rfl⟩
  · go_enter Tryd.func41, Tryd.ntmps41
    go_wp2_with fail
    exact bodyPost_ret (v := .agg (shp ⟨#[108, 104, 117]⟩ 3 20483)) (by simp [results, Tryd.results41, go_sem]) rfl ⟨rfl, rfl⟩
set_option maxHeartbeats 4000000 in
theorem storeShape_as (o f c : Int) (s : ByteArray) (S : Hid (Num.nm o = s)) (F : Hid (Num.fm o = f)) (C : Hid (Num.cd o = c)) (h0 : 16 ≤ o) (h1 : o ≤ 18) (w : World) :
    Calls Tryd.prog 42 #[.int .i64 o] w fun e w' => e = .returned (.agg (shp s f c)) ∧ w' = w.alloc (.cells (shp s f c) 48) := by
  have p : o = 16 ∨ o = 17 ∨ o = 18 := by omega
  rw [← S.out, ← F.out, ← C.out]; clear S F C h0 h1
  rcases p with rfl | rfl | rfl
  · go_enter Tryd.func42, Tryd.ntmps42
    go_wp2_with fail
    exact bodyPost_ret (v := .agg (shp ⟨#[115, 98]⟩ 5 35)) (by simp [results, Tryd.results42, go_sem]) rfl ⟨rfl, rfl⟩
  · go_enter Tryd.func42, Tryd.ntmps42
    go_wp2_with fail
    exact bodyPost_ret (v := .agg (shp ⟨#[115, 104]⟩ 5 4131)) (by simp [results, Tryd.results42, go_sem]) rfl ⟨rfl, rfl⟩
  · go_enter Tryd.func42, Tryd.ntmps42
    go_wp2_with fail
    exact bodyPost_ret (v := .agg (shp ⟨#[115, 119]⟩ 5 8227)) (by simp [results, Tryd.results42, go_sem]) rfl ⟨rfl, rfl⟩
set_option maxHeartbeats 4000000 in
theorem immShape_as (o f c : Int) (s : ByteArray) (S : Hid (Num.nm o = s)) (F : Hid (Num.fm o = f)) (C : Hid (Num.cd o = c)) (h0 : 19 ≤ o) (h1 : o ≤ 27) (w : World) :
    Calls Tryd.prog 43 #[.int .i64 o] w fun e w' => e = .returned (.agg (shp s f c)) ∧ w' = w.alloc (.cells (shp s f c) 48) := by
  have p : o = 19 ∨ o = 20 ∨ o = 21 ∨ o = 22 ∨ o = 23 ∨ o = 24 ∨ o = 25 ∨ o = 26 ∨ o = 27 := by omega
  rw [← S.out, ← F.out, ← C.out]; clear S F C h0 h1
  rcases p with rfl | rfl | rfl | rfl | rfl | rfl | rfl | rfl | rfl
  · go_enter Tryd.func43, Tryd.ntmps43
    go_wp2_with fail
    exact bodyPost_ret (v := .agg (shp ⟨#[97, 100, 100, 105]⟩ 3 19)) (by simp [results, Tryd.results43, go_sem]) rfl ⟨rfl, rfl⟩
  · go_enter Tryd.func43, Tryd.ntmps43
    go_wp2_with fail
    exact bodyPost_ret (v := .agg (shp ⟨#[115, 108, 116, 105]⟩ 3 8211)) (by simp [results, Tryd.results43, go_sem]) rfl ⟨rfl, rfl⟩
  · go_enter Tryd.func43, Tryd.ntmps43
    go_wp2_with fail
    exact bodyPost_ret (v := .agg (shp ⟨#[115, 108, 116, 105, 117]⟩ 3 12307)) (by simp [results, Tryd.results43, go_sem]) rfl ⟨rfl, rfl⟩
  · go_enter Tryd.func43, Tryd.ntmps43
    go_wp2_with fail
    exact bodyPost_ret (v := .agg (shp ⟨#[120, 111, 114, 105]⟩ 3 16403)) (by simp [results, Tryd.results43, go_sem]) rfl ⟨rfl, rfl⟩
  · go_enter Tryd.func43, Tryd.ntmps43
    go_wp2_with fail
    exact bodyPost_ret (v := .agg (shp ⟨#[111, 114, 105]⟩ 3 24595)) (by simp [results, Tryd.results43, go_sem]) rfl ⟨rfl, rfl⟩
  · go_enter Tryd.func43, Tryd.ntmps43
    go_wp2_with fail
    exact bodyPost_ret (v := .agg (shp ⟨#[97, 110, 100, 105]⟩ 3 28691)) (by simp [results, Tryd.results43, go_sem]) rfl ⟨rfl, rfl⟩
  · go_enter Tryd.func43, Tryd.ntmps43
    go_wp2_with fail
    exact bodyPost_ret (v := .agg (shp ⟨#[115, 108, 108, 105]⟩ 4 4115)) (by simp [results, Tryd.results43, go_sem]) rfl ⟨rfl, rfl⟩
  · go_enter Tryd.func43, Tryd.ntmps43
    go_wp2_with fail
    exact bodyPost_ret (v := .agg (shp ⟨#[115, 114, 108, 105]⟩ 4 20499)) (by simp [results, Tryd.results43, go_sem]) rfl ⟨rfl, rfl⟩
  · go_enter Tryd.func43, Tryd.ntmps43
    go_wp2_with fail
    exact bodyPost_ret (v := .agg (shp ⟨#[115, 114, 97, 105]⟩ 4 1073762323)) (by simp [results, Tryd.results43, go_sem]) rfl ⟨rfl, rfl⟩
set_option maxHeartbeats 4000000 in
theorem regShape_as (o f c : Int) (s : ByteArray) (S : Hid (Num.nm o = s)) (F : Hid (Num.fm o = f)) (C : Hid (Num.cd o = c)) (h0 : 28 ≤ o) (h1 : o ≤ 37) (w : World) :
    Calls Tryd.prog 44 #[.int .i64 o] w fun e w' => e = .returned (.agg (shp s f c)) ∧ w' = w.alloc (.cells (shp s f c) 48) := by
  have p : o = 28 ∨ o = 29 ∨ o = 30 ∨ o = 31 ∨ o = 32 ∨ o = 33 ∨ o = 34 ∨ o = 35 ∨ o = 36 ∨ o = 37 := by omega
  rw [← S.out, ← F.out, ← C.out]; clear S F C h0 h1
  rcases p with rfl | rfl | rfl | rfl | rfl | rfl | rfl | rfl | rfl | rfl
  · go_enter Tryd.func44, Tryd.ntmps44
    go_wp2_with fail
    exact bodyPost_ret (v := .agg (shp ⟨#[97, 100, 100]⟩ 2 51)) (by simp [results, Tryd.results44, go_sem]) rfl ⟨rfl, rfl⟩
  · go_enter Tryd.func44, Tryd.ntmps44
    go_wp2_with fail
    exact bodyPost_ret (v := .agg (shp ⟨#[115, 117, 98]⟩ 2 1073741875)) (by simp [results, Tryd.results44, go_sem]) rfl ⟨rfl, rfl⟩
  · go_enter Tryd.func44, Tryd.ntmps44
    go_wp2_with fail
    exact bodyPost_ret (v := .agg (shp ⟨#[115, 108, 108]⟩ 2 4147)) (by simp [results, Tryd.results44, go_sem]) rfl ⟨rfl, rfl⟩
  · go_enter Tryd.func44, Tryd.ntmps44
    go_wp2_with fail
    exact bodyPost_ret (v := .agg (shp ⟨#[115, 108, 116]⟩ 2 8243)) (by simp [results, Tryd.results44, go_sem]) rfl ⟨rfl, rfl⟩
  · go_enter Tryd.func44, Tryd.ntmps44
    go_wp2_with fail
    exact bodyPost_ret (v := .agg (shp ⟨#[115, 108, 116, 117]⟩ 2 12339)) (by simp [results, Tryd.results44, go_sem]) rfl ⟨rfl, rfl⟩
  · go_enter Tryd.func44, Tryd.ntmps44
    go_wp2_with fail
    exact bodyPost_ret (v := .agg (shp ⟨#[120, 111, 114]⟩ 2 16435)) (by simp [results, Tryd.results44, go_sem]) rfl ⟨rfl, rfl⟩
  · go_enter Tryd.func44, Tryd.ntmps44
    go_wp2_with fail
    exact bodyPost_ret (v := .agg (shp ⟨#[115, 114, 108]⟩ 2 20531)) (by simp [results, Tryd.results44, go_sem]) rfl ⟨rfl, rfl⟩
  · go_enter Tryd.func44, Tryd.ntmps44
    go_wp2_with fail
    exact bodyPost_ret (v := .agg (shp ⟨#[115, 114, 97]⟩ 2 1073762355)) (by simp [results, Tryd.results44, go_sem]) rfl ⟨rfl, rfl⟩
  · go_enter Tryd.func44, Tryd.ntmps44
    go_wp2_with fail
    exact bodyPost_ret (v := .agg (shp ⟨#[111, 114]⟩ 2 24627)) (by simp [results, Tryd.results44, go_sem]) rfl ⟨rfl, rfl⟩
  · go_enter Tryd.func44, Tryd.ntmps44
    go_wp2_with fail
    exact bodyPost_ret (v := .agg (shp ⟨#[97, 110, 100]⟩ 2 28723)) (by simp [results, Tryd.results44, go_sem]) rfl ⟨rfl, rfl⟩
set_option maxHeartbeats 4000000 in
theorem mulShape_as (o f c : Int) (s : ByteArray) (S : Hid (Num.nm o = s)) (F : Hid (Num.fm o = f)) (C : Hid (Num.cd o = c)) (h0 : 38 ≤ o) (h1 : o ≤ 45) (w : World) :
    Calls Tryd.prog 45 #[.int .i64 o] w fun e w' => e = .returned (.agg (shp s f c)) ∧ w' = w.alloc (.cells (shp s f c) 48) := by
  have p : o = 38 ∨ o = 39 ∨ o = 40 ∨ o = 41 ∨ o = 42 ∨ o = 43 ∨ o = 44 ∨ o = 45 := by omega
  rw [← S.out, ← F.out, ← C.out]; clear S F C h0 h1
  rcases p with rfl | rfl | rfl | rfl | rfl | rfl | rfl | rfl
  · go_enter Tryd.func45, Tryd.ntmps45
    go_wp2_with fail
    exact bodyPost_ret (v := .agg (shp ⟨#[109, 117, 108]⟩ 2 33554483)) (by simp [results, Tryd.results45, go_sem]) rfl ⟨rfl, rfl⟩
  · go_enter Tryd.func45, Tryd.ntmps45
    go_wp2_with fail
    exact bodyPost_ret (v := .agg (shp ⟨#[109, 117, 108, 104]⟩ 2 33558579)) (by simp [results, Tryd.results45, go_sem]) rfl ⟨rfl, rfl⟩
  · go_enter Tryd.func45, Tryd.ntmps45
    go_wp2_with fail
    exact bodyPost_ret (v := .agg (shp ⟨#[109, 117, 108, 104, 115, 117]⟩ 2 33562675)) (by simp [results, Tryd.results45, go_sem]) rfl ⟨rfl, rfl⟩
  · go_enter Tryd.func45, Tryd.ntmps45
    go_wp2_with fail
    exact bodyPost_ret (v := .agg (shp ⟨#[109, 117, 108, 104, 117]⟩ 2 33566771)) (by simp [results, Tryd.results45, go_sem]) rfl ⟨rfl, rfl⟩
  · go_enter Tryd.func45, Tryd.ntmps45
    go_wp2_with fail
    exact bodyPost_ret (v := .agg (shp ⟨#[100, 105, 118]⟩ 2 33570867)) (by simp [results, Tryd.results45, go_sem]) rfl ⟨rfl, rfl⟩
  · go_enter Tryd.func45, Tryd.ntmps45
    go_wp2_with fail
    exact bodyPost_ret (v := .agg (shp ⟨#[100, 105, 118, 117]⟩ 2 33574963)) (by simp [results, Tryd.results45, go_sem]) rfl ⟨rfl, rfl⟩
  · go_enter Tryd.func45, Tryd.ntmps45
    go_wp2_with fail
    exact bodyPost_ret (v := .agg (shp ⟨#[114, 101, 109]⟩ 2 33579059)) (by simp [results, Tryd.results45, go_sem]) rfl ⟨rfl, rfl⟩
  · go_enter Tryd.func45, Tryd.ntmps45
    go_wp2_with fail
    exact bodyPost_ret (v := .agg (shp ⟨#[114, 101, 109, 117]⟩ 2 33583155)) (by simp [results, Tryd.results45, go_sem]) rfl ⟨rfl, rfl⟩
set_option maxHeartbeats 4000000 in
theorem bareShape_as (o f c : Int) (s : ByteArray) (S : Hid (Num.nm o = s)) (F : Hid (Num.fm o = f)) (C : Hid (Num.cd o = c)) (h0 : 46 ≤ o) (h1 : o ≤ 49) (w : World) :
    Calls Tryd.prog 46 #[.int .i64 o] w fun e w' => e = .returned (.agg (shp s f c)) ∧ w' = w.alloc (.cells (shp s f c) 48) := by
  have p : o = 46 ∨ o = 47 ∨ o = 48 ∨ o = 49 := by omega
  rw [← S.out, ← F.out, ← C.out]; clear S F C h0 h1
  rcases p with rfl | rfl | rfl | rfl
  · go_enter Tryd.func46, Tryd.ntmps46
    go_wp2_with fail
    exact bodyPost_ret (v := .agg (shp ⟨#[102, 101, 110, 99, 101]⟩ 1 15)) (by simp [results, Tryd.results46, go_sem]) rfl ⟨rfl, rfl⟩
  · go_enter Tryd.func46, Tryd.ntmps46
    go_wp2_with fail
    exact bodyPost_ret (v := .agg (shp ⟨#[101, 99, 97, 108, 108]⟩ 1 115)) (by simp [results, Tryd.results46, go_sem]) rfl ⟨rfl, rfl⟩
  · go_enter Tryd.func46, Tryd.ntmps46
    go_wp2_with fail
    exact bodyPost_ret (v := .agg (shp ⟨#[101, 98, 114, 101, 97, 107]⟩ 1 1048691)) (by simp [results, Tryd.results46, go_sem]) rfl ⟨rfl, rfl⟩
  · go_enter Tryd.func46, Tryd.ntmps46
    go_wp2_with fail
    exact bodyPost_ret (v := .agg (shp ⟨#[109, 114, 101, 116]⟩ 1 807403635)) (by simp [results, Tryd.results46, go_sem]) rfl ⟨rfl, rfl⟩
set_option maxHeartbeats 4000000 in
theorem csrShape_as (o f c : Int) (s : ByteArray) (S : Hid (Num.nm o = s)) (F : Hid (Num.fm o = f)) (C : Hid (Num.cd o = c)) (h0 : 50 ≤ o) (h1 : o ≤ 55) (w : World) :
    Calls Tryd.prog 47 #[.int .i64 o] w fun e w' => e = .returned (.agg (shp s f c)) ∧ w' = w.alloc (.cells (shp s f c) 48) := by
  have p : o = 50 ∨ o = 51 ∨ o = 52 ∨ o = 53 ∨ o = 54 ∨ o = 55 := by omega
  rw [← S.out, ← F.out, ← C.out]; clear S F C h0 h1
  rcases p with rfl | rfl | rfl | rfl | rfl | rfl
  · go_enter Tryd.func47, Tryd.ntmps47
    go_wp2_with fail
    exact bodyPost_ret (v := .agg (shp ⟨#[99, 115, 114, 114, 119]⟩ 9 4211)) (by simp [results, Tryd.results47, go_sem]) rfl ⟨rfl, rfl⟩
  · go_enter Tryd.func47, Tryd.ntmps47
    go_wp2_with fail
    exact bodyPost_ret (v := .agg (shp ⟨#[99, 115, 114, 114, 115]⟩ 9 8307)) (by simp [results, Tryd.results47, go_sem]) rfl ⟨rfl, rfl⟩
  · go_enter Tryd.func47, Tryd.ntmps47
    go_wp2_with fail
    exact bodyPost_ret (v := .agg (shp ⟨#[99, 115, 114, 114, 99]⟩ 9 12403)) (by simp [results, Tryd.results47, go_sem]) rfl ⟨rfl, rfl⟩
  · go_enter Tryd.func47, Tryd.ntmps47
    go_wp2_with fail
    exact bodyPost_ret (v := .agg (shp ⟨#[99, 115, 114, 114, 119, 105]⟩ 10 20595)) (by simp [results, Tryd.results47, go_sem]) rfl ⟨rfl, rfl⟩
  · go_enter Tryd.func47, Tryd.ntmps47
    go_wp2_with fail
    exact bodyPost_ret (v := .agg (shp ⟨#[99, 115, 114, 114, 115, 105]⟩ 10 24691)) (by simp [results, Tryd.results47, go_sem]) rfl ⟨rfl, rfl⟩
  · go_enter Tryd.func47, Tryd.ntmps47
    go_wp2_with fail
    exact bodyPost_ret (v := .agg (shp ⟨#[99, 115, 114, 114, 99, 105]⟩ 10 28787)) (by simp [results, Tryd.results47, go_sem]) rfl ⟨rfl, rfl⟩
set_option maxHeartbeats 4000000 in
theorem jumpShape_no (o : Int) (h : o < 1) (w : World) :
    Calls Tryd.prog 39 #[.int .i64 o] w fun e w' => e = .returned (.agg zshp) ∧ w' = w.alloc (.cells zshp 48) := by
  have n1 : (o == 1) = false := by simp; omega
  have n2 : (o == 2) = false := by simp; omega
  have n3 : (o == 3) = false := by simp; omega
  have n4 : (o == 4) = false := by simp; omega
  clear h
  go_enter Tryd.func39, Tryd.ntmps39
  go_wp2_with fail
  exact bodyPost_ret (v := .agg zshp) (by simp [results, Tryd.results39, go_sem]) rfl ⟨rfl, rfl⟩
set_option maxHeartbeats 4000000 in
theorem csrShape_no (o : Int) (h : 55 < o) (w : World) :
    Calls Tryd.prog 47 #[.int .i64 o] w fun e w' => e = .returned (.agg zshp) ∧ w' = w.alloc (.cells zshp 48) := by
  have n50 : (o == 50) = false := by simp; omega
  have n51 : (o == 51) = false := by simp; omega
  have n52 : (o == 52) = false := by simp; omega
  have n53 : (o == 53) = false := by simp; omega
  have n54 : (o == 54) = false := by simp; omega
  have n55 : (o == 55) = false := by simp; omega
  clear h
  go_enter Tryd.func47, Tryd.ntmps47
  go_wp2_with fail
  exact bodyPost_ret (v := .agg zshp) (by simp [results, Tryd.results47, go_sem]) rfl ⟨rfl, rfl⟩
set_option maxHeartbeats 4000000 in
theorem shape_as (o f c : Int) (s : ByteArray) (S : Hid (Num.nm o = s)) (F : Hid (Num.fm o = f)) (C : Hid (Num.cd o = c)) (w : World) :
    Calls Tryd.prog 19 #[.int .i64 o] w fun e w' => e = .returned (.agg (shp s f c)) ∧ w' = (w.alloc (.cells (shp s f c) 48)).alloc (.cells (shp s f c) 48) := by
  have p : o < 1 ∨ (1 ≤ o ∧ o ≤ 4) ∨ (5 ≤ o ∧ o ≤ 10) ∨ (11 ≤ o ∧ o ≤ 15) ∨ (16 ≤ o ∧ o ≤ 18) ∨ (19 ≤ o ∧ o ≤ 27) ∨ (28 ≤ o ∧ o ≤ 37) ∨ (38 ≤ o ∧ o ≤ 45) ∨ (46 ≤ o ∧ o ≤ 49) ∨ (50 ≤ o ∧ o ≤ 55) ∨ 55 < o := by omega
  rcases p with h | ⟨h0, h1⟩ | ⟨h0, h1⟩ | ⟨h0, h1⟩ | ⟨h0, h1⟩ | ⟨h0, h1⟩ | ⟨h0, h1⟩ | ⟨h0, h1⟩ | ⟨h0, h1⟩ | ⟨h0, h1⟩ | h
  · obtain rfl : s = ⟨#[]⟩ := by rw [← S.out]; exact Num.nm_low o h
    obtain rfl : f = 0 := by rw [← F.out]; exact Num.fm_low o h
    obtain rfl : c = 0 := by rw [← C.out]; exact Num.cd_low o h
    go_enter Tryd.func19, Tryd.ntmps19
    go_wp2_with fail
    refine (jumpShape_no o h _).mono ?_; rintro e w' ⟨rfl, rfl⟩
    go_wp2_with fail
    exact bodyPost_ret (v := .agg (shp ⟨#[]⟩ 0 0)) (by simp [results, Tryd.results19, go_sem]) rfl ⟨rfl, rfl⟩
  · go_enter Tryd.func19, Tryd.ntmps19
    go_wp2_with fail
    refine (jumpShape_as o f c s S F C h0 h1 _).mono ?_; rintro e w' ⟨rfl, rfl⟩
    go_wp2_with fail
    exact bodyPost_ret (v := .agg (shp s f c)) (by simp [results, Tryd.results19, go_sem]) rfl ⟨rfl, rfl⟩
  · go_enter Tryd.func19, Tryd.ntmps19
    go_wp2_with fail
    refine (branchShape_as o f c s S F C h0 h1 _).mono ?_; rintro e w' ⟨rfl, rfl⟩
    go_wp2_with fail
    exact bodyPost_ret (v := .agg (shp s f c)) (by simp [results, Tryd.results19, go_sem]) rfl ⟨rfl, rfl⟩
  · go_enter Tryd.func19, Tryd.ntmps19
    go_wp2_with fail
    refine (loadShape_as o f c s S F C h0 h1 _).mono ?_; rintro e w' ⟨rfl, rfl⟩
    go_wp2_with fail
    exact bodyPost_ret (v := .agg (shp s f c)) (by simp [results, Tryd.results19, go_sem]) rfl ⟨rfl, rfl⟩
  · go_enter Tryd.func19, Tryd.ntmps19
    go_wp2_with fail
    refine (storeShape_as o f c s S F C h0 h1 _).mono ?_; rintro e w' ⟨rfl, rfl⟩
    go_wp2_with fail
    exact bodyPost_ret (v := .agg (shp s f c)) (by simp [results, Tryd.results19, go_sem]) rfl ⟨rfl, rfl⟩
  · go_enter Tryd.func19, Tryd.ntmps19
    go_wp2_with fail
    refine (immShape_as o f c s S F C h0 h1 _).mono ?_; rintro e w' ⟨rfl, rfl⟩
    go_wp2_with fail
    exact bodyPost_ret (v := .agg (shp s f c)) (by simp [results, Tryd.results19, go_sem]) rfl ⟨rfl, rfl⟩
  · go_enter Tryd.func19, Tryd.ntmps19
    go_wp2_with fail
    refine (regShape_as o f c s S F C h0 h1 _).mono ?_; rintro e w' ⟨rfl, rfl⟩
    go_wp2_with fail
    exact bodyPost_ret (v := .agg (shp s f c)) (by simp [results, Tryd.results19, go_sem]) rfl ⟨rfl, rfl⟩
  · go_enter Tryd.func19, Tryd.ntmps19
    go_wp2_with fail
    refine (mulShape_as o f c s S F C h0 h1 _).mono ?_; rintro e w' ⟨rfl, rfl⟩
    go_wp2_with fail
    exact bodyPost_ret (v := .agg (shp s f c)) (by simp [results, Tryd.results19, go_sem]) rfl ⟨rfl, rfl⟩
  · go_enter Tryd.func19, Tryd.ntmps19
    go_wp2_with fail
    refine (bareShape_as o f c s S F C h0 h1 _).mono ?_; rintro e w' ⟨rfl, rfl⟩
    go_wp2_with fail
    exact bodyPost_ret (v := .agg (shp s f c)) (by simp [results, Tryd.results19, go_sem]) rfl ⟨rfl, rfl⟩
  · go_enter Tryd.func19, Tryd.ntmps19
    go_wp2_with fail
    refine (csrShape_as o f c s S F C h0 h1 _).mono ?_; rintro e w' ⟨rfl, rfl⟩
    go_wp2_with fail
    exact bodyPost_ret (v := .agg (shp s f c)) (by simp [results, Tryd.results19, go_sem]) rfl ⟨rfl, rfl⟩
  · obtain rfl : s = ⟨#[]⟩ := by rw [← S.out]; exact Num.nm_high o h
    obtain rfl : f = 0 := by rw [← F.out]; exact Num.fm_high o h
    obtain rfl : c = 0 := by rw [← C.out]; exact Num.cd_high o h
    go_enter Tryd.func19, Tryd.ntmps19
    go_wp2_with fail
    refine (csrShape_no o h _).mono ?_; rintro e w' ⟨rfl, rfl⟩
    go_wp2_with fail
    exact bodyPost_ret (v := .agg (shp ⟨#[]⟩ 0 0)) (by simp [results, Tryd.results19, go_sem]) rfl ⟨rfl, rfl⟩
end Go.Proofs.YtlnliiihcajboaaDoor.Walks
