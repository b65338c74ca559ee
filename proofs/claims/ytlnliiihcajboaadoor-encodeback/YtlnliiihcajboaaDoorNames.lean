/- The document's own Name. -/
import Derived.Test.YtlnliiihcajboaaDoorShape
import Derived.Test.YtlnliiihcajboaaDoorNumb
namespace Go.Proofs.YtlnliiihcajboaaDoor.Walks
open Go.ChangeShapes Go.WideShapes Go.ChangeAt Go.RowKit
set_option linter.unusedVariables false
abbrev tabN : Array Value := #[.string ⟨#[]⟩, .string ⟨#[108, 117, 105]⟩, .string ⟨#[97, 117, 105, 112, 99]⟩, .string ⟨#[106, 97, 108]⟩, .string ⟨#[106, 97, 108, 114]⟩, .string ⟨#[98, 101, 113]⟩, .string ⟨#[98, 110, 101]⟩, .string ⟨#[98, 108, 116]⟩, .string ⟨#[98, 103, 101]⟩, .string ⟨#[98, 108, 116, 117]⟩, .string ⟨#[98, 103, 101, 117]⟩, .string ⟨#[108, 98]⟩, .string ⟨#[108, 104]⟩, .string ⟨#[108, 119]⟩, .string ⟨#[108, 98, 117]⟩, .string ⟨#[108, 104, 117]⟩, .string ⟨#[115, 98]⟩, .string ⟨#[115, 104]⟩, .string ⟨#[115, 119]⟩, .string ⟨#[97, 100, 100, 105]⟩, .string ⟨#[115, 108, 116, 105]⟩, .string ⟨#[115, 108, 116, 105, 117]⟩, .string ⟨#[120, 111, 114, 105]⟩, .string ⟨#[111, 114, 105]⟩, .string ⟨#[97, 110, 100, 105]⟩, .string ⟨#[115, 108, 108, 105]⟩, .string ⟨#[115, 114, 108, 105]⟩, .string ⟨#[115, 114, 97, 105]⟩, .string ⟨#[97, 100, 100]⟩, .string ⟨#[115, 117, 98]⟩, .string ⟨#[115, 108, 108]⟩, .string ⟨#[115, 108, 116]⟩, .string ⟨#[115, 108, 116, 117]⟩, .string ⟨#[120, 111, 114]⟩, .string ⟨#[115, 114, 108]⟩, .string ⟨#[115, 114, 97]⟩, .string ⟨#[111, 114]⟩, .string ⟨#[97, 110, 100]⟩, .string ⟨#[109, 117, 108]⟩, .string ⟨#[109, 117, 108, 104]⟩, .string ⟨#[109, 117, 108, 104, 115, 117]⟩, .string ⟨#[109, 117, 108, 104, 117]⟩, .string ⟨#[100, 105, 118]⟩, .string ⟨#[100, 105, 118, 117]⟩, .string ⟨#[114, 101, 109]⟩, .string ⟨#[114, 101, 109, 117]⟩, .string ⟨#[102, 101, 110, 99, 101]⟩, .string ⟨#[101, 99, 97, 108, 108]⟩, .string ⟨#[101, 98, 114, 101, 97, 107]⟩, .string ⟨#[109, 114, 101, 116]⟩, .string ⟨#[99, 115, 114, 114, 119]⟩, .string ⟨#[99, 115, 114, 114, 115]⟩, .string ⟨#[99, 115, 114, 114, 99]⟩, .string ⟨#[99, 115, 114, 114, 119, 105]⟩, .string ⟨#[99, 115, 114, 114, 115, 105]⟩, .string ⟨#[99, 115, 114, 114, 99, 105]⟩]
def TabN : Array Value := tabN
set_option maxRecDepth 100000 in
set_option maxHeartbeats 4000000 in
theorem names_as (w : World) : Calls Tryd.prog 37 #[] w fun e w' => e = .returned (.slice (some ⟨w.heap.size, 0, none⟩) 56 56) ∧ w' = w.alloc (.cells TabN 9) := by
  go_enter Tryd.func37, Tryd.ntmps37
  go_wp2_with fail
  go_ret
  exact ⟨rfl, rfl⟩
theorem tabN_eq : TabN = (Num.nmL.map (fun l => Value.string (Num.bs l))).toArray := rfl
theorem tabN_at (k : Nat) (h : k < 56) : TabN[k]? = some (.string (Num.nm (k : Int))) := by
  have e : Num.nmL.length = 56 := rfl
  rw [tabN_eq, List.getElem?_toArray, List.getElem?_map, List.getElem?_eq_getElem (by omega)]
  have : Num.nm (k : Int) = Num.bs Num.nmL[k] := by
    rw [Num.nm, show ((k : Int)).toNat = k by omega, List.getD_eq_getElem?_getD, List.getElem?_eq_getElem (by omega)]; rfl
  rw [this]; rfl
set_option maxRecDepth 100000 in
set_option maxHeartbeats 4000000 in
theorem rname_low (o : Int) (h : o < 0) (w : World) : Calls Tryd.prog 17 #[.int .i64 o] w fun e w' => e = .returned (.string ⟨#[]⟩) ∧ Fr w w' := by
  go_enter Tryd.func17, Tryd.ntmps17
  go_wp2_with fail
  go_ret
  exact ⟨rfl, Fr.refl _⟩
set_option maxRecDepth 100000 in
set_option maxHeartbeats 4000000 in
theorem rname_high (o : Int) (h : 56 ≤ o) (w : World) : Calls Tryd.prog 17 #[.int .i64 o] w fun e w' => e = .returned (.string ⟨#[]⟩) ∧ Fr w w' := by
  go_enter Tryd.func17, Tryd.ntmps17
  go_wp2_with fail
  refine (names_as _).mono ?_; rintro e w' ⟨rfl, rfl⟩
  go_wp2_with fail
  go_ret
  exact ⟨rfl, (Fr.refl _).alloc _⟩
set_option maxRecDepth 100000 in
set_option maxHeartbeats 4000000 in
theorem rname_mid (k : Nat) (k0 : (0 : Int) ≤ (k : Int)) (k1 : (k : Int) < 56) (s : ByteArray) (S : TabN[k]? = some (.string s)) (w : World) : Calls Tryd.prog 17 #[.int .i64 (k : Int)] w fun e w' => e = .returned (.string s) ∧ Fr w w' := by
  go_enter Tryd.func17, Tryd.ntmps17
  go_wp2_with fail
  refine (names_as _).mono ?_; rintro e w' ⟨rfl, rfl⟩
  go_wp2_with fail
  refine (names_as _).mono ?_; rintro e w' ⟨rfl, rfl⟩
  go_wp2_with fail
  go_ret
  exact ⟨rfl, ((Fr.refl _).alloc _).alloc _⟩
theorem rname_as (o : Int) (s : ByteArray) (S : Hid (Num.nm o = s)) (w : World) :
    Calls Tryd.prog 17 #[.int .i64 o] w fun e w' => e = .returned (.string s) ∧ Fr w w' := by
  rw [← S.out]
  by_cases h : o < 0
  · rw [Num.nm_low o (by omega)]; exact rname_low o h w
  by_cases h2 : 56 ≤ o
  · rw [Num.nm_high o (by omega)]; exact rname_high o h2 w
  obtain ⟨k, rfl⟩ := Int.eq_ofNat_of_zero_le (show 0 ≤ o by omega)
  exact rname_mid k (by omega) (by omega) _ (tabN_at k (by omega)) w
end Go.Proofs.YtlnliiihcajboaaDoor.Walks
