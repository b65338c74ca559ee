/- CompareTells: its walk, for any arguments. -/
import Derived.Test.YtkchpegpmpijcaaTellsA
import Derived.Test.YtkchpegpmpijcaaTellsB
import Derived.Test.YtkchpegpmpijcaaTellsC
import Derived.Test.YtkchpegpmpijcaaPrefW
namespace Go.Proofs.Ytkchpegpmpijcaa.M
open Go.ChangeShapes Go.WideShapes Go.ChangeAt Go.RowKit Go.Proofs.Ytkchpegpmpijcaa.Walks
set_option linter.unusedVariables false
theorem tells (A B P Q : Option Addr) (la lb lp lq ca cb cp cq : Nat) (f g : Nat → Rt) (x y : Nat → Int) (s t : Ss) (n : Int) (w : World) (hA : RIn w A la f) (nA : A = none → la = 0 ∧ ca = 0) (hca : la ≤ ca) (hB : RIn w B lb g) (nB : B = none → lb = 0 ∧ cb = 0) (hP : WIn w P lp x) (nP : P = none → lp = 0 ∧ cp = 0) (hQ : WIn w Q lq y) (nQ : Q = none → lq = 0 ∧ cq = 0) (hS : s.In w) (hT : t.In w)
    (hb : la + lb + lp + lq ≤ 1048576) :
    Calls Try.prog 4 #[.slice A la ca, .slice B lb cb, .slice P lp cp, .slice Q lq cq, .agg s.cs.toArray, .agg t.cs.toArray, .int .i64 n] w fun e w' => e = .returned (.bool true) ∧ Fr w w' := by
  by_cases h0 : la = 0
  · subst h0
    cases A with
    | none =>
      obtain ⟨_, rfl⟩ := nA rfl
      exact ct_none B P Q lb lp lq cb cp cq f g x y s t n w hA hB nB hP nP hQ nQ hS hT hb
    | some ad => exact ct_some ad B P Q lb lp lq ca cb cp cq f g x y s t n w hA hB nB hP nP hQ nQ hS hT hb
  · obtain ⟨k, r1, s1, e1, e2, e3, hk⟩ := rem_parts n la (by omega) (by omega)
    obtain ⟨ba, oa, rfl, _, _⟩ := hA 0 (by omega)
    exact ct_pos ba oa B P Q la lb lp lq ca cb cp cq f g x y s t n w hA hB nB hP nP hQ nQ hS hT hb hca (by omega) k r1 s1 e1 e2 e3 hk
end Go.Proofs.Ytkchpegpmpijcaa.M
