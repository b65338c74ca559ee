/- Numbers: words by their four bytes. -/
import Derived.Test.YtgfoclpcfgfnbaaNums
namespace Go.Proofs.Ytgfoclpcfgfnbaa.Num
open Go.ChangeShapes Go.WideShapes Go.ChangeAt Go.RowKit
set_option linter.unusedVariables false
/-- a word of four bytes -/
def cmp (a b c d : Int) : Int := a + 256 * b + 65536 * c + 16777216 * d
/-- a byte -/
abbrev By (a : Int) : Prop := 0 ≤ a ∧ a ≤ 255
theorem cmp_in (a b c d : Int) (ha : By a) (hb : By b) (hc : By c) (hd : By d) : 0 ≤ cmp a b c d ∧ cmp a b c d ≤ 4294967295 := by unfold By cmp at *; omega
theorem cmp_of (x : Int) (h0 : 0 ≤ x) (h1 : x ≤ 4294967295) : ∃ a b c d : Int, By a ∧ By b ∧ By c ∧ By d ∧ x = cmp a b c d :=
  ⟨x % 256, x / 256 % 256, x / 65536 % 256, x / 16777216, by unfold By; omega, by unfold By; omega, by unfold By; omega, by unfold By; omega, by unfold cmp; omega⟩
theorem cmp0 (a b c d : Int) (ha : By a) (hb : By b) (hc : By c) (hd : By d) : cmp a b c d % 256 = a := by unfold By cmp at *; omega
theorem cmp1 (a b c d : Int) (ha : By a) (hb : By b) (hc : By c) (hd : By d) : cmp a b c d / 256 % 256 = b := by unfold By cmp at *; omega
theorem cmp2 (a b c d : Int) (ha : By a) (hb : By b) (hc : By c) (hd : By d) : cmp a b c d / 65536 % 256 = c := by unfold By cmp at *; omega
theorem cmp3 (a b c d : Int) (ha : By a) (hb : By b) (hc : By c) (hd : By d) : cmp a b c d / 16777216 % 256 = d := by unfold By cmp at *; omega
theorem cmp_lo (a b c d : Int) (ha : By a) (hb : By b) (hc : By c) (hd : By d) : cmp a b c d % 65536 = cmp a b 0 0 := by unfold By cmp at *; omega
theorem cmp_hi (a b c d : Int) (ha : By a) (hb : By b) (hc : By c) (hd : By d) : cmp a b c d / 65536 % 65536 = cmp c d 0 0 := by unfold By cmp at *; omega
theorem by0 : By 0 := by unfold By; omega
theorem mg_cmp (c0 c1 c2 c3 : Bool) (o0 o1 o2 o3 d0 d1 d2 d3 : Int) (h0 : By o0) (h1 : By o1) (h2 : By o2) (h3 : By o3) (k0 : By d0) (k1 : By d1) (k2 : By d2) (k3 : By d3) :
    mg c0 c1 c2 c3 (cmp o0 o1 o2 o3) (cmp d0 d1 d2 d3) = cmp (pk c0 d0 o0) (pk c1 d1 o1) (pk c2 d2 o2) (pk c3 d3 o3) := by
  unfold mg
  rw [cmp0 _ _ _ _ h0 h1 h2 h3, cmp1 _ _ _ _ h0 h1 h2 h3, cmp2 _ _ _ _ h0 h1 h2 h3, cmp3 _ _ _ _ h0 h1 h2 h3, cmp0 _ _ _ _ k0 k1 k2 k3, cmp1 _ _ _ _ k0 k1 k2 k3, cmp2 _ _ _ _ k0 k1 k2 k3, cmp3 _ _ _ _ k0 k1 k2 k3]
  rfl
theorem at0 (o d : Int) : mgm o d 0 = mg false false false false o d := rfl
theorem at1 (o d : Int) : mgm o d 1 = mg true false false false o d := rfl
theorem at2 (o d : Int) : mgm o d 2 = mg false true false false o d := rfl
theorem at4 (o d : Int) : mgm o d 4 = mg false false true false o d := rfl
theorem at8 (o d : Int) : mgm o d 8 = mg false false false true o d := rfl
theorem at3 (o d : Int) : mgm o d 3 = mg true true false false o d := rfl
theorem at12 (o d : Int) : mgm o d 12 = mg false false true true o d := rfl
theorem at15 (o d : Int) : mgm o d 15 = mg true true true true o d := rfl
theorem pk1 (a b : Int) : pk true a b = a := rfl
theorem pk0 (a b : Int) : pk false a b = b := rfl
end Go.Proofs.Ytgfoclpcfgfnbaa.Num
