/- ComparePrefixes: its walk. -/
import Derived.Test.YtkchpegpmpijcaaPrefA
import Derived.Test.YtkchpegpmpijcaaPrefB
import Derived.Test.YtkchpegpmpijcaaOpen
namespace Go.Proofs.Ytkchpegpmpijcaa.M
open Go.ChangeShapes Go.WideShapes Go.ChangeAt Go.RowKit Go.Proofs.Ytkchpegpmpijcaa.Walks
set_option linter.unusedVariables false
/-- what (n % k + k) % k is made of -/
theorem rem_parts (n : Int) (k : Nat) (h0 : 0 < k) (h1 : k ≤ 1048576) : ∃ (x : Nat) (r s : Int), n.tmod (k : Int) = r ∧ wrap64 (r + (k : Int)) = s ∧ s.tmod (k : Int) = (x : Int) ∧ x < k := by
  have hk : (0 : Int) < k := by omega
  have a1 : n.tmod (k : Int) < k := Int.tmod_lt_of_pos n hk
  have a2 : -(k : Int) < n.tmod (k : Int) := by
    by_cases h : 0 ≤ n
    · have := Int.tmod_nonneg (k : Int) h; omega
    · have e : n.tmod (k : Int) = -((-n).tmod (k : Int)) := by rw [Int.neg_tmod, Int.neg_neg]
      have := Int.tmod_lt_of_pos (-n) hk
      omega
  have w : wrap64 (n.tmod (k : Int) + (k : Int)) = n.tmod (k : Int) + (k : Int) := by unfold wrap64; omega
  have b1 := Int.tmod_lt_of_pos (n.tmod (k : Int) + (k : Int)) hk
  have b0 := Int.tmod_nonneg (k : Int) (show 0 ≤ n.tmod (k : Int) + (k : Int) by omega)
  obtain ⟨x, hx⟩ := Int.eq_ofNat_of_zero_le b0
  exact ⟨x, _, _, rfl, w, hx, by omega⟩
theorem prefixes (A B : Option Addr) (la lb ca cb : Nat) (f g : Nat → Int) (n m : Int) (w : World) (hA : Hid (WIn w A la f)) (nA : Hid (A = none → la = 0 ∧ ca = 0)) (hB : Hid (WIn w B lb g)) (nB : Hid (B = none → lb = 0 ∧ cb = 0)) (hb : la + lb ≤ 1048576) :
    Calls Try.prog 5 #[.slice A la ca, .slice B lb cb, .int .i64 n, .int .i64 m] w fun e w' => e = .returned (.bool true) ∧ Fr w w' := by
  by_cases h0 : la + lb = 0
  · exact pf_zero0 A B la lb ca cb f g n m w hA nA hB nB hb h0 (by omega)
  · obtain ⟨x, r1, s1, e1, e2, e3, hx⟩ := rem_parts n (la + lb) (by omega) hb
    obtain ⟨y, r2, s2, d1, d2, d3, hy⟩ := rem_parts m (la + lb) (by omega) hb
    by_cases hl : lb = 0
    · by_cases c : x < y
      · exact pf_lt0 A B la lb ca cb f g n m w hA nA hB nB hb (by omega) hl x y r1 s1 r2 s2 e1 e2 e3 d1 d2 d3 hx hy c
      · by_cases c' : x = y
        · exact pf_eq0 A B la lb ca cb f g n m w hA nA hB nB hb (by omega) hl x y r1 s1 r2 s2 e1 e2 e3 d1 d2 d3 hx hy c'
        · exact pf_gt0 A B la lb ca cb f g n m w hA nA hB nB hb (by omega) hl x y r1 s1 r2 s2 e1 e2 e3 d1 d2 d3 hx hy (by omega)
    · by_cases c : x < y
      · exact pf_lt1 A B la lb ca cb f g n m w hA nA hB nB hb (by omega) (by omega) x y r1 s1 r2 s2 e1 e2 e3 d1 d2 d3 hx hy c
      · by_cases c' : x = y
        · exact pf_eq1 A B la lb ca cb f g n m w hA nA hB nB hb (by omega) (by omega) x y r1 s1 r2 s2 e1 e2 e3 d1 d2 d3 hx hy c'
        · exact pf_gt1 A B la lb ca cb f g n m w hA nA hB nB hb (by omega) (by omega) x y r1 s1 r2 s2 e1 e2 e3 d1 d2 d3 hx hy (by omega)
end Go.Proofs.Ytkchpegpmpijcaa.M
