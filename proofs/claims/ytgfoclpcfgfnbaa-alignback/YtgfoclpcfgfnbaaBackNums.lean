/- Numbers: what is stored is loaded again, op by op and place by place. -/
import Derived.Test.YtgfoclpcfgfnbaaCmp
namespace Go.Proofs.Ytgfoclpcfgfnbaa.Num
open Go.ChangeShapes Go.WideShapes Go.ChangeAt Go.RowKit
set_option linter.unusedVariables false
/-- all that the law asks of numbers: o is merged with what K stores of n at place p, and D loads it; q is the mask that n is held against -/
structure Bk (K D p n o z dt mk v : Int) : Prop where
  s : st K p n = dt
  m : sm K p = mk
  d0 : 0 ≤ dt
  d1 : dt ≤ 4294967295
  v0 : 0 ≤ v
  v1 : v ≤ 4294967295
  w : mgm o dt mk = v
  r : mgm v o mk = o
  l : ld D p v = z
  g : mgm o v mk = v
  g15 : mgm o v 15 = v
  g0 : mgm o v 0 = o
theorem bk16_0 (n0 n1 n2 n3 o0 o1 o2 o3 : Int) (hn0 : By n0) (hn1 : By n1) (hn2 : By n2) (hn3 : By n3) (ho0 : By o0) (ho1 : By o1) (ho2 : By o2) (ho3 : By o3) :
    Bk 16 14 0 (cmp n0 n1 n2 n3) (cmp o0 o1 o2 o3) n0 (cmp n0 0 0 0) 1 (cmp n0 o1 o2 o3) := by
  have i1 := cmp_in n0 0 0 0 hn0 by0 by0 by0
  have i2 := cmp_in n0 o1 o2 o3 hn0 ho1 ho2 ho3
  exact ⟨(by show cmp n0 n1 n2 n3 % 256 * 1 = _; rw [cmp0 _ _ _ _ hn0 hn1 hn2 hn3]; unfold cmp; omega),
    (rfl),
    (i1.1),
    (i1.2),
    (i2.1),
    (i2.2),
    (by rw [at1, mg_cmp _ _ _ _ _ _ _ _ _ _ _ _ ho0 ho1 ho2 ho3 hn0 by0 by0 by0]; rfl),
    (by rw [at1, mg_cmp _ _ _ _ _ _ _ _ _ _ _ _ hn0 ho1 ho2 ho3 ho0 ho1 ho2 ho3]; rfl),
    (by show cmp n0 o1 o2 o3  % 256 = _; exact cmp0 _ _ _ _ hn0 ho1 ho2 ho3),
    (by rw [at1, mg_cmp _ _ _ _ _ _ _ _ _ _ _ _ ho0 ho1 ho2 ho3 hn0 ho1 ho2 ho3]; rfl),
    (by rw [at15, mg_cmp _ _ _ _ _ _ _ _ _ _ _ _ ho0 ho1 ho2 ho3 hn0 ho1 ho2 ho3]; rfl),
    (by rw [at0, mg_cmp _ _ _ _ _ _ _ _ _ _ _ _ ho0 ho1 ho2 ho3 hn0 ho1 ho2 ho3]; rfl)⟩
theorem bk16_1 (n0 n1 n2 n3 o0 o1 o2 o3 : Int) (hn0 : By n0) (hn1 : By n1) (hn2 : By n2) (hn3 : By n3) (ho0 : By o0) (ho1 : By o1) (ho2 : By o2) (ho3 : By o3) :
    Bk 16 14 1 (cmp n0 n1 n2 n3) (cmp o0 o1 o2 o3) n0 (cmp 0 n0 0 0) 2 (cmp o0 n0 o2 o3) := by
  have i1 := cmp_in 0 n0 0 0 by0 hn0 by0 by0
  have i2 := cmp_in o0 n0 o2 o3 ho0 hn0 ho2 ho3
  exact ⟨(by show cmp n0 n1 n2 n3 % 256 * 256 = _; rw [cmp0 _ _ _ _ hn0 hn1 hn2 hn3]; unfold cmp; omega),
    (rfl),
    (i1.1),
    (i1.2),
    (i2.1),
    (i2.2),
    (by rw [at2, mg_cmp _ _ _ _ _ _ _ _ _ _ _ _ ho0 ho1 ho2 ho3 by0 hn0 by0 by0]; rfl),
    (by rw [at2, mg_cmp _ _ _ _ _ _ _ _ _ _ _ _ ho0 hn0 ho2 ho3 ho0 ho1 ho2 ho3]; rfl),
    (by show cmp o0 n0 o2 o3 / 256 % 256 = _; exact cmp1 _ _ _ _ ho0 hn0 ho2 ho3),
    (by rw [at2, mg_cmp _ _ _ _ _ _ _ _ _ _ _ _ ho0 ho1 ho2 ho3 ho0 hn0 ho2 ho3]; rfl),
    (by rw [at15, mg_cmp _ _ _ _ _ _ _ _ _ _ _ _ ho0 ho1 ho2 ho3 ho0 hn0 ho2 ho3]; rfl),
    (by rw [at0, mg_cmp _ _ _ _ _ _ _ _ _ _ _ _ ho0 ho1 ho2 ho3 ho0 hn0 ho2 ho3]; rfl)⟩
theorem bk16_2 (n0 n1 n2 n3 o0 o1 o2 o3 : Int) (hn0 : By n0) (hn1 : By n1) (hn2 : By n2) (hn3 : By n3) (ho0 : By o0) (ho1 : By o1) (ho2 : By o2) (ho3 : By o3) :
    Bk 16 14 2 (cmp n0 n1 n2 n3) (cmp o0 o1 o2 o3) n0 (cmp 0 0 n0 0) 4 (cmp o0 o1 n0 o3) := by
  have i1 := cmp_in 0 0 n0 0 by0 by0 hn0 by0
  have i2 := cmp_in o0 o1 n0 o3 ho0 ho1 hn0 ho3
  exact ⟨(by show cmp n0 n1 n2 n3 % 256 * 65536 = _; rw [cmp0 _ _ _ _ hn0 hn1 hn2 hn3]; unfold cmp; omega),
    (rfl),
    (i1.1),
    (i1.2),
    (i2.1),
    (i2.2),
    (by rw [at4, mg_cmp _ _ _ _ _ _ _ _ _ _ _ _ ho0 ho1 ho2 ho3 by0 by0 hn0 by0]; rfl),
    (by rw [at4, mg_cmp _ _ _ _ _ _ _ _ _ _ _ _ ho0 ho1 hn0 ho3 ho0 ho1 ho2 ho3]; rfl),
    (by show cmp o0 o1 n0 o3 / 65536 % 256 = _; exact cmp2 _ _ _ _ ho0 ho1 hn0 ho3),
    (by rw [at4, mg_cmp _ _ _ _ _ _ _ _ _ _ _ _ ho0 ho1 ho2 ho3 ho0 ho1 hn0 ho3]; rfl),
    (by rw [at15, mg_cmp _ _ _ _ _ _ _ _ _ _ _ _ ho0 ho1 ho2 ho3 ho0 ho1 hn0 ho3]; rfl),
    (by rw [at0, mg_cmp _ _ _ _ _ _ _ _ _ _ _ _ ho0 ho1 ho2 ho3 ho0 ho1 hn0 ho3]; rfl)⟩
theorem bk16_3 (n0 n1 n2 n3 o0 o1 o2 o3 : Int) (hn0 : By n0) (hn1 : By n1) (hn2 : By n2) (hn3 : By n3) (ho0 : By o0) (ho1 : By o1) (ho2 : By o2) (ho3 : By o3) :
    Bk 16 14 3 (cmp n0 n1 n2 n3) (cmp o0 o1 o2 o3) n0 (cmp 0 0 0 n0) 8 (cmp o0 o1 o2 n0) := by
  have i1 := cmp_in 0 0 0 n0 by0 by0 by0 hn0
  have i2 := cmp_in o0 o1 o2 n0 ho0 ho1 ho2 hn0
  exact ⟨(by show cmp n0 n1 n2 n3 % 256 * 16777216 = _; rw [cmp0 _ _ _ _ hn0 hn1 hn2 hn3]; unfold cmp; omega),
    (rfl),
    (i1.1),
    (i1.2),
    (i2.1),
    (i2.2),
    (by rw [at8, mg_cmp _ _ _ _ _ _ _ _ _ _ _ _ ho0 ho1 ho2 ho3 by0 by0 by0 hn0]; rfl),
    (by rw [at8, mg_cmp _ _ _ _ _ _ _ _ _ _ _ _ ho0 ho1 ho2 hn0 ho0 ho1 ho2 ho3]; rfl),
    (by show cmp o0 o1 o2 n0 / 16777216 % 256 = _; exact cmp3 _ _ _ _ ho0 ho1 ho2 hn0),
    (by rw [at8, mg_cmp _ _ _ _ _ _ _ _ _ _ _ _ ho0 ho1 ho2 ho3 ho0 ho1 ho2 hn0]; rfl),
    (by rw [at15, mg_cmp _ _ _ _ _ _ _ _ _ _ _ _ ho0 ho1 ho2 ho3 ho0 ho1 ho2 hn0]; rfl),
    (by rw [at0, mg_cmp _ _ _ _ _ _ _ _ _ _ _ _ ho0 ho1 ho2 ho3 ho0 ho1 ho2 hn0]; rfl)⟩
theorem bk17_0 (n0 n1 n2 n3 o0 o1 o2 o3 : Int) (hn0 : By n0) (hn1 : By n1) (hn2 : By n2) (hn3 : By n3) (ho0 : By o0) (ho1 : By o1) (ho2 : By o2) (ho3 : By o3) :
    Bk 17 15 0 (cmp n0 n1 n2 n3) (cmp o0 o1 o2 o3) (cmp n0 n1 0 0) (cmp n0 n1 0 0) 3 (cmp n0 n1 o2 o3) := by
  have i1 := cmp_in n0 n1 0 0 hn0 hn1 by0 by0
  have i2 := cmp_in n0 n1 o2 o3 hn0 hn1 ho2 ho3
  exact ⟨(by show cmp n0 n1 n2 n3 % 65536 * 1 = _; rw [cmp_lo _ _ _ _ hn0 hn1 hn2 hn3]; unfold cmp; omega),
    (rfl),
    (i1.1),
    (i1.2),
    (i2.1),
    (i2.2),
    (by rw [at3, mg_cmp _ _ _ _ _ _ _ _ _ _ _ _ ho0 ho1 ho2 ho3 hn0 hn1 by0 by0]; rfl),
    (by rw [at3, mg_cmp _ _ _ _ _ _ _ _ _ _ _ _ hn0 hn1 ho2 ho3 ho0 ho1 ho2 ho3]; rfl),
    (by show cmp n0 n1 o2 o3  % 65536 = _; exact cmp_lo _ _ _ _ hn0 hn1 ho2 ho3),
    (by rw [at3, mg_cmp _ _ _ _ _ _ _ _ _ _ _ _ ho0 ho1 ho2 ho3 hn0 hn1 ho2 ho3]; rfl),
    (by rw [at15, mg_cmp _ _ _ _ _ _ _ _ _ _ _ _ ho0 ho1 ho2 ho3 hn0 hn1 ho2 ho3]; rfl),
    (by rw [at0, mg_cmp _ _ _ _ _ _ _ _ _ _ _ _ ho0 ho1 ho2 ho3 hn0 hn1 ho2 ho3]; rfl)⟩
theorem bk17_2 (n0 n1 n2 n3 o0 o1 o2 o3 : Int) (hn0 : By n0) (hn1 : By n1) (hn2 : By n2) (hn3 : By n3) (ho0 : By o0) (ho1 : By o1) (ho2 : By o2) (ho3 : By o3) :
    Bk 17 15 2 (cmp n0 n1 n2 n3) (cmp o0 o1 o2 o3) (cmp n0 n1 0 0) (cmp 0 0 n0 n1) 12 (cmp o0 o1 n0 n1) := by
  have i1 := cmp_in 0 0 n0 n1 by0 by0 hn0 hn1
  have i2 := cmp_in o0 o1 n0 n1 ho0 ho1 hn0 hn1
  exact ⟨(by show cmp n0 n1 n2 n3 % 65536 * 65536 = _; rw [cmp_lo _ _ _ _ hn0 hn1 hn2 hn3]; unfold cmp; omega),
    (rfl),
    (i1.1),
    (i1.2),
    (i2.1),
    (i2.2),
    (by rw [at12, mg_cmp _ _ _ _ _ _ _ _ _ _ _ _ ho0 ho1 ho2 ho3 by0 by0 hn0 hn1]; rfl),
    (by rw [at12, mg_cmp _ _ _ _ _ _ _ _ _ _ _ _ ho0 ho1 hn0 hn1 ho0 ho1 ho2 ho3]; rfl),
    (by show cmp o0 o1 n0 n1 / 65536 % 65536 = _; exact cmp_hi _ _ _ _ ho0 ho1 hn0 hn1),
    (by rw [at12, mg_cmp _ _ _ _ _ _ _ _ _ _ _ _ ho0 ho1 ho2 ho3 ho0 ho1 hn0 hn1]; rfl),
    (by rw [at15, mg_cmp _ _ _ _ _ _ _ _ _ _ _ _ ho0 ho1 ho2 ho3 ho0 ho1 hn0 hn1]; rfl),
    (by rw [at0, mg_cmp _ _ _ _ _ _ _ _ _ _ _ _ ho0 ho1 ho2 ho3 ho0 ho1 hn0 hn1]; rfl)⟩
theorem bk18_0 (n0 n1 n2 n3 o0 o1 o2 o3 : Int) (hn0 : By n0) (hn1 : By n1) (hn2 : By n2) (hn3 : By n3) (ho0 : By o0) (ho1 : By o1) (ho2 : By o2) (ho3 : By o3) :
    Bk 18 13 0 (cmp n0 n1 n2 n3) (cmp o0 o1 o2 o3) (cmp n0 n1 n2 n3) (cmp n0 n1 n2 n3) 15 (cmp n0 n1 n2 n3) := by
  have i1 := cmp_in n0 n1 n2 n3 hn0 hn1 hn2 hn3
  have i2 := cmp_in n0 n1 n2 n3 hn0 hn1 hn2 hn3
  exact ⟨(rfl),
    (rfl),
    (i1.1),
    (i1.2),
    (i2.1),
    (i2.2),
    (by rw [at15, mg_cmp _ _ _ _ _ _ _ _ _ _ _ _ ho0 ho1 ho2 ho3 hn0 hn1 hn2 hn3]; rfl),
    (by rw [at15, mg_cmp _ _ _ _ _ _ _ _ _ _ _ _ hn0 hn1 hn2 hn3 ho0 ho1 ho2 ho3]; rfl),
    (rfl),
    (by rw [at15, mg_cmp _ _ _ _ _ _ _ _ _ _ _ _ ho0 ho1 ho2 ho3 hn0 hn1 hn2 hn3]; rfl),
    (by rw [at15, mg_cmp _ _ _ _ _ _ _ _ _ _ _ _ ho0 ho1 ho2 ho3 hn0 hn1 hn2 hn3]; rfl),
    (by rw [at0, mg_cmp _ _ _ _ _ _ _ _ _ _ _ _ ho0 ho1 ho2 ho3 hn0 hn1 hn2 hn3]; rfl)⟩
end Go.Proofs.Ytgfoclpcfgfnbaa.Num
