/- Texts of instructions, as lists of bytes. -/
import Derived.Test.YtlnliiihcajboaaDoorNumb
import Derived.Test.YtlnliiihcajboaaDoorWord
namespace Go.Proofs.YtlnliiihcajboaaDoor.Num
open Go.ChangeShapes Go.WideShapes Go.ChangeAt Go.RowKit
/-- a register's name -/
def rg (n : Int) : List UInt8 := [120] ++ Lib.itoa n
/-- the operands' texts, by the format -/
def opT (f d a b n : Int) : List (List UInt8) :=
  if f = 2 then [rg d, rg a, rg b]
  else if f = 3 ∨ f = 4 ∨ f = 9 then [rg d, rg a, Lib.itoa n]
  else if f = 10 then [rg d, Lib.itoa a, Lib.itoa n]
  else if f = 5 ∨ f = 6 then [rg a, rg b, Lib.itoa n]
  else if f = 7 ∨ f = 8 then [rg d, Lib.itoa n]
  else []
/-- a name's bytes -/
def tl (o : Int) : List UInt8 := nmL.getD o.toNat []
theorem nm_tl (o : Int) : nm o = bs (tl o) := rfl
/-- the text of an instruction; g: it has a word -/
def tx (o d a b n : Int) (g : Bool) : List UInt8 := Lib.join (tl o :: (if g then opT (fm o) d a b n else [])) [32]
theorem tl_len (o : Int) : ((tl o).length : Int) ≤ 100 := by
  have h : ∀ l ∈ nmL, l.length ≤ 6 := by decide
  unfold tl
  rw [List.getD_eq_getElem?_getD]
  rcases hq : nmL[o.toNat]? with _ | x
  · simp
  · have := h x (List.mem_of_getElem? hq)
    simp; omega
theorem tx_no (o d a b n : Int) : tx o d a b n false = tl o := Lib.join_one _ _
end Go.Proofs.YtlnliiihcajboaaDoor.Num
namespace Go.Proofs.YtlnliiihcajboaaDoor.Walks
open Go.ChangeShapes Go.WideShapes Go.ChangeAt Go.RowKit
theorem number_let (n : Int) (s : ByteArray) (S : Hid (Num.bs (Lib.itoa n) = s)) (n0 : -2147483648 ≤ n) (n1 : n ≤ 4294967295) (w : World) : Calls Tryd.prog 36 #[.int .i64 n] w fun e w' => e = .returned (.string s) ∧ w' = w := by
  rw [← S.out]; exact number_as n n0 n1 w
theorem reg_let (n : Int) (s : ByteArray) (S : Hid (Num.bs ([32] ++ Num.rg n) = s)) (n0 : -2147483648 ≤ n) (n1 : n ≤ 4294967295) (w : World) : Calls Tryd.prog 35 #[.int .i64 n] w fun e w' => e = .returned (.string s) ∧ w' = w := by
  rw [← S.out]; exact reg_as n n0 n1 w
end Go.Proofs.YtlnliiihcajboaaDoor.Walks
