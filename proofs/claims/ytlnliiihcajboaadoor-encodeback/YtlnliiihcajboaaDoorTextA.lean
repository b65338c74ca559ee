/- Contract of the program's Text, for any instruction. -/
import Derived.Test.YtlnliiihcajboaaDoorTextM
import Derived.Test.YtlnliiihcajboaaDoorOText
import Derived.Test.YtlnliiihcajboaaDoorEncS
namespace Go.Proofs.YtlnliiihcajboaaDoor.Walks
open Go.ChangeShapes Go.WideShapes Go.ChangeAt Go.RowKit
set_option linter.unusedVariables false
theorem join_short0 (l : List UInt8) (h : (l.length : Int) ≤ 200) : (Lib.join [l] [32]).length ≤ 100000 := by rw [Lib.join_one]; omega
theorem join_short2 (l x y : List UInt8) (h : (l.length : Int) ≤ 200) (hx : (x.length : Int) ≤ 200) (hy : (y.length : Int) ≤ 200) : (Lib.join [l, x, y] [32]).length ≤ 100000 := by rw [Lib.join_cons]; simp [Lib.joinTail]; omega
theorem join_short3 (l x y z : List UInt8) (h : (l.length : Int) ≤ 200) (hx : (x.length : Int) ≤ 200) (hy : (y.length : Int) ≤ 200) (hz : (z.length : Int) ≤ 200) : (Lib.join [l, x, y, z] [32]).length ≤ 100000 := by rw [Lib.join_cons]; simp [Lib.joinTail]; omega
theorem text_as (o d a b n v : Int) (g : Bool) (s : ByteArray) (S : Hid (Num.bs (Num.tx o d a b n g) = s)) (E : Hid (Num.En o d a b n v g)) (w : World) (TT : Hid (Pow w)) :
    Calls Tryd.prog 12 #[.agg (cells o d a b n)] w fun e w' => e = .returned (.string s) ∧ Fr w w' := by
  have l0 : ((Num.tl o).length : Int) ≤ 200 := by have := Num.tl_len o; omega
  cases g
  · exact text_no o d a b n v s (Num.tl o) (hideP (Num.nm_tl o)) S E (hideP (join_short0 _ l0)) w
  have k := E.out.hg.1 rfl
  obtain ⟨d0, d1, a0, a1, b0, b1⟩ := k.regs
  have nn : -2147483648 ≤ n ∧ n ≤ 2147483647 := by have := k; unfold Num.Ok at this; omega
  obtain ⟨n0, n1⟩ := nn
  have ld : ((Num.rg d).length : Int) ≤ 200 := by have := Num.itoa_len d (by omega) (by omega); simp [Num.rg]; omega
  have la : ((Num.rg a).length : Int) ≤ 200 := by have := Num.itoa_len a (by omega) (by omega); simp [Num.rg]; omega
  have lb : ((Num.rg b).length : Int) ≤ 200 := by have := Num.itoa_len b (by omega) (by omega); simp [Num.rg]; omega
  have ln : ((Lib.itoa n).length : Int) ≤ 200 := by have := Num.itoa_len n (by omega) (by omega); omega
  have lA : ((Lib.itoa a).length : Int) ≤ 200 := by have := Num.itoa_len a (by omega) (by omega); omega
  rcases Num.fm_is o with h | h | h | h | h | h | h | h | h | ⟨h, hb⟩ | ⟨h, hb⟩
  all_goals rw [Num.tx, if_pos rfl, h] at S
  all_goals rw [h] at k
  · exact absurd k (fun k => Num.ok0 k)
  · exact text_bare o d a b n v s (Num.tl o) (hideP (Num.nm_tl o)) S E (hideP (join_short0 _ l0)) w TT (hideP fun W TW => otext1 o d a b n _ _ _ _ _ _ (hideP rfl) (hideP h) (hideP rfl) (hideP rfl) (hideP rfl) (hideP rfl) (hideP rfl) d0 d1 a0 a1 b0 b1 n0 n1 W (hideP TW))
  · exact text_more o d a b n v s (Num.tl o) [Num.rg d, Num.rg a, Num.rg b] 3 (hideP rfl) (hideP (by decide)) (hideP (by decide)) (hideP (Num.nm_tl o)) S E (hideP (join_short3 _ _ _ _ l0 ld la lb)) w TT (hideP fun W TW => otext2 o d a b n _ _ _ _ _ _ (hideP rfl) (hideP h) (hideP rfl) (hideP rfl) (hideP rfl) (hideP rfl) (hideP rfl) d0 d1 a0 a1 b0 b1 n0 n1 W (hideP TW))
  · exact text_more o d a b n v s (Num.tl o) [Num.rg d, Num.rg a, Lib.itoa n] 3 (hideP rfl) (hideP (by decide)) (hideP (by decide)) (hideP (Num.nm_tl o)) S E (hideP (join_short3 _ _ _ _ l0 ld la ln)) w TT (hideP fun W TW => otext3 o d a b n _ _ _ _ _ _ (hideP rfl) (hideP h) (hideP rfl) (hideP rfl) (hideP rfl) (hideP rfl) (hideP rfl) d0 d1 a0 a1 b0 b1 n0 n1 W (hideP TW))
  · exact text_more o d a b n v s (Num.tl o) [Num.rg d, Num.rg a, Lib.itoa n] 3 (hideP rfl) (hideP (by decide)) (hideP (by decide)) (hideP (Num.nm_tl o)) S E (hideP (join_short3 _ _ _ _ l0 ld la ln)) w TT (hideP fun W TW => otext4 o d a b n _ _ _ _ _ _ (hideP rfl) (hideP h) (hideP rfl) (hideP rfl) (hideP rfl) (hideP rfl) (hideP rfl) d0 d1 a0 a1 b0 b1 n0 n1 W (hideP TW))
  · exact text_more o d a b n v s (Num.tl o) [Num.rg a, Num.rg b, Lib.itoa n] 3 (hideP rfl) (hideP (by decide)) (hideP (by decide)) (hideP (Num.nm_tl o)) S E (hideP (join_short3 _ _ _ _ l0 la lb ln)) w TT (hideP fun W TW => otext5 o d a b n _ _ _ _ _ _ (hideP rfl) (hideP h) (hideP rfl) (hideP rfl) (hideP rfl) (hideP rfl) (hideP rfl) d0 d1 a0 a1 b0 b1 n0 n1 W (hideP TW))
  · exact text_more o d a b n v s (Num.tl o) [Num.rg a, Num.rg b, Lib.itoa n] 3 (hideP rfl) (hideP (by decide)) (hideP (by decide)) (hideP (Num.nm_tl o)) S E (hideP (join_short3 _ _ _ _ l0 la lb ln)) w TT (hideP fun W TW => otext6 o d a b n _ _ _ _ _ _ (hideP rfl) (hideP h) (hideP rfl) (hideP rfl) (hideP rfl) (hideP rfl) (hideP rfl) d0 d1 a0 a1 b0 b1 n0 n1 W (hideP TW))
  · exact text_more o d a b n v s (Num.tl o) [Num.rg d, Lib.itoa n] 2 (hideP rfl) (hideP (by decide)) (hideP (by decide)) (hideP (Num.nm_tl o)) S E (hideP (join_short2 _ _ _ l0 ld ln)) w TT (hideP fun W TW => otext7 o d a b n _ _ _ _ _ _ (hideP rfl) (hideP h) (hideP rfl) (hideP rfl) (hideP rfl) (hideP rfl) (hideP rfl) d0 d1 a0 a1 b0 b1 n0 n1 W (hideP TW))
  · exact text_more o d a b n v s (Num.tl o) [Num.rg d, Lib.itoa n] 2 (hideP rfl) (hideP (by decide)) (hideP (by decide)) (hideP (Num.nm_tl o)) S E (hideP (join_short2 _ _ _ l0 ld ln)) w TT (hideP fun W TW => otext8 o d a b n _ _ _ _ _ _ (hideP rfl) (hideP h) (hideP rfl) (hideP rfl) (hideP rfl) (hideP rfl) (hideP rfl) d0 d1 a0 a1 b0 b1 n0 n1 W (hideP TW))
  · exact text_more o d a b n v s (Num.tl o) [Num.rg d, Num.rg a, Lib.itoa n] 3 (hideP rfl) (hideP (by decide)) (hideP (by decide)) (hideP (Num.nm_tl o)) S E (hideP (join_short3 _ _ _ _ l0 ld la ln)) w TT (hideP fun W TW => otext9 o d a b n _ _ _ _ _ _ (hideP rfl) (hideP h) (hideP rfl) (hideP rfl) (hideP rfl) (hideP rfl) (hideP rfl) d0 d1 a0 a1 b0 b1 n0 n1 W (hideP TW))
  · exact text_more o d a b n v s (Num.tl o) [Num.rg d, Lib.itoa a, Lib.itoa n] 3 (hideP rfl) (hideP (by decide)) (hideP (by decide)) (hideP (Num.nm_tl o)) S E (hideP (join_short3 _ _ _ _ l0 ld lA ln)) w TT (hideP fun W TW => otext10 o d a b n _ _ _ _ _ _ _ (hideP rfl) (hideP h) (hideP rfl) (hideP rfl) (hideP rfl) (hideP rfl) (hideP rfl) (hideP rfl) d0 d1 a0 a1 b0 b1 n0 n1 W (hideP TW))
end Go.Proofs.YtlnliiihcajboaaDoor.Walks
