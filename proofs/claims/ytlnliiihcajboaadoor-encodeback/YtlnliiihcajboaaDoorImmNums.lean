/- Numbers: the five immediates. -/
import Derived.Test.YtlnliiihcajboaaDoorRefBits
namespace Go.Proofs.YtlnliiihcajboaaDoor.Num
open Go.ChangeShapes Go.WideShapes Go.ChangeAt Go.RowKit
def iI (v : Int) : Int := sg 2048 (v / 1048576 % 4096)
def iS (v : Int) : Int := sg 2048 (v / 33554432 % 128 * 32 + v / 128 % 32)
def iB (v : Int) : Int := sg 4096 (v / 2147483648 % 2 * 4096 + v / 128 % 2 * 2048 + v / 33554432 % 64 * 32 + v / 256 % 16 * 2)
def iU (v : Int) : Int := sg 2147483648 (v / 4096 % 1048576 * 4096)
def iJ (v : Int) : Int := sg 1048576 (v / 2147483648 % 2 * 1048576 + v / 4096 % 256 * 4096 + v / 1048576 % 2 * 2048 + v / 2097152 % 1024 * 2)
theorem bt_lit (v a n p q : Int) (a0 : 0 ≤ a) (a1 : a ≤ 31) (n0 : 1 ≤ n) (n1 : n ≤ 32) (hp : (2 : Int) ^ a.toNat = p) (hq : (2 : Int) ^ n.toNat = q) : bt v a n = v / p % q := by
  rw [bt, if_pos ⟨a0, a1, n0, n1⟩, hp, hq]
theorem sn_lit (v n h : Int) (n0 : 1 ≤ n) (n1 : n ≤ 32) (hh : (2 : Int) ^ (n.toNat - 1) = h) : sn v n = sg h v := by
  rw [sn, if_pos ⟨n0, n1⟩, hh]
/-- two numbers with no bit in common, put together -/
theorem or_join (i : Nat) (p x y : Int) (hp : ((2 ^ i : Nat) : Int) = p) (x0 : 0 ≤ x) (x1 : x < 4294967296) (y0 : 0 ≤ y) (y1 : y < 4294967296) (hx : x % p = 0) (hy : y < p) : bits .or .u32 x y = x + y := by
  subst hp
  obtain ⟨a, rfl⟩ := Int.eq_ofNat_of_zero_le x0
  obtain ⟨b, rfl⟩ := Int.eq_ofNat_of_zero_le y0
  rw [u32_or_nat _ _ (by omega) (by omega), nat_join i a b (by omega) (by omega), Int.natCast_add]
end Go.Proofs.YtlnliiihcajboaaDoor.Num
