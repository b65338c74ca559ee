/- Numbers: bytes of a word picked by masks. -/
import Derived.Test.YtedcamljgnblmaaAlNums
namespace Go.Proofs.Ytedcamljgnblmaa.Al.Num
open Go.ChangeShapes Go.WideShapes Go.ChangeAt Go.RowKit
set_option linter.unusedVariables false
theorem and_step (x t : Nat) : x &&& t = (x % 256 &&& t % 256) + 256 * (x / 256 &&& t / 256) := by
  have h := Nat.mod_add_div (x &&& t) 256
  rw [show (256 : Nat) = 2 ^ 8 from rfl, Nat.and_mod_two_pow, Nat.and_div_two_pow] at h
  exact h.symm
theorem or_step (x t : Nat) : x ||| t = (x % 256 ||| t % 256) + 256 * (x / 256 ||| t / 256) := by
  have h := Nat.mod_add_div (x ||| t) 256
  rw [show (256 : Nat) = 2 ^ 8 from rfl, Nat.or_mod_two_pow, Nat.or_div_two_pow] at h
  exact h.symm
theorem and_lt (x t : Nat) (h : t < 256) : x &&& t < 256 := Nat.lt_of_le_of_lt Nat.and_le_right h
/-- one byte of both, and what lies above it -/
theorem both_step (d o t u : Nat) : (d &&& t) ||| (o &&& u) = ((d % 256 &&& t % 256) ||| (o % 256 &&& u % 256)) + 256 * ((d / 256 &&& t / 256) ||| (o / 256 &&& u / 256)) := by
  rw [or_step]
  have e1 : (d &&& t) % 256 = d % 256 &&& t % 256 := Nat.and_mod_two_pow (n := 8)
  have e2 : (o &&& u) % 256 = o % 256 &&& u % 256 := Nat.and_mod_two_pow (n := 8)
  have e3 : (d &&& t) / 256 = d / 256 &&& t / 256 := Nat.and_div_two_pow (n := 8)
  have e4 : (o &&& u) / 256 = o / 256 &&& u / 256 := Nat.and_div_two_pow (n := 8)
  rw [e1, e2, e3, e4]
def mk (c : Bool) : Nat := if c then 255 else 0
def pn (c : Bool) (d o : Nat) : Nat := if c then d else o
theorem and255 (b : Nat) (h : b < 256) : b &&& 255 = b := by
  rw [show (255 : Nat) = 2 ^ 8 - 1 from rfl, Nat.and_two_pow_sub_one_eq_mod]; exact Nat.mod_eq_of_lt h
theorem pick (c : Bool) (a b : Nat) (ha : a < 256) (hb : b < 256) : (a &&& mk c) ||| (b &&& (255 - mk c)) = pn c a b := by
  cases c
  · show (a &&& 0) ||| (b &&& 255) = b
    rw [Nat.and_zero, Nat.zero_or, and255 b hb]
  · show (a &&& 255) ||| (b &&& 0) = a
    rw [Nat.and_zero, Nat.or_zero, and255 a ha]
/-- a mask of bytes, as a number -/
def msk (c0 c1 c2 c3 : Bool) : Nat := mk c0 + 256 * (mk c1 + 256 * (mk c2 + 256 * mk c3))
theorem mk_le (c : Bool) : mk c ≤ 255 := by cases c <;> decide
theorem msk_le (c0 c1 c2 c3 : Bool) : msk c0 c1 c2 c3 ≤ 4294967295 := by
  have := mk_le c0; have := mk_le c1; have := mk_le c2; have := mk_le c3
  unfold msk; omega
theorem merged (c0 c1 c2 c3 : Bool) (d o : Nat) (hd : d < 4294967296) (ho : o < 4294967296) :
    (d &&& msk c0 c1 c2 c3) ||| (o &&& (4294967295 - msk c0 c1 c2 c3)) =
      pn c0 (d % 256) (o % 256) + 256 * (pn c1 (d / 256 % 256) (o / 256 % 256) + 256 * (pn c2 (d / 65536 % 256) (o / 65536 % 256) + 256 * pn c3 (d / 16777216) (o / 16777216))) := by
  have h0 := mk_le c0; have h1 := mk_le c1; have h2 := mk_le c2; have h3 := mk_le c3
  have a0 : msk c0 c1 c2 c3 % 256 = mk c0 := by unfold msk; omega
  have a1 : msk c0 c1 c2 c3 / 256 % 256 = mk c1 := by unfold msk; omega
  have a2 : msk c0 c1 c2 c3 / 256 / 256 % 256 = mk c2 := by unfold msk; omega
  have a3 : msk c0 c1 c2 c3 / 256 / 256 / 256 = mk c3 := by unfold msk; omega
  have b0 : (4294967295 - msk c0 c1 c2 c3) % 256 = 255 - mk c0 := by unfold msk; omega
  have b1 : (4294967295 - msk c0 c1 c2 c3) / 256 % 256 = 255 - mk c1 := by unfold msk; omega
  have b2 : (4294967295 - msk c0 c1 c2 c3) / 256 / 256 % 256 = 255 - mk c2 := by unfold msk; omega
  have b3 : (4294967295 - msk c0 c1 c2 c3) / 256 / 256 / 256 = 255 - mk c3 := by unfold msk; omega
  rw [both_step, a0, b0, pick c0 _ _ (Nat.mod_lt _ (by decide)) (Nat.mod_lt _ (by decide)), both_step, a1, b1, pick c1 _ _ (Nat.mod_lt _ (by decide)) (Nat.mod_lt _ (by decide)),
    both_step, a2, b2, pick c2 _ _ (Nat.mod_lt _ (by decide)) (Nat.mod_lt _ (by decide)), a3, b3, pick c3 _ _ (by omega) (by omega)]
  simp only [Nat.div_div_eq_div_mul]
theorem pn_pk (c : Bool) (a b : Nat) : ((pn c a b : Nat) : Int) = pk c (a : Int) (b : Int) := by cases c <;> rfl
theorem merged_as (c0 c1 c2 c3 : Bool) (d o : Int) (d0 : 0 ≤ d) (d1 : d ≤ 4294967295) (o0 : 0 ≤ o) (o1 : o ≤ 4294967295) :
    bits .or .u32 (bits .and .u32 d (msk c0 c1 c2 c3 : Nat)) (bits .andNot .u32 o (msk c0 c1 c2 c3 : Nat)) = mg c0 c1 c2 c3 o d := by
  obtain ⟨a, rfl⟩ := Int.eq_ofNat_of_zero_le d0
  obtain ⟨b, rfl⟩ := Int.eq_ofNat_of_zero_le o0
  have l := msk_le c0 c1 c2 c3
  have la : a < 4294967296 := by omega
  have lb : b < 4294967296 := by omega
  have k1 : a &&& msk c0 c1 c2 c3 ≤ a := Nat.and_le_left
  have k2 : b &&& (4294967295 - msk c0 c1 c2 c3) ≤ b := Nat.and_le_left
  rw [u32_and_nat _ _ la (by omega), u32_andNot_nat _ _ lb (by omega), u32_or_nat _ _ (by omega) (by omega), merged c0 c1 c2 c3 a b la lb]
  unfold mg
  have e3 : a / 16777216 % 256 = a / 16777216 := by omega
  have f3 : b / 16777216 % 256 = b / 16777216 := by omega
  rw [← e3, ← f3]
  have p0 := pn_pk c0 (a % 256) (b % 256)
  have p1 := pn_pk c1 (a / 256 % 256) (b / 256 % 256)
  have p2 := pn_pk c2 (a / 65536 % 256) (b / 65536 % 256)
  have p3 := pn_pk c3 (a / 16777216 % 256) (b / 16777216 % 256)
  simp only [Int.natCast_emod, Int.natCast_ediv, Int.cast_ofNat_Int] at p0 p1 p2 p3
  rw [← p0, ← p1, ← p2, ← p3]
  generalize pn c0 (a % 256) (b % 256) = z0
  generalize pn c1 (a / 256 % 256) (b / 256 % 256) = z1
  generalize pn c2 (a / 65536 % 256) (b / 65536 % 256) = z2
  generalize pn c3 (a / 16777216 % 256) (b / 16777216 % 256) = z3
  omega
/-- one byte of a word, where it stands -/
theorem byte_at (x s : Nat) (h : x < 4294967296) (hs : s = 0 ∨ s = 8 ∨ s = 16 ∨ s = 24) : x &&& 255 * 2 ^ s = x / 2 ^ s % 256 * 2 ^ s := by
  rcases hs with rfl | rfl | rfl | rfl
  · rw [show 255 * 2 ^ 0 = 2 ^ 8 - 1 from rfl, Nat.and_two_pow_sub_one_eq_mod]; simp
  · rw [show (255 * 2 ^ 8 : Nat) = 65280 from rfl, and_step, show 65280 % 256 = 0 from rfl, show 65280 / 256 = 2 ^ 8 - 1 from rfl, Nat.and_two_pow_sub_one_eq_mod, Nat.and_zero]; omega
  · rw [show (255 * 2 ^ 16 : Nat) = 16711680 from rfl, and_step, show 16711680 % 256 = 0 from rfl, show 16711680 / 256 = 65280 from rfl, and_step (x / 256), show 65280 % 256 = 0 from rfl, show 65280 / 256 = 2 ^ 8 - 1 from rfl, Nat.and_two_pow_sub_one_eq_mod, Nat.and_zero, Nat.and_zero]; omega
  · rw [show (255 * 2 ^ 24 : Nat) = 4278190080 from rfl, and_step, show 4278190080 % 256 = 0 from rfl, show 4278190080 / 256 = 16711680 from rfl, and_step (x / 256), show 16711680 % 256 = 0 from rfl, show 16711680 / 256 = 65280 from rfl,
      and_step (x / 256 / 256), show 65280 % 256 = 0 from rfl, show 65280 / 256 = 2 ^ 8 - 1 from rfl, Nat.and_two_pow_sub_one_eq_mod, Nat.and_zero, Nat.and_zero, Nat.and_zero]; omega
/-- a byte of x laid above what stands below it -/
theorem lay (t x p : Int) (s : Nat) (hs : s = 0 ∨ s = 8 ∨ s = 16 ∨ s = 24) (hp : ((2 ^ s : Nat) : Int) = p) (t0 : 0 ≤ t) (t1 : t < p) (x0 : 0 ≤ x) (x1 : x ≤ 4294967295) : bits .or .u32 t (bits .and .u32 x (255 * p)) = t + p * (x / p % 256) := by
  subst hp
  obtain ⟨a, rfl⟩ := Int.eq_ofNat_of_zero_le t0
  obtain ⟨b, rfl⟩ := Int.eq_ofNat_of_zero_le x0
  have at' : a < 2 ^ s := by exact_mod_cast t1
  have lp : 2 ^ s ≤ 16777216 := by rcases hs with rfl | rfl | rfl | rfl <;> decide
  have l1 : b / 2 ^ s % 256 * 2 ^ s ≤ b := by
    rw [← byte_at b s (by omega) hs]; exact Nat.and_le_left
  rw [show (255 : Int) * ((2 ^ s : Nat) : Int) = ((255 * 2 ^ s : Nat) : Int) by rw [Int.natCast_mul]; rfl, u32_and_nat _ _ (by omega) (by omega), byte_at b s (by omega) hs,
    u32_or_nat _ _ (by omega) (by omega), Nat.or_comm, ← Nat.shiftLeft_eq, ← Nat.shiftLeft_add_eq_or_of_lt at', Nat.shiftLeft_eq, Int.natCast_add, Int.natCast_mul, Int.natCast_emod, Int.natCast_ediv, Int.add_comm, Int.mul_comm]
  rfl
theorem and_one (n : Int) : bits .and .i64 n 1 = n % 2 := by
  have h : (BitVec.ofInt 64 n &&& BitVec.ofInt 64 1).toNat = (n % 18446744073709551616).toNat % 2 := by
    rw [BitVec.toNat_and, show (BitVec.ofInt 64 1).toNat = 2 ^ 1 - 1 from rfl, Nat.and_two_pow_sub_one_eq_mod, BitVec.toNat_ofInt]
    rfl
  show IntKind.i64.wrap ((BitVec.ofInt 64 n &&& BitVec.ofInt 64 1).toNat : Int) = _
  rw [h, IntKind.wrap_i64]
  omega
end Go.Proofs.Ytedcamljgnblmaa.Al.Num
