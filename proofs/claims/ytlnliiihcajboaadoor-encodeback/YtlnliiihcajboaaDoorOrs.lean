/- Numbers: bits laid where none stands, as sums. -/
import Derived.Test.YtlnliiihcajboaaDoorObitsAll
import Derived.Test.YtlnliiihcajboaaDoorMasks
import Derived.Test.YtlnliiihcajboaaDoorWord
namespace Go.Proofs.YtlnliiihcajboaaDoor.Num
open Go.ChangeShapes Go.WideShapes Go.ChangeAt Go.RowKit
set_option linter.unusedVariables false
theorem put_nat (x k s n : Nat) (hk : k < 2 ^ n) : (2 ^ (s + n) * (x / 2 ^ (s + n)) + x % 2 ^ s) ||| k * 2 ^ s = 2 ^ (s + n) * (x / 2 ^ (s + n)) + (k * 2 ^ s + x % 2 ^ s) := by
  have c : x % 2 ^ s < 2 ^ s := Nat.mod_lt _ (Nat.two_pow_pos s)
  have e : 2 ^ (s + n) = 2 ^ n * 2 ^ s := by rw [Nat.pow_add, Nat.mul_comm]
  have l : (k + 1) * 2 ^ s ≤ 2 ^ n * 2 ^ s := Nat.mul_le_mul_right _ hk
  rw [Nat.add_mul] at l
  have c' : x % 2 ^ s < 2 ^ (s + n) := by omega
  have d : k * 2 ^ s + x % 2 ^ s < 2 ^ (s + n) := by omega
  rw [← nat_join (s + n) _ _ (Nat.mul_mod_right _ _) c', Nat.or_assoc, Nat.or_comm (x % 2 ^ s), nat_join s _ _ (Nat.mul_mod_left _ _) c, nat_join (s + n) _ _ (Nat.mul_mod_right _ _) d]
theorem put_eq (a s n : Nat) (h : a / 2 ^ s % 2 ^ n = 0) : 2 ^ (s + n) * (a / 2 ^ (s + n)) + a % 2 ^ s = a := by
  have e1 := Nat.div_add_mod a (2 ^ s)
  have e2 := Nat.div_add_mod (a / 2 ^ s) (2 ^ n)
  rw [h, Nat.add_zero, Nat.div_div_eq_div_mul, ← Nat.pow_add] at e2
  rw [← e2, ← Nat.mul_assoc, ← Nat.pow_add] at e1
  exact e1
theorem put_gen (s n : Nat) (p q x k : Int) (hp : ((2 ^ s : Nat) : Int) = p) (hq : ((2 ^ n : Nat) : Int) = q) (x0 : 0 ≤ x) (x1 : x ≤ 4294967295) (k0 : 0 ≤ k) (k1 : k < q) (kp : k * p ≤ 4294967295) (h : x / p % q = 0) : bits .or .u32 x (k * p) = x + k * p := by
  subst hp hq
  obtain ⟨a, rfl⟩ := Int.eq_ofNat_of_zero_le x0
  obtain ⟨b, rfl⟩ := Int.eq_ofNat_of_zero_le k0
  have hn : a / 2 ^ s % 2 ^ n = 0 := by
    have : ((a / 2 ^ s % 2 ^ n : Nat) : Int) = 0 := by rw [Int.natCast_emod, Int.natCast_ediv]; exact h
    exact_mod_cast this
  have p := put_nat a b s n (by exact_mod_cast k1)
  have e := put_eq a s n hn
  rw [e] at p
  have kp' : b * 2 ^ s ≤ 4294967295 := by
    rw [← Int.natCast_mul] at kp
    generalize b * 2 ^ s = z at kp ⊢
    omega
  rw [show ((b : Int) * ((2 ^ s : Nat) : Int)) = ((b * 2 ^ s : Nat) : Int) by rw [Int.natCast_mul], u32_or_nat _ _ (by omega) (by omega), p, ← Int.natCast_add]
  congr 1
  omega
theorem put5_7 (x k : Int) (x0 : 0 ≤ x) (x1 : x ≤ 4294967295) (k0 : 0 ≤ k) (k1 : k ≤ 31) (h : x / 128 % 32 = 0) : bits .or .u32 x (k * 128) = x + k * 128 := put_gen 7 5 128 32 x k (by decide) (by decide) x0 x1 k0 (by omega) (by omega) h
theorem put5_15 (x k : Int) (x0 : 0 ≤ x) (x1 : x ≤ 4294967295) (k0 : 0 ≤ k) (k1 : k ≤ 31) (h : x / 32768 % 32 = 0) : bits .or .u32 x (k * 32768) = x + k * 32768 := put_gen 15 5 32768 32 x k (by decide) (by decide) x0 x1 k0 (by omega) (by omega) h
theorem put5_20 (x k : Int) (x0 : 0 ≤ x) (x1 : x ≤ 4294967295) (k0 : 0 ≤ k) (k1 : k ≤ 31) (h : x / 1048576 % 32 = 0) : bits .or .u32 x (k * 1048576) = x + k * 1048576 := put_gen 20 5 1048576 32 x k (by decide) (by decide) x0 x1 k0 (by omega) (by omega) h
theorem put12_20 (x k : Int) (x0 : 0 ≤ x) (x1 : x ≤ 4294967295) (k0 : 0 ≤ k) (k1 : k ≤ 4095) (h : x / 1048576 % 4096 = 0) : bits .or .u32 x (k * 1048576) = x + k * 1048576 := put_gen 20 12 1048576 4096 x k (by decide) (by decide) x0 x1 k0 (by omega) (by omega) h
theorem put7_25 (x k : Int) (x0 : 0 ≤ x) (x1 : x ≤ 4294967295) (k0 : 0 ≤ k) (k1 : k ≤ 127) (h : x / 33554432 % 128 = 0) : bits .or .u32 x (k * 33554432) = x + k * 33554432 := put_gen 25 7 33554432 128 x k (by decide) (by decide) x0 x1 k0 (by omega) (by omega) h
theorem put6_25 (x k : Int) (x0 : 0 ≤ x) (x1 : x ≤ 4294967295) (k0 : 0 ≤ k) (k1 : k ≤ 63) (h : x / 33554432 % 64 = 0) : bits .or .u32 x (k * 33554432) = x + k * 33554432 := put_gen 25 6 33554432 64 x k (by decide) (by decide) x0 x1 k0 (by omega) (by omega) h
theorem put4_8 (x k : Int) (x0 : 0 ≤ x) (x1 : x ≤ 4294967295) (k0 : 0 ≤ k) (k1 : k ≤ 15) (h : x / 256 % 16 = 0) : bits .or .u32 x (k * 256) = x + k * 256 := put_gen 8 4 256 16 x k (by decide) (by decide) x0 x1 k0 (by omega) (by omega) h
theorem put1_7 (x k : Int) (x0 : 0 ≤ x) (x1 : x ≤ 4294967295) (k0 : 0 ≤ k) (k1 : k ≤ 1) (h : x / 128 % 2 = 0) : bits .or .u32 x (k * 128) = x + k * 128 := put_gen 7 1 128 2 x k (by decide) (by decide) x0 x1 k0 (by omega) (by omega) h
theorem put1_31 (x k : Int) (x0 : 0 ≤ x) (x1 : x ≤ 4294967295) (k0 : 0 ≤ k) (k1 : k ≤ 1) (h : x / 2147483648 % 2 = 0) : bits .or .u32 x (k * 2147483648) = x + k * 2147483648 := put_gen 31 1 2147483648 2 x k (by decide) (by decide) x0 x1 k0 (by omega) (by omega) h
theorem put20_12 (x k : Int) (x0 : 0 ≤ x) (x1 : x ≤ 4294967295) (k0 : 0 ≤ k) (k1 : k ≤ 1048575) (h : x / 4096 % 1048576 = 0) : bits .or .u32 x (k * 4096) = x + k * 4096 := put_gen 12 20 4096 1048576 x k (by decide) (by decide) x0 x1 k0 (by omega) (by omega) h
theorem put10_21 (x k : Int) (x0 : 0 ≤ x) (x1 : x ≤ 4294967295) (k0 : 0 ≤ k) (k1 : k ≤ 1023) (h : x / 2097152 % 1024 = 0) : bits .or .u32 x (k * 2097152) = x + k * 2097152 := put_gen 21 10 2097152 1024 x k (by decide) (by decide) x0 x1 k0 (by omega) (by omega) h
theorem put1_20 (x k : Int) (x0 : 0 ≤ x) (x1 : x ≤ 4294967295) (k0 : 0 ≤ k) (k1 : k ≤ 1) (h : x / 1048576 % 2 = 0) : bits .or .u32 x (k * 1048576) = x + k * 1048576 := put_gen 20 1 1048576 2 x k (by decide) (by decide) x0 x1 k0 (by omega) (by omega) h
theorem put8_12 (x k : Int) (x0 : 0 ≤ x) (x1 : x ≤ 4294967295) (k0 : 0 ≤ k) (k1 : k ≤ 255) (h : x / 4096 % 256 = 0) : bits .or .u32 x (k * 4096) = x + k * 4096 := put_gen 12 8 4096 256 x k (by decide) (by decide) x0 x1 k0 (by omega) (by omega) h
theorem or_assoc (x y z : Int) (x0 : 0 ≤ x) (x1 : x ≤ 4294967295) (y0 : 0 ≤ y) (y1 : y ≤ 4294967295) (z0 : 0 ≤ z) (z1 : z ≤ 4294967295) : bits .or .u32 x (bits .or .u32 y z) = bits .or .u32 (bits .or .u32 x y) z := by
  obtain ⟨a, rfl⟩ := Int.eq_ofNat_of_zero_le x0
  obtain ⟨b, rfl⟩ := Int.eq_ofNat_of_zero_le y0
  obtain ⟨c, rfl⟩ := Int.eq_ofNat_of_zero_le z0
  have ha : a < 2 ^ 32 := by omega
  have hb : b < 2 ^ 32 := by omega
  have hc : c < 2 ^ 32 := by omega
  have h1 : b ||| c < 2 ^ 32 := Nat.or_lt_two_pow hb hc
  have h2 : a ||| b < 2 ^ 32 := Nat.or_lt_two_pow ha hb
  rw [u32_or_nat b c hb hc, u32_or_nat a _ ha h1, u32_or_nat a b ha hb, u32_or_nat _ c h2 hc, Nat.or_assoc]
theorem sumI (c d a m : Int) (c0 : 0 ≤ c) (c1 : c ≤ 32767) (x : c / 128 % 32 = 0) (d0 : 0 ≤ d) (d1 : d ≤ 31) (a0 : 0 ≤ a) (a1 : a ≤ 31) (m0 : 0 ≤ m) (m1 : m ≤ 4095) :
    bits .or .u32 c (bits .or .u32 (bits .or .u32 (d * 128) (a * 32768)) (m * 1048576)) = c + (d * 128 + a * 32768 + m * 1048576) := by
  rw [or_assoc c _ _ c0 (by omega) (bits_lo_u32 _ _ _) (bits_hi_u32 _ _ _) (by omega) (by omega), or_assoc c _ _ c0 (by omega) (by omega) (by omega) (by omega) (by omega),
    put5_7 c d c0 (by omega) d0 d1 x, put5_15 _ a (by omega) (by omega) a0 a1 (by omega), put12_20 _ m (by omega) (by omega) m0 m1 (by omega)]
  omega
theorem sumR (c d a b : Int) (c0 : 0 ≤ c) (c1 : c ≤ 4294967295) (x : c / 128 % 32 = 0) (y : c / 32768 % 1024 = 0) (d0 : 0 ≤ d) (d1 : d ≤ 31) (a0 : 0 ≤ a) (a1 : a ≤ 31) (m0 : 0 ≤ b) (m1 : b ≤ 31) :
    bits .or .u32 c (bits .or .u32 (bits .or .u32 (d * 128) (a * 32768)) (b * 1048576)) = c + (d * 128 + a * 32768 + b * 1048576) := by
  rw [or_assoc c _ _ c0 (by omega) (bits_lo_u32 _ _ _) (bits_hi_u32 _ _ _) (by omega) (by omega), or_assoc c _ _ c0 (by omega) (by omega) (by omega) (by omega) (by omega),
    put5_7 c d c0 (by omega) d0 d1 x, put5_15 _ a (by omega) (by omega) a0 a1 (by omega), put5_20 _ b (by omega) (by omega) m0 m1 (by omega)]
  omega
theorem sumS (c a b p q : Int) (c0 : 0 ≤ c) (c1 : c ≤ 32767) (x : c / 128 % 32 = 0) (a0 : 0 ≤ a) (a1 : a ≤ 31) (b0 : 0 ≤ b) (b1 : b ≤ 31) (p0 : 0 ≤ p) (p1 : p ≤ 31) (q0 : 0 ≤ q) (q1 : q ≤ 127) :
    bits .or .u32 c (bits .or .u32 (bits .or .u32 (bits .or .u32 (a * 32768) (b * 1048576)) (p * 128)) (q * 33554432)) = c + (a * 32768 + b * 1048576 + p * 128 + q * 33554432) := by
  rw [or_assoc c _ _ c0 (by omega) (bits_lo_u32 _ _ _) (bits_hi_u32 _ _ _) (by omega) (by omega), or_assoc c _ _ c0 (by omega) (bits_lo_u32 _ _ _) (bits_hi_u32 _ _ _) (by omega) (by omega), or_assoc c _ _ c0 (by omega) (by omega) (by omega) (by omega) (by omega),
    put5_15 c a c0 (by omega) a0 a1 (by omega), put5_20 _ b (by omega) (by omega) b0 b1 (by omega), put5_7 _ p (by omega) (by omega) p0 p1 (by omega), put7_25 _ q (by omega) (by omega) q0 q1 (by omega)]
  omega
theorem sumB (c a b p q r s : Int) (c0 : 0 ≤ c) (c1 : c ≤ 32767) (x : c / 128 % 32 = 0) (a0 : 0 ≤ a) (a1 : a ≤ 31) (b0 : 0 ≤ b) (b1 : b ≤ 31) (p0 : 0 ≤ p) (p1 : p ≤ 1) (q0 : 0 ≤ q) (q1 : q ≤ 15) (r0 : 0 ≤ r) (r1 : r ≤ 63) (s0 : 0 ≤ s) (s1 : s ≤ 1) :
    bits .or .u32 c (bits .or .u32 (bits .or .u32 (bits .or .u32 (bits .or .u32 (bits .or .u32 (a * 32768) (b * 1048576)) (p * 128)) (q * 256)) (r * 33554432)) (s * 2147483648)) = c + (a * 32768 + b * 1048576 + p * 128 + q * 256 + r * 33554432 + s * 2147483648) := by
  rw [or_assoc c _ _ c0 (by omega) (bits_lo_u32 _ _ _) (bits_hi_u32 _ _ _) (by omega) (by omega), or_assoc c _ _ c0 (by omega) (bits_lo_u32 _ _ _) (bits_hi_u32 _ _ _) (by omega) (by omega), or_assoc c _ _ c0 (by omega) (bits_lo_u32 _ _ _) (bits_hi_u32 _ _ _) (by omega) (by omega), or_assoc c _ _ c0 (by omega) (bits_lo_u32 _ _ _) (bits_hi_u32 _ _ _) (by omega) (by omega), or_assoc c _ _ c0 (by omega) (by omega) (by omega) (by omega) (by omega),
    put5_15 c a c0 (by omega) a0 a1 (by omega), put5_20 _ b (by omega) (by omega) b0 b1 (by omega), put1_7 _ p (by omega) (by omega) p0 p1 (by omega), put4_8 _ q (by omega) (by omega) q0 q1 (by omega), put6_25 _ r (by omega) (by omega) r0 r1 (by omega), put1_31 _ s (by omega) (by omega) s0 s1 (by omega)]
  omega
theorem sumU (c d m : Int) (c0 : 0 ≤ c) (c1 : c ≤ 127) (d0 : 0 ≤ d) (d1 : d ≤ 31) (m0 : 0 ≤ m) (m1 : m ≤ 1048575) :
    bits .or .u32 c (bits .or .u32 (d * 128) (m * 4096)) = c + (d * 128 + m * 4096) := by
  rw [or_assoc c _ _ c0 (by omega) (by omega) (by omega) (by omega) (by omega), put5_7 c d c0 (by omega) d0 d1 (by omega), put20_12 _ m (by omega) (by omega) m0 m1 (by omega)]
  omega
theorem sumJ (c d p q r s : Int) (c0 : 0 ≤ c) (c1 : c ≤ 127) (d0 : 0 ≤ d) (d1 : d ≤ 31) (p0 : 0 ≤ p) (p1 : p ≤ 255) (q0 : 0 ≤ q) (q1 : q ≤ 1) (r0 : 0 ≤ r) (r1 : r ≤ 1023) (s0 : 0 ≤ s) (s1 : s ≤ 1) :
    bits .or .u32 c (bits .or .u32 (bits .or .u32 (bits .or .u32 (bits .or .u32 (d * 128) (p * 4096)) (q * 1048576)) (r * 2097152)) (s * 2147483648)) = c + (d * 128 + p * 4096 + q * 1048576 + r * 2097152 + s * 2147483648) := by
  rw [or_assoc c _ _ c0 (by omega) (bits_lo_u32 _ _ _) (bits_hi_u32 _ _ _) (by omega) (by omega), or_assoc c _ _ c0 (by omega) (bits_lo_u32 _ _ _) (bits_hi_u32 _ _ _) (by omega) (by omega), or_assoc c _ _ c0 (by omega) (bits_lo_u32 _ _ _) (bits_hi_u32 _ _ _) (by omega) (by omega), or_assoc c _ _ c0 (by omega) (by omega) (by omega) (by omega) (by omega),
    put5_7 c d c0 (by omega) d0 d1 (by omega), put8_12 _ p (by omega) (by omega) p0 p1 (by omega), put1_20 _ q (by omega) (by omega) q0 q1 (by omega), put10_21 _ r (by omega) (by omega) r0 r1 (by omega), put1_31 _ s (by omega) (by omega) s0 s1 (by omega)]
  omega
end Go.Proofs.YtlnliiihcajboaaDoor.Num
