/- Numbers: the raw words of the program and of the document are the instruction's word, if it has one. -/
import Derived.Test.YtlnliiihcajboaaDoorOrs
namespace Go.Proofs.YtlnliiihcajboaaDoor.Num
open Go.ChangeShapes Go.WideShapes Go.ChangeAt Go.RowKit
set_option linter.unusedVariables false
/-- what the bits are that all words of an op have -/
structure Cd (o c : Int) : Prop where
  c0 : 0 ≤ c
  c1 : c ≤ 4294967295
  x : c / 128 % 32 = 0
  y : c / 32768 % 32 = 0
  small : (4 ≤ o ∧ o ≤ 24) ∨ 50 ≤ o → c ≤ 32767
  reg : 25 ≤ o ∧ o ≤ 45 → c / 32768 % 1024 = 0
  few : o ≤ 3 → c ≤ 127
theorem cd_is (o : Int) (h0 : 1 ≤ o) (h1 : o ≤ 55) : Cd o (cd o) := by
  have p : o = 1 ∨ o = 2 ∨ o = 3 ∨ o = 4 ∨ o = 5 ∨ o = 6 ∨ o = 7 ∨ o = 8 ∨ o = 9 ∨ o = 10 ∨ o = 11 ∨ o = 12 ∨ o = 13 ∨ o = 14 ∨ o = 15 ∨ o = 16 ∨ o = 17 ∨ o = 18 ∨ o = 19 ∨ o = 20 ∨ o = 21 ∨ o = 22 ∨ o = 23 ∨ o = 24 ∨ o = 25 ∨ o = 26 ∨ o = 27 ∨ o = 28 ∨ o = 29 ∨ o = 30 ∨ o = 31 ∨ o = 32 ∨ o = 33 ∨ o = 34 ∨ o = 35 ∨ o = 36 ∨ o = 37 ∨ o = 38 ∨ o = 39 ∨ o = 40 ∨ o = 41 ∨ o = 42 ∨ o = 43 ∨ o = 44 ∨ o = 45 ∨ o = 46 ∨ o = 47 ∨ o = 48 ∨ o = 49 ∨ o = 50 ∨ o = 51 ∨ o = 52 ∨ o = 53 ∨ o = 54 ∨ o = 55 := by omega
  clear h0 h1
  rcases p with rfl | rfl | rfl | rfl | rfl | rfl | rfl | rfl | rfl | rfl | rfl | rfl | rfl | rfl | rfl | rfl | rfl | rfl | rfl | rfl | rfl | rfl | rfl | rfl | rfl | rfl | rfl | rfl | rfl | rfl | rfl | rfl | rfl | rfl | rfl | rfl | rfl | rfl | rfl | rfl | rfl | rfl | rfl | rfl | rfl | rfl | rfl | rfl | rfl | rfl | rfl | rfl | rfl | rfl | rfl
  all_goals exact ⟨by decide, by decide, by decide, by decide, by decide, by decide, by decide⟩
theorem raw_ok (o d a b n : Int) (k : Ok (fm o) d a b n) : bits .or .u32 (cd o) (ob (fm o) d a b n) = wd o d a b n := by
  obtain ⟨h0, h1⟩ := ok_in o d a b n k
  have C := cd_is o h0 h1
  rw [wd]
  generalize cd o = c at C ⊢
  obtain ⟨c0, c1, x, y, small, reg, few⟩ := C
  rcases fm_parts o with ⟨g0, h⟩ | ⟨g0, g1, h⟩ | ⟨g0, h⟩ | ⟨g0, h⟩ | ⟨g0, g1, h⟩ | ⟨g0, g1, h⟩ | ⟨g0, g1, h⟩ | ⟨g0, g1, h⟩ | ⟨g0, g1, h⟩ | ⟨g0, g1, h⟩ | ⟨g0, g1, h⟩ | ⟨g0, g1, h⟩ | ⟨g0, g1, h⟩ | ⟨g0, h⟩
  all_goals rw [h] at k ⊢; clear h
  · omega
  · obtain ⟨d0, d1, rfl, rfl, n0, n1, n2⟩ := ok7 k
    change bits .or .u32 c (bits .or .u32 (d % 4294967296 % 32 * 128) (n % 4294967296 / 4096 % 1048576 * 4096)) = c + (d * 128 + n / 4096 % 1048576 * 4096)
    rw [show d % 4294967296 % 32 = d by omega, show n % 4294967296 / 4096 % 1048576 = n / 4096 % 1048576 by omega]
    exact sumU c d _ c0 (few (by omega)) d0 d1 (by omega) (by omega)
  · obtain ⟨d0, d1, rfl, rfl, n0, n1, n2⟩ := ok8 k
    change bits .or .u32 c (bits .or .u32 (bits .or .u32 (bits .or .u32 (bits .or .u32 (d % 4294967296 % 32 * 128) (n % 4294967296 / 4096 % 256 * 4096)) (n % 4294967296 / 2048 % 2 * 1048576)) (n % 4294967296 / 2 % 1024 * 2097152)) (n % 4294967296 / 1048576 % 2 * 2147483648)) = c + (d * 128 + n / 4096 % 256 * 4096 + n / 2048 % 2 * 1048576 + n / 2 % 1024 * 2097152 + n / 1048576 % 2 * 2147483648)
    rw [show d % 4294967296 % 32 = d by omega, show n % 4294967296 / 4096 % 256 = n / 4096 % 256 by omega, show n % 4294967296 / 2048 % 2 = n / 2048 % 2 by omega, show n % 4294967296 / 2 % 1024 = n / 2 % 1024 by omega, show n % 4294967296 / 1048576 % 2 = n / 1048576 % 2 by omega]
    exact sumJ c d _ _ _ _ c0 (few (by omega)) d0 d1 (by omega) (by omega) (by omega) (by omega) (by omega) (by omega) (by omega) (by omega)
  · obtain ⟨d0, d1, a0, a1, rfl, n0, n1⟩ := ok3 k
    change bits .or .u32 c (bits .or .u32 (bits .or .u32 (d % 4294967296 % 32 * 128) (a % 4294967296 % 32 * 32768)) (n % 4294967296 % 4096 * 1048576)) = c + (d * 128 + a * 32768 + n % 4096 * 1048576)
    rw [show d % 4294967296 % 32 = d by omega, show a % 4294967296 % 32 = a by omega, show n % 4294967296 % 4096 = n % 4096 by omega]
    exact sumI c d a _ c0 (small (by omega)) x d0 d1 a0 a1 (by omega) (by omega)
  · obtain ⟨rfl, a0, a1, b0, b1, n0, n1, n2⟩ := ok6 k
    change bits .or .u32 c (bits .or .u32 (bits .or .u32 (bits .or .u32 (bits .or .u32 (bits .or .u32 (a % 4294967296 % 32 * 32768) (b % 4294967296 % 32 * 1048576)) (n % 4294967296 / 2048 % 2 * 128)) (n % 4294967296 / 2 % 16 * 256)) (n % 4294967296 / 32 % 64 * 33554432)) (n % 4294967296 / 4096 % 2 * 2147483648)) = c + (a * 32768 + b * 1048576 + n / 2048 % 2 * 128 + n / 2 % 16 * 256 + n / 32 % 64 * 33554432 + n / 4096 % 2 * 2147483648)
    rw [show a % 4294967296 % 32 = a by omega, show b % 4294967296 % 32 = b by omega, show n % 4294967296 / 2048 % 2 = n / 2048 % 2 by omega, show n % 4294967296 / 2 % 16 = n / 2 % 16 by omega, show n % 4294967296 / 32 % 64 = n / 32 % 64 by omega, show n % 4294967296 / 4096 % 2 = n / 4096 % 2 by omega]
    exact sumB c a b _ _ _ _ c0 (small (by omega)) x a0 a1 b0 b1 (by omega) (by omega) (by omega) (by omega) (by omega) (by omega) (by omega) (by omega)
  · obtain ⟨d0, d1, a0, a1, rfl, n0, n1⟩ := ok3 k
    change bits .or .u32 c (bits .or .u32 (bits .or .u32 (d % 4294967296 % 32 * 128) (a % 4294967296 % 32 * 32768)) (n % 4294967296 % 4096 * 1048576)) = c + (d * 128 + a * 32768 + n % 4096 * 1048576)
    rw [show d % 4294967296 % 32 = d by omega, show a % 4294967296 % 32 = a by omega, show n % 4294967296 % 4096 = n % 4096 by omega]
    exact sumI c d a _ c0 (small (by omega)) x d0 d1 a0 a1 (by omega) (by omega)
  · obtain ⟨rfl, a0, a1, b0, b1, n0, n1⟩ := ok5 k
    change bits .or .u32 c (bits .or .u32 (bits .or .u32 (bits .or .u32 (a % 4294967296 % 32 * 32768) (b % 4294967296 % 32 * 1048576)) (n % 4294967296 % 32 * 128)) (n % 4294967296 / 32 % 128 * 33554432)) = c + (a * 32768 + b * 1048576 + n % 32 * 128 + n / 32 % 128 * 33554432)
    rw [show a % 4294967296 % 32 = a by omega, show b % 4294967296 % 32 = b by omega, show n % 4294967296 % 32 = n % 32 by omega, show n % 4294967296 / 32 % 128 = n / 32 % 128 by omega]
    exact sumS c a b _ _ c0 (small (by omega)) x a0 a1 b0 b1 (by omega) (by omega) (by omega) (by omega)
  · obtain ⟨d0, d1, a0, a1, rfl, n0, n1⟩ := ok3 k
    change bits .or .u32 c (bits .or .u32 (bits .or .u32 (d % 4294967296 % 32 * 128) (a % 4294967296 % 32 * 32768)) (n % 4294967296 % 4096 * 1048576)) = c + (d * 128 + a * 32768 + n % 4096 * 1048576)
    rw [show d % 4294967296 % 32 = d by omega, show a % 4294967296 % 32 = a by omega, show n % 4294967296 % 4096 = n % 4096 by omega]
    exact sumI c d a _ c0 (small (by omega)) x d0 d1 a0 a1 (by omega) (by omega)
  · obtain ⟨d0, d1, a0, a1, rfl, n0, n1⟩ := ok4 k
    change bits .or .u32 c (bits .or .u32 (bits .or .u32 (d % 4294967296 % 32 * 128) (a % 4294967296 % 32 * 32768)) (n % 4294967296 % 32 * 1048576)) = c + (d * 128 + a * 32768 + n % 32 * 1048576)
    rw [show d % 4294967296 % 32 = d by omega, show a % 4294967296 % 32 = a by omega, show n % 4294967296 % 32 = n % 32 by omega]
    exact sumR c d a _ c0 c1 x (reg (by omega)) d0 d1 a0 a1 (by omega) (by omega)
  · obtain ⟨d0, d1, a0, a1, b0, b1, rfl⟩ := ok2 k
    change bits .or .u32 c (bits .or .u32 (bits .or .u32 (d % 4294967296 % 32 * 128) (a % 4294967296 % 32 * 32768)) (b % 4294967296 % 32 * 1048576)) = c + (d * 128 + a * 32768 + b * 1048576)
    rw [show d % 4294967296 % 32 = d by omega, show a % 4294967296 % 32 = a by omega, show b % 4294967296 % 32 = b by omega]
    exact sumR c d a b c0 c1 x (reg (by omega)) d0 d1 a0 a1 b0 b1
  · obtain ⟨rfl, rfl, rfl, rfl⟩ := ok1 k
    change bits .or .u32 c 0 = c + 0
    exact put5_7 c 0 c0 c1 (by decide) (by decide) x
  · obtain ⟨d0, d1, a0, a1, rfl, n0, n1⟩ := ok9 k
    change bits .or .u32 c (bits .or .u32 (bits .or .u32 (d % 4294967296 % 32 * 128) (a % 4294967296 % 32 * 32768)) (n % 4294967296 % 4096 * 1048576)) = c + (d * 128 + a * 32768 + n % 4096 * 1048576)
    rw [show d % 4294967296 % 32 = d by omega, show a % 4294967296 % 32 = a by omega, show n % 4294967296 % 4096 = n % 4096 by omega]
    exact sumI c d a _ c0 (small (by omega)) x d0 d1 a0 a1 (by omega) (by omega)
  · obtain ⟨d0, d1, a0, a1, rfl, n0, n1⟩ := ok10 k
    change bits .or .u32 c (bits .or .u32 (bits .or .u32 (d % 4294967296 % 32 * 128) (a % 4294967296 % 32 * 32768)) (n % 4294967296 % 4096 * 1048576)) = c + (d * 128 + a * 32768 + n % 4096 * 1048576)
    rw [show d % 4294967296 % 32 = d by omega, show a % 4294967296 % 32 = a by omega, show n % 4294967296 % 4096 = n % 4096 by omega]
    exact sumI c d a _ c0 (small (by omega)) x d0 d1 a0 a1 (by omega) (by omega)
  · omega
/-- what the document's Encode lays together behind code, rd and rs1: by the format's letter -/
def rb (f b n : Int) : Int :=
  if f = 85 then bits .andNot .u32 (n % 4294967296) 4095
  else if f = 74 then bits .or .u32 (bits .or .u32 (bits .or .u32 (bits .and .u32 (n % 4294967296 / 1048576) 1 * 2147483648 % 4294967296) (bits .and .u32 (n % 4294967296 / 2) 1023 * 2097152 % 4294967296)) (bits .and .u32 (n % 4294967296 / 2048) 1 * 1048576 % 4294967296)) (bits .and .u32 (n % 4294967296 / 4096) 255 * 4096 % 4294967296)
  else if f = 66 then bits .or .u32 (bits .or .u32 (bits .or .u32 (bits .or .u32 (bits .and .u32 (n % 4294967296 / 4096) 1 * 2147483648 % 4294967296) (bits .and .u32 (n % 4294967296 / 32) 63 * 33554432 % 4294967296)) (bits .and .u32 (n % 4294967296 / 2) 15 * 256 % 4294967296)) (bits .and .u32 (n % 4294967296 / 2048) 1 * 128 % 4294967296)) (b * 1048576)
  else if f = 83 then bits .or .u32 (bits .or .u32 (bits .and .u32 (n % 4294967296 / 32) 127 * 33554432 % 4294967296) (bits .and .u32 (n % 4294967296) 31 * 128 % 4294967296)) (b * 1048576)
  else if f = 82 then b * 1048576
  else if f = 72 then bits .and .u32 (n % 4294967296) 31 * 1048576 % 4294967296
  else bits .and .u32 (n % 4294967296) 4095 * 1048576 % 4294967296
/-- the document's raw word -/
def rw0 (f c d a b n : Int) : Int := if f = 78 then bits .or .u32 (bits .or .u32 c (d * 128)) (a * 32768) else bits .or .u32 (bits .or .u32 (bits .or .u32 c (d * 128)) (a * 32768)) (rb f b n)
theorem refHead (c d a : Int) (c0 : 0 ≤ c) (c1 : c ≤ 4294967295) (x : c / 128 % 32 = 0) (y : c / 32768 % 32 = 0) (d0 : 0 ≤ d) (d1 : d ≤ 31) (a0 : 0 ≤ a) (a1 : a ≤ 31) : bits .or .u32 (bits .or .u32 c (d * 128)) (a * 32768) = c + d * 128 + a * 32768 := by
  rw [put5_7 c d c0 c1 d0 d1 x, put5_15 _ a (by omega) (by omega) a0 a1 (by omega)]
theorem refI (h m : Int) (h0 : 0 ≤ h) (h1 : h ≤ 1048575) (m0 : 0 ≤ m) (m1 : m ≤ 4095) : bits .or .u32 h (m * 1048576) = h + m * 1048576 := put12_20 _ _ h0 (by omega) m0 m1 (by omega)
theorem refS (h b p q : Int) (h0 : 0 ≤ h) (h1 : h ≤ 1048575) (h2 : h / 128 % 32 = 0) (b0 : 0 ≤ b) (b1 : b ≤ 31) (p0 : 0 ≤ p) (p1 : p ≤ 31) (q0 : 0 ≤ q) (q1 : q ≤ 127) :
    bits .or .u32 h (bits .or .u32 (bits .or .u32 (q * 33554432) (p * 128)) (b * 1048576)) = h + b * 1048576 + p * 128 + q * 33554432 := by
  rw [or_assoc h _ _ h0 (by omega) (bits_lo_u32 _ _ _) (bits_hi_u32 _ _ _) (by omega) (by omega), or_assoc h _ _ h0 (by omega) (by omega) (by omega) (by omega) (by omega),
    put7_25 h q h0 (by omega) q0 q1 (by omega), put5_7 _ p (by omega) (by omega) p0 p1 (by omega), put5_20 _ b (by omega) (by omega) b0 b1 (by omega)]
  omega
theorem refB (h b p q r s : Int) (h0 : 0 ≤ h) (h1 : h ≤ 1048575) (h2 : h / 128 % 32 = 0) (b0 : 0 ≤ b) (b1 : b ≤ 31) (p0 : 0 ≤ p) (p1 : p ≤ 1) (q0 : 0 ≤ q) (q1 : q ≤ 15) (r0 : 0 ≤ r) (r1 : r ≤ 63) (s0 : 0 ≤ s) (s1 : s ≤ 1) :
    bits .or .u32 h (bits .or .u32 (bits .or .u32 (bits .or .u32 (bits .or .u32 (s * 2147483648) (r * 33554432)) (q * 256)) (p * 128)) (b * 1048576)) = h + b * 1048576 + p * 128 + q * 256 + r * 33554432 + s * 2147483648 := by
  rw [or_assoc h _ _ h0 (by omega) (bits_lo_u32 _ _ _) (bits_hi_u32 _ _ _) (by omega) (by omega), or_assoc h _ _ h0 (by omega) (bits_lo_u32 _ _ _) (bits_hi_u32 _ _ _) (by omega) (by omega), or_assoc h _ _ h0 (by omega) (bits_lo_u32 _ _ _) (bits_hi_u32 _ _ _) (by omega) (by omega), or_assoc h _ _ h0 (by omega) (by omega) (by omega) (by omega) (by omega),
    put1_31 h s h0 (by omega) s0 s1 (by omega), put6_25 _ r (by omega) (by omega) r0 r1 (by omega), put4_8 _ q (by omega) (by omega) q0 q1 (by omega), put1_7 _ p (by omega) (by omega) p0 p1 (by omega), put5_20 _ b (by omega) (by omega) b0 b1 (by omega)]
  omega
theorem refJ (h p q r s : Int) (h0 : 0 ≤ h) (h1 : h ≤ 4095) (p0 : 0 ≤ p) (p1 : p ≤ 255) (q0 : 0 ≤ q) (q1 : q ≤ 1) (r0 : 0 ≤ r) (r1 : r ≤ 1023) (s0 : 0 ≤ s) (s1 : s ≤ 1) :
    bits .or .u32 h (bits .or .u32 (bits .or .u32 (bits .or .u32 (s * 2147483648) (r * 2097152)) (q * 1048576)) (p * 4096)) = h + p * 4096 + q * 1048576 + r * 2097152 + s * 2147483648 := by
  rw [or_assoc h _ _ h0 (by omega) (bits_lo_u32 _ _ _) (bits_hi_u32 _ _ _) (by omega) (by omega), or_assoc h _ _ h0 (by omega) (bits_lo_u32 _ _ _) (bits_hi_u32 _ _ _) (by omega) (by omega), or_assoc h _ _ h0 (by omega) (by omega) (by omega) (by omega) (by omega),
    put1_31 h s h0 (by omega) s0 s1 (by omega), put10_21 _ r (by omega) (by omega) r0 r1 (by omega), put1_20 _ q (by omega) (by omega) q0 q1 (by omega), put8_12 _ p (by omega) (by omega) p0 p1 (by omega)]
  omega
theorem am_1048576_2_2147483648 (n : Int) : bits .and .u32 (n % 4294967296 / 1048576) 1 * 2147483648 % 4294967296 = n / 1048576 % 2 * 2147483648 := by
  rw [and_mask 1 _ 2 _ (by decide) (by decide) (by omega) (by omega) (by decide)]; omega
theorem am_2_1024_2097152 (n : Int) : bits .and .u32 (n % 4294967296 / 2) 1023 * 2097152 % 4294967296 = n / 2 % 1024 * 2097152 := by
  rw [and_mask 10 _ 1024 _ (by decide) (by decide) (by omega) (by omega) (by decide)]; omega
theorem am_2048_2_1048576 (n : Int) : bits .and .u32 (n % 4294967296 / 2048) 1 * 1048576 % 4294967296 = n / 2048 % 2 * 1048576 := by
  rw [and_mask 1 _ 2 _ (by decide) (by decide) (by omega) (by omega) (by decide)]; omega
theorem am_4096_256_4096 (n : Int) : bits .and .u32 (n % 4294967296 / 4096) 255 * 4096 % 4294967296 = n / 4096 % 256 * 4096 := by
  rw [and_mask 8 _ 256 _ (by decide) (by decide) (by omega) (by omega) (by decide)]; omega
theorem am_4096_2_2147483648 (n : Int) : bits .and .u32 (n % 4294967296 / 4096) 1 * 2147483648 % 4294967296 = n / 4096 % 2 * 2147483648 := by
  rw [and_mask 1 _ 2 _ (by decide) (by decide) (by omega) (by omega) (by decide)]; omega
theorem am_32_64_33554432 (n : Int) : bits .and .u32 (n % 4294967296 / 32) 63 * 33554432 % 4294967296 = n / 32 % 64 * 33554432 := by
  rw [and_mask 6 _ 64 _ (by decide) (by decide) (by omega) (by omega) (by decide)]; omega
theorem am_2_16_256 (n : Int) : bits .and .u32 (n % 4294967296 / 2) 15 * 256 % 4294967296 = n / 2 % 16 * 256 := by
  rw [and_mask 4 _ 16 _ (by decide) (by decide) (by omega) (by omega) (by decide)]; omega
theorem am_2048_2_128 (n : Int) : bits .and .u32 (n % 4294967296 / 2048) 1 * 128 % 4294967296 = n / 2048 % 2 * 128 := by
  rw [and_mask 1 _ 2 _ (by decide) (by decide) (by omega) (by omega) (by decide)]; omega
theorem am_32_128_33554432 (n : Int) : bits .and .u32 (n % 4294967296 / 32) 127 * 33554432 % 4294967296 = n / 32 % 128 * 33554432 := by
  rw [and_mask 7 _ 128 _ (by decide) (by decide) (by omega) (by omega) (by decide)]; omega
theorem am_1_32_128 (n : Int) : bits .and .u32 (n % 4294967296) 31 * 128 % 4294967296 = n % 32 * 128 := by
  rw [and_mask 5 _ 32 _ (by decide) (by decide) (by omega) (by omega) (by decide)]; omega
theorem am_1_32_1048576 (n : Int) : bits .and .u32 (n % 4294967296) 31 * 1048576 % 4294967296 = n % 32 * 1048576 := by
  rw [and_mask 5 _ 32 _ (by decide) (by decide) (by omega) (by omega) (by decide)]; omega
theorem am_1_4096_1048576 (n : Int) : bits .and .u32 (n % 4294967296) 4095 * 1048576 % 4294967296 = n % 4096 * 1048576 := by
  rw [and_mask 12 _ 4096 _ (by decide) (by decide) (by omega) (by omega) (by decide)]; omega
theorem am_u (n : Int) : bits .andNot .u32 (n % 4294967296) 4095 = n / 4096 % 1048576 * 4096 := by
  rw [clear_as (n % 4294967296) 4095 4096 1 0 12 20 rfl (by omega) (by omega) (by decide) (by decide) (by decide) (by decide) (by decide)]; omega
theorem rref1 (c d a b n : Int) (c0 : 0 ≤ c) (c1 : c ≤ 4294967295) (x : c / 128 % 32 = 0) (y : c / 32768 % 32 = 0) (k : Ok 1 d a b n) : rw0 (lt 1) c d a b n = c + fld 1 d a b n := by
  obtain ⟨rfl, rfl, rfl, rfl⟩ := ok1 k
  have e1 : rw0 (lt 1) c 0 0 0 0 = bits .or .u32 (bits .or .u32 c (0 * 128)) (0 * 32768) := by
    rw [show lt 1 = 78 by decide]; unfold rw0 rb; repeat (first | rw [if_pos (by decide)] | rw [if_neg (by decide)])
  have e2 : fld 1 0 0 0 0 = 0 := by
    unfold fld; repeat (first | rw [if_pos (by decide)] | rw [if_neg (by decide)])
  rw [e1, e2]; clear e1 e2
  rw [refHead c 0 0 c0 c1 x y (by decide) (by decide) (by decide) (by decide)]
  omega
theorem rref2 (c d a b n : Int) (c0 : 0 ≤ c) (c1 : c ≤ 4294967295) (x : c / 128 % 32 = 0) (y : c / 32768 % 32 = 0) (reg : c / 32768 % 1024 = 0) (k : Ok 2 d a b n) : rw0 (lt 2) c d a b n = c + fld 2 d a b n := by
  obtain ⟨d0, d1, a0, a1, b0, b1, rfl⟩ := ok2 k
  have e1 : rw0 (lt 2) c d a b 0 = bits .or .u32 (bits .or .u32 (bits .or .u32 c (d * 128)) (a * 32768)) (b * 1048576) := by
    rw [show lt 2 = 82 by decide]; unfold rw0 rb; repeat (first | rw [if_pos (by decide)] | rw [if_neg (by decide)])
  have e2 : fld 2 d a b 0 = (d * 128 + a * 32768 + b * 1048576) := by
    unfold fld; repeat (first | rw [if_pos (by decide)] | rw [if_neg (by decide)])
  rw [e1, e2]; clear e1 e2
  rw [refHead c d a c0 c1 x y d0 d1 a0 a1, put5_20 _ b (by omega) (by omega) b0 b1 (by omega)]
  omega
theorem rref3 (c d a b n : Int) (c0 : 0 ≤ c) (c1 : c ≤ 4294967295) (x : c / 128 % 32 = 0) (y : c / 32768 % 32 = 0) (small : c ≤ 32767) (k : Ok 3 d a b n) : rw0 (lt 3) c d a b n = c + fld 3 d a b n := by
  obtain ⟨d0, d1, a0, a1, rfl, n0, n1⟩ := ok3 k
  have e1 : rw0 (lt 3) c d a 0 n = bits .or .u32 (bits .or .u32 (bits .or .u32 c (d * 128)) (a * 32768)) (bits .and .u32 (n % 4294967296) 4095 * 1048576 % 4294967296) := by
    rw [show lt 3 = 73 by decide]; unfold rw0 rb; repeat (first | rw [if_pos (by decide)] | rw [if_neg (by decide)])
  have e2 : fld 3 d a 0 n = (d * 128 + a * 32768 + n % 4096 * 1048576) := by
    unfold fld; repeat (first | rw [if_pos (by decide)] | rw [if_neg (by decide)])
  rw [e1, e2]; clear e1 e2
  rw [am_1_4096_1048576, refHead c d a c0 c1 x y d0 d1 a0 a1]
  have q0 : 0 ≤ n % 4096 ∧ n % 4096 ≤ 4095 := by omega
  generalize n % 4096 = m at q0 ⊢
  rw [refI _ m (by omega) (by omega) q0.1 q0.2]
  omega
theorem rref9 (c d a b n : Int) (c0 : 0 ≤ c) (c1 : c ≤ 4294967295) (x : c / 128 % 32 = 0) (y : c / 32768 % 32 = 0) (small : c ≤ 32767) (k : Ok 9 d a b n) : rw0 (lt 9) c d a b n = c + fld 9 d a b n := by
  obtain ⟨d0, d1, a0, a1, rfl, n0, n1⟩ := ok9 k
  have e1 : rw0 (lt 9) c d a 0 n = bits .or .u32 (bits .or .u32 (bits .or .u32 c (d * 128)) (a * 32768)) (bits .and .u32 (n % 4294967296) 4095 * 1048576 % 4294967296) := by
    rw [show lt 9 = 67 by decide]; unfold rw0 rb; repeat (first | rw [if_pos (by decide)] | rw [if_neg (by decide)])
  have e2 : fld 9 d a 0 n = (d * 128 + a * 32768 + n % 4096 * 1048576) := by
    unfold fld; repeat (first | rw [if_pos (by decide)] | rw [if_neg (by decide)])
  rw [e1, e2]; clear e1 e2
  rw [am_1_4096_1048576, refHead c d a c0 c1 x y d0 d1 a0 a1]
  have q0 : 0 ≤ n % 4096 ∧ n % 4096 ≤ 4095 := by omega
  generalize n % 4096 = m at q0 ⊢
  rw [refI _ m (by omega) (by omega) q0.1 q0.2]
  omega
theorem rref10 (c d a b n : Int) (c0 : 0 ≤ c) (c1 : c ≤ 4294967295) (x : c / 128 % 32 = 0) (y : c / 32768 % 32 = 0) (small : c ≤ 32767) (k : Ok 10 d a b n) : rw0 (lt 10) c d a b n = c + fld 10 d a b n := by
  obtain ⟨d0, d1, a0, a1, rfl, n0, n1⟩ := ok10 k
  have e1 : rw0 (lt 10) c d a 0 n = bits .or .u32 (bits .or .u32 (bits .or .u32 c (d * 128)) (a * 32768)) (bits .and .u32 (n % 4294967296) 4095 * 1048576 % 4294967296) := by
    rw [show lt 10 = 67 by decide]; unfold rw0 rb; repeat (first | rw [if_pos (by decide)] | rw [if_neg (by decide)])
  have e2 : fld 10 d a 0 n = (d * 128 + a * 32768 + n % 4096 * 1048576) := by
    unfold fld; repeat (first | rw [if_pos (by decide)] | rw [if_neg (by decide)])
  rw [e1, e2]; clear e1 e2
  rw [am_1_4096_1048576, refHead c d a c0 c1 x y d0 d1 a0 a1]
  have q0 : 0 ≤ n % 4096 ∧ n % 4096 ≤ 4095 := by omega
  generalize n % 4096 = m at q0 ⊢
  rw [refI _ m (by omega) (by omega) q0.1 q0.2]
  omega
theorem rref4 (c d a b n : Int) (c0 : 0 ≤ c) (c1 : c ≤ 4294967295) (x : c / 128 % 32 = 0) (y : c / 32768 % 32 = 0) (reg : c / 32768 % 1024 = 0) (k : Ok 4 d a b n) : rw0 (lt 4) c d a b n = c + fld 4 d a b n := by
  obtain ⟨d0, d1, a0, a1, rfl, n0, n1⟩ := ok4 k
  have e1 : rw0 (lt 4) c d a 0 n = bits .or .u32 (bits .or .u32 (bits .or .u32 c (d * 128)) (a * 32768)) (bits .and .u32 (n % 4294967296) 31 * 1048576 % 4294967296) := by
    rw [show lt 4 = 72 by decide]; unfold rw0 rb; repeat (first | rw [if_pos (by decide)] | rw [if_neg (by decide)])
  have e2 : fld 4 d a 0 n = (d * 128 + a * 32768 + n % 32 * 1048576) := by
    unfold fld; repeat (first | rw [if_pos (by decide)] | rw [if_neg (by decide)])
  rw [e1, e2]; clear e1 e2
  rw [am_1_32_1048576, refHead c d a c0 c1 x y d0 d1 a0 a1]
  have q0 : 0 ≤ n % 32 ∧ n % 32 ≤ 31 := by omega
  generalize n % 32 = m at q0 ⊢
  rw [put5_20 _ m (by omega) (by omega) q0.1 q0.2 (by omega)]
  omega
theorem rref5 (c d a b n : Int) (c0 : 0 ≤ c) (c1 : c ≤ 4294967295) (x : c / 128 % 32 = 0) (y : c / 32768 % 32 = 0) (small : c ≤ 32767) (k : Ok 5 d a b n) : rw0 (lt 5) c d a b n = c + fld 5 d a b n := by
  obtain ⟨rfl, a0, a1, b0, b1, n0, n1⟩ := ok5 k
  have e1 : rw0 (lt 5) c 0 a b n = bits .or .u32 (bits .or .u32 (bits .or .u32 c (0 * 128)) (a * 32768)) (bits .or .u32 (bits .or .u32 (bits .and .u32 (n % 4294967296 / 32) 127 * 33554432 % 4294967296) (bits .and .u32 (n % 4294967296) 31 * 128 % 4294967296)) (b * 1048576)) := by
    rw [show lt 5 = 83 by decide]; unfold rw0 rb; repeat (first | rw [if_pos (by decide)] | rw [if_neg (by decide)])
  have e2 : fld 5 0 a b n = (a * 32768 + b * 1048576 + n % 32 * 128 + n / 32 % 128 * 33554432) := by
    unfold fld; repeat (first | rw [if_pos (by decide)] | rw [if_neg (by decide)])
  rw [e1, e2]; clear e1 e2
  rw [am_32_128_33554432, am_1_32_128, refHead c 0 a c0 c1 x y (by decide) (by decide) a0 a1]
  have p0 : 0 ≤ n % 32 ∧ n % 32 ≤ 31 := by omega
  have q0 : 0 ≤ n / 32 % 128 ∧ n / 32 % 128 ≤ 127 := by omega
  generalize n % 32 = p at p0 ⊢
  generalize n / 32 % 128 = q at q0 ⊢
  rw [refS _ b p q (by omega) (by omega) (by omega) b0 b1 p0.1 p0.2 q0.1 q0.2]
  omega
theorem rref6 (c d a b n : Int) (c0 : 0 ≤ c) (c1 : c ≤ 4294967295) (x : c / 128 % 32 = 0) (y : c / 32768 % 32 = 0) (small : c ≤ 32767) (k : Ok 6 d a b n) : rw0 (lt 6) c d a b n = c + fld 6 d a b n := by
  obtain ⟨rfl, a0, a1, b0, b1, n0, n1, n2⟩ := ok6 k
  have e1 : rw0 (lt 6) c 0 a b n = bits .or .u32 (bits .or .u32 (bits .or .u32 c (0 * 128)) (a * 32768)) (bits .or .u32 (bits .or .u32 (bits .or .u32 (bits .or .u32 (bits .and .u32 (n % 4294967296 / 4096) 1 * 2147483648 % 4294967296) (bits .and .u32 (n % 4294967296 / 32) 63 * 33554432 % 4294967296)) (bits .and .u32 (n % 4294967296 / 2) 15 * 256 % 4294967296)) (bits .and .u32 (n % 4294967296 / 2048) 1 * 128 % 4294967296)) (b * 1048576)) := by
    rw [show lt 6 = 66 by decide]; unfold rw0 rb; repeat (first | rw [if_pos (by decide)] | rw [if_neg (by decide)])
  have e2 : fld 6 0 a b n = (a * 32768 + b * 1048576 + n / 2048 % 2 * 128 + n / 2 % 16 * 256 + n / 32 % 64 * 33554432 + n / 4096 % 2 * 2147483648) := by
    unfold fld; repeat (first | rw [if_pos (by decide)] | rw [if_neg (by decide)])
  rw [e1, e2]; clear e1 e2
  rw [am_4096_2_2147483648, am_32_64_33554432, am_2_16_256, am_2048_2_128, refHead c 0 a c0 c1 x y (by decide) (by decide) a0 a1]
  have p0 : 0 ≤ n / 2048 % 2 ∧ n / 2048 % 2 ≤ 1 := by omega
  have q0 : 0 ≤ n / 2 % 16 ∧ n / 2 % 16 ≤ 15 := by omega
  have r0 : 0 ≤ n / 32 % 64 ∧ n / 32 % 64 ≤ 63 := by omega
  have s0 : 0 ≤ n / 4096 % 2 ∧ n / 4096 % 2 ≤ 1 := by omega
  generalize n / 2048 % 2 = p at p0 ⊢
  generalize n / 2 % 16 = q at q0 ⊢
  generalize n / 32 % 64 = r at r0 ⊢
  generalize n / 4096 % 2 = s at s0 ⊢
  rw [refB _ b p q r s (by omega) (by omega) (by omega) b0 b1 p0.1 p0.2 q0.1 q0.2 r0.1 r0.2 s0.1 s0.2]
  omega
theorem rref7 (c d a b n : Int) (c0 : 0 ≤ c) (c1 : c ≤ 4294967295) (x : c / 128 % 32 = 0) (y : c / 32768 % 32 = 0) (few : c ≤ 127) (k : Ok 7 d a b n) : rw0 (lt 7) c d a b n = c + fld 7 d a b n := by
  obtain ⟨d0, d1, rfl, rfl, n0, n1, n2⟩ := ok7 k
  have e1 : rw0 (lt 7) c d 0 0 n = bits .or .u32 (bits .or .u32 (bits .or .u32 c (d * 128)) (0 * 32768)) (bits .andNot .u32 (n % 4294967296) 4095) := by
    rw [show lt 7 = 85 by decide]; unfold rw0 rb; repeat (first | rw [if_pos (by decide)] | rw [if_neg (by decide)])
  have e2 : fld 7 d 0 0 n = (d * 128 + n / 4096 % 1048576 * 4096) := by
    unfold fld; repeat (first | rw [if_pos (by decide)] | rw [if_neg (by decide)])
  rw [e1, e2]; clear e1 e2
  rw [am_u, refHead c d 0 c0 c1 x y d0 d1 (by decide) (by decide)]
  have p0 : 0 ≤ n / 4096 % 1048576 ∧ n / 4096 % 1048576 ≤ 1048575 := by omega
  generalize n / 4096 % 1048576 = p at p0 ⊢
  rw [put20_12 _ p (by omega) (by omega) p0.1 p0.2 (by omega)]
  omega
theorem rref8 (c d a b n : Int) (c0 : 0 ≤ c) (c1 : c ≤ 4294967295) (x : c / 128 % 32 = 0) (y : c / 32768 % 32 = 0) (few : c ≤ 127) (k : Ok 8 d a b n) : rw0 (lt 8) c d a b n = c + fld 8 d a b n := by
  obtain ⟨d0, d1, rfl, rfl, n0, n1, n2⟩ := ok8 k
  have e1 : rw0 (lt 8) c d 0 0 n = bits .or .u32 (bits .or .u32 (bits .or .u32 c (d * 128)) (0 * 32768)) (bits .or .u32 (bits .or .u32 (bits .or .u32 (bits .and .u32 (n % 4294967296 / 1048576) 1 * 2147483648 % 4294967296) (bits .and .u32 (n % 4294967296 / 2) 1023 * 2097152 % 4294967296)) (bits .and .u32 (n % 4294967296 / 2048) 1 * 1048576 % 4294967296)) (bits .and .u32 (n % 4294967296 / 4096) 255 * 4096 % 4294967296)) := by
    rw [show lt 8 = 74 by decide]; unfold rw0 rb; repeat (first | rw [if_pos (by decide)] | rw [if_neg (by decide)])
  have e2 : fld 8 d 0 0 n = (d * 128 + n / 4096 % 256 * 4096 + n / 2048 % 2 * 1048576 + n / 2 % 1024 * 2097152 + n / 1048576 % 2 * 2147483648) := by
    unfold fld; repeat (first | rw [if_pos (by decide)] | rw [if_neg (by decide)])
  rw [e1, e2]; clear e1 e2
  rw [am_1048576_2_2147483648, am_2_1024_2097152, am_2048_2_1048576, am_4096_256_4096, refHead c d 0 c0 c1 x y d0 d1 (by decide) (by decide)]
  have p0 : 0 ≤ n / 4096 % 256 ∧ n / 4096 % 256 ≤ 255 := by omega
  have q0 : 0 ≤ n / 2048 % 2 ∧ n / 2048 % 2 ≤ 1 := by omega
  have r0 : 0 ≤ n / 2 % 1024 ∧ n / 2 % 1024 ≤ 1023 := by omega
  have s0 : 0 ≤ n / 1048576 % 2 ∧ n / 1048576 % 2 ≤ 1 := by omega
  generalize n / 4096 % 256 = p at p0 ⊢
  generalize n / 2048 % 2 = q at q0 ⊢
  generalize n / 2 % 1024 = r at r0 ⊢
  generalize n / 1048576 % 2 = s at s0 ⊢
  rw [refJ _ p q r s (by omega) (by omega) p0.1 p0.2 q0.1 q0.2 r0.1 r0.2 s0.1 s0.2]
  omega
theorem raw_ref (o d a b n : Int) (k : Ok (fm o) d a b n) : rw0 (lt (fm o)) (cd o) d a b n = wd o d a b n := by
  obtain ⟨h0, h1⟩ := ok_in o d a b n k
  have C := cd_is o h0 h1
  rw [wd]
  generalize cd o = c at C ⊢
  obtain ⟨c0, c1, x, y, small, reg, few⟩ := C
  rcases fm_parts o with ⟨g0, h⟩ | ⟨g0, g1, h⟩ | ⟨g0, h⟩ | ⟨g0, h⟩ | ⟨g0, g1, h⟩ | ⟨g0, g1, h⟩ | ⟨g0, g1, h⟩ | ⟨g0, g1, h⟩ | ⟨g0, g1, h⟩ | ⟨g0, g1, h⟩ | ⟨g0, g1, h⟩ | ⟨g0, g1, h⟩ | ⟨g0, g1, h⟩ | ⟨g0, h⟩
  all_goals rw [h] at k ⊢; clear h
  · omega
  · exact rref7 c d a b n c0 c1 x y (few (by omega)) k
  · exact rref8 c d a b n c0 c1 x y (few (by omega)) k
  · exact rref3 c d a b n c0 c1 x y (small (by omega)) k
  · exact rref6 c d a b n c0 c1 x y (small (by omega)) k
  · exact rref3 c d a b n c0 c1 x y (small (by omega)) k
  · exact rref5 c d a b n c0 c1 x y (small (by omega)) k
  · exact rref3 c d a b n c0 c1 x y (small (by omega)) k
  · exact rref4 c d a b n c0 c1 x y (reg (by omega)) k
  · exact rref2 c d a b n c0 c1 x y (reg (by omega)) k
  · exact rref1 c d a b n c0 c1 x y k
  · exact rref9 c d a b n c0 c1 x y (small (by omega)) k
  · exact rref10 c d a b n c0 c1 x y (small (by omega)) k
  · omega
end Go.Proofs.YtlnliiihcajboaaDoor.Num
