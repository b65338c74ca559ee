/- Numbers: the bytes of a word, and of one that is merged. -/
import Derived.Test.YtedcamljgnblmaaFwd
namespace Go.Proofs.Ytedcamljgnblmaa.M
open Go.ChangeShapes Go.WideShapes Go.ChangeAt Go.RowKit Go.Proofs.Ytedcamljgnblmaa.Walks Go.Proofs.Ytedcamljgnblmaa.Al
set_option linter.unusedVariables false
theorem pk_in (c : Bool) (a b : Int) (h : 0 ≤ a ∧ a ≤ 255) (k : 0 ≤ b ∧ b ≤ 255) : 0 ≤ Num.pk c a b ∧ Num.pk c a b ≤ 255 := by cases c <;> assumption
theorem mg_by (c0 c1 c2 c3 : Bool) (o d : Int) : Num.mg c0 c1 c2 c3 o d % 256 = Num.pk c0 (d % 256) (o % 256) ∧ Num.mg c0 c1 c2 c3 o d / 256 % 256 = Num.pk c1 (d / 256 % 256) (o / 256 % 256) ∧
    Num.mg c0 c1 c2 c3 o d / 65536 % 256 = Num.pk c2 (d / 65536 % 256) (o / 65536 % 256) ∧ Num.mg c0 c1 c2 c3 o d / 16777216 % 256 = Num.pk c3 (d / 16777216 % 256) (o / 16777216 % 256) := by
  have p0 := pk_in c0 (d % 256) (o % 256) (by omega) (by omega)
  have p1 := pk_in c1 (d / 256 % 256) (o / 256 % 256) (by omega) (by omega)
  have p2 := pk_in c2 (d / 65536 % 256) (o / 65536 % 256) (by omega) (by omega)
  have p3 := pk_in c3 (d / 16777216 % 256) (o / 16777216 % 256) (by omega) (by omega)
  unfold Num.mg
  generalize Num.pk c0 (d % 256) (o % 256) = q0 at *
  generalize Num.pk c1 (d / 256 % 256) (o / 256 % 256) = q1 at *
  generalize Num.pk c2 (d / 65536 % 256) (o / 65536 % 256) = q2 at *
  generalize Num.pk c3 (d / 16777216 % 256) (o / 16777216 % 256) = q3 at *
  omega
theorem whole (x : Int) (h0 : 0 ≤ x) (h1 : x ≤ 4294967295) : x % 256 + 256 * (x / 256 % 256) + 65536 * (x / 65536 % 256) + 16777216 * (x / 16777216 % 256) = x := by omega
/-- an or of what lies apart -/
theorem or_sum (a b p : Int) (s : Nat) (hp : ((2 ^ s : Nat) : Int) = p) (a0 : 0 ≤ a) (a1 : a < p) (b0 : 0 ≤ b) (b1 : b * p < 4294967296) (p1 : p ≤ 4294967296) : bits .or .u32 a (b * p) = a + b * p := by
  subst hp
  obtain ⟨m, rfl⟩ := Int.eq_ofNat_of_zero_le a0
  obtain ⟨n, rfl⟩ := Int.eq_ofNat_of_zero_le b0
  have at' : m < 2 ^ s := by exact_mod_cast a1
  have h : (((n * 2 ^ s : Nat)) : Int) < 4294967296 := by rw [Int.natCast_mul]; exact b1
  have bt : n * 2 ^ s < 4294967296 := by
    generalize n * 2 ^ s = z at h ⊢
    omega
  have pt : 2 ^ s ≤ 4294967296 := by
    generalize 2 ^ s = z at p1 ⊢
    omega
  rw [show (n : Int) * ((2 ^ s : Nat) : Int) = ((n * 2 ^ s : Nat) : Int) by rw [Int.natCast_mul], u32_or_nat _ _ (by omega) (by omega), Nat.or_comm, ← Nat.shiftLeft_eq, ← Nat.shiftLeft_add_eq_or_of_lt at', Nat.shiftLeft_eq, Int.natCast_add, Int.add_comm]
/-- four bytes, put together -/
theorem ors (x : Int) (h0 : 0 ≤ x) (h1 : x ≤ 4294967295) (a b c d e f : Int) (A : x % 256 = a) (B : x / 256 % 256 = b) (C : x / 65536 % 256 = c) (D : x / 16777216 % 256 = d) (E : bits .or .u32 a (b * 256) = e) (F : bits .or .u32 e (c * 65536) = f) : bits .or .u32 f (d * 16777216) = x := by
  have e1 := or_sum a b 256 8 rfl (by omega) (by omega) (by omega) (by omega) (by decide)
  rw [e1] at E
  have e2 := or_sum e c 65536 16 rfl (by omega) (by omega) (by omega) (by omega) (by decide)
  rw [e2] at F
  have e3 := or_sum f d 16777216 24 rfl (by omega) (by omega) (by omega) (by omega) (by decide)
  rw [e3]
  omega
theorem ors_wrap (x : Int) (h0 : 0 ≤ x) (h1 : x ≤ 4294967295) (a b c d : Int) (A : x % 256 = a) (B : x / 256 % 256 = b) (C : x / 65536 % 256 = c) (D : x / 16777216 % 256 = d) :
    bits .or .u32 (bits .or .u32 (bits .or .u32 (IntKind.u32.wrap a) (IntKind.u32.wrap (IntKind.u32.wrap b * 256))) (IntKind.u32.wrap (IntKind.u32.wrap c * 65536))) (IntKind.u32.wrap (IntKind.u32.wrap d * 16777216)) = x := by
  have wa : IntKind.u32.wrap a = a := by rw [IntKind.wrap_u32]; omega
  have wb : IntKind.u32.wrap b = b := by rw [IntKind.wrap_u32]; omega
  have wc : IntKind.u32.wrap c = c := by rw [IntKind.wrap_u32]; omega
  have wd : IntKind.u32.wrap d = d := by rw [IntKind.wrap_u32]; omega
  have wb2 : IntKind.u32.wrap (b * 256) = b * 256 := by rw [IntKind.wrap_u32]; omega
  have wc2 : IntKind.u32.wrap (c * 65536) = c * 65536 := by rw [IntKind.wrap_u32]; omega
  have wd2 : IntKind.u32.wrap (d * 16777216) = d * 16777216 := by rw [IntKind.wrap_u32]; omega
  rw [wa, wb, wc, wd, wb2, wc2, wd2]
  exact ors x h0 h1 a b c d _ _ A B C D rfl rfl
end Go.Proofs.Ytedcamljgnblmaa.M
