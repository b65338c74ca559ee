/- Numbers: registers put into a word that has none. -/
import Derived.Test.YtdnbgboonkoccaaRefAs
namespace Go.Proofs.Ytdnbgboonkoccaa.Num
open Go.ChangeShapes Go.WideShapes Go.ChangeAt Go.RowKit
theorem put_nat (x k s : Nat) (hk : k < 32) : (2 ^ (s + 5) * (x / 2 ^ (s + 5)) + x % 2 ^ s) ||| k * 2 ^ s = 2 ^ (s + 5) * (x / 2 ^ (s + 5)) + (k * 2 ^ s + x % 2 ^ s) := by
  have c : x % 2 ^ s < 2 ^ s := Nat.mod_lt _ (Nat.two_pow_pos s)
  have e : 2 ^ (s + 5) = 32 * 2 ^ s := by rw [Nat.pow_add, Nat.mul_comm]
  have l : (k + 1) * 2 ^ s ≤ 32 * 2 ^ s := Nat.mul_le_mul_right _ hk
  rw [Nat.add_mul] at l
  have c' : x % 2 ^ s < 2 ^ (s + 5) := by omega
  have d : k * 2 ^ s + x % 2 ^ s < 2 ^ (s + 5) := by omega
  rw [← nat_join (s + 5) _ _ (Nat.mul_mod_right _ _) c', Nat.or_assoc, Nat.or_comm (x % 2 ^ s), nat_join s _ _ (Nat.mul_mod_left _ _) c, nat_join (s + 5) _ _ (Nat.mul_mod_right _ _) d]
/-- five bits are put where none stands: at bit 7, at bit 15 -/
theorem put7 (x k : Int) (x0 : 0 ≤ x) (x1 : x ≤ 4294967295) (k0 : 0 ≤ k) (k1 : k ≤ 31) (h : x / 128 % 32 = 0) : bits .or .u32 x (k * 128) = x + k * 128 := by
  obtain ⟨a, rfl⟩ := Int.eq_ofNat_of_zero_le x0
  obtain ⟨b, rfl⟩ := Int.eq_ofNat_of_zero_le k0
  have p := put_nat a b 7 (by omega)
  have e : 2 ^ (7 + 5) * (a / 2 ^ (7 + 5)) + a % 2 ^ 7 = a := by
    have : a / 128 % 32 = 0 := by omega
    show 4096 * (a / 4096) + a % 128 = a
    omega
  rw [e] at p
  rw [show ((b : Int) * 128) = ((b * 128 : Nat) : Int) by simp, u32_or_nat _ _ (by omega) (by omega), show 128 = 2 ^ 7 from rfl, p, ← Int.natCast_add]
  congr 1
  omega
theorem put15 (x k : Int) (x0 : 0 ≤ x) (x1 : x ≤ 4294967295) (k0 : 0 ≤ k) (k1 : k ≤ 31) (h : x / 32768 % 32 = 0) : bits .or .u32 x (k * 32768) = x + k * 32768 := by
  obtain ⟨a, rfl⟩ := Int.eq_ofNat_of_zero_le x0
  obtain ⟨b, rfl⟩ := Int.eq_ofNat_of_zero_le k0
  have p := put_nat a b 15 (by omega)
  have e : 2 ^ (15 + 5) * (a / 2 ^ (15 + 5)) + a % 2 ^ 15 = a := by
    have : a / 32768 % 32 = 0 := by omega
    show 1048576 * (a / 1048576) + a % 32768 = a
    omega
  rw [e] at p
  rw [show ((b : Int) * 32768) = ((b * 32768 : Nat) : Int) by simp, u32_or_nat _ _ (by omega) (by omega), show 32768 = 2 ^ 15 from rfl, p, ← Int.natCast_add]
  congr 1
  omega
theorem clear3 (x : Int) (x0 : 0 ≤ x) (x1 : x ≤ 4294967295) : bits .andNot .u32 x 1019903 = x / 1048576 * 1048576 + x / 4096 % 8 * 4096 := by
  obtain ⟨a, rfl⟩ := Int.eq_ofNat_of_zero_le x0
  rw [u32_andNot _ _ (by omega) (by omega) (by omega) (by omega), Int.toNat_natCast]
  have m : 4294967295 - (1019903 : Int).toNat = (2 ^ (0 + 12) * (2 ^ 20 - 1) + (2 ^ 0 - 1)) &&& (2 ^ (15 + 5) * (2 ^ 12 - 1) + (2 ^ 15 - 1)) := by decide
  rw [m, ← Nat.and_assoc, clear a 0 12 20 rfl (by omega)]
  have l : 2 ^ (0 + 12) * (a / 2 ^ (0 + 12)) + a % 2 ^ 0 < 4294967296 := by
    show 4096 * (a / 4096) + a % 1 < _
    omega
  rw [clear _ 15 5 12 rfl l]
  show ((1048576 * ((4096 * (a / 4096) + a % 1) / 1048576) + (4096 * (a / 4096) + a % 1) % 32768 : Nat) : Int) = _
  have e : 1048576 * ((4096 * (a / 4096) + a % 1) / 1048576) + (4096 * (a / 4096) + a % 1) % 32768 = a / 1048576 * 1048576 + a / 4096 % 8 * 4096 := by omega
  rw [e]
  simp
theorem op51 (v : Int) (h : v % 128 = 51) : op v = oReg (v / 4096 % 8) (v / 33554432 % 128) := by
  rw [op, h]; rfl
theorem reg_is (f3 f7 : Int) (h0 : 0 ≤ f3) (h7 : f3 ≤ 7) : oReg f3 f7 = 0 ∨ Is (oReg f3 f7) 2 := by
  by_cases a : f7 = 0
  · subst a; exact isPlain f3 h0 h7
  by_cases b : f7 = 1
  · subst b; exact isMul f3 h0 h7
  by_cases c : f7 = 32
  · subst c; exact isOther f3 h0 h7
  · left; rw [oReg, if_neg a, if_neg b, if_neg c]
/-- two words of opcode 51 that are alike but in their registers -/
theorem two (v u x y : Int) (hv : v % 128 = 51) (hx : v / 128 % 32 = 0) (hy : v / 32768 % 32 = 0) (ux : u / 128 % 32 = x) (uy : u / 32768 % 32 = y) (uv : u % 128 = 51)
    (f : u / 4096 % 8 = v / 4096 % 8) (s : u / 33554432 % 128 = v / 33554432 % 128) (b : u / 1048576 % 32 = v / 1048576 % 32) :
    (Dec v 0 0 0 0 0 false ∧ Dec u 0 0 0 0 0 false) ∨ ∃ o z, fm o = 2 ∧ Dec v o 0 0 z 0 true ∧ Dec u o x y z 0 true := by
  have e1 := op51 v hv
  have e2 := op51 u uv
  rw [f, s, ← e1] at e2
  rcases reg_is (v / 4096 % 8) (v / 33554432 % 128) (by omega) (by omega) with z | i
  · left
    rw [z] at e1
    rw [e1] at e2
    exact ⟨⟨e1, rfl, rfl, rfl, rfl, rfl⟩, ⟨e2, rfl, rfl, rfl, rfl, rfl⟩⟩
  · right
    rw [← e1] at i
    refine ⟨op v, v / 1048576 % 32, i.hf, ⟨rfl, ?_, ?_, ?_, ?_, i.hn⟩, ⟨e2, ?_, ?_, ?_, ?_, i.hn⟩⟩
    all_goals rw [i.hf]
    · exact hx
    · exact hy
    · rfl
    · rfl
    · exact ux
    · exact uy
    · exact b
    · rfl
end Go.Proofs.Ytdnbgboonkoccaa.Num
