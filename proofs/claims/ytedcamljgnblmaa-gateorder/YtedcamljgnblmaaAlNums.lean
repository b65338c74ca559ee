/- Numbers: sizes, places, what is loaded and stored, bytes of a word put together. -/
import Derived.Test.YtedcamljgnblmaaRows
import Derived.WalkKit
import Derived.ProofKit
import Derived.OpenShut
import Derived.WalkSpells
namespace Go.Proofs.Ytedcamljgnblmaa.Al.Num
open Go.ChangeShapes Go.WideShapes Go.ChangeAt Go.RowKit
/-- how many bytes -/
def sz (op : Int) : Int := if op = 11 then 1 else if op = 14 then 1 else if op = 16 then 1 else if op = 12 then 2 else if op = 15 then 2 else if op = 17 then 2 else if op = 13 then 4 else if op = 18 then 4 else 0
/-- does it fit at place p of its word -/
def ft (op p : Int) : Bool := if op = 11 then true else if op = 14 then true else if op = 16 then true else if op = 12 then p % 2 == 0 else if op = 15 then p % 2 == 0 else if op = 17 then p % 2 == 0 else if op = 13 then p == 0 else if op = 18 then p == 0 else false
def isl (op : Int) : Bool := if op = 11 then true else if op = 12 then true else if op = 13 then true else if op = 14 then true else if op = 15 then true else false
def iss (op : Int) : Bool := if op = 16 then true else if op = 17 then true else if op = 18 then true else false
/-- a word moved down by p bytes -/
def mv (p x : Int) : Int := if p = 0 then x else if p = 1 then x / 256 else if p = 2 then x / 65536 else x / 16777216
/-- 256 ^ p -/
def pw (p : Int) : Int := if p = 0 then 1 else if p = 1 then 256 else if p = 2 then 65536 else 16777216
def s8 (x : Int) : Int := (x + 128) % 256 - 128
def s16 (x : Int) : Int := (x + 32768) % 65536 - 32768
/-- what op loads at place p of the word x -/
def ld (op p x : Int) : Int :=
  if op = 11 then s8 (mv p x) % 4294967296 else if op = 12 then (if p % 2 = 0 then s16 (mv p x) % 4294967296 else 0) else if op = 13 then (if p = 0 then x else 0)
  else if op = 14 then mv p x % 256 else if op = 15 then (if p % 2 = 0 then mv p x % 65536 else 0) else 0
/-- what op stores of n at place p, and the bytes of the word that it covers -/
def st (op p n : Int) : Int := if op = 16 then n % 256 * pw p else if op = 17 then (if p % 2 = 0 then n % 65536 * pw p else 0) else if op = 18 then (if p = 0 then n else 0) else 0
def sm (op p : Int) : Int :=
  if op = 16 then (if p = 0 then 1 else if p = 1 then 2 else if p = 2 then 4 else 8) else if op = 17 then (if p = 0 then 3 else if p = 2 then 12 else 0) else if op = 18 then (if p = 0 then 15 else 0) else 0
def pk (c : Bool) (d o : Int) : Int := if c then d else o
/-- a word whose bytes are d's where c tells so, o's else -/
def mg (c0 c1 c2 c3 : Bool) (o d : Int) : Int := pk c0 (d % 256) (o % 256) + 256 * pk c1 (d / 256 % 256) (o / 256 % 256) + 65536 * pk c2 (d / 65536 % 256) (o / 65536 % 256) + 16777216 * pk c3 (d / 16777216 % 256) (o / 16777216 % 256)
/-- the same by a mask's lowest four bits -/
def mgm (o d m : Int) : Int := mg (m % 2 == 1) (m / 2 % 2 == 1) (m / 4 % 2 == 1) (m / 8 % 2 == 1) o d
theorem quarter (a : Int) : a % 4 = 0 ∨ a % 4 = 1 ∨ a % 4 = 2 ∨ a % 4 = 3 := by omega
theorem tmod4 (a : Int) (h : 0 ≤ a) : a.tmod 4 = a % 4 := Int.tmod_eq_emod_of_nonneg h
theorem tmod2 (a : Int) (h : 0 ≤ a) : a.tmod 2 = a % 2 := Int.tmod_eq_emod_of_nonneg h
theorem tmod1 (a : Int) (h : 0 ≤ a) : a.tmod 1 = 0 := by rw [Int.tmod_eq_emod_of_nonneg h]; omega
/-- the lowest byte, the lowest half, by shifts up and down -/
theorem low8 (n : Int) : n * 16777216 % 4294967296 / 16777216 = n % 256 := by omega
theorem low16 (n : Int) : n * 65536 % 4294967296 / 65536 = n % 65536 := by omega
theorem sg8 (n : Int) : wrap32 (n * 16777216 % 4294967296) / 16777216 = s8 n := by unfold wrap32 s8; omega
theorem sg16 (n : Int) : wrap32 (n * 65536 % 4294967296) / 65536 = s16 n := by unfold wrap32 s16; omega
theorem and8 (x : Int) (h0 : 0 ≤ x) (h1 : x ≤ 4294967295) : bits .and .u32 x 255 = x % 256 := by
  obtain ⟨n, rfl⟩ := Int.eq_ofNat_of_zero_le h0
  rw [show (255 : Int) = ((255 : Nat) : Int) from rfl, u32_and_nat _ _ (by omega) (by decide), show (255 : Nat) = 2 ^ 8 - 1 from rfl, Nat.and_two_pow_sub_one_eq_mod]
  simp
theorem and16 (x : Int) (h0 : 0 ≤ x) (h1 : x ≤ 4294967295) : bits .and .u32 x 65535 = x % 65536 := by
  obtain ⟨n, rfl⟩ := Int.eq_ofNat_of_zero_le h0
  rw [show (65535 : Int) = ((65535 : Nat) : Int) from rfl, u32_and_nat _ _ (by omega) (by decide), show (65535 : Nat) = 2 ^ 16 - 1 from rfl, Nat.and_two_pow_sub_one_eq_mod]
  simp
theorem and3 (x : Int) (h0 : 0 ≤ x) (h1 : x ≤ 4294967295) : bits .and .u32 x 3 = x % 4 := by
  obtain ⟨n, rfl⟩ := Int.eq_ofNat_of_zero_le h0
  rw [show (3 : Int) = ((3 : Nat) : Int) from rfl, u32_and_nat _ _ (by omega) (by decide), show (3 : Nat) = 2 ^ 2 - 1 from rfl, Nat.and_two_pow_sub_one_eq_mod]
  simp
end Go.Proofs.Ytedcamljgnblmaa.Al.Num
