/- Contracts of package parity's functions over the translation: Count is the count of bits, Of its parity. -/
import Derived.Test.YtfhijdnbhbonpaaDoorRows
import Derived.Test.YtfhijdnbhbonpaaDoorNums
import Derived.WalkKit
import Derived.ProofKit
import Derived.OpenShut
import Derived.WalkSpells
namespace Go.Proofs.YtfhijdnbhbonpaaDoor.Walks
open Go.ChangeShapes Go.WideShapes Go.ChangeAt Go.RowKit
theorem s1 (x : Nat) (h : x < 18446744073709551616) : IntKind.u64.wrap (bits BinOp.and IntKind.u64 (x : Int) 6148914691236517205 + bits BinOp.and IntKind.u64 ((x : Int) / 2) 6148914691236517205) = ((Num.st 2 32 x : Nat) : Int) := by
  have e : ((x : Int) / 2) = ((x / 2 : Nat) : Int) := by omega
  have m : (6148914691236517205 : Int) = ((6148914691236517205 : Nat) : Int) := rfl
  rw [e, m, u64_and_nat _ _ h (by decide), u64_and_nat _ _ (by omega) (by decide)]
  have a1 : x &&& 6148914691236517205 = Num.pick 2 32 x := Num.and_mask 1 32 x
  have a2 : x / 2 &&& 6148914691236517205 = Num.pick 2 32 (x / 2) := Num.and_mask 1 32 (x / 2)
  have a3 := Num.pick_add 2 32 x
  have b : Num.st 2 32 x < 18446744073709551616 := Num.st_lt 2 (by decide) 32 x
  rw [a1, a2, ← Int.natCast_add, a3, IntKind.wrap_u64]
  omega
theorem s2 (x : Nat) (h : x < 18446744073709551616) : IntKind.u64.wrap (bits BinOp.and IntKind.u64 (x : Int) 3689348814741910323 + bits BinOp.and IntKind.u64 ((x : Int) / 4) 3689348814741910323) = ((Num.st 4 16 x : Nat) : Int) := by
  have e : ((x : Int) / 4) = ((x / 4 : Nat) : Int) := by omega
  have m : (3689348814741910323 : Int) = ((3689348814741910323 : Nat) : Int) := rfl
  rw [e, m, u64_and_nat _ _ h (by decide), u64_and_nat _ _ (by omega) (by decide)]
  have a1 : x &&& 3689348814741910323 = Num.pick 4 16 x := Num.and_mask 2 16 x
  have a2 : x / 4 &&& 3689348814741910323 = Num.pick 4 16 (x / 4) := Num.and_mask 2 16 (x / 4)
  have a3 := Num.pick_add 4 16 x
  have b : Num.st 4 16 x < 18446744073709551616 := Num.st_lt 4 (by decide) 16 x
  rw [a1, a2, ← Int.natCast_add, a3, IntKind.wrap_u64]
  omega
theorem s3 (x : Nat) (h : x < 18446744073709551616) : IntKind.u64.wrap (bits BinOp.and IntKind.u64 (x : Int) 1085102592571150095 + bits BinOp.and IntKind.u64 ((x : Int) / 16) 1085102592571150095) = ((Num.st 16 8 x : Nat) : Int) := by
  have e : ((x : Int) / 16) = ((x / 16 : Nat) : Int) := by omega
  have m : (1085102592571150095 : Int) = ((1085102592571150095 : Nat) : Int) := rfl
  rw [e, m, u64_and_nat _ _ h (by decide), u64_and_nat _ _ (by omega) (by decide)]
  have a1 : x &&& 1085102592571150095 = Num.pick 16 8 x := Num.and_mask 4 8 x
  have a2 : x / 16 &&& 1085102592571150095 = Num.pick 16 8 (x / 16) := Num.and_mask 4 8 (x / 16)
  have a3 := Num.pick_add 16 8 x
  have b : Num.st 16 8 x < 18446744073709551616 := Num.st_lt 16 (by decide) 8 x
  rw [a1, a2, ← Int.natCast_add, a3, IntKind.wrap_u64]
  omega
theorem s4 (x : Nat) (h : x < 18446744073709551616) : IntKind.u64.wrap (bits BinOp.and IntKind.u64 (x : Int) 71777214294589695 + bits BinOp.and IntKind.u64 ((x : Int) / 256) 71777214294589695) = ((Num.st 256 4 x : Nat) : Int) := by
  have e : ((x : Int) / 256) = ((x / 256 : Nat) : Int) := by omega
  have m : (71777214294589695 : Int) = ((71777214294589695 : Nat) : Int) := rfl
  rw [e, m, u64_and_nat _ _ h (by decide), u64_and_nat _ _ (by omega) (by decide)]
  have a1 : x &&& 71777214294589695 = Num.pick 256 4 x := Num.and_mask 8 4 x
  have a2 : x / 256 &&& 71777214294589695 = Num.pick 256 4 (x / 256) := Num.and_mask 8 4 (x / 256)
  have a3 := Num.pick_add 256 4 x
  have b : Num.st 256 4 x < 18446744073709551616 := Num.st_lt 256 (by decide) 4 x
  rw [a1, a2, ← Int.natCast_add, a3, IntKind.wrap_u64]
  omega
theorem s5 (x : Nat) (h : x < 18446744073709551616) : IntKind.u64.wrap (bits BinOp.and IntKind.u64 (x : Int) 281470681808895 + bits BinOp.and IntKind.u64 ((x : Int) / 65536) 281470681808895) = ((Num.st 65536 2 x : Nat) : Int) := by
  have e : ((x : Int) / 65536) = ((x / 65536 : Nat) : Int) := by omega
  have m : (281470681808895 : Int) = ((281470681808895 : Nat) : Int) := rfl
  rw [e, m, u64_and_nat _ _ h (by decide), u64_and_nat _ _ (by omega) (by decide)]
  have a1 : x &&& 281470681808895 = Num.pick 65536 2 x := Num.and_mask 16 2 x
  have a2 : x / 65536 &&& 281470681808895 = Num.pick 65536 2 (x / 65536) := Num.and_mask 16 2 (x / 65536)
  have a3 := Num.pick_add 65536 2 x
  have b : Num.st 65536 2 x < 18446744073709551616 := Num.st_lt 65536 (by decide) 2 x
  rw [a1, a2, ← Int.natCast_add, a3, IntKind.wrap_u64]
  omega
theorem s6 (x : Nat) (h : x < 18446744073709551616) : IntKind.u64.wrap (bits BinOp.and IntKind.u64 (x : Int) 4294967295 + (x : Int) / 4294967296) = ((Num.st 4294967296 1 x : Nat) : Int) := by
  have e : ((x : Int) / 4294967296) = ((x / 4294967296 : Nat) : Int) := by omega
  have m : (4294967295 : Int) = ((4294967295 : Nat) : Int) := rfl
  rw [e, m, u64_and_nat _ _ h (by decide)]
  have a1 : x &&& 4294967295 = x % 4294967296 := Nat.and_two_pow_sub_one_eq_mod x 32
  have a3 : Num.st 4294967296 1 x = x % 4294967296 + x / 4294967296 := by simp only [Num.st]; omega
  rw [a1, a3, ← Int.natCast_add, IntKind.wrap_u64]
  omega
theorem w64_small (x : Nat) (h : x < 9223372036854775808) : wrap64 (x : Int) = (x : Int) := by
  unfold wrap64; omega
theorem and1 (x : Nat) (h : x < 18446744073709551616) : bits BinOp.and IntKind.u64 (x : Int) 1 = ((x % 2 : Nat) : Int) := by
  rw [show (1 : Int) = ((1 : Nat) : Int) from rfl, u64_and_nat _ _ h (by decide), Nat.and_one_is_mod]
theorem or32 (x p : Nat) (h : x < 4294967296) (hp : p < 2) : bits BinOp.or IntKind.u64 (x : Int) ((p : Int) * 4294967296) = ((x + 4294967296 * p : Nat) : Int) := by
  have e : (p : Int) * 4294967296 = ((2 ^ 32 * p : Nat) : Int) := by omega
  rw [e, u64_or_nat _ _ (by omega) (by omega), Nat.or_comm, ← Nat.two_pow_add_eq_or_of_lt (i := 32) h]
  omega
theorem bits_lt (op : BinOp) (a b : Int) : bits op .u64 a b < 18446744073709551616 := by have := bits_hi_u64 op a b; omega
theorem ret_int {k : IntKind} {a b : Int} (h : a = b) : Ending.returned (.int k a) = .returned (.int k b) := by rw [h]
set_option maxHeartbeats 1000000 in
theorem count_nat (n : Nat) (hn : n < 18446744073709551616) (w : World) :
    Calls Tryd.prog 52 #[.int .u64 (n : Int)] w fun e w' => e = .returned (.int .i64 (Num.cnt n : Nat)) ∧ w' = w := by
  have b1 : Num.st 2 32 n < 18446744073709551616 := Num.st_lt 2 (by decide) 32 n
  have b2 : Num.st 4 16 (Num.st 2 32 n) < 18446744073709551616 := Num.st_lt 4 (by decide) 16 _
  have b3 : Num.st 16 8 (Num.st 4 16 (Num.st 2 32 n)) < 18446744073709551616 := Num.st_lt 16 (by decide) 8 _
  have b4 : Num.st 256 4 (Num.st 16 8 (Num.st 4 16 (Num.st 2 32 n))) < 18446744073709551616 := Num.st_lt 256 (by decide) 4 _
  have b5 : Num.st 65536 2 (Num.st 256 4 (Num.st 16 8 (Num.st 4 16 (Num.st 2 32 n)))) < 18446744073709551616 := Num.st_lt 65536 (by decide) 2 _
  have HC : Hid (Num.st 4294967296 1 (Num.st 65536 2 (Num.st 256 4 (Num.st 16 8 (Num.st 4 16 (Num.st 2 32 n))))) = Num.cnt n) := Num.cnt_steps n
  have hc : Num.cnt n < 9223372036854775808 := by have := Num.cnt_le n; omega
  go_enter Tryd.func52, Tryd.ntmps52
  go_wp2
  go_ret
  refine ⟨?_, rfl⟩
  rw [s1 n hn, s2 _ b1, s3 _ b2, s4 _ b3, s5 _ b4, s6 _ b5, HC.out]
  exact ret_int (w64_small _ hc)
theorem count (n : Int) (h0 : 0 ≤ n) (h1 : n < 18446744073709551616) (w : World) :
    Calls Tryd.prog 52 #[.int .u64 n] w fun e w' => e = .returned (.int .i64 (Num.cnt n.toNat : Nat)) ∧ w' = w := by
  obtain ⟨k, rfl⟩ := Int.eq_ofNat_of_zero_le h0
  rw [Int.toNat_natCast]
  exact count_nat k (by omega) w
set_option maxHeartbeats 1000000 in
theorem of (n : Int) (h0 : 0 ≤ n) (h1 : n < 18446744073709551616) (w : World) :
    Calls Tryd.prog 49 #[.int .u64 n] w fun e w' => e = .returned (.int .u64 (Num.par n.toNat : Nat)) ∧ w' = w := by
  have hc := Num.cnt_le n.toNat
  go_enter Tryd.func49, Tryd.ntmps49
  go_wp2_with (go_at_call 52; refine (count _ h0 h1 _).mono ?_; rintro e w' ⟨rfl, rfl⟩)
  go_ret
  exact ⟨ret_int (by rw [and1 _ (by omega)]; rfl), rfl⟩
theorem count_as (n c : Int) (h0 : 0 ≤ n) (h1 : n < 18446744073709551616) (h : Hid (((Num.cnt n.toNat : Nat) : Int) = c)) (w : World) :
    Calls Tryd.prog 52 #[.int .u64 n] w fun e w' => e = .returned (.int .i64 c) ∧ w' = w := by
  have := count n h0 h1 w
  rw [h.out] at this
  exact this
theorem of_as (n c : Int) (h0 : 0 ≤ n) (h1 : n < 18446744073709551616) (h : Hid (((Num.par n.toNat : Nat) : Int) = c)) (w : World) :
    Calls Tryd.prog 49 #[.int .u64 n] w fun e w' => e = .returned (.int .u64 c) ∧ w' = w := by
  have := of n h0 h1 w
  rw [h.out] at this
  exact this
end Go.Proofs.YtfhijdnbhbonpaaDoor.Walks
