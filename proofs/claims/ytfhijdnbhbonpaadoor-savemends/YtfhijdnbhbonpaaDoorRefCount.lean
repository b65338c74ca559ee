/- Contract of the document's own Count (dioscuriref1): the count of bits. -/
import Derived.Test.YtfhijdnbhbonpaaDoorMend
namespace Go.Proofs.YtfhijdnbhbonpaaDoor.Walks
open Go.ChangeShapes Go.WideShapes Go.ChangeAt Go.RowKit
theorem fs_step (k n : Nat) : Num.fs 2 (k + 1) n = Num.fs 2 k n + n / 2 ^ k % 2 := by
  rw [Num.fs_add 2 k n 1]
  simp [Num.fs]
theorem bit_add (n k c : Nat) (hn : n < 18446744073709551616) (hc : c ≤ 64) : wrap64 ((c : Int) + wrap64 (bits .and .u64 ((n : Int) / 2 ^ k) 1)) = ((c + n / 2 ^ k % 2 : Nat) : Int) := by
  have e : ((n : Int) / 2 ^ k) = ((n / 2 ^ k : Nat) : Int) := by simp
  have l : n / 2 ^ k ≤ n := Nat.div_le_self _ _
  have m : n / 2 ^ k % 2 < 2 := Nat.mod_lt _ (by decide)
  rw [e, and1 _ (by omega), wrap64_nat _ (by omega), ← Int.natCast_add, wrap64_nat _ (by omega)]
set_option maxHeartbeats 1000000 in
theorem refcount_nat (n : Nat) (hn : Hid (n < 18446744073709551616)) (w : World) :
    Calls Tryd.prog 51 #[.int .u64 (n : Int)] w fun e w' => e = .returned (.int .i64 (Num.cnt n : Nat)) ∧ w' = w := by
  go_enter Tryd.func51, Tryd.ntmps51
  go_wp2
  go_loop [3, 4] (fun s i => ∃ k : Nat, k ≤ 64 ∧ i = .int .u64 k ∧ s = .int .i64 (Num.fs 2 k n : Nat)) (fun _ i => 64 - (intOf i).toNat)
  case atStart => exact ⟨0, Nat.zero_le _, rfl, rfl⟩
  case round =>
    obtain ⟨k, hk, rfl, rfl⟩ := hrel
    by_cases hlt : k < 64
    · go_wp2_with fail
      refine ⟨⟨k + 1, hlt, by rw [Int.natCast_add]; rfl, ?_⟩, by simp [intOf]; omega⟩
      have hc := Num.fs_le k n
      rw [bit_add n k _ hn.out (by omega), ← fs_step]
    · have h7 : k = 64 := by omega
      subst h7
      go_wp2
      go_ret
      exact ⟨rfl, rfl⟩
theorem refcount_as (n c : Int) (h0 : 0 ≤ n) (h1 : n < 18446744073709551616) (C : Hid (((Num.cnt n.toNat : Nat) : Int) = c)) (w : World) :
    Calls Tryd.prog 51 #[.int .u64 n] w fun e w' => e = .returned (.int .i64 c) ∧ w' = w := by
  obtain ⟨k, rfl⟩ := Int.eq_ofNat_of_zero_le h0
  have := refcount_nat k (by unfold Hid; omega) w
  rw [← C.out, Int.toNat_natCast]
  exact this
end Go.Proofs.YtfhijdnbhbonpaaDoor.Walks
