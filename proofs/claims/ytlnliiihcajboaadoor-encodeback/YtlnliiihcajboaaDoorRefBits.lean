/- Contract of the document's own Bits (a loop, bit by bit). -/
import Derived.Test.YtlnliiihcajboaaDoorBasic
namespace Go.Proofs.YtlnliiihcajboaaDoor.Walks
open Go.ChangeShapes Go.WideShapes Go.ChangeAt Go.RowKit
set_option maxHeartbeats 1000000 in
theorem rbits_off (v a n : Int) (h : a < 0 ∨ 31 < a ∨ n < 1 ∨ 32 < n) (w : World) :
    Calls Tryd.prog 22 #[.int .u32 v, .int .i64 a, .int .i64 n] w fun e w' => e = .returned (.int .u32 0) ∧ w' = w := by
  go_enter Tryd.func22, Tryd.ntmps22
  go_wp2
  all_goals first
    | (exfalso; omega)
    | (go_ret; exact ⟨rfl, rfl⟩)
theorem one_more (v a k c : Nat) (hv : v < 4294967296) (hak : a + k < 32) (HC : v / 2 ^ a % 2 ^ k = c) :
    bits .or .u32 (c : Int) (bits .and .u32 ((v : Int) / 2 ^ (a + k)) 1 * 2 ^ k % 4294967296) = ((v / 2 ^ a % 2 ^ (k + 1) : Nat) : Int) := by
  have e : ((v : Int) / 2 ^ (a + k)) = ((v / 2 ^ (a + k) : Nat) : Int) := by simp
  have l : v / 2 ^ (a + k) ≤ v := Nat.div_le_self _ _
  have d : v / 2 ^ (a + k) = v / 2 ^ a / 2 ^ k := by rw [Nat.pow_add, Nat.div_div_eq_div_mul]
  have m : v / 2 ^ (a + k) % 2 < 2 := Nat.mod_lt _ (by decide)
  have p : 2 ^ k ≤ 2 ^ 31 := Nat.pow_le_pow_right (by decide) (by omega)
  have q : v / 2 ^ (a + k) % 2 * 2 ^ k < 4294967296 := by
    generalize 2 ^ k = y at p ⊢
    rcases Nat.mod_two_eq_zero_or_one (v / 2 ^ (a + k)) with h | h
    · rw [h]; omega
    · rw [h]; omega
  have z : c < 4294967296 := by
    have : c ≤ v := by rw [← HC]; exact Nat.le_trans (Nat.mod_le _ _) (Nat.div_le_self _ _)
    omega
  have g : ((v / 2 ^ (a + k) % 2 : Nat) : Int) * 2 ^ k % 4294967296 = ((v / 2 ^ (a + k) % 2 * 2 ^ k : Nat) : Int) := by
    have : ((v / 2 ^ (a + k) % 2 : Nat) : Int) * 2 ^ k = ((v / 2 ^ (a + k) % 2 * 2 ^ k : Nat) : Int) := by simp
    rw [this]
    generalize v / 2 ^ (a + k) % 2 * 2 ^ k = y at q ⊢
    omega
  rw [e, show (1 : Int) = ((1 : Nat) : Int) from rfl, u32_and_nat _ _ (by omega) (by decide), Nat.and_one_is_mod, g, u32_or_nat _ _ z q, d, ← HC, Num.join_bit]
set_option maxHeartbeats 1000000 in
theorem rbits_in (v a n R : Nat) (hv : Hid (v < 4294967296)) (a1 : (a : Int) ≤ 31) (n0 : 1 ≤ (n : Int)) (n1 : (n : Int) ≤ 32) (HR : Hid (v / 2 ^ a % 2 ^ n = R)) (w : World) :
    Calls Tryd.prog 22 #[.int .u32 (v : Int), .int .i64 (a : Int), .int .i64 (n : Int)] w fun e w' => e = .returned (.int .u32 (R : Int)) ∧ w' = w := by
  go_enter Tryd.func22, Tryd.ntmps22
  go_wp2
  go_loop [7, 8] (fun s i => ∃ k c : Nat, (k : Int) ≤ n ∧ (a : Int) + k ≤ 32 ∧ Hid (v / 2 ^ a % 2 ^ k = c) ∧ i = .int .i64 k ∧ s = .int .u32 (c : Nat)) (fun _ i => 32 - (intOf i).toNat)
  case atStart => exact ⟨0, 0, by omega, by omega, by unfold Hid; rw [Nat.pow_zero, Nat.mod_one], rfl, rfl⟩
  case round =>
    obtain ⟨k, c, hk, hak, HC, rfl, rfl⟩ := hrel
    by_cases hlt : (k : Int) < n
    · by_cases hat : (a : Int) + k < 32
      · go_wp2_with fail
        refine ⟨⟨k + 1, v / 2 ^ a % 2 ^ (k + 1), by omega, by omega, rfl, by rw [Int.natCast_add]; rfl, ?_⟩, by simp [intOf]; omega⟩
        rw [one_more v a k c hv.out (by omega) HC.out]
      · go_wp2_with fail
        go_ret
        refine ⟨ret_int ?_, rfl⟩
        rw [← HC.out, ← HR.out, Num.mod_end v a k n hv.out (by omega) (by omega)]
    · go_wp2_with fail
      go_ret
      refine ⟨ret_int ?_, rfl⟩
      rw [← HC.out, ← HR.out, show k = n by omega]
theorem rbits_as (v a n c : Int) (h0 : 0 ≤ v) (h1 : v ≤ 4294967295) (H : Hid (Num.bt v a n = c)) (w : World) :
    Calls Tryd.prog 22 #[.int .u32 v, .int .i64 a, .int .i64 n] w fun e w' => e = .returned (.int .u32 c) ∧ w' = w := by
  rw [← H.out]
  by_cases h : 0 ≤ a ∧ a ≤ 31 ∧ 1 ≤ n ∧ n ≤ 32
  · rw [Num.bt, if_pos h]
    obtain ⟨a0, a1, n0, n1⟩ := h
    obtain ⟨x, rfl⟩ := Int.eq_ofNat_of_zero_le h0
    obtain ⟨y, rfl⟩ := Int.eq_ofNat_of_zero_le a0
    obtain ⟨z, rfl⟩ := Int.eq_ofNat_of_zero_le (show 0 ≤ n by omega)
    have := rbits_in x y z _ (by unfold Hid; omega) a1 n0 n1 rfl w
    have e : (x : Int) / 2 ^ (y : Int).toNat % 2 ^ (z : Int).toNat = ((x / 2 ^ y % 2 ^ z : Nat) : Int) := by simp
    rw [e]
    exact this
  · have h' : a < 0 ∨ 31 < a ∨ n < 1 ∨ 32 < n := by omega
    rw [Num.bt_off v a n h']
    exact rbits_off v a n h' w
end Go.Proofs.YtlnliiihcajboaaDoor.Walks
