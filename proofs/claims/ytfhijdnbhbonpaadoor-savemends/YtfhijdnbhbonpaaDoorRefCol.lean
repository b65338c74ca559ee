/- Contracts of the document's own Column and Syndrome (dioscuriref1). -/
import Derived.Test.YtfhijdnbhbonpaaDoorRefCount
namespace Go.Proofs.YtfhijdnbhbonpaaDoor.Num
/-- how many numbers below k have three bits that are 1 -/
def rank : Nat → Nat
  | 0 => 0
  | k + 1 => rank k + if cnt k = 3 then 1 else 0
theorem rank_le : ∀ k, rank k ≤ k
  | 0 => Nat.le_refl _
  | k + 1 => by have := rank_le k; simp only [rank]; split <;> omega
theorem rank_mono (a : Nat) : ∀ d, rank a ≤ rank (a + d)
  | 0 => Nat.le_refl _
  | d + 1 => by have := rank_mono a d; rw [← Nat.add_assoc]; simp only [rank]; omega
theorem rank_col : ∀ b, b < 32 → rank (col b) = b := by decide +kernel
theorem cnt_col (b : Nat) (h : b < 32) : cnt (col b) = 3 := by rw [col_cnt b (by omega), if_pos h]
theorem rank_hit (b k : Nat) (hb : b < 32) (hk : k ≤ col b) (h3 : cnt k = 3) (hr : rank k = b) : k = col b := by
  by_cases h : k = col b
  · exact h
  · have m := rank_mono (k + 1) (col b - (k + 1))
    rw [show k + 1 + (col b - (k + 1)) = col b by omega, rank_col b hb] at m
    simp only [rank, if_pos h3] at m
    omega
theorem rank_miss (b k : Nat) (hb : b < 32) (hk : k ≤ col b) (h : cnt k ≠ 3 ∨ rank k ≠ b) : k + 1 ≤ col b := by
  by_cases e : k = col b
  · subst e
    rcases h with h | h
    · exact absurd (cnt_col b hb) h
    · exact absurd (rank_col b hb) h
  · omega
theorem col_high : ∀ b, b < 39 → 32 ≤ b → col b = 2 ^ (b - 32) := by decide +kernel
theorem synK_mod (w : Nat) : ∀ k, synK k (w % 549755813888) = synK k w
  | 0 => rfl
  | k + 1 => by
    have e : w % 549755813888 &&& row k = w &&& row k := by
      have a := @Nat.and_mod_two_pow w (row k) 39
      have b : row k % 2 ^ 39 = row k := Nat.mod_eq_of_lt (row_lt k)
      have c : (w &&& row k) % 2 ^ 39 = w &&& row k := Nat.mod_eq_of_lt (Nat.lt_of_le_of_lt Nat.and_le_right (row_lt k))
      rw [b, c] at a
      exact a.symm
    simp only [synK]
    rw [synK_mod w k, e]
theorem syn_mod (w : Nat) : syn (w % 549755813888) = syn w := synK_mod w 7
theorem mod_next (w k : Nat) : w % 2 ^ (k + 1) = 2 ^ k * (w / 2 ^ k % 2) ^^^ w % 2 ^ k := by
  rw [xor_high k _ _ (Nat.mod_lt _ (Nat.two_pow_pos k)), Nat.pow_succ, Nat.mod_mul]
theorem syn_one_more (w k : Nat) (hk : k < 39) (h : w / 2 ^ k % 2 = 1) : syn (w % 2 ^ (k + 1)) = syn (w % 2 ^ k) ^^^ col k := by
  rw [mod_next, h, Nat.mul_one, syn_xor, syn_col k hk, Nat.xor_comm]
theorem syn_none_more (w k : Nat) (h : w / 2 ^ k % 2 = 0) : syn (w % 2 ^ (k + 1)) = syn (w % 2 ^ k) := by
  rw [mod_next, h, Nat.mul_zero, Nat.zero_xor]
end Go.Proofs.YtfhijdnbhbonpaaDoor.Num
namespace Go.Proofs.YtfhijdnbhbonpaaDoor.Walks
open Go.ChangeShapes Go.WideShapes Go.ChangeAt Go.RowKit
set_option maxHeartbeats 1000000 in
theorem refcol_high (b : Nat) (h0 : 32 ≤ b) (h1 : b < 39) (w : World) :
    Calls Tryd.prog 48 #[.int .i64 (b : Int)] w fun e w' => e = .returned (.int .i64 (Num.col b : Nat)) ∧ w' = w := by
  have e : b = 32 ∨ b = 33 ∨ b = 34 ∨ b = 35 ∨ b = 36 ∨ b = 37 ∨ b = 38 := by omega
  rcases e with rfl | rfl | rfl | rfl | rfl | rfl | rfl
  all_goals
    go_enter Tryd.func48, Tryd.ntmps48
    go_wp2
    go_ret
    exact ⟨rfl, rfl⟩
set_option maxHeartbeats 1000000 in
theorem refcol_over (f rk : Nat → Nat) (C b : Nat) (h1 : (b : Int) < 32) (hf : ∀ k : Nat, k < 128 → ∀ w : World, Calls Tryd.prog 51 #[.int .u64 (k : Int)] w fun e w' => e = .returned (.int .i64 (f k : Nat)) ∧ w' = w)
    (hC : Hid (C < 128)) (hrk : Hid (∀ k, rk k ≤ k)) (h0 : Hid (rk 0 = 0)) (hhit : Hid (∀ k, k ≤ C → f k = 3 → rk k = b → k = C)) (hmiss : Hid (∀ k, k ≤ C → f k ≠ 3 ∨ rk k ≠ b → k + 1 ≤ C))
    (hup : Hid (∀ k, f k = 3 → rk (k + 1) = rk k + 1)) (hst : Hid (∀ k, f k ≠ 3 → rk (k + 1) = rk k)) (w : World) :
    Calls Tryd.prog 48 #[.int .i64 (b : Int)] w fun e w' => e = .returned (.int .i64 (C : Nat)) ∧ w' = w := by
  go_enter Tryd.func48, Tryd.ntmps48
  go_wp2
  go_loop [3, 4] (fun s i => ∃ k r : Nat, Hid (k ≤ C) ∧ (k : Int) < 128 ∧ (r : Int) ≤ 128 ∧ Hid (rk k = r) ∧ i = .int .i64 k ∧ s = .int .i64 (r : Nat)) (fun _ i => 128 - (intOf i).toNat)
  case atStart => exact ⟨0, 0, Nat.zero_le _, by decide, by decide, h0, rfl, rfl⟩
  case round =>
    obtain ⟨k, r, hk, hk1, hr, HR, rfl, rfl⟩ := hrel
    have hc := hf k (by omega)
    clear hf
    obtain ⟨c, hfc⟩ : ∃ c, Hid (f k = c) := ⟨_, rfl⟩
    rw [hfc.out] at hc
    by_cases h3 : c = 3
    · subst h3
      by_cases hb : r = b
      · subst hb
        go_wp2_with (go_at_call 51; refine (hc _).mono ?_; rintro e w' ⟨rfl, rfl⟩)
        go_ret
        exact ⟨ret_int (by rw [hhit.out k hk.out hfc.out HR.out]), rfl⟩
      · have hb' : ((r : Int) == (b : Int)) = false := by rw [beq_eq_false_iff_ne]; omega
        go_wp2_with (go_at_call 51; refine (hc _).mono ?_; rintro e w' ⟨rfl, rfl⟩)
        have hm := hmiss.out k hk.out (Or.inr (by rw [HR.out]; exact hb))
        have hu := hup.out k hfc.out
        have hl := hrk.out (k + 1)
        have hC' := hC.out
        rw [HR.out] at hu
        exact ⟨⟨k + 1, r + 1, hm, by omega, by omega, hu, by rw [Int.natCast_add]; rfl, by rw [Int.natCast_add]; rfl⟩, by simp [intOf]; omega⟩
    · have hcc : ((c : Int) == 3) = false := by rw [beq_eq_false_iff_ne]; omega
      go_wp2_with (go_at_call 51; refine (hc _).mono ?_; rintro e w' ⟨rfl, rfl⟩)
      have hm := hmiss.out k hk.out (Or.inl (by rw [hfc.out]; exact h3))
      have hu := hst.out k (by rw [hfc.out]; exact h3)
      have hC' := hC.out
      rw [HR.out] at hu
      exact ⟨⟨k + 1, r, hm, by omega, by omega, hu, by rw [Int.natCast_add]; rfl, rfl⟩, by simp [intOf]; omega⟩
theorem refcol_as (b c : Int) (h0 : 0 ≤ b) (h1 : b < 39) (C : Hid (((Num.col b.toNat : Nat) : Int) = c)) (w : World) :
    Calls Tryd.prog 48 #[.int .i64 b] w fun e w' => e = .returned (.int .i64 c) ∧ w' = w := by
  obtain ⟨k, rfl⟩ := Int.eq_ofNat_of_zero_le h0
  rw [← C.out, Int.toNat_natCast]
  by_cases hk : k < 32
  · refine refcol_over Num.cnt Num.rank (Num.col k) k (by omega) (fun j hj w => ?_) (Num.col_lt k (by omega)) Num.rank_le rfl (fun j hj h3 hr => Num.rank_hit k j hk hj h3 hr) (fun j hj h => Num.rank_miss k j hk hj h)
      (fun j h => by simp only [Num.rank, if_pos h]) (fun j h => by simp only [Num.rank, if_neg h, Nat.add_zero]) w
    exact refcount_nat j (by unfold Hid; omega) w
  · exact refcol_high k (by omega) (by omega) w
theorem bit_is (n k : Nat) (hn : n < 18446744073709551616) : (bits .and .u64 ((n : Int) / 2 ^ k) 1 == 1) = decide (n / 2 ^ k % 2 = 1) := by
  have e : ((n : Int) / 2 ^ k) = ((n / 2 ^ k : Nat) : Int) := by simp
  have l : n / 2 ^ k ≤ n := Nat.div_le_self _ _
  rw [e, and1 _ (by omega), Bool.eq_iff_iff, beq_iff_eq, decide_eq_true_iff]
  omega
set_option maxHeartbeats 1000000 in
theorem refsyn_over (f : Nat → Nat) (g : Nat → Nat) (n : Nat) (hn : Hid (n < 18446744073709551616)) (hf : ∀ k : Nat, (k : Int) < 39 → ∀ w : World, Calls Tryd.prog 48 #[.int .i64 (k : Int)] w fun e w' => e = .returned (.int .i64 (f k : Nat)) ∧ w' = w)
    (h0 : Hid (g 0 = 0)) (hone : Hid (∀ k : Nat, k < 39 → n / 2 ^ k % 2 = 1 → g (k + 1) = g k ^^^ f k)) (hnone : Hid (∀ k : Nat, k < 39 → n / 2 ^ k % 2 = 0 → g (k + 1) = g k))
    (hgl : Hid (∀ k, g k < 128)) (hfl : Hid (∀ k, k < 39 → f k < 128)) (w : World) :
    Calls Tryd.prog 47 #[.int .u64 (n : Int)] w fun e w' => e = .returned (.int .i64 (g 39 : Nat)) ∧ w' = w := by
  go_enter Tryd.func47, Tryd.ntmps47
  go_wp2
  go_loop [3, 4] (fun s i => ∃ k r : Nat, (k : Int) ≤ 39 ∧ Hid (g k = r) ∧ i = .int .i64 k ∧ s = .int .i64 (r : Nat)) (fun _ i => 39 - (intOf i).toNat)
  case atStart => exact ⟨0, 0, by decide, h0, rfl, rfl⟩
  case round =>
    obtain ⟨k, r, hk, HR, rfl, rfl⟩ := hrel
    by_cases hlt : (k : Int) < 39
    · have hc := hf k hlt
      clear hf
      obtain ⟨c, hfc⟩ : ∃ c, Hid (f k = c) := ⟨_, rfl⟩
      rw [hfc.out] at hc
      have ht := bit_is n k hn.out
      by_cases h1 : n / 2 ^ k % 2 = 1
      · rw [decide_eq_true h1] at ht
        have H1 : Hid (n / 2 ^ k % 2 = 1) := h1
        clear h1
        go_wp2_with (go_at_call 48; refine (hc _).mono ?_; rintro e w' ⟨rfl, rfl⟩)
        have hg := hone.out k (by omega) H1.out
        have hl1 := hgl.out k
        have hl2 := hfl.out k (by omega)
        rw [HR.out] at hg hl1
        rw [hfc.out] at hg hl2
        exact ⟨⟨k + 1, r ^^^ c, by omega, hg, by rw [Int.natCast_add]; rfl, by rw [i64_xor _ _ (by omega) (by omega)]⟩, by simp [intOf]; omega⟩
      · rw [decide_eq_false h1] at ht
        have H1 : Hid (n / 2 ^ k % 2 = 0) := by unfold Hid; omega
        clear h1
        go_wp2_with fail
        have hg := hnone.out k (by omega) H1.out
        rw [HR.out] at hg
        exact ⟨⟨k + 1, r, by omega, hg, by rw [Int.natCast_add]; rfl, rfl⟩, by simp [intOf]; omega⟩
    · have h7 : k = 39 := by omega
      subst h7
      go_wp2
      go_ret
      exact ⟨ret_int (by rw [HR.out]), rfl⟩
theorem refsyn_as (n s : Int) (h0 : 0 ≤ n) (h1 : n < 18446744073709551616) (S : Hid (((Num.syn n.toNat : Nat) : Int) = s)) (w : World) :
    Calls Tryd.prog 47 #[.int .u64 n] w fun e w' => e = .returned (.int .i64 s) ∧ w' = w := by
  obtain ⟨k, rfl⟩ := Int.eq_ofNat_of_zero_le h0
  rw [← S.out, Int.toNat_natCast, ← Num.syn_mod]
  exact refsyn_over Num.col (fun j => Num.syn (k % 2 ^ j)) k (by unfold Hid; omega) (fun j hj w => refcol_as j _ (by omega) hj (by unfold Hid; rw [Int.toNat_natCast]) w)
    (by show Num.syn (k % 2 ^ 0) = 0; rw [Nat.pow_zero, Nat.mod_one]; exact Num.syn_zero) (fun j hj h => Num.syn_one_more k j hj h) (fun j _ h => Num.syn_none_more k j h) (fun _ => Num.syn_lt _) Num.col_lt w
end Go.Proofs.YtfhijdnbhbonpaaDoor.Walks
