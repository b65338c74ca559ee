/- Contracts of the document's own Mend, Decode, Encode (dioscuriref1), and of the law's 'same': both answer alike. -/
import Derived.Test.YtfhijdnbhbonpaaDoorRefCol
namespace Go.Proofs.YtfhijdnbhbonpaaDoor.Walks
open Go.ChangeShapes Go.WideShapes Go.ChangeAt Go.RowKit
set_option maxHeartbeats 1000000 in
theorem refmend_zero (n x : Int) (x0 : 0 ≤ x) (x1 : x < 549755813888) (hx : bits .and .u64 n 549755813887 = x) (S : Hid (((Num.syn x.toNat : Nat) : Int) = 0)) (w : World) :
    Calls Tryd.prog 43 #[.int .u64 n] w fun e w' => e = .returned (.tuple #[.int .u64 x, .int .i64 0]) ∧ w' = w := by
  go_enter Tryd.func43, Tryd.ntmps43
  go_wp2_with fail
  refine (refsyn_as _ _ x0 (by omega) S _).mono ?_; rintro e w' ⟨rfl, rfl⟩
  go_wp2_with fail
  go_ret2
  exact ⟨rfl, rfl⟩
set_option maxHeartbeats 1000000 in
theorem refmend_over (f : Nat → Nat) (hf : ∀ k : Nat, (k : Int) < 39 → ∀ w : World, Calls Tryd.prog 48 #[.int .i64 (k : Int)] w fun e w' => e = .returned (.int .i64 (f k : Nat)) ∧ w' = w)
    (n x y st : Int) (s : Nat) (x0 : 0 ≤ x) (x1 : x < 549755813888) (hx : bits .and .u64 n 549755813887 = x) (S : Hid (((Num.syn x.toNat : Nat) : Int) = s)) (hz : ((s : Int) == 0) = false)
    (hhit : Hid (∀ k : Nat, k < 39 → f k = s → bits .xor .u64 x (IntKind.u64.wrap (2 ^ k)) = y ∧ (1 : Int) = st)) (hmiss : Hid ((∀ k : Nat, k < 39 → f k ≠ s) → x = y ∧ (2 : Int) = st)) (w : World) :
    Calls Tryd.prog 43 #[.int .u64 n] w fun e w' => e = .returned (.tuple #[.int .u64 y, .int .i64 st]) ∧ w' = w := by
  go_enter Tryd.func43, Tryd.ntmps43
  go_wp2_with fail
  refine (refsyn_as _ _ x0 (by omega) S _).mono ?_; rintro e w' ⟨rfl, rfl⟩
  go_wp2_with fail
  go_loop [5] (fun i => ∃ k : Nat, (k : Int) ≤ 39 ∧ Hid (∀ j, j < k → f j ≠ s) ∧ i = .int .i64 k) (fun i => 39 - (intOf i).toNat)
  case atStart => exact ⟨0, by decide, fun _ h => absurd h (Nat.not_lt_zero _), rfl⟩
  case round =>
    obtain ⟨k, hk, HN, rfl⟩ := hrel
    by_cases hlt : (k : Int) < 39
    · have hc := hf k hlt
      clear hf
      obtain ⟨c, hfc⟩ : ∃ c, Hid (f k = c) := ⟨_, rfl⟩
      rw [hfc.out] at hc
      by_cases h1 : c = s
      · subst h1
        go_wp2_with (go_at_call 48; refine (hc _).mono ?_; rintro e w' ⟨rfl, rfl⟩)
        go_ret2
        have hh := hhit.out k (by omega) hfc.out
        exact ⟨by rw [← hh.1, ← hh.2]; rfl, rfl⟩
      · have h1' : ((c : Int) == (s : Int)) = false := by rw [beq_eq_false_iff_ne]; omega
        have H1 : Hid (c ≠ s) := h1
        clear h1
        go_wp2_with (go_at_call 48; refine (hc _).mono ?_; rintro e w' ⟨rfl, rfl⟩)
        refine ⟨⟨k + 1, by omega, ?_, by rw [Int.natCast_add]; rfl⟩, by simp [intOf]; omega⟩
        intro j hj
        by_cases e : j = k
        · subst e; rw [hfc.out]; exact H1.out
        · exact HN.out j (by omega)
    · have h7 : k = 39 := by omega
      subst h7
      go_wp2
      go_ret2
      have hh := hmiss.out HN.out
      exact ⟨by rw [← hh.1, ← hh.2]; rfl, rfl⟩
theorem refmend_as (n x s : Int) (h0 : 0 ≤ n) (h1 : n < 18446744073709551616) (X : Hid (((Num.mendW n.toNat : Nat) : Int) = x)) (S : Hid (((Num.mendS n.toNat : Nat) : Int) = s)) (w : World) :
    Calls Tryd.prog 43 #[.int .u64 n] w fun e w' => e = .returned (.tuple #[.int .u64 x, .int .i64 s]) ∧ w' = w := by
  obtain ⟨k, rfl⟩ := Int.eq_ofNat_of_zero_le h0
  rw [← X.out, ← S.out, Int.toNat_natCast]
  have hk := low39 k (by omega)
  have hl : k % 549755813888 < 549755813888 := Nat.mod_lt _ (by decide)
  unfold Num.mendW Num.mendS
  by_cases hz : Num.syn (k % 549755813888) = 0
  · rw [if_pos hz, if_pos hz]
    exact refmend_zero k _ (by omega) (by omega) hk (by unfold Hid; rw [Int.toNat_natCast, hz]; rfl) w
  · rw [if_neg hz, if_neg hz]
    have hz' : (((Num.syn (k % 549755813888) : Nat) : Int) == 0) = false := by rw [beq_eq_false_iff_ne]; omega
    refine refmend_over Num.col (fun j hj w => refcol_as j _ (by omega) hj (by unfold Hid; rw [Int.toNat_natCast]) w) k (k % 549755813888 : Nat) _ _ (Num.syn (k % 549755813888)) (by omega) (by omega) hk (by unfold Hid; rw [Int.toNat_natCast]) hz' ?_ ?_ w
    · intro j hj h
      rw [Num.plc_hit hj h]
      exact ⟨xor_bit _ _ hl hj, rfl⟩
    · intro h
      rw [Num.plc_none.2 h]
      exact ⟨rfl, rfl⟩
set_option maxHeartbeats 1000000 in
theorem refencode_as (n c : Int) (h0 : 0 ≤ n) (h1 : n < 4294967296) (C : Hid (((Num.enc n.toNat : Nat) : Int) = c)) (w : World) :
    Calls Tryd.prog 44 #[.int .u32 n] w fun e w' => e = .returned (.int .u64 c) ∧ w' = w := by
  obtain ⟨s, S, s0, s1⟩ : ∃ s : Int, Hid (((Num.syn n.toNat : Nat) : Int) = s) ∧ 0 ≤ s ∧ s < 128 := ⟨_, rfl, by omega, by have := Num.syn_lt n.toNat; omega⟩
  go_enter Tryd.func44, Tryd.ntmps44
  go_wp2_with fail
  refine (refsyn_as _ _ (by omega) (by omega) S _).mono ?_; rintro e w' ⟨rfl, rfl⟩
  go_wp2_with fail
  go_ret
  refine ⟨ret_int ?_, rfl⟩
  obtain ⟨k, rfl⟩ := Int.eq_ofNat_of_zero_le h0
  rw [← S.out, ← C.out, Int.toNat_natCast]
  exact or_checks k _ (by omega) (Num.syn_lt k)
end Go.Proofs.YtfhijdnbhbonpaaDoor.Walks
