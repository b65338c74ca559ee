/- Contracts of hsiao's Mend, Decode, Encode, Column, and of the law's own 'known'. -/
import Derived.Test.YtfhijdnbhbonpaaDoorPlace
namespace Go.Proofs.YtfhijdnbhbonpaaDoor.Walks
open Go.ChangeShapes Go.WideShapes Go.ChangeAt Go.RowKit
theorem Laid.alike {w w' : World} (h : Laid w) (ha : w'.Alike w) : Laid w' := by
  obtain ⟨t, fr, hg⟩ := h
  exact ⟨t, fr, by rw [ha.1]; exact hg⟩
theorem alike_trans {a b c : World} (h : a.Alike b) (k : b.Alike c) : a.Alike c := ⟨h.1.trans k.1, h.2.1.trans k.2.1, h.2.2.trans k.2.2⟩
theorem alike_refl (a : World) : a.Alike a := ⟨rfl, rfl, rfl⟩
theorem syndrome_as (n s : Int) (h0 : 0 ≤ n) (h1 : n < 18446744073709551616) (h : Hid (((Num.syn n.toNat : Nat) : Int) = s)) (w : World) (hL : Hid (Laid w)) :
    Calls Tryd.prog 45 #[.int .u64 n] w fun e w' => e = .returned (.int .i64 s) ∧ w' = w := by
  have := syndrome n h0 h1 w hL.out
  rw [h.out] at this
  exact this
theorem place_as (s b : Int) (ok : Bool) (h0 : 0 ≤ s) (h1 : s < 128) (hb : Hid (((plI s.toNat : Nat) : Int) = b)) (hk : Hid (plB s.toNat = ok)) (w : World) (hL : Hid (Laid w)) :
    Calls Tryd.prog 50 #[.int .i64 s] w fun e w' => e = .returned (.tuple #[.int .i64 b, .bool ok]) ∧ w'.Alike w := by
  have := place s h0 h1 w hL.out
  rw [hb.out, hk.out] at this
  exact this
set_option maxHeartbeats 1000000 in
theorem mend_zero (n x : Int) (x0 : 0 ≤ x) (x1 : x < 549755813888) (hx : bits .and .u64 n 549755813887 = x) (S : Hid (((Num.syn x.toNat : Nat) : Int) = 0)) (w : World) (hL : Hid (Laid w)) :
    Calls Tryd.prog 46 #[.int .u64 n] w fun e w' => e = .returned (.tuple #[.int .u64 x, .int .i64 0]) ∧ w'.Alike w := by
  go_enter Tryd.func46, Tryd.ntmps46
  go_wp2_with fail
  refine (syndrome_as _ _ x0 (by omega) S _ hL).mono ?_; rintro e w' ⟨rfl, rfl⟩
  go_wp2_with fail
  go_ret2
  exact ⟨rfl, rfl, rfl, rfl⟩
set_option maxHeartbeats 1000000 in
theorem mend_bad (n x s b : Int) (x0 : 0 ≤ x) (x1 : x < 549755813888) (hx : bits .and .u64 n 549755813887 = x) (S : Hid (((Num.syn x.toNat : Nat) : Int) = s)) (s0 : Hid (0 ≤ s)) (s1 : Hid (s < 128)) (hz : (s == 0) = false)
    (B : Hid (((plI s.toNat : Nat) : Int) = b)) (K : Hid (plB s.toNat = false)) (w : World) (hL : Hid (Laid w)) :
    Calls Tryd.prog 46 #[.int .u64 n] w fun e w' => e = .returned (.tuple #[.int .u64 x, .int .i64 2]) ∧ w'.Alike w := by
  go_enter Tryd.func46, Tryd.ntmps46
  go_wp2_with fail
  refine (syndrome_as _ _ x0 (by omega) S _ hL).mono ?_; rintro e w' ⟨rfl, rfl⟩
  go_wp2_with fail
  refine (place_as _ b false s0.out s1.out B K _ hL).mono ?_; rintro e w' ⟨rfl, ha⟩
  have HA : Hid (w'.Alike _) := ha
  clear ha
  go_wp2_with fail
  go_ret2
  exact ⟨rfl, HA.out⟩
set_option maxHeartbeats 1000000 in
theorem mend_fix (n x s y : Int) (b : Nat) (hb : b < 39) (x0 : 0 ≤ x) (x1 : x < 549755813888) (hx : bits .and .u64 n 549755813887 = x) (S : Hid (((Num.syn x.toNat : Nat) : Int) = s)) (s0 : Hid (0 ≤ s)) (s1 : Hid (s < 128)) (hz : (s == 0) = false)
    (B : Hid (((plI s.toNat : Nat) : Int) = b)) (K : Hid (plB s.toNat = true)) (Y : Hid (bits .xor .u64 x (IntKind.u64.wrap (2 ^ b)) = y)) (w : World) (hL : Hid (Laid w)) :
    Calls Tryd.prog 46 #[.int .u64 n] w fun e w' => e = .returned (.tuple #[.int .u64 y, .int .i64 1]) ∧ w'.Alike w := by
  go_enter Tryd.func46, Tryd.ntmps46
  go_wp2_with fail
  refine (syndrome_as _ _ x0 (by omega) S _ hL).mono ?_; rintro e w' ⟨rfl, rfl⟩
  go_wp2_with fail
  refine (place_as _ b true s0.out s1.out B K _ hL).mono ?_; rintro e w' ⟨rfl, ha⟩
  have HA : Hid (w'.Alike _) := ha
  clear ha
  go_wp2_with fail
  go_ret2
  rw [Y.out]
  exact ⟨rfl, HA.out⟩
theorem and63 (a : Int) : ∃ k : Nat, bits .and .i64 a 63 = (k : Int) ∧ k < 64 := by
  have h : (BitVec.ofInt 64 a &&& BitVec.ofInt 64 63).toNat ≤ 63 := by
    rw [BitVec.toNat_and]; exact Nat.and_le_right
  refine ⟨(BitVec.ofInt 64 a &&& BitVec.ofInt 64 63).toNat, ?_, by omega⟩
  show IntKind.i64.wrap ((BitVec.ofInt 64 a &&& BitVec.ofInt 64 63).toNat : Int) = _
  rw [IntKind.wrap_i64]
  omega
theorem low39 (n : Nat) (h : n < 18446744073709551616) : bits .and .u64 (n : Int) 549755813887 = ((n % 549755813888 : Nat) : Int) := by
  have m : (549755813887 : Int) = ((549755813887 : Nat) : Int) := rfl
  have a : n &&& 549755813887 = n % 549755813888 := Nat.and_two_pow_sub_one_eq_mod n 39
  rw [m, u64_and_nat _ _ h (by decide), a]
theorem pow39_wrap (i : Nat) (h : i < 39) : IntKind.u64.wrap (2 ^ i) = ((2 ^ i : Nat) : Int) := by
  have l := Num.bit_lt i h
  have e : (2 : Int) ^ i = ((2 ^ i : Nat) : Int) := by simp
  rw [e, IntKind.wrap_u64]
  clear e
  generalize (2 ^ i : Nat) = x at l ⊢
  omega
theorem xor_bit (x b : Nat) (hx : x < 549755813888) (hb : b < 39) : bits .xor .u64 (x : Int) (IntKind.u64.wrap (2 ^ b)) = ((x ^^^ 2 ^ b : Nat) : Int) := by
  have l := Num.bit_lt b hb
  rw [pow39_wrap b hb]
  exact u64_xor_nat _ _ (by omega) (by omega)
theorem mend (n : Int) (h0 : 0 ≤ n) (h1 : n < 18446744073709551616) (w : World) (hL : Laid w) :
    Calls Tryd.prog 46 #[.int .u64 n] w fun e w' => e = .returned (.tuple #[.int .u64 (Num.mendW n.toNat : Nat), .int .i64 (Num.mendS n.toNat : Nat)]) ∧ w'.Alike w := by
  obtain ⟨k, rfl⟩ := Int.eq_ofNat_of_zero_le h0
  rw [Int.toNat_natCast]
  have hk := low39 k (by omega)
  have hl : k % 549755813888 < 549755813888 := Nat.mod_lt _ (by decide)
  have hs := Num.syn_lt (k % 549755813888)
  unfold Num.mendW Num.mendS
  by_cases hz : Num.syn (k % 549755813888) = 0
  · rw [if_pos hz, if_pos hz]
    exact mend_zero k _ (by omega) (by omega) hk (by unfold Hid; rw [Int.toNat_natCast, hz]; rfl) w hL
  · rw [if_neg hz, if_neg hz]
    have hz' : (((Num.syn (k % 549755813888) : Nat) : Int) == 0) = false := by rw [beq_eq_false_iff_ne]; omega
    cases hp : Num.plc (Num.syn (k % 549755813888)) with
    | none =>
      exact mend_bad k _ _ 0 (by omega) (by omega) hk (by unfold Hid; rw [Int.toNat_natCast]) (by unfold Hid; omega) (by unfold Hid; omega) hz'
        (by unfold Hid plI; rw [Int.toNat_natCast, hp]; rfl) (by unfold Hid plB; rw [Int.toNat_natCast, hp]; rfl) w hL
    | some b =>
      have hb := (Num.plc_some hp).1
      exact mend_fix k _ _ _ b hb (by omega) (by omega) hk (by unfold Hid; rw [Int.toNat_natCast]) (by unfold Hid; omega) (by unfold Hid; omega) hz'
        (by unfold Hid plI; rw [Int.toNat_natCast, hp]; rfl) (by unfold Hid plB; rw [Int.toNat_natCast, hp]; rfl) (xor_bit _ _ hl hb) w hL
theorem mend_as (n x s : Int) (h0 : 0 ≤ n) (h1 : n < 18446744073709551616) (X : Hid (((Num.mendW n.toNat : Nat) : Int) = x)) (S : Hid (((Num.mendS n.toNat : Nat) : Int) = s)) (w : World) (hL : Hid (Laid w)) :
    Calls Tryd.prog 46 #[.int .u64 n] w fun e w' => e = .returned (.tuple #[.int .u64 x, .int .i64 s]) ∧ w'.Alike w := by
  have := mend n h0 h1 w hL.out
  rw [X.out, S.out] at this
  exact this
theorem or_checks (x s : Nat) (h : x < 4294967296) (hs : s < 128) : bits BinOp.or IntKind.u64 (x : Int) ((s : Int) * 4294967296) = ((x + 4294967296 * s : Nat) : Int) := by
  have e : (s : Int) * 4294967296 = ((2 ^ 32 * s : Nat) : Int) := by omega
  rw [e, u64_or_nat _ _ (by omega) (by omega), Nat.or_comm, ← Nat.two_pow_add_eq_or_of_lt (i := 32) h]
  omega
set_option maxHeartbeats 1000000 in
theorem encode_as (n c : Int) (h0 : 0 ≤ n) (h1 : n < 4294967296) (C : Hid (((Num.enc n.toNat : Nat) : Int) = c)) (w : World) (hL : Hid (Laid w)) :
    Calls Tryd.prog 38 #[.int .u32 n] w fun e w' => e = .returned (.int .u64 c) ∧ w' = w := by
  obtain ⟨s, S, s0, s1⟩ : ∃ s : Int, Hid (((Num.syn n.toNat : Nat) : Int) = s) ∧ 0 ≤ s ∧ s < 128 := ⟨_, rfl, by omega, by have := Num.syn_lt n.toNat; omega⟩
  go_enter Tryd.func38, Tryd.ntmps38
  go_wp2_with fail
  refine (syndrome_as _ _ (by omega) (by omega) S _ hL).mono ?_; rintro e w' ⟨rfl, rfl⟩
  go_wp2_with fail
  go_ret
  refine ⟨ret_int ?_, rfl⟩
  obtain ⟨k, rfl⟩ := Int.eq_ofNat_of_zero_le h0
  rw [← S.out, ← C.out, Int.toNat_natCast]
  exact or_checks k _ (by omega) (Num.syn_lt k)
end Go.Proofs.YtfhijdnbhbonpaaDoor.Walks
