/- Contracts of Merge, the program's and the document's. -/
import Derived.Test.YtedcamljgnblmaaAlBasic
import Derived.Test.YtedcamljgnblmaaAlBytes
namespace Go.Proofs.Ytedcamljgnblmaa.Al.Walks
open Go.ChangeShapes Go.WideShapes Go.ChangeAt Go.RowKit
set_option linter.unusedVariables false
set_option maxHeartbeats 1000000 in
theorem merge_core (o d m r : Int) (T : Nat → Int) (c0 c1 c2 c3 : Bool) (B0 : (bits .and .i64 m 1 == 1) = c0) (B1 : (bits .and .i64 (m / 2) 1 == 1) = c1) (B2 : (bits .and .i64 (m / 4) 1 == 1) = c2) (B3 : (bits .and .i64 (m / 8) 1 == 1) = c3)
    (z : Hid (T 0 = 0)) (u0 : Hid (c0 = true → bits .or .u32 (T 0) 255 = T 1)) (v0 : Hid (c0 = false → T 0 = T 1)) (u1 : Hid (c1 = true → bits .or .u32 (T 1) 65280 = T 2)) (v1 : Hid (c1 = false → T 1 = T 2))
    (u2 : Hid (c2 = true → bits .or .u32 (T 2) 16711680 = T 3)) (v2 : Hid (c2 = false → T 2 = T 3)) (u3 : Hid (c3 = true → bits .or .u32 (T 3) 4278190080 = T 4)) (v3 : Hid (c3 = false → T 3 = T 4))
    (R : Hid (bits .or .u32 (bits .and .u32 d (T 4)) (bits .andNot .u32 o (T 4)) = r)) (w : World) :
    Calls Try.prog 21 #[.int .u32 o, .int .u32 d, .int .i64 m] w fun e w' => e = .returned (.int .u32 r) ∧ w' = w := by
  go_enter Try.func21, Try.ntmps21
  go_wp2_with fail
  go_loop [7, 9] (fun s i => ∃ k : Nat, (k : Int) ≤ 4 ∧ i = .int .i64 k ∧ s = .int .u32 (T k)) (fun _ i => 4 - (intOf i).toNat)
  case atStart => exact ⟨0, by decide, rfl, by rw [z.out]⟩
  case round =>
    obtain ⟨k, hk, rfl, rfl⟩ := hrel
    by_cases hkl : (k : Int) < 4
    · rcases (show k = 0 ∨ k = 1 ∨ k = 2 ∨ k = 3 by omega) with rfl | rfl | rfl | rfl
      · cases c0
        · go_wp2_with fail
          exact ⟨⟨1, by decide, rfl, by rw [v0.out rfl]⟩, by decide⟩
        · go_wp2_with fail
          exact ⟨⟨1, by decide, rfl, by rw [u0.out rfl]⟩, by decide⟩
      · cases c1
        · go_wp2_with fail
          exact ⟨⟨2, by decide, rfl, by rw [v1.out rfl]⟩, by decide⟩
        · go_wp2_with fail
          exact ⟨⟨2, by decide, rfl, by rw [u1.out rfl]⟩, by decide⟩
      · cases c2
        · go_wp2_with fail
          exact ⟨⟨3, by decide, rfl, by rw [v2.out rfl]⟩, by decide⟩
        · go_wp2_with fail
          exact ⟨⟨3, by decide, rfl, by rw [u2.out rfl]⟩, by decide⟩
      · cases c3
        · go_wp2_with fail
          exact ⟨⟨4, by decide, rfl, by rw [v3.out rfl]⟩, by decide⟩
        · go_wp2_with fail
          exact ⟨⟨4, by decide, rfl, by rw [u3.out rfl]⟩, by decide⟩
    · obtain rfl : k = 4 := by omega
      go_wp2_with fail
      go_ret
      exact ⟨ret_int R.out, rfl⟩
set_option maxHeartbeats 1000000 in
theorem rmerge_core (o d m r : Int) (T : Nat → Int) (c0 c1 c2 c3 : Bool) (B0 : (bits .and .i64 m 1 == 1) = c0) (B1 : (bits .and .i64 (m / 2) 1 == 1) = c1) (B2 : (bits .and .i64 (m / 4) 1 == 1) = c2) (B3 : (bits .and .i64 (m / 8) 1 == 1) = c3)
    (z : Hid (T 0 = 0)) (u0 : Hid (c0 = true → bits .or .u32 (T 0) (bits .and .u32 d 255) = T 1)) (v0 : Hid (c0 = false → bits .or .u32 (T 0) (bits .and .u32 o 255) = T 1))
    (u1 : Hid (c1 = true → bits .or .u32 (T 1) (bits .and .u32 d 65280) = T 2)) (v1 : Hid (c1 = false → bits .or .u32 (T 1) (bits .and .u32 o 65280) = T 2))
    (u2 : Hid (c2 = true → bits .or .u32 (T 2) (bits .and .u32 d 16711680) = T 3)) (v2 : Hid (c2 = false → bits .or .u32 (T 2) (bits .and .u32 o 16711680) = T 3))
    (u3 : Hid (c3 = true → bits .or .u32 (T 3) (bits .and .u32 d 4278190080) = T 4)) (v3 : Hid (c3 = false → bits .or .u32 (T 3) (bits .and .u32 o 4278190080) = T 4))
    (R : Hid (T 4 = r)) (w : World) :
    Calls Try.prog 22 #[.int .u32 o, .int .u32 d, .int .i64 m] w fun e w' => e = .returned (.int .u32 r) ∧ w' = w := by
  go_enter Try.func22, Try.ntmps22
  go_wp2_with fail
  go_loop [7, 8] (fun s i => ∃ k : Nat, (k : Int) ≤ 4 ∧ i = .int .u64 k ∧ s = .int .u32 (T k)) (fun _ i => 4 - (intOf i).toNat)
  case atStart => exact ⟨0, by decide, rfl, by rw [z.out]⟩
  case round =>
    obtain ⟨k, hk, rfl, rfl⟩ := hrel
    by_cases hkl : (k : Int) < 4
    · rcases (show k = 0 ∨ k = 1 ∨ k = 2 ∨ k = 3 by omega) with rfl | rfl | rfl | rfl
      · cases c0
        · go_wp2_with fail
          exact ⟨⟨1, by decide, rfl, by rw [v0.out rfl]⟩, by decide⟩
        · go_wp2_with fail
          exact ⟨⟨1, by decide, rfl, by rw [u0.out rfl]⟩, by decide⟩
      · cases c1
        · go_wp2_with fail
          exact ⟨⟨2, by decide, rfl, by rw [v1.out rfl]⟩, by decide⟩
        · go_wp2_with fail
          exact ⟨⟨2, by decide, rfl, by rw [u1.out rfl]⟩, by decide⟩
      · cases c2
        · go_wp2_with fail
          exact ⟨⟨3, by decide, rfl, by rw [v2.out rfl]⟩, by decide⟩
        · go_wp2_with fail
          exact ⟨⟨3, by decide, rfl, by rw [u2.out rfl]⟩, by decide⟩
      · cases c3
        · go_wp2_with fail
          exact ⟨⟨4, by decide, rfl, by rw [v3.out rfl]⟩, by decide⟩
        · go_wp2_with fail
          exact ⟨⟨4, by decide, rfl, by rw [u3.out rfl]⟩, by decide⟩
    · obtain rfl : k = 4 := by omega
      go_wp2_with fail
      go_ret
      exact ⟨ret_int R.out, rfl⟩
theorem bit_of (n : Int) : (bits .and .i64 n 1 == 1) = (n % 2 == 1) := by rw [Num.and_one]
theorem merge_all (c0 c1 c2 c3 : Bool) (o d m : Int) (o0 : 0 ≤ o) (o1 : o ≤ 4294967295) (d0 : 0 ≤ d) (d1 : d ≤ 4294967295) (B0 : (m % 2 == 1) = c0) (B1 : (m / 2 % 2 == 1) = c1) (B2 : (m / 4 % 2 == 1) = c2) (B3 : (m / 8 % 2 == 1) = c3) (w : World) :
    Calls Try.prog 21 #[.int .u32 o, .int .u32 d, .int .i64 m] w fun e w' => e = .returned (.int .u32 (Num.mg c0 c1 c2 c3 o d)) ∧ w' = w := by
  refine merge_core o d m _ (fun k => if k = 0 then ((Num.msk false false false false : Nat) : Int) else if k = 1 then ((Num.msk c0 false false false : Nat) : Int) else if k = 2 then ((Num.msk c0 c1 false false : Nat) : Int) else if k = 3 then ((Num.msk c0 c1 c2 false : Nat) : Int) else ((Num.msk c0 c1 c2 c3 : Nat) : Int))
    c0 c1 c2 c3 ((bit_of _).trans B0) ((bit_of _).trans B1) ((bit_of _).trans B2) ((bit_of _).trans B3) rfl ?_ ?_ ?_ ?_ ?_ ?_ ?_ ?_ (Num.merged_as c0 c1 c2 c3 d o d0 d1 o0 o1) w
  all_goals
    clear B0 B1 B2 B3
    unfold Hid
    revert c0 c1 c2 c3
    decide +kernel
/-- the document's bytes, laid so far -/
def rT (c0 c1 c2 c3 : Bool) (o d : Int) (k : Nat) : Int :=
  if k = 0 then 0 else if k = 1 then Num.pk c0 (d % 256) (o % 256) else if k = 2 then Num.pk c0 (d % 256) (o % 256) + 256 * Num.pk c1 (d / 256 % 256) (o / 256 % 256)
  else if k = 3 then Num.pk c0 (d % 256) (o % 256) + 256 * Num.pk c1 (d / 256 % 256) (o / 256 % 256) + 65536 * Num.pk c2 (d / 65536 % 256) (o / 65536 % 256)
  else Num.mg c0 c1 c2 c3 o d
theorem pk_in (c : Bool) (a b : Int) (h : 0 ≤ a ∧ a ≤ 255) (k : 0 ≤ b ∧ b ≤ 255) : 0 ≤ Num.pk c a b ∧ Num.pk c a b ≤ 255 := by cases c <;> assumption
theorem rmerge_all (c0 c1 c2 c3 : Bool) (o d m : Int) (o0 : 0 ≤ o) (o1 : o ≤ 4294967295) (d0 : 0 ≤ d) (d1 : d ≤ 4294967295) (B0 : (m % 2 == 1) = c0) (B1 : (m / 2 % 2 == 1) = c1) (B2 : (m / 4 % 2 == 1) = c2) (B3 : (m / 8 % 2 == 1) = c3) (w : World) :
    Calls Try.prog 22 #[.int .u32 o, .int .u32 d, .int .i64 m] w fun e w' => e = .returned (.int .u32 (Num.mg c0 c1 c2 c3 o d)) ∧ w' = w := by
  have p0 := pk_in c0 (d % 256) (o % 256) (by omega) (by omega)
  have p1 := pk_in c1 (d / 256 % 256) (o / 256 % 256) (by omega) (by omega)
  have p2 := pk_in c2 (d / 65536 % 256) (o / 65536 % 256) (by omega) (by omega)
  have l1 : 0 ≤ rT c0 c1 c2 c3 o d 1 ∧ rT c0 c1 c2 c3 o d 1 < 256 := by show 0 ≤ Num.pk c0 (d % 256) (o % 256) ∧ _ < _; exact ⟨p0.1, by have := p0.2; show Num.pk c0 (d % 256) (o % 256) < 256; omega⟩
  have l2 : 0 ≤ rT c0 c1 c2 c3 o d 2 ∧ rT c0 c1 c2 c3 o d 2 < 65536 := by
    have e : rT c0 c1 c2 c3 o d 2 = Num.pk c0 (d % 256) (o % 256) + 256 * Num.pk c1 (d / 256 % 256) (o / 256 % 256) := rfl
    omega
  have l3 : 0 ≤ rT c0 c1 c2 c3 o d 3 ∧ rT c0 c1 c2 c3 o d 3 < 16777216 := by
    have e : rT c0 c1 c2 c3 o d 3 = Num.pk c0 (d % 256) (o % 256) + 256 * Num.pk c1 (d / 256 % 256) (o / 256 % 256) + 65536 * Num.pk c2 (d / 65536 % 256) (o / 65536 % 256) := rfl
    omega
  have L0 := fun x x0 x1 => Num.lay 0 x 1 0 (.inl rfl) rfl (by decide) (by decide) x0 x1
  have L1 := fun x x0 x1 => Num.lay (rT c0 c1 c2 c3 o d 1) x 256 8 (.inr (.inl rfl)) rfl l1.1 l1.2 x0 x1
  have L2 := fun x x0 x1 => Num.lay (rT c0 c1 c2 c3 o d 2) x 65536 16 (.inr (.inr (.inl rfl))) rfl l2.1 l2.2 x0 x1
  have L3 := fun x x0 x1 => Num.lay (rT c0 c1 c2 c3 o d 3) x 16777216 24 (.inr (.inr (.inr rfl))) rfl l3.1 l3.2 x0 x1
  refine rmerge_core o d m _ (rT c0 c1 c2 c3 o d) c0 c1 c2 c3 ((bit_of _).trans B0) ((bit_of _).trans B1) ((bit_of _).trans B2) ((bit_of _).trans B3) rfl ?_ ?_ ?_ ?_ ?_ ?_ ?_ ?_ rfl w
  · intro h; subst h
    refine (L0 d d0 d1).trans ?_
    show _ = d % 256
    omega
  · intro h; subst h
    refine (L0 o o0 o1).trans ?_
    show _ = o % 256
    omega
  · intro h; subst h; exact L1 d d0 d1
  · intro h; subst h; exact L1 o o0 o1
  · intro h; subst h; exact L2 d d0 d1
  · intro h; subst h; exact L2 o o0 o1
  · intro h; subst h; exact L3 d d0 d1
  · intro h; subst h; exact L3 o o0 o1
theorem merge_as (o d m c : Int) (o0 : 0 ≤ o) (o1 : o ≤ 4294967295) (d0 : 0 ≤ d) (d1 : d ≤ 4294967295) (C : Hid (Num.mgm o d m = c)) (w : World) :
    Calls Try.prog 21 #[.int .u32 o, .int .u32 d, .int .i64 m] w fun e w' => e = .returned (.int .u32 c) ∧ w' = w := by
  obtain rfl : Num.mgm o d m = c := C
  exact merge_all _ _ _ _ o d m o0 o1 d0 d1 rfl rfl rfl rfl w
theorem rmerge_as (o d m c : Int) (o0 : 0 ≤ o) (o1 : o ≤ 4294967295) (d0 : 0 ≤ d) (d1 : d ≤ 4294967295) (C : Hid (Num.mgm o d m = c)) (w : World) :
    Calls Try.prog 22 #[.int .u32 o, .int .u32 d, .int .i64 m] w fun e w' => e = .returned (.int .u32 c) ∧ w' = w := by
  obtain rfl : Num.mgm o d m = c := C
  exact rmerge_all _ _ _ _ o d m o0 o1 d0 d1 rfl rfl rfl rfl w
end Go.Proofs.Ytedcamljgnblmaa.Al.Walks
