/- Contract of the document's own Store. -/
import Derived.Test.YtekafmnpojbbdaaDoorRLoad
import Derived.Test.YtekafmnpojbbdaaDoorMStore
namespace Go.Proofs.YtekafmnpojbbdaaDoor.Walks
open Go.ChangeShapes Go.WideShapes Go.ChangeAt Go.RowKit
set_option linter.unusedVariables false
set_option maxHeartbeats 1000000 in
theorem rstore_ref (M : Nat) (a x m c : Int) (a0 : 0 ≤ a) (C : Hid (rfs a = c)) (hc : (c == 0) = false) (w : World) :
    Calls Tryd.prog 18 #[.pointer (some ⟨M, 0, none⟩), .int .u32 a, .int .u32 x, .int .i64 m] w fun e w' => e = .returned (.int .i64 c) ∧ w' = w := by
  go_enter Tryd.func18, Tryd.ntmps18
  go_wp2_with fail
  refine (rplace_as _ _ a0 C _).mono ?_; rintro e w ⟨rfl, rfl⟩
  go_wp2_with fail
  go_ret
  exact ⟨rfl, rfl⟩
set_option maxHeartbeats 2000000 in
theorem rstore_bad (M b d f nx : Nat) (ws : Nat → Nat) (a x m y v : Int) (a0 : 0 ≤ a) (a1 : a ≤ 4294967295) (hf : (f : Int) ≤ 4000000000000000000) (C : Hid (rfs a = 0))
    (V : Hid (((pkV 1024 ws (a / 4) : Nat) : Int) = v)) (S : Hid (((pkS 1024 ws (a / 4) : Nat) : Int) = 2)) (Y : bits .and .i64 m 15 = y) (hy : (y == 15) = false) (w : World) (hM : Hid (MemAt M b d ws f nx w)) :
    Calls Tryd.prog 18 #[.pointer (some ⟨M, 0, none⟩), .int .u32 a, .int .u32 x, .int .i64 m] w fun e w' => e = .returned (.int .i64 25) ∧ MNow M b d (gtW 1024 ws (a / 4)) (gtF 1024 ws f (a / 4)) nx w w' := by
  have hr := hM.out.hr
  go_enter Tryd.func18, Tryd.ntmps18
  go_wp2_with fail
  refine (rplace_as _ _ a0 C _).mono ?_; rintro e w' ⟨rfl, rfl⟩
  go_wp2_with fail
  refine (refget_as b d 1024 f ws (a / 4) _ _ V S (by decide) (by omega) _ hM.out.row).mono ?_; rintro e w1 ⟨rfl, hF⟩
  have HF := hideP (hM.out.row_now hF)
  clear hF
  go_wp2_with fail
  go_ret
  exact ⟨rfl, HF.out⟩
theorem quarter_wrap (a : Int) (a0 : 0 ≤ a) (a1 : a ≤ 4294967295) : IntKind.i64.wrap (IntKind.u32.wrap (a.tdiv 4)) = a / 4 := by
  rw [Int.tdiv_eq_ediv_of_nonneg a0, IntKind.wrap_i64]
  show _ = _
  rw [show IntKind.u32.wrap (a / 4) = a / 4 % 4294967296 from rfl]
  omega
set_option maxHeartbeats 4000000 in
theorem rstore_core (M b d f nx : Nat) (ws : Nat → Nat) (a k x m y v s z : Int) (t q : Bool) (a0 : 0 ≤ a) (a1 : a ≤ 4294967295) (hf : (f : Int) ≤ 4000000000000000000) (C : Hid (rfs a = 0)) (K : a / 4 = k) (E : IntKind.i64.wrap (IntKind.u32.wrap (a.tdiv 4)) = k)
    (V : Hid (((pkV 1024 ws k : Nat) : Int) = v)) (S : Hid (((pkS 1024 ws k : Nat) : Int) = s)) (hs : (s == 2) = t) (Y : bits .and .i64 m 15 = y) (hy : (y == 15) = q) (tq : t = false ∨ q = true) (x0 : 0 ≤ x) (x1 : x ≤ 4294967295) (v0 : 0 ≤ v) (v1 : v ≤ 4294967295)
    (Z : Hid (Al.Num.mgm v x m = z)) (z0 : 0 ≤ z) (z1 : z < 4294967296) (w : World) (hM : Hid (MemAt M b d ws f nx w)) :
    Calls Tryd.prog 18 #[.pointer (some ⟨M, 0, none⟩), .int .u32 a, .int .u32 x, .int .i64 m] w fun e w' => e = .returned (.int .i64 0) ∧ MNow M b d (ptW 1024 (gtW 1024 ws k) k z.toNat) (gtF 1024 ws f k) nx w w' := by
  have hr := hM.out.hr
  obtain ⟨g, G⟩ : ∃ g, Hid (inB 1024 k = g) := ⟨_, rfl⟩
  have tq' : t = false ∨ (t = true ∧ q = true) := by cases t <;> simp_all
  clear tq
  rcases tq' with rfl | ⟨rfl, rfl⟩
  all_goals
    go_enter Tryd.func18, Tryd.ntmps18
    go_wp2_with fail
    refine (rplace_as _ _ a0 C _).mono ?_; rintro e w' ⟨rfl, rfl⟩
    go_wp2_with fail
    refine (refget_as b d 1024 f ws _ _ _ V S (by decide) (by omega) _ hM.out.row).mono ?_; rintro e w1 ⟨rfl, hF⟩
    have HF := hideP (hM.out.row_now hF)
    have H1 : Hid (MemAt M b d (gtW 1024 ws k) (gtF 1024 ws f k) nx w1) := HF.out.1
    have hr1 := H1.out.hr
    clear hF
    go_wp2_with fail
    go_region_with (first
      | (go_at_call 38; refine (Al.Walks.rmerge_as _ _ _ _ v0 v1 x0 x1 Z _).mono ?_; rintro e w' ⟨rfl, rfl⟩)
      | (go_at_call 35; refine (refput_as b d 1024 (gtF 1024 ws f k) (gtW 1024 ws k) k _ _ G z0 z1 (by decide) _ (by exact H1.out.row.heap rfl)).mono ?_; rintro e w2 ⟨rfl, hF⟩))
    all_goals
      have HF2 := hideP (HF.out.trans (H1.out.row_now hF.drew))
      clear hF
      go_wp2_with fail
      go_ret
      exact ⟨rfl, HF2.out⟩
theorem rstore_as (M b d f nx : Nat) (ws : Nat → Nat) (a x m c : Int) (a0 : 0 ≤ a) (a1 : a ≤ 4294967295) (x0 : 0 ≤ x) (x1 : x ≤ 4294967295) (hf : (f : Int) ≤ 4000000000000000000)
    (C : Hid (stE ws a m = c)) (w : World) (hM : Hid (MemAt M b d ws f nx w)) :
    Calls Tryd.prog 18 #[.pointer (some ⟨M, 0, none⟩), .int .u32 a, .int .u32 x, .int .i64 m] w fun e w' => e = .returned (.int .i64 c) ∧ MNow M b d (stW ws a x m) (ldF ws f a) nx w w' := by
  have C := C.out
  unfold stE at C
  unfold stW ldF
  by_cases h : rfs a = 0
  · rw [if_pos h] at C ⊢
    rw [if_pos h]
    have hv := pkV_lt 1024 ws (a / 4)
    have e2 : (((pkS 1024 ws (a / 4) : Nat) : Int) == 2) = (pkS 1024 ws (a / 4) == 2) := by
      by_cases h2 : pkS 1024 ws (a / 4) = 2
      · rw [h2]; rfl
      · rw [beq_eq_false_iff_ne.2 h2, beq_eq_false_iff_ne]; omega
    cases hB : stB ws a m
    · rw [hB] at C
      rw [if_neg (by decide)] at C ⊢
      subst C
      unfold stB at hB
      have gi := mgm_in (pkV 1024 ws (a / 4) : Nat) x m
      exact rstore_core M b d f nx ws a _ x m _ _ _ _ _ _ a0 a1 hf h rfl (quarter_wrap a a0 a1) rfl rfl e2 (and15 m) rfl (by
        rcases Bool.eq_false_or_eq_true (pkS 1024 ws (a / 4) == 2) with h1 | h1
        · right; rw [h1] at hB; simpa using hB
        · left; exact h1) x0 x1 (by omega) (by omega) rfl gi.1 gi.2 w hM
    · rw [hB] at C
      rw [if_pos rfl] at C ⊢
      subst C
      unfold stB at hB
      rw [Bool.and_eq_true] at hB
      exact rstore_bad M b d f nx ws a x m _ _ a0 a1 hf h rfl (by unfold Hid; have := hB.1; rw [beq_iff_eq] at this; rw [this]; rfl) (and15 m) (by simpa using hB.2) w hM
  · rw [if_neg h] at C ⊢
    rw [if_neg h]
    exact (rstore_ref M a x m c a0 C (by rw [← C, beq_eq_false_iff_ne]; exact h) w).mono fun e w' hh => by obtain ⟨rfl, rfl⟩ := hh; exact ⟨rfl, MNow.refl hM.out⟩
end Go.Proofs.YtekafmnpojbbdaaDoor.Walks
