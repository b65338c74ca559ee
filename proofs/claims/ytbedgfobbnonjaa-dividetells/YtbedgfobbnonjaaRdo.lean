/- Contract of the document's own Do: for any op. -/
import Derived.Test.YtbedgfobbnonjaaDoR
namespace Go.Proofs.Ytbedgfobbnonjaa.Walks
open Go.ChangeShapes Go.WideShapes Go.ChangeAt Go.RowKit
theorem low_in (b : Int) : 0 ≤ b % 32 ∧ b % 32 ≤ 31 := by omega
theorem u64_in (a b : Int) (a0 : 0 ≤ a) (a1 : a ≤ 4294967295) (b0 : 0 ≤ b) (b1 : b ≤ 4294967295) : IntKind.u64.wrap (a * b) = a * b := by
  have h : (a * b).natAbs ≤ 4294967295 * 4294967295 := by rw [Int.natAbs_mul]; exact Nat.mul_le_mul (by omega) (by omega)
  have p : 0 ≤ a * b := Int.mul_nonneg a0 b0
  exact IntWalk.u64_in _ (by omega)
theorem xy_in (a b : Int) : wrap64 (wrap32 a * wrap32 b) = wrap32 a * wrap32 b := by
  have x := Num.w32_in a; have y := Num.w32_in b
  exact Num.w64_of (Num.mul_in _ _ x.1 x.2 y.1 (by omega))
theorem xb_in (a b : Int) (b0 : 0 ≤ b) (b1 : b ≤ 4294967295) : wrap64 (wrap32 a * b) = wrap32 a * b := by
  have x := Num.w32_in a
  exact Num.w64_of (Num.mul_in _ _ x.1 x.2 (by omega) b1)
theorem td_in (a b : Int) : wrap64 ((wrap32 a).tdiv (wrap32 b)) = (wrap32 a).tdiv (wrap32 b) := by
  have x := Num.w32_in a
  have := Num.tdiv_in _ (wrap32 b) x.1 x.2
  exact Num.w64_of (by omega)
theorem rdo_as (op a b c : Int) (a0 : 0 ≤ a) (a1 : a ≤ 4294967295) (b0 : 0 ≤ b) (b1 : b ≤ 4294967295) (H : Hid (Num.ad op a b = c)) (w : World) :
    Calls Try.prog 13 #[.int .i64 op, .int .u32 a, .int .u32 b] w fun e w' => e = .returned (.int .u32 c) ∧ w' = w := by
  rw [← H.out]; clear H
  by_cases h28 : op = 28
  · subst h28; exact rdo28 a b w
  by_cases h19 : op = 19
  · subst h19; exact rdo19 a b w
  by_cases h29 : op = 29
  · subst h29; exact rdo29 a b w
  by_cases h30 : op = 30
  · subst h30; exact rdo30 a b _ (low_in b).1 (low_in b).2 (Num.low5 b b0 b1) w
  by_cases h25 : op = 25
  · subst h25; exact rdo25 a b _ (low_in b).1 (low_in b).2 (Num.low5 b b0 b1) w
  by_cases h31 : op = 31
  · subst h31; exact rdo31 a b w
  by_cases h20 : op = 20
  · subst h20; exact rdo20 a b w
  by_cases h32 : op = 32
  · subst h32; exact rdo32 a b w
  by_cases h21 : op = 21
  · subst h21; exact rdo21 a b w
  by_cases h33 : op = 33
  · subst h33; exact rdo33 a b w
  by_cases h22 : op = 22
  · subst h22; exact rdo22 a b w
  by_cases h34 : op = 34
  · subst h34; exact rdo34 a b _ (low_in b).1 (low_in b).2 (Num.low5 b b0 b1) w
  by_cases h26 : op = 26
  · subst h26; exact rdo26 a b _ (low_in b).1 (low_in b).2 (Num.low5 b b0 b1) w
  by_cases h35 : op = 35
  · subst h35; exact rdo35 a b _ (low_in b).1 (low_in b).2 (Num.low5 b b0 b1) w
  by_cases h27 : op = 27
  · subst h27; exact rdo27 a b _ (low_in b).1 (low_in b).2 (Num.low5 b b0 b1) w
  by_cases h36 : op = 36
  · subst h36; exact rdo36 a b w
  by_cases h23 : op = 23
  · subst h23; exact rdo23 a b w
  by_cases h37 : op = 37
  · subst h37; exact rdo37 a b w
  by_cases h24 : op = 24
  · subst h24; exact rdo24 a b w
  by_cases h38 : op = 38
  · subst h38; exact rdo38 a b _ (fun w => slow38 a b w) w
  by_cases h39 : op = 39
  · subst h39; exact rdo39 a b _ (fun w => slow39 a b _ _ (Num.w64_w32 a) (Num.w64_w32 b) _ (xy_in a b) w) w
  by_cases h40 : op = 40
  · subst h40; exact rdo40 a b _ (fun w => slow40 a b _ _ (Num.w64_w32 a) (Num.w64_w32 b) _ (xb_in a b b0 b1) b0 b1 w) w
  by_cases h41 : op = 41
  · subst h41; exact rdo41 a b _ (fun w => slow41 a b a0 a1 b0 b1 _ (u64_in a b a0 a1 b0 b1) w) w
  by_cases h42 : op = 42
  · subst h42; 
    by_cases z : b = 0
    · subst z; exact rdo42 a 0 _ (fun w => slow42z a w) w
    · refine rdo42 a b _ (fun w => ?_) w
      rw [show Num.ad 42 a b = Num.dv a b from rfl, Num.dv, if_neg z]
      exact slow42 a b _ _ (Num.w64_w32 a) (Num.w64_w32 b) _ (td_in a b) (by simp [z]) (Num.w32_zero b b0 b1 z) w
  by_cases h43 : op = 43
  · subst h43; 
    by_cases z : b = 0
    · subst z; exact rdo43 a 0 _ (fun w => slow43z a w) w
    · refine rdo43 a b _ (fun w => ?_) w
      rw [show Num.ad 43 a b = Num.du a b from rfl, Num.du, if_neg z]
      exact slow43 a b a0 a1 b0 b1 (by simp [z]) z w
  by_cases h44 : op = 44
  · subst h44; 
    by_cases z : b = 0
    · subst z; exact rdo44 a 0 _ (fun w => slow44z a w) w
    · refine rdo44 a b _ (fun w => ?_) w
      rw [show Num.ad 44 a b = Num.rm a b from rfl, Num.rm, if_neg z]
      exact slow44 a b _ _ (Num.w64_w32 a) (Num.w64_w32 b) (by simp [z]) (Num.w32_zero b b0 b1 z) w
  by_cases h45 : op = 45
  · subst h45; 
    by_cases z : b = 0
    · subst z; exact rdo45 a 0 _ (fun w => slow45z a w) w
    · refine rdo45 a b _ (fun w => ?_) w
      rw [show Num.ad 45 a b = Num.ru a b from rfl, Num.ru, if_neg z]
      exact slow45 a b a0 a1 b0 b1 (by simp [z]) z w
  have v : Num.ad op a b = 0 := by unfold Num.ad; rw [if_neg h28]; rw [if_neg h19]; rw [if_neg h29]; rw [if_neg h30]; rw [if_neg h25]; rw [if_neg h31]; rw [if_neg h20]; rw [if_neg h32]; rw [if_neg h21]; rw [if_neg h33]; rw [if_neg h22]; rw [if_neg h34]; rw [if_neg h26]; rw [if_neg h35]; rw [if_neg h27]; rw [if_neg h36]; rw [if_neg h23]; rw [if_neg h37]; rw [if_neg h24]; rw [if_neg h38]; rw [if_neg h39]; rw [if_neg h40]; rw [if_neg h41]; rw [if_neg h42]; rw [if_neg h43]; rw [if_neg h44]; rw [if_neg h45]
  rw [v]
  exact rdoNo op a b (by simp [h28]) (by simp [h19]) (by simp [h29]) (by simp [h30]) (by simp [h25]) (by simp [h31]) (by simp [h20]) (by simp [h32]) (by simp [h21]) (by simp [h33]) (by simp [h22]) (by simp [h34]) (by simp [h26]) (by simp [h35]) (by simp [h27]) (by simp [h36]) (by simp [h23]) (by simp [h37]) (by simp [h24]) (by simp [h38]) (by simp [h39]) (by simp [h40]) (by simp [h41]) (by simp [h42]) (by simp [h43]) (by simp [h44]) (by simp [h45]) w
end Go.Proofs.Ytbedgfobbnonjaa.Walks
