/- EncS: Contract of the document's Encode, for any instruction. -/
import Derived.Test.YtpkbkbllhpdfiaaGreatB29
namespace Go.Proofs.YtpkbkbllhpdfiaaGreat.Num
open Go.ChangeShapes Go.WideShapes Go.ChangeAt Go.RowKit
set_option linter.unusedVariables false
/-- an instruction that has a word has registers -/
theorem Ok.regs {f d a b n : Int} (h : Ok f d a b n) : 0 ≤ d ∧ d ≤ 31 ∧ 0 ≤ a ∧ a ≤ 31 ∧ 0 ≤ b ∧ b ≤ 31 := by unfold Ok at h; omega
theorem lt_zero {f : Int} (h : lt f = 0) (k : f = 1 ∨ f = 2 ∨ f = 3 ∨ f = 4 ∨ f = 5 ∨ f = 6 ∨ f = 7 ∨ f = 8 ∨ f = 9 ∨ f = 10) : False := by
  rcases k with rfl | rfl | rfl | rfl | rfl | rfl | rfl | rfl | rfl | rfl <;> revert h <;> decide
theorem Ok.fmt {f d a b n : Int} (h : Ok f d a b n) : f = 1 ∨ f = 2 ∨ f = 3 ∨ f = 4 ∨ f = 5 ∨ f = 6 ∨ f = 7 ∨ f = 8 ∨ f = 9 ∨ f = 10 := by unfold Ok at h; omega
theorem wrap_up (d p : Int) (d0 : 0 ≤ d) (d1 : d ≤ 31) (p0 : 0 ≤ p) (p1 : p ≤ 1048576) : IntKind.u32.wrap (IntKind.u32.wrap d * p) = d * p := by
  have e : IntKind.u32.wrap d = d := by rw [IntKind.wrap_u32]; omega
  rw [e, IntKind.wrap_u32]
  have h1 : 0 ≤ d * p := Int.mul_nonneg d0 p0
  have h2 : d * p ≤ 31 * 1048576 := Int.mul_le_mul d1 p1 p0 (by decide)
  omega
theorem rw_head (c d a b n : Int) : rw0 78 c d a b n = bits .or .u32 (bits .or .u32 c (d * 128)) (a * 32768) := by unfold rw0; rw [if_pos rfl]
theorem rw_tail (f c d a b n : Int) (h : f ≠ 78) : rw0 f c d a b n = bits .or .u32 (bits .or .u32 (bits .or .u32 c (d * 128)) (a * 32768)) (rb f b n) := by unfold rw0; rw [if_neg h]
end Go.Proofs.YtpkbkbllhpdfiaaGreat.Num
namespace Go.Proofs.YtpkbkbllhpdfiaaGreat.Walks
open Go.ChangeShapes Go.WideShapes Go.ChangeAt Go.RowKit
set_option linter.unusedVariables false
theorem rencode_as (o d a b n v : Int) (g : Bool) (E : Hid (Num.En o d a b n v g)) (w : World) :
    Calls Tryz.prog 27 #[.agg (cells o d a b n)] w fun e w' => e = .returned (.tuple #[.int .u32 v, .bool g]) ∧ Fr w w' := by
  obtain ⟨hg, yes, no⟩ := E.out
  have out : ¬ Num.Ok (Num.fm o) d a b n → v = 0 ∧ g = false := fun k => by
    cases g
    · exact ⟨no rfl, rfl⟩
    · exact absurd (hg.1 rfl) k
  by_cases z : Num.lt (Num.fm o) = 0
  · obtain ⟨rfl, rfl⟩ := out (fun k => Num.lt_zero z k.fmt)
    exact renc_f0 o d a b n z w
  have fz : (Num.lt (Num.fm o) == 0) = false := by simp [z]
  by_cases h1 : d < 0
  · obtain ⟨rfl, rfl⟩ := out (fun k => by have := k.regs; omega)
    exact renc_b0 o d a b n _ rfl fz h1 w
  by_cases h2 : 31 < d
  · obtain ⟨rfl, rfl⟩ := out (fun k => by have := k.regs; omega)
    exact renc_b1 o d a b n _ rfl fz h2 w
  by_cases h3 : a < 0
  · obtain ⟨rfl, rfl⟩ := out (fun k => by have := k.regs; omega)
    exact renc_b2 o d a b n _ rfl fz (by omega) (by omega) h3 w
  by_cases h4 : 31 < a
  · obtain ⟨rfl, rfl⟩ := out (fun k => by have := k.regs; omega)
    exact renc_b3 o d a b n _ rfl fz (by omega) (by omega) h4 w
  by_cases h5 : b < 0
  · obtain ⟨rfl, rfl⟩ := out (fun k => by have := k.regs; omega)
    exact renc_b4 o d a b n _ rfl fz (by omega) (by omega) (by omega) (by omega) h5 w
  by_cases h6 : 31 < b
  · obtain ⟨rfl, rfl⟩ := out (fun k => by have := k.regs; omega)
    exact renc_b5 o d a b n _ rfl fz (by omega) (by omega) (by omega) (by omega) h6 w
  have oo : 1 ≤ o ∧ o ≤ 55 := by
    by_cases x : o < 1 ∨ 55 < o
    · exfalso; apply z; rw [Num.fm, if_pos x]; decide
    · omega
  obtain ⟨k, hk⟩ := Int.eq_ofNat_of_zero_le (show 0 ≤ o - 1 by omega)
  have e : o = (k : Int) + 1 := by omega
  subst e
  have fs : Num.lt (Num.fm ((k : Int) + 1)) = 85 ∨ Num.lt (Num.fm ((k : Int) + 1)) = 74 ∨ Num.lt (Num.fm ((k : Int) + 1)) = 73 ∨ Num.lt (Num.fm ((k : Int) + 1)) = 66 ∨ Num.lt (Num.fm ((k : Int) + 1)) = 83 ∨ Num.lt (Num.fm ((k : Int) + 1)) = 72 ∨ Num.lt (Num.fm ((k : Int) + 1)) = 82 ∨ Num.lt (Num.fm ((k : Int) + 1)) = 67 ∨ Num.lt (Num.fm ((k : Int) + 1)) = 78 := by
    rcases Num.fm_is ((k : Int) + 1) with h | h | h | h | h | h | h | h | h | ⟨h, _⟩ | ⟨h, _⟩ <;> rw [h] at z ⊢ <;> first | (exact absurd rfl z) | decide
  have r := Num.raw_ref ((k : Int) + 1) d a b n
  have v0 : 0 ≤ Num.rw0 (Num.lt (Num.fm ((k : Int) + 1))) (Num.cd ((k : Int) + 1)) d a b n := by unfold Num.rw0; split <;> exact bits_lo_u32 _ _ _
  generalize hf : Num.lt (Num.fm ((k : Int) + 1)) = f at r v0 fz fs
  generalize hV : Num.rw0 f (Num.cd ((k : Int) + 1)) d a b n = V at r v0
  obtain ⟨o', d', a', b', n', g', D⟩ := Num.Dec.ex V
  have B := Num.En.back r D
  have X1 : g = true → v = V := fun x => (yes x).trans (r (hg.1 x)).symm
  have Y : g' = true ∧ o' = (k : Int) + 1 ∧ d' = d ∧ a' = a ∧ b' = b ∧ n' = n → g = true := fun x => hg.2 (B.1 x)
  have X : ¬ (g' = true ∧ o' = (k : Int) + 1 ∧ d' = d ∧ a' = a ∧ b' = b ∧ n' = n) → v = 0 ∧ g = false := fun x => out (fun y => x (B.2 y))
  have hh : ∀ V', V = V' → Num.Dec V' o' d' a' b' n' g' ∧ (g = true → v = V') := fun V' h => h ▸ ⟨D, X1⟩
  have t : ∀ L, f = L → L ≠ 78 → V = bits .or .u32 (bits .or .u32 (bits .or .u32 (Num.cd ((k : Int) + 1)) (d * 128)) (a * 32768)) (Num.rb L b n) := fun L h h' => by
    rw [← hV, h, Num.rw_tail L _ d a b n h']
  refine renc_good d a b n (Num.cd ((k : Int) + 1)) f (bits .or .u32 (bits .or .u32 (Num.cd ((k : Int) + 1)) (d * 128)) (a * 32768)) v o' d' a' b' n' g g' k (by omega) (by omega) ⟨by omega, by omega⟩ (by rw [IntKind.wrap_i64]; omega) (tabC_at k (by omega)) (hideP hf) fz (hideP fs) (by omega) (by omega) (by omega) (by omega) (by omega) (by omega)
    (hideP (by rw [Num.wrap_up d 128 (by omega) (by omega) (by decide) (by decide), Num.wrap_up a 32768 (by omega) (by omega) (by decide) (by decide)])) (hideP (bits_lo_u32 _ _ _)) (hideP (bits_hi_u32 _ _ _))
    (hideP fun h => (hh _ ?_).1) (hideP fun h => (hh _ ?_).2) (hideP fun h => (hh _ ?_).1) (hideP fun h => (hh _ ?_).2) (hideP fun h => (hh _ ?_).1) (hideP fun h => (hh _ ?_).2)
    (hideP fun h => (hh _ ?_).1) (hideP fun h => (hh _ ?_).2) (hideP fun h => (hh _ ?_).1) (hideP fun h => (hh _ ?_).2) (hideP fun h => (hh _ ?_).1) (hideP fun h => (hh _ ?_).2)
    (hideP fun h => (hh _ ?_).1) (hideP fun h => (hh _ ?_).2) (hideP fun h => (hh _ ?_).1) (hideP fun h => (hh _ ?_).2) (hideP fun h => (hh _ ?_).1) (hideP fun h => (hh _ ?_).2)
    (hideP Y) (hideP X) w
  all_goals first
    | (rw [t _ h (by decide)]; unfold Num.rb; repeat (first | rw [if_pos (by decide)] | rw [if_neg (by decide)]))
    | (rw [← hV, h, Num.rw_head])
end Go.Proofs.YtpkbkbllhpdfiaaGreat.Walks
