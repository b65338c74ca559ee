/- Contract of Load in one form. -/
import Derived.Test.YtfhijdnbhbonpaaDoorLoad
namespace Go.Proofs.YtfhijdnbhbonpaaDoor.Walks
open Go.ChangeShapes Go.WideShapes Go.ChangeAt Go.RowKit
set_option linter.unusedVariables false
/-- what a Load tells -/
def tld (ws : Nat → Nat) : Value := .tuple #[.int .u32 (tP ws : Nat), .agg (wn (tR ws) 32).toArray, .agg (wn (tC ws) 5).toArray, .int .i64 (tN ws : Nat), .bool (ldV ws)]
theorem tld_no {ws : Nat → Nat} (h : ldV ws = false) : tld ws = .tuple #[.int .u32 0, .agg (wn w0 32).toArray, .agg (wn w0 5).toArray, .int .i64 0, .bool false] := by
  have e1 : tR ws = w0 := by funext i; unfold tR; rw [if_neg (by rw [h]; decide)]; rfl
  have e2 : tC ws = w0 := by funext i; unfold tC; rw [if_neg (by rw [h]; decide)]; rfl
  have e3 : tP ws = 0 := by unfold tP; rw [if_neg (by rw [h]; decide)]
  have e4 : tN ws = 0 := by unfold tN; rw [if_neg (by rw [h]; decide)]
  unfold tld
  rw [e1, e2, e3, e4, h]
  rfl
theorem tld_yes {ws p : Nat → Nat} (h : ldV ws = true) (hp : ldC ws = p) : tld ws = .tuple #[.int .u32 (p 0 : Nat), .agg (wn (rgs p) 32).toArray, .agg (wn (css p) 5).toArray, .int .i64 (p 37 : Nat), .bool true] := by
  have e1 : tR ws = rgs p := by funext i; unfold tR; rw [if_pos h, hp]; rfl
  have e2 : tC ws = css p := by funext i; unfold tC; rw [if_pos h, hp]; rfl
  have e3 : tP ws = p 0 := by unfold tP; rw [if_pos h, hp]
  have e4 : tN ws = p 37 := by unfold tN; rw [if_pos h, hp]
  unfold tld
  rw [e1, e2, e3, e4, h]
theorem ldC_1 {ws : Nat → Nat} (h : ld1 ws = true) : ldC ws = gtV (ws1 ws) (39 * lat ws) := by funext i; unfold ldC; rw [if_pos h]
theorem ldC_2 {ws : Nat → Nat} (h : ld1 ws = false) : ldC ws = gtV (ldA ws) (39 * (1 - lat ws)) := by funext i; unfold ldC; rw [if_neg (by rw [h]; decide)]
theorem load_as (M b d f nx : Nat) (ws : Nat → Nat) (hf : (f : Int) < 4611686018427386000) (w : World) (hS : Hid (SAt M b d ws f nx w)) :
    Calls Tryd.prog 14 #[.pointer (some ⟨M, 0, none⟩)] w fun e w' => e = .returned (tld ws) ∧ SNow M b d (ldW ws) (ldF ws f) nx w w' := by
  have l1 := lat_le ws
  have hfa : ((fdA ws f : Nat) : Int) < 4611686018427387000 := by have := fdA_le ws f; omega
  have HO : (1 : Int) - (lat ws : Nat) = ((1 - lat ws : Nat) : Int) := by omega
  have b37 : ∀ vs q, ((gtV vs q 37 : Nat) : Int) < 4294967296 := fun vs q => by have := gtV_lt vs q 37; omega
  cases h1 : ld1 ws
  · have eW : ldW ws = ldB ws := by unfold ldW; rw [if_neg (by rw [h1]; decide)]
    have eF : ldF ws f = fdB ws f := by unfold ldF; rw [if_neg (by rw [h1]; decide)]
    rw [eW, eF]
    cases h2 : ld2 ws
    · have hv : ldV ws = false := by unfold ldV; rw [h1, h2]; rfl
      rw [tld_no hv]
      exact load_no M b d f nx (lat ws) ws (knw ws) (by omega) (hideP rfl) (hideP rfl) hf (ldA ws) (fdA ws f) _ (hideP rfl) (hideP rfl) (hideP rfl) (hideP h1) hfa (1 - lat ws) HO (by omega) (ldB ws) (fdB ws f) _ (hideP rfl) (hideP rfl) (hideP rfl) (hideP h2) w hS
    · cases hk : knw ws
      · have hv : ldV ws = false := by unfold ldV; rw [hk, Bool.and_false]
        rw [tld_no hv]
        exact load_ff M b d f nx (lat ws) ws (by omega) (hideP rfl) (hideP hk) hf (ldA ws) (fdA ws f) _ (hideP rfl) (hideP rfl) (hideP rfl) (hideP h1) hfa (1 - lat ws) HO (by omega) (ldB ws) (fdB ws f) _ (hideP rfl) (hideP rfl) (hideP rfl) (hideP h2) w hS
      · have hv : ldV ws = true := by unfold ldV; rw [h1, h2, hk]; rfl
        rw [tld_yes hv (ldC_2 h1)]
        exact load_ft M b d f nx (lat ws) ws (by omega) (hideP rfl) (hideP hk) hf (ldA ws) (fdA ws f) _ (hideP rfl) (hideP rfl) (hideP rfl) (hideP h1) hfa (1 - lat ws) HO (by omega) (ldB ws) (fdB ws f) _ (hideP rfl) (hideP rfl) (hideP rfl) (hideP h2) _ _ (hideP rfl) (hideP rfl) (b37 _ _) w hS
  · have eW : ldW ws = ldA ws := by unfold ldW; rw [if_pos h1]
    have eF : ldF ws f = fdA ws f := by unfold ldF; rw [if_pos h1]
    rw [eW, eF]
    cases hk : knw ws
    · have hv : ldV ws = false := by unfold ldV; rw [hk, Bool.and_false]
      rw [tld_no hv]
      exact load_tf M b d f nx (lat ws) ws (by omega) (hideP rfl) (hideP hk) hf (ldA ws) (fdA ws f) _ (hideP rfl) (hideP rfl) (hideP rfl) (hideP h1) hfa w hS
    · have hv : ldV ws = true := by unfold ldV; rw [h1, hk]; rfl
      rw [tld_yes hv (ldC_1 h1)]
      exact load_tt M b d f nx (lat ws) ws (by omega) (hideP rfl) (hideP hk) hf (ldA ws) (fdA ws f) _ (hideP rfl) (hideP rfl) (hideP rfl) (hideP h1) hfa _ _ (hideP rfl) (hideP rfl) (b37 _ _) w hS
end Go.Proofs.YtfhijdnbhbonpaaDoor.Walks
