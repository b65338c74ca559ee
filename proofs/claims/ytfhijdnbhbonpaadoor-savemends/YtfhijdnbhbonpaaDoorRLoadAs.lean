/- Contract of the document's own Load in one form. -/
import Derived.Test.YtfhijdnbhbonpaaDoorRLoad
import Derived.Test.YtfhijdnbhbonpaaDoorLoadAs
namespace Go.Proofs.YtfhijdnbhbonpaaDoor.Walks
open Go.ChangeShapes Go.WideShapes Go.ChangeAt Go.RowKit
set_option linter.unusedVariables false
theorem rload_as (M b d f nx : Nat) (ws : Nat → Nat) (hf : (f : Int) < 4611686018427386000) (w : World) (hS : Hid (SAt M b d ws f nx w)) :
    Calls Tryd.prog 17 #[.pointer (some ⟨M, 0, none⟩)] w fun e w' => e = .returned (tld ws) ∧ SNow M b d (ldW ws) (ldF ws f) nx w w' := by
  have l1 := lat_le ws
  have hfa : ((fdA ws f : Nat) : Int) < 4611686018427387000 := by have := fdA_le ws f; omega
  have HO : Hid (((1 - lat ws : Nat) : Int) = 1 - ((lat ws : Nat) : Int)) := by unfold Hid; omega
  have b37 : ∀ vs q, ((gtV vs q 37 : Nat) : Int) < 4294967296 := fun vs q => by have := gtV_lt vs q 37; omega
  cases h1 : ld1 ws
  · have eW : ldW ws = ldB ws := by unfold ldW; rw [if_neg (by rw [h1]; decide)]
    have eF : ldF ws f = fdB ws f := by unfold ldF; rw [if_neg (by rw [h1]; decide)]
    rw [eW, eF]
    cases h2 : ld2 ws
    · have hv : ldV ws = false := by unfold ldV; rw [h1, h2]; rfl
      rw [tld_no hv]
      exact rload_no M b d f nx (lat ws) ws (knw ws) (by omega) (hideP rfl) (hideP rfl) hf (ldA ws) (fdA ws f) _ (hideP rfl) (hideP rfl) (hideP rfl) (hideP h1) hfa (1 - lat ws) HO (by omega) (ldB ws) (fdB ws f) _ (hideP rfl) (hideP rfl) (hideP rfl) (hideP h2) w hS
    · cases hk : knw ws
      · have hv : ldV ws = false := by unfold ldV; rw [hk, Bool.and_false]
        rw [tld_no hv]
        exact rload_ff M b d f nx (lat ws) ws (by omega) (hideP rfl) (hideP hk) hf (ldA ws) (fdA ws f) _ (hideP rfl) (hideP rfl) (hideP rfl) (hideP h1) hfa (1 - lat ws) HO (by omega) (ldB ws) (fdB ws f) _ (hideP rfl) (hideP rfl) (hideP rfl) (hideP h2) w hS
      · have hv : ldV ws = true := by unfold ldV; rw [h1, h2, hk]; rfl
        rw [tld_yes hv (ldC_2 h1)]
        exact rload_ft M b d f nx (lat ws) ws (by omega) (hideP rfl) (hideP hk) hf (ldA ws) (fdA ws f) _ (hideP rfl) (hideP rfl) (hideP rfl) (hideP h1) hfa (1 - lat ws) HO (by omega) (ldB ws) (fdB ws f) _ (hideP rfl) (hideP rfl) (hideP rfl) (hideP h2) _ _ (hideP rfl) (hideP rfl) (b37 _ _) w hS
  · have eW : ldW ws = ldA ws := by unfold ldW; rw [if_pos h1]
    have eF : ldF ws f = fdA ws f := by unfold ldF; rw [if_pos h1]
    rw [eW, eF]
    cases hk : knw ws
    · have hv : ldV ws = false := by unfold ldV; rw [hk, Bool.and_false]
      rw [tld_no hv]
      exact rload_tf M b d f nx (lat ws) ws (by omega) (hideP rfl) (hideP hk) hf (ldA ws) (fdA ws f) _ (hideP rfl) (hideP rfl) (hideP rfl) (hideP h1) hfa w hS
    · have hv : ldV ws = true := by unfold ldV; rw [h1, hk]; rfl
      rw [tld_yes hv (ldC_1 h1)]
      exact rload_tt M b d f nx (lat ws) ws (by omega) (hideP rfl) (hideP hk) hf (ldA ws) (fdA ws f) _ (hideP rfl) (hideP rfl) (hideP rfl) (hideP h1) hfa _ _ (hideP rfl) (hideP rfl) (b37 _ _) w hS
end Go.Proofs.YtfhijdnbhbonpaaDoor.Walks
