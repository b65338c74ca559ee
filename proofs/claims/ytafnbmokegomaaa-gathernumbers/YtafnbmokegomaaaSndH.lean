/-
  THE SENDERS' SCRIPTS, as meet asks them.
-/
import Derived.Test.YtafnbmokegomaaaSndC
import Derived.Test.YtafnbmokegomaaaSndA
import Derived.Test.YtafnbmokegomaaaPairs
set_option linter.unusedSimpArgs false
set_option linter.unusedVariables false
set_option linter.unusedSectionVars false
namespace Go.Proofs.Ytafnbmokegomaaa
open Go.Conc Go.RowKit

/-- a row of one's own, or a still one -/
def RowP (rows : PM) (row : Value) (n : Nat) (it : Nat → Rt) : Prop :=
  (∃ base cap, row = .slice base n cap) ∧ (0 < n → ∃ β off C ety fr cap, row = .slice (some ⟨β, off, none⟩) n cap ∧ rows β = some (.cells C ety fr) ∧ ∀ i, i < n → ∀ j v, (it i).cs[j]? = some v → C[off + i * 7 + j]? = some v)

theorem hsnd_of [Io] {Fin : Value → World → Prop} {sh : Nat → Prop} {rowA rowB : Value} {rows : PM} {n : Bool → Nat} {rw' : Bool → Nat → Rt} (hbig : ∀ b, n b < 1000000000000)
    (hA : RowP rows rowA (n false) (rw' false)) (hB : RowP rows rowB (n true) (rw' true)) :
    ∀ W c (b : Bool), (∀ γ o, rows γ = some o → γ < W) → W ≤ c → ∃ k, Snd (mkX Try.prog Fin (fun x => sh x ∨ x = W) W n (fun b k => .agg (rw' b k).cs.toArray) (.agg r0.cs.toArray) rows) b c k (.snd 0) none (born Try.prog (dcall 19 #[if b then rowB else rowA, .chan (some c), .pointer (some ⟨W, 0, none⟩)])) := by
  intro W c b hlt hc
  have hr : RowP rows (if b then rowB else rowA) (n b) (rw' b) := match b with
    | false => hA
    | true => hB
  refine born_s (W := W) (it := rw' b) rfl (fun m b₀ a₀ ops₀ i₀ rest₀ k₀ cs T cd hT hcd hQ => ?_) ⟨hr.1, fun h0 => ?_⟩ (hbig b) (fun k hk => rfl)
  · subst hT hcd
    exact addneg_s rfl rfl rfl hQ
  · obtain ⟨β, off, C, ety, fr, cap, h1, h2, h3⟩ := hr.2 h0
    exact ⟨β, off, C, ety, fr, cap, h1, fun w hw => hw β _ h2, by show rows β ≠ none; rw [h2]; simp, hlt β _ h2, h3⟩
end Go.Proofs.Ytafnbmokegomaaa
