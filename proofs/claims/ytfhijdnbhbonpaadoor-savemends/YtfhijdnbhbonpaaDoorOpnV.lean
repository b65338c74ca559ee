/- An ask by value among a law's arguments. -/
import Derived.Test.YtfhijdnbhbonpaaDoorOpn
namespace Go.Proofs.YtfhijdnbhbonpaaDoor.Walks
open Go.ChangeShapes Go.WideShapes Go.ChangeAt Go.RowKit
set_option linter.unusedVariables false
theorem ask_arg {H : Type} {enc : TypeId × Value → H} {W : World} {r : Reach} {base : Nat} {v : Value} {d : DataW H} {ps : List MemPlace} (hv : Value.okWide Tryd.prog W r base 30 v)
    (h : DataW.Trod enc Tryd.prog W 0 (fun _ => true) true 30 v d ps) : ∃ c : Ak, v = .agg c.l.toArray ∧ c.In := by
  obtain ⟨cs, rfl, hs⟩ := okWide_struct Tryd.underlying30 hv
  obtain ⟨fuel, hf⟩ := h
  rw [cells30] at hs
  obtain ⟨l⟩ := cs
  have hl : l.length = 40 := hs
  obtain ⟨c, e, hc⟩ := ask_open (W := W) (enc := enc) hl (by simpa [Value.cells] using hf)
  exact ⟨c, by rw [e], hc⟩
end Go.Proofs.YtfhijdnbhbonpaaDoor.Walks
