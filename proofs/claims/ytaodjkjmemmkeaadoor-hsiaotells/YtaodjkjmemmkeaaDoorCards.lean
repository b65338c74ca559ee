/-
  DERIVED. GIVEN WITH THE SEED: THE CARDS: each row of YtaodjkjmemmkeaaDoorRows.lean that lists a variable, with what it lists TIED to the program's text (the seventh form; the later family's looks); each row that meets fmt, with fmt's text TOLD by the authors' own Lean function (tested against real Go, not proved from fmt's source: count such statements apart). THE CARD IS WHAT COUNTS. Prove the row's statement (the work); the ties are given (YtaodjkjmemmkeaaDoorTie.lean); close each card by the builder's one call (the guide's Derived/Test/ToyasCard.lean, 'card_holds'). Laid BY PROGRAM, IN A SANDBOX (cutbox-door.mjs). By AI agents, Wed Nov 11 2026. No macro, syntax, notation, axiom, sorry.
-/
import Derived.Test.YtaodjkjmemmkeaaDoorRows
import GoSem.ClaimSeven
namespace Go.Proofs.YtaodjkjmemmkeaaDoor
namespace Rows

/-- THE TIED CARD OF 'dioscurilaw2.HsiaoTells'. -/
def hsiaoTellsCard : Claim7 := { stood := { row := hsiaoTellsRow, standIns := [], harness := (true, "835c757cf008591c3346fb44e5d3290509ba724393922d877330e6c88a1d6c3b"), looks := false }, kinds := [], alts := [], laidByText := true, laidKinds := [.data], laidTests := true, laidLooks := .later }
def HsiaoTellsCardSaid : Prop := Claim7.holds Tryd.pinned (.plain (OpenSpec.ofChange hsiaoTellsSpec)) hsiaoTellsCard

/-- THE TIED CARD OF 'dioscurilaw2.HsiaoMends'. -/
def hsiaoMendsCard : Claim7 := { stood := { row := hsiaoMendsRow, standIns := [], harness := (true, "835c757cf008591c3346fb44e5d3290509ba724393922d877330e6c88a1d6c3b"), looks := false }, kinds := [], alts := [], laidByText := true, laidKinds := [.data], laidTests := true, laidLooks := .later }
def HsiaoMendsCardSaid : Prop := Claim7.holds Tryd.pinned (.plain (OpenSpec.ofChange hsiaoMendsSpec)) hsiaoMendsCard

/-- THE TIED CARD OF 'dioscurilaw2.HsiaoAdds'. -/
def hsiaoAddsCard : Claim7 := { stood := { row := hsiaoAddsRow, standIns := [], harness := (true, "835c757cf008591c3346fb44e5d3290509ba724393922d877330e6c88a1d6c3b"), looks := false }, kinds := [], alts := [], laidByText := true, laidKinds := [.data], laidTests := true, laidLooks := .later }
def HsiaoAddsCardSaid : Prop := Claim7.holds Tryd.pinned (.plain (OpenSpec.ofChange hsiaoAddsSpec)) hsiaoAddsCard

/-- THE TIED CARD OF 'dioscurilaw2.HsiaoData'. -/
def hsiaoDataCard : Claim7 := { stood := { row := hsiaoDataRow, standIns := [], harness := (true, "835c757cf008591c3346fb44e5d3290509ba724393922d877330e6c88a1d6c3b"), looks := false }, kinds := [], alts := [], laidByText := true, laidKinds := [.data], laidTests := true, laidLooks := .later }
def HsiaoDataCardSaid : Prop := Claim7.holds Tryd.pinned (.plain (OpenSpec.ofChange hsiaoDataSpec)) hsiaoDataCard

/-- THE SECOND FORM's CARD OF 'dioscurilaw2.HsiaoTells'. -/
def hsiaoTellsUptoCard : Claim7 := { stood := { row := hsiaoTellsUptoRow, standIns := [], harness := (true, "835c757cf008591c3346fb44e5d3290509ba724393922d877330e6c88a1d6c3b"), looks := false }, kinds := [], alts := [], laidByText := true, laidKinds := [.data], laidTests := true, laidLooks := .later }
def HsiaoTellsUptoCardSaid : Prop := Claim7.holds Tryd.pinned (.plain (OpenSpec.upto hsiaoTellsSpec)) hsiaoTellsUptoCard

/-- THE SECOND FORM's CARD OF 'dioscurilaw2.HsiaoMends'. -/
def hsiaoMendsUptoCard : Claim7 := { stood := { row := hsiaoMendsUptoRow, standIns := [], harness := (true, "835c757cf008591c3346fb44e5d3290509ba724393922d877330e6c88a1d6c3b"), looks := false }, kinds := [], alts := [], laidByText := true, laidKinds := [.data], laidTests := true, laidLooks := .later }
def HsiaoMendsUptoCardSaid : Prop := Claim7.holds Tryd.pinned (.plain (OpenSpec.upto hsiaoMendsSpec)) hsiaoMendsUptoCard

/-- THE SECOND FORM's CARD OF 'dioscurilaw2.HsiaoAdds'. -/
def hsiaoAddsUptoCard : Claim7 := { stood := { row := hsiaoAddsUptoRow, standIns := [], harness := (true, "835c757cf008591c3346fb44e5d3290509ba724393922d877330e6c88a1d6c3b"), looks := false }, kinds := [], alts := [], laidByText := true, laidKinds := [.data], laidTests := true, laidLooks := .later }
def HsiaoAddsUptoCardSaid : Prop := Claim7.holds Tryd.pinned (.plain (OpenSpec.upto hsiaoAddsSpec)) hsiaoAddsUptoCard

/-- THE SECOND FORM's CARD OF 'dioscurilaw2.HsiaoData'. -/
def hsiaoDataUptoCard : Claim7 := { stood := { row := hsiaoDataUptoRow, standIns := [], harness := (true, "835c757cf008591c3346fb44e5d3290509ba724393922d877330e6c88a1d6c3b"), looks := false }, kinds := [], alts := [], laidByText := true, laidKinds := [.data], laidTests := true, laidLooks := .later }
def HsiaoDataUptoCardSaid : Prop := Claim7.holds Tryd.pinned (.plain (OpenSpec.upto hsiaoDataSpec)) hsiaoDataUptoCard
end Rows
end Go.Proofs.YtaodjkjmemmkeaaDoor
