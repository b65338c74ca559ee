/-
  DERIVED. GIVEN WITH THE SEED: THE CARDS: each row of YtfhijdnbhbonpaaDoorRows.lean that lists a variable, with what it lists TIED to the program's text (the seventh form; the later family's looks); each row that meets fmt, with fmt's text TOLD by the authors' own Lean function (tested against real Go, not proved from fmt's source: count such statements apart). THE CARD IS WHAT COUNTS. Prove the row's statement (the work); the ties are given (YtfhijdnbhbonpaaDoorTie.lean); close each card by the builder's one call (the guide's Derived/Test/ToyasCard.lean, 'card_holds'). Laid BY PROGRAM, IN A SANDBOX (cutbox-door.mjs). By AI agents, Wed Nov 11 2026. No macro, syntax, notation, axiom, sorry.
-/
import Derived.Test.YtfhijdnbhbonpaaDoorRows
import GoSem.ClaimSeven
namespace Go.Proofs.YtfhijdnbhbonpaaDoor
namespace Rows

/-- THE TIED CARD OF 'dioscurilaw17.SaveNumbers'. -/
def saveNumbersCard : Claim7 := { stood := { row := saveNumbersRow, standIns := [], harness := (true, "dd7b661ba4eab375cd6011bc33bc7c29b6c16b2f1f6cb2c2f771b4afb7f80200"), looks := false }, kinds := [], alts := [], laidByText := true, laidKinds := [.data], laidTests := true, laidLooks := .later }
def SaveNumbersCardSaid : Prop := Claim7.holds Tryd.pinned (.plain (OpenSpec.ofChange saveNumbersSpec)) saveNumbersCard

/-- THE TIED CARD OF 'dioscurilaw17.SavePlays'. -/
def savePlaysCard : Claim7 := { stood := { row := savePlaysRow, standIns := [], harness := (true, "dd7b661ba4eab375cd6011bc33bc7c29b6c16b2f1f6cb2c2f771b4afb7f80200"), looks := false }, kinds := [], alts := [], laidByText := true, laidKinds := [.data], laidTests := true, laidLooks := .later }
def SavePlaysCardSaid : Prop := Claim7.holds Tryd.pinned (.plain (OpenSpec.ofChange savePlaysSpec)) savePlaysCard

/-- THE TIED CARD OF 'dioscurilaw17.SaveMends'. -/
def saveMendsCard : Claim7 := { stood := { row := saveMendsRow, standIns := [], harness := (true, "dd7b661ba4eab375cd6011bc33bc7c29b6c16b2f1f6cb2c2f771b4afb7f80200"), looks := false }, kinds := [], alts := [], laidByText := true, laidKinds := [.data], laidTests := true, laidLooks := .later }
def SaveMendsCardSaid : Prop := Claim7.holds Tryd.pinned (.plain (OpenSpec.ofChange saveMendsSpec)) saveMendsCard

/-- THE TIED CARD OF 'dioscurilaw17.SaveLast'. -/
def saveLastCard : Claim7 := { stood := { row := saveLastRow, standIns := [], harness := (true, "dd7b661ba4eab375cd6011bc33bc7c29b6c16b2f1f6cb2c2f771b4afb7f80200"), looks := false }, kinds := [], alts := [], laidByText := true, laidKinds := [.data], laidTests := true, laidLooks := .later }
def SaveLastCardSaid : Prop := Claim7.holds Tryd.pinned (.plain (OpenSpec.ofChange saveLastSpec)) saveLastCard

/-- THE SECOND FORM's CARD OF 'dioscurilaw17.SaveNumbers'. -/
def saveNumbersUptoCard : Claim7 := { stood := { row := saveNumbersUptoRow, standIns := [], harness := (true, "dd7b661ba4eab375cd6011bc33bc7c29b6c16b2f1f6cb2c2f771b4afb7f80200"), looks := false }, kinds := [], alts := [], laidByText := true, laidKinds := [.data], laidTests := true, laidLooks := .later }
def SaveNumbersUptoCardSaid : Prop := Claim7.holds Tryd.pinned (.plain (OpenSpec.upto saveNumbersSpec)) saveNumbersUptoCard

/-- THE SECOND FORM's CARD OF 'dioscurilaw17.SavePlays'. -/
def savePlaysUptoCard : Claim7 := { stood := { row := savePlaysUptoRow, standIns := [], harness := (true, "dd7b661ba4eab375cd6011bc33bc7c29b6c16b2f1f6cb2c2f771b4afb7f80200"), looks := false }, kinds := [], alts := [], laidByText := true, laidKinds := [.data], laidTests := true, laidLooks := .later }
def SavePlaysUptoCardSaid : Prop := Claim7.holds Tryd.pinned (.plain (OpenSpec.upto savePlaysSpec)) savePlaysUptoCard

/-- THE SECOND FORM's CARD OF 'dioscurilaw17.SaveMends'. -/
def saveMendsUptoCard : Claim7 := { stood := { row := saveMendsUptoRow, standIns := [], harness := (true, "dd7b661ba4eab375cd6011bc33bc7c29b6c16b2f1f6cb2c2f771b4afb7f80200"), looks := false }, kinds := [], alts := [], laidByText := true, laidKinds := [.data], laidTests := true, laidLooks := .later }
def SaveMendsUptoCardSaid : Prop := Claim7.holds Tryd.pinned (.plain (OpenSpec.upto saveMendsSpec)) saveMendsUptoCard

/-- THE SECOND FORM's CARD OF 'dioscurilaw17.SaveLast'. -/
def saveLastUptoCard : Claim7 := { stood := { row := saveLastUptoRow, standIns := [], harness := (true, "dd7b661ba4eab375cd6011bc33bc7c29b6c16b2f1f6cb2c2f771b4afb7f80200"), looks := false }, kinds := [], alts := [], laidByText := true, laidKinds := [.data], laidTests := true, laidLooks := .later }
def SaveLastUptoCardSaid : Prop := Claim7.holds Tryd.pinned (.plain (OpenSpec.upto saveLastSpec)) saveLastUptoCard
end Rows
end Go.Proofs.YtfhijdnbhbonpaaDoor
