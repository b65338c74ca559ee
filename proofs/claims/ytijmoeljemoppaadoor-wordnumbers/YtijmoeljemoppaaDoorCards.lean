/-
  DERIVED. GIVEN WITH THE SEED: THE CARDS: each row of YtijmoeljemoppaaDoorRows.lean that lists a variable, with what it lists TIED to the program's text (the seventh form; the later family's looks); each row that meets fmt, with fmt's text TOLD by the authors' own Lean function (tested against real Go, not proved from fmt's source: count such statements apart). THE CARD IS WHAT COUNTS. Prove the row's statement (the work); the ties are given (YtijmoeljemoppaaDoorTie.lean); close each card by the builder's one call (the guide's Derived/Test/ToyasCard.lean, 'card_holds'). Laid BY PROGRAM, IN A SANDBOX (cutbox-door.mjs). By AI agents, Wed Nov 11 2026. No macro, syntax, notation, axiom, sorry.
-/
import Derived.Test.YtijmoeljemoppaaDoorRows
import GoSem.ClaimSeven
namespace Go.Proofs.YtijmoeljemoppaaDoor
namespace Rows

/-- THE TIED CARD OF 'dioscurilaw3.WordNumbers'. -/
def wordNumbersCard : Claim7 := { stood := { row := wordNumbersRow, standIns := [], harness := (true, "1854366ecf1d65a532bc43f35e8b1cd4a45de8cc6866e5736731fc8e10a083ac"), looks := false }, kinds := [], alts := [], laidByText := true, laidKinds := [.data], laidTests := true, laidLooks := .later }
def WordNumbersCardSaid : Prop := Claim7.holds Tryd.pinned (.plain (OpenSpec.ofChange wordNumbersSpec)) wordNumbersCard

/-- THE TIED CARD OF 'dioscurilaw3.WordPlays'. -/
def wordPlaysCard : Claim7 := { stood := { row := wordPlaysRow, standIns := [], harness := (true, "1854366ecf1d65a532bc43f35e8b1cd4a45de8cc6866e5736731fc8e10a083ac"), looks := false }, kinds := [], alts := [], laidByText := true, laidKinds := [.data], laidTests := true, laidLooks := .later }
def WordPlaysCardSaid : Prop := Claim7.holds Tryd.pinned (.plain (OpenSpec.ofChange wordPlaysSpec)) wordPlaysCard

/-- THE TIED CARD OF 'dioscurilaw3.WordMends'. -/
def wordMendsCard : Claim7 := { stood := { row := wordMendsRow, standIns := [], harness := (true, "1854366ecf1d65a532bc43f35e8b1cd4a45de8cc6866e5736731fc8e10a083ac"), looks := false }, kinds := [], alts := [], laidByText := true, laidKinds := [.data], laidTests := true, laidLooks := .later }
def WordMendsCardSaid : Prop := Claim7.holds Tryd.pinned (.plain (OpenSpec.ofChange wordMendsSpec)) wordMendsCard

/-- THE TIED CARD OF 'dioscurilaw3.WordPeeks'. -/
def wordPeeksCard : Claim7 := { stood := { row := wordPeeksRow, standIns := [], harness := (true, "1854366ecf1d65a532bc43f35e8b1cd4a45de8cc6866e5736731fc8e10a083ac"), looks := false }, kinds := [], alts := [], laidByText := true, laidKinds := [.data], laidTests := true, laidLooks := .later }
def WordPeeksCardSaid : Prop := Claim7.holds Tryd.pinned (.plain (OpenSpec.ofChange wordPeeksSpec)) wordPeeksCard

/-- THE SECOND FORM's CARD OF 'dioscurilaw3.WordNumbers'. -/
def wordNumbersUptoCard : Claim7 := { stood := { row := wordNumbersUptoRow, standIns := [], harness := (true, "1854366ecf1d65a532bc43f35e8b1cd4a45de8cc6866e5736731fc8e10a083ac"), looks := false }, kinds := [], alts := [], laidByText := true, laidKinds := [.data], laidTests := true, laidLooks := .later }
def WordNumbersUptoCardSaid : Prop := Claim7.holds Tryd.pinned (.plain (OpenSpec.upto wordNumbersSpec)) wordNumbersUptoCard

/-- THE SECOND FORM's CARD OF 'dioscurilaw3.WordPlays'. -/
def wordPlaysUptoCard : Claim7 := { stood := { row := wordPlaysUptoRow, standIns := [], harness := (true, "1854366ecf1d65a532bc43f35e8b1cd4a45de8cc6866e5736731fc8e10a083ac"), looks := false }, kinds := [], alts := [], laidByText := true, laidKinds := [.data], laidTests := true, laidLooks := .later }
def WordPlaysUptoCardSaid : Prop := Claim7.holds Tryd.pinned (.plain (OpenSpec.upto wordPlaysSpec)) wordPlaysUptoCard

/-- THE SECOND FORM's CARD OF 'dioscurilaw3.WordMends'. -/
def wordMendsUptoCard : Claim7 := { stood := { row := wordMendsUptoRow, standIns := [], harness := (true, "1854366ecf1d65a532bc43f35e8b1cd4a45de8cc6866e5736731fc8e10a083ac"), looks := false }, kinds := [], alts := [], laidByText := true, laidKinds := [.data], laidTests := true, laidLooks := .later }
def WordMendsUptoCardSaid : Prop := Claim7.holds Tryd.pinned (.plain (OpenSpec.upto wordMendsSpec)) wordMendsUptoCard

/-- THE SECOND FORM's CARD OF 'dioscurilaw3.WordPeeks'. -/
def wordPeeksUptoCard : Claim7 := { stood := { row := wordPeeksUptoRow, standIns := [], harness := (true, "1854366ecf1d65a532bc43f35e8b1cd4a45de8cc6866e5736731fc8e10a083ac"), looks := false }, kinds := [], alts := [], laidByText := true, laidKinds := [.data], laidTests := true, laidLooks := .later }
def WordPeeksUptoCardSaid : Prop := Claim7.holds Tryd.pinned (.plain (OpenSpec.upto wordPeeksSpec)) wordPeeksUptoCard
end Rows
end Go.Proofs.YtijmoeljemoppaaDoor
