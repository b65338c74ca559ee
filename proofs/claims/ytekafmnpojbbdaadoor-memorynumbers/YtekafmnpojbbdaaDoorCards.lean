/-
  DERIVED. GIVEN WITH THE SEED: THE CARDS: each row of YtekafmnpojbbdaaDoorRows.lean that lists a variable, with what it lists TIED to the program's text (the seventh form; the later family's looks); each row that meets fmt, with fmt's text TOLD by the authors' own Lean function (tested against real Go, not proved from fmt's source: count such statements apart). THE CARD IS WHAT COUNTS. Prove the row's statement (the work); the ties are given (YtekafmnpojbbdaaDoorTie.lean); close each card by the builder's one call (the guide's Derived/Test/ToyasCard.lean, 'card_holds'). Laid BY PROGRAM, IN A SANDBOX (cutbox-door.mjs). By AI agents, Wed Nov 11 2026. No macro, syntax, notation, axiom, sorry.
-/
import Derived.Test.YtekafmnpojbbdaaDoorRows
import GoSem.ClaimSeven
namespace Go.Proofs.YtekafmnpojbbdaaDoor
namespace Rows

/-- THE TIED CARD OF 'dioscurilaw13.MemoryNumbers'. -/
def memoryNumbersCard : Claim7 := { stood := { row := memoryNumbersRow, standIns := [], harness := (true, "e38b02b890e8d5813a00866211ad0a91c68820d806a146cab2b864632940234c"), looks := false }, kinds := [], alts := [], laidByText := true, laidKinds := [.data], laidTests := true, laidLooks := .later }
def MemoryNumbersCardSaid : Prop := Claim7.holds Tryd.pinned (.plain (OpenSpec.ofChange memoryNumbersSpec)) memoryNumbersCard

/-- THE TIED CARD OF 'dioscurilaw13.MemoryPlays'. -/
def memoryPlaysCard : Claim7 := { stood := { row := memoryPlaysRow, standIns := [], harness := (true, "e38b02b890e8d5813a00866211ad0a91c68820d806a146cab2b864632940234c"), looks := false }, kinds := [], alts := [], laidByText := true, laidKinds := [.data], laidTests := true, laidLooks := .later }
def MemoryPlaysCardSaid : Prop := Claim7.holds Tryd.pinned (.plain (OpenSpec.ofChange memoryPlaysSpec)) memoryPlaysCard

/-- THE TIED CARD OF 'dioscurilaw13.MemoryMends'. -/
def memoryMendsCard : Claim7 := { stood := { row := memoryMendsRow, standIns := [], harness := (true, "e38b02b890e8d5813a00866211ad0a91c68820d806a146cab2b864632940234c"), looks := false }, kinds := [], alts := [], laidByText := true, laidKinds := [.data], laidTests := true, laidLooks := .later }
def MemoryMendsCardSaid : Prop := Claim7.holds Tryd.pinned (.plain (OpenSpec.ofChange memoryMendsSpec)) memoryMendsCard

/-- THE TIED CARD OF 'dioscurilaw13.MemoryStores'. -/
def memoryStoresCard : Claim7 := { stood := { row := memoryStoresRow, standIns := [], harness := (true, "e38b02b890e8d5813a00866211ad0a91c68820d806a146cab2b864632940234c"), looks := false }, kinds := [], alts := [], laidByText := true, laidKinds := [.data], laidTests := true, laidLooks := .later }
def MemoryStoresCardSaid : Prop := Claim7.holds Tryd.pinned (.plain (OpenSpec.ofChange memoryStoresSpec)) memoryStoresCard

/-- THE SECOND FORM's CARD OF 'dioscurilaw13.MemoryNumbers'. -/
def memoryNumbersUptoCard : Claim7 := { stood := { row := memoryNumbersUptoRow, standIns := [], harness := (true, "e38b02b890e8d5813a00866211ad0a91c68820d806a146cab2b864632940234c"), looks := false }, kinds := [], alts := [], laidByText := true, laidKinds := [.data], laidTests := true, laidLooks := .later }
def MemoryNumbersUptoCardSaid : Prop := Claim7.holds Tryd.pinned (.plain (OpenSpec.upto memoryNumbersSpec)) memoryNumbersUptoCard

/-- THE SECOND FORM's CARD OF 'dioscurilaw13.MemoryPlays'. -/
def memoryPlaysUptoCard : Claim7 := { stood := { row := memoryPlaysUptoRow, standIns := [], harness := (true, "e38b02b890e8d5813a00866211ad0a91c68820d806a146cab2b864632940234c"), looks := false }, kinds := [], alts := [], laidByText := true, laidKinds := [.data], laidTests := true, laidLooks := .later }
def MemoryPlaysUptoCardSaid : Prop := Claim7.holds Tryd.pinned (.plain (OpenSpec.upto memoryPlaysSpec)) memoryPlaysUptoCard

/-- THE SECOND FORM's CARD OF 'dioscurilaw13.MemoryMends'. -/
def memoryMendsUptoCard : Claim7 := { stood := { row := memoryMendsUptoRow, standIns := [], harness := (true, "e38b02b890e8d5813a00866211ad0a91c68820d806a146cab2b864632940234c"), looks := false }, kinds := [], alts := [], laidByText := true, laidKinds := [.data], laidTests := true, laidLooks := .later }
def MemoryMendsUptoCardSaid : Prop := Claim7.holds Tryd.pinned (.plain (OpenSpec.upto memoryMendsSpec)) memoryMendsUptoCard

/-- THE SECOND FORM's CARD OF 'dioscurilaw13.MemoryStores'. -/
def memoryStoresUptoCard : Claim7 := { stood := { row := memoryStoresUptoRow, standIns := [], harness := (true, "e38b02b890e8d5813a00866211ad0a91c68820d806a146cab2b864632940234c"), looks := false }, kinds := [], alts := [], laidByText := true, laidKinds := [.data], laidTests := true, laidLooks := .later }
def MemoryStoresUptoCardSaid : Prop := Claim7.holds Tryd.pinned (.plain (OpenSpec.upto memoryStoresSpec)) memoryStoresUptoCard
end Rows
end Go.Proofs.YtekafmnpojbbdaaDoor
