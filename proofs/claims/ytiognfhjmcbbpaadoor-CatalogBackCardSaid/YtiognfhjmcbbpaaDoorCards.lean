/-
  DERIVED. GIVEN WITH THE SEED: THE CARDS: each row of YtiognfhjmcbbpaaDoorRows.lean that lists a variable, with what it lists TIED to the program's text (the seventh form; the later family's looks); each row that meets fmt, with fmt's text TOLD by the authors' own Lean function (tested against real Go, not proved from fmt's source: count such statements apart). THE CARD IS WHAT COUNTS. Prove the row's statement (the work); the ties are given (YtiognfhjmcbbpaaDoorTie.lean); close each card by the builder's one call (the guide's Derived/Test/ToyasCard.lean, 'card_holds'). Laid BY PROGRAM, IN A SANDBOX (cutbox-door.mjs). By AI agents, Wed Nov 11 2026. No macro, syntax, notation, axiom, sorry.
-/
import Derived.Test.YtiognfhjmcbbpaaDoorRows
import GoSem.ClaimSeven
namespace Go.Proofs.YtiognfhjmcbbpaaDoor
namespace Rows

/-- THE TIED CARD OF 'cipherplanlaw02.CatalogRaw'. -/
def catalogRawCard : Claim7 := { stood := { row := catalogRawRow, standIns := [], harness := (true, "3e406ace9e138b085b39dc76cc88d6a96983fecacbfb923f36920a2e92a86f40"), looks := true }, kinds := [], alts := [], laidByText := true, laidKinds := [.data, .data, .data, .sentinel, .sentinel, .data, .data], laidTests := true, laidLooks := .later }
def CatalogRawCardSaid : Prop := Claim7.holds Tryd.pinned (.plain (OpenSpec.ofChange catalogRawSpec)) catalogRawCard

/-- THE TIED CARD OF 'cipherplanlaw02.CatalogTexts'. -/
def catalogTextsCard : Claim7 := { stood := { row := catalogTextsRow, standIns := [], harness := (true, "3e406ace9e138b085b39dc76cc88d6a96983fecacbfb923f36920a2e92a86f40"), looks := true }, kinds := [], alts := [], laidByText := true, laidKinds := [.data, .data, .data, .sentinel, .sentinel, .data, .data], laidTests := true, laidLooks := .later }
def CatalogTextsCardSaid : Prop := Claim7.holds Tryd.pinned (.plain (OpenSpec.ofChange catalogTextsSpec)) catalogTextsCard

/-- THE TIED CARD OF 'cipherplanlaw02.CatalogBack'. -/
def catalogBackCard : Claim7 := { stood := { row := catalogBackRow, standIns := [], harness := (true, "3e406ace9e138b085b39dc76cc88d6a96983fecacbfb923f36920a2e92a86f40"), looks := true }, kinds := [], alts := [], laidByText := true, laidKinds := [.data, .data, .data, .sentinel, .sentinel, .data, .data], laidTests := true, laidLooks := .later }
def CatalogBackCardSaid : Prop := Claim7.holds Tryd.pinned (.plain (OpenSpec.ofChange catalogBackSpec)) catalogBackCard

/-- THE TIED CARD OF 'cipherplanlaw02.CatalogGrows'. -/
def catalogGrowsCard : Claim7 := { stood := { row := catalogGrowsRow, standIns := [], harness := (true, "3e406ace9e138b085b39dc76cc88d6a96983fecacbfb923f36920a2e92a86f40"), looks := true }, kinds := [], alts := [], laidByText := true, laidKinds := [.data, .data, .data, .sentinel, .sentinel, .data, .data], laidTests := true, laidLooks := .later }
def CatalogGrowsCardSaid : Prop := Claim7.holds Tryd.pinned (.plain (OpenSpec.ofChange catalogGrowsSpec)) catalogGrowsCard

/-- THE TIED CARD OF 'cipherplanlaw02.CatalogTable'. -/
def catalogTableCard : Claim7 := { stood := { row := catalogTableRow, standIns := [], harness := (true, "3e406ace9e138b085b39dc76cc88d6a96983fecacbfb923f36920a2e92a86f40"), looks := true }, kinds := [], alts := [], laidByText := true, laidKinds := [.data, .data, .data, .sentinel, .sentinel, .data, .data], laidTests := true, laidLooks := .later }
def CatalogTableCardSaid : Prop := Claim7.holds Tryd.pinned (.plain (OpenSpec.ofChange catalogTableSpec)) catalogTableCard

/-- THE SECOND FORM's CARD OF 'cipherplanlaw02.CatalogRaw'. -/
def catalogRawUptoCard : Claim7 := { stood := { row := catalogRawUptoRow, standIns := [], harness := (true, "3e406ace9e138b085b39dc76cc88d6a96983fecacbfb923f36920a2e92a86f40"), looks := true }, kinds := [], alts := [], laidByText := true, laidKinds := [.data, .data, .data, .sentinel, .sentinel, .data, .data], laidTests := true, laidLooks := .later }
def CatalogRawUptoCardSaid : Prop := Claim7.holds Tryd.pinned (.plain (OpenSpec.upto catalogRawSpec)) catalogRawUptoCard

/-- THE SECOND FORM's CARD OF 'cipherplanlaw02.CatalogTexts'. -/
def catalogTextsUptoCard : Claim7 := { stood := { row := catalogTextsUptoRow, standIns := [], harness := (true, "3e406ace9e138b085b39dc76cc88d6a96983fecacbfb923f36920a2e92a86f40"), looks := true }, kinds := [], alts := [], laidByText := true, laidKinds := [.data, .data, .data, .sentinel, .sentinel, .data, .data], laidTests := true, laidLooks := .later }
def CatalogTextsUptoCardSaid : Prop := Claim7.holds Tryd.pinned (.plain (OpenSpec.upto catalogTextsSpec)) catalogTextsUptoCard

/-- THE SECOND FORM's CARD OF 'cipherplanlaw02.CatalogBack'. -/
def catalogBackUptoCard : Claim7 := { stood := { row := catalogBackUptoRow, standIns := [], harness := (true, "3e406ace9e138b085b39dc76cc88d6a96983fecacbfb923f36920a2e92a86f40"), looks := true }, kinds := [], alts := [], laidByText := true, laidKinds := [.data, .data, .data, .sentinel, .sentinel, .data, .data], laidTests := true, laidLooks := .later }
def CatalogBackUptoCardSaid : Prop := Claim7.holds Tryd.pinned (.plain (OpenSpec.upto catalogBackSpec)) catalogBackUptoCard

/-- THE SECOND FORM's CARD OF 'cipherplanlaw02.CatalogGrows'. -/
def catalogGrowsUptoCard : Claim7 := { stood := { row := catalogGrowsUptoRow, standIns := [], harness := (true, "3e406ace9e138b085b39dc76cc88d6a96983fecacbfb923f36920a2e92a86f40"), looks := true }, kinds := [], alts := [], laidByText := true, laidKinds := [.data, .data, .data, .sentinel, .sentinel, .data, .data], laidTests := true, laidLooks := .later }
def CatalogGrowsUptoCardSaid : Prop := Claim7.holds Tryd.pinned (.plain (OpenSpec.upto catalogGrowsSpec)) catalogGrowsUptoCard

/-- THE SECOND FORM's CARD OF 'cipherplanlaw02.CatalogTable'. -/
def catalogTableUptoCard : Claim7 := { stood := { row := catalogTableUptoRow, standIns := [], harness := (true, "3e406ace9e138b085b39dc76cc88d6a96983fecacbfb923f36920a2e92a86f40"), looks := true }, kinds := [], alts := [], laidByText := true, laidKinds := [.data, .data, .data, .sentinel, .sentinel, .data, .data], laidTests := true, laidLooks := .later }
def CatalogTableUptoCardSaid : Prop := Claim7.holds Tryd.pinned (.plain (OpenSpec.upto catalogTableSpec)) catalogTableUptoCard
end Rows
end Go.Proofs.YtiognfhjmcbbpaaDoor
