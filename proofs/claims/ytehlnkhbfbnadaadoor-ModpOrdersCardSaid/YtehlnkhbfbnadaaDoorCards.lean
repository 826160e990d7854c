/-
  DERIVED. GIVEN WITH THE SEED: THE CARDS: each row of YtehlnkhbfbnadaaDoorRows.lean that lists a variable, with what it lists TIED to the program's text (the seventh form; the later family's looks); each row that meets fmt, with fmt's text TOLD by the authors' own Lean function (tested against real Go, not proved from fmt's source: count such statements apart). THE CARD IS WHAT COUNTS. Prove the row's statement (the work); the ties are given (YtehlnkhbfbnadaaDoorTie.lean); close each card by the builder's one call (the guide's Derived/Test/ToyasCard.lean, 'card_holds'). Laid BY PROGRAM, IN A SANDBOX (cutbox-door.mjs). By AI agents, Wed Nov 11 2026. No macro, syntax, notation, axiom, sorry.
-/
import Derived.Test.YtehlnkhbfbnadaaDoorRows
import GoSem.ClaimSeven
namespace Go.Proofs.YtehlnkhbfbnadaaDoor
namespace Rows

/-- THE TIED CARD OF 'algebristlaw07.ModpSums'. -/
def modpSumsCard : Claim7 := { stood := { row := modpSumsRow, standIns := [], harness := (true, "adf5af21a9b9ca3f2f9e596091ac2942689fdadf23b0111c2be8ec5611ea9254"), looks := false }, kinds := [], alts := [], laidByText := true, laidKinds := [.data, .data], laidTests := true, laidLooks := .later }
def ModpSumsCardSaid : Prop := Claim7.holds Tryd.pinned (.plain (OpenSpec.ofChange modpSumsSpec)) modpSumsCard

/-- THE TIED CARD OF 'algebristlaw07.ModpPowers'. -/
def modpPowersCard : Claim7 := { stood := { row := modpPowersRow, standIns := [], harness := (true, "adf5af21a9b9ca3f2f9e596091ac2942689fdadf23b0111c2be8ec5611ea9254"), looks := false }, kinds := [], alts := [], laidByText := true, laidKinds := [.data, .data], laidTests := true, laidLooks := .later }
def ModpPowersCardSaid : Prop := Claim7.holds Tryd.pinned (.plain (OpenSpec.ofChange modpPowersSpec)) modpPowersCard

/-- THE TIED CARD OF 'algebristlaw07.ModpInverses'. -/
def modpInversesCard : Claim7 := { stood := { row := modpInversesRow, standIns := [], harness := (true, "adf5af21a9b9ca3f2f9e596091ac2942689fdadf23b0111c2be8ec5611ea9254"), looks := false }, kinds := [], alts := [], laidByText := true, laidKinds := [.data, .data], laidTests := true, laidLooks := .later }
def ModpInversesCardSaid : Prop := Claim7.holds Tryd.pinned (.plain (OpenSpec.ofChange modpInversesSpec)) modpInversesCard

/-- THE TIED CARD OF 'algebristlaw07.ModpOrders'. -/
def modpOrdersCard : Claim7 := { stood := { row := modpOrdersRow, standIns := [], harness := (true, "adf5af21a9b9ca3f2f9e596091ac2942689fdadf23b0111c2be8ec5611ea9254"), looks := false }, kinds := [], alts := [], laidByText := true, laidKinds := [.data, .data], laidTests := true, laidLooks := .later }
def ModpOrdersCardSaid : Prop := Claim7.holds Tryd.pinned (.plain (OpenSpec.ofChange modpOrdersSpec)) modpOrdersCard

/-- THE TIED CARD OF 'algebristlaw07.ModpLeast'. -/
def modpLeastCard : Claim7 := { stood := { row := modpLeastRow, standIns := [], harness := (true, "adf5af21a9b9ca3f2f9e596091ac2942689fdadf23b0111c2be8ec5611ea9254"), looks := false }, kinds := [], alts := [], laidByText := true, laidKinds := [.data, .data], laidTests := true, laidLooks := .later }
def ModpLeastCardSaid : Prop := Claim7.holds Tryd.pinned (.plain (OpenSpec.ofChange modpLeastSpec)) modpLeastCard

/-- THE TIED CARD OF 'algebristlaw07.ModpRoots'. -/
def modpRootsCard : Claim7 := { stood := { row := modpRootsRow, standIns := [], harness := (true, "adf5af21a9b9ca3f2f9e596091ac2942689fdadf23b0111c2be8ec5611ea9254"), looks := false }, kinds := [], alts := [], laidByText := true, laidKinds := [.data, .data], laidTests := true, laidLooks := .later }
def ModpRootsCardSaid : Prop := Claim7.holds Tryd.pinned (.plain (OpenSpec.ofChange modpRootsSpec)) modpRootsCard

/-- THE TIED CARD OF 'algebristlaw07.ModpSquares'. -/
def modpSquaresCard : Claim7 := { stood := { row := modpSquaresRow, standIns := [], harness := (true, "adf5af21a9b9ca3f2f9e596091ac2942689fdadf23b0111c2be8ec5611ea9254"), looks := false }, kinds := [], alts := [], laidByText := true, laidKinds := [.data, .data], laidTests := true, laidLooks := .later }
def ModpSquaresCardSaid : Prop := Claim7.holds Tryd.pinned (.plain (OpenSpec.ofChange modpSquaresSpec)) modpSquaresCard

/-- THE TIED CARD OF 'algebristlaw07.ModpLaws'. -/
def modpLawsCard : Claim7 := { stood := { row := modpLawsRow, standIns := [], harness := (true, "adf5af21a9b9ca3f2f9e596091ac2942689fdadf23b0111c2be8ec5611ea9254"), looks := false }, kinds := [], alts := [], laidByText := true, laidKinds := [.data, .data], laidTests := true, laidLooks := .later }
def ModpLawsCardSaid : Prop := Claim7.holds Tryd.pinned (.plain (OpenSpec.ofChange modpLawsSpec)) modpLawsCard

/-- THE SECOND FORM's CARD OF 'algebristlaw07.ModpSums'. -/
def modpSumsUptoCard : Claim7 := { stood := { row := modpSumsUptoRow, standIns := [], harness := (true, "adf5af21a9b9ca3f2f9e596091ac2942689fdadf23b0111c2be8ec5611ea9254"), looks := false }, kinds := [], alts := [], laidByText := true, laidKinds := [.data, .data], laidTests := true, laidLooks := .later }
def ModpSumsUptoCardSaid : Prop := Claim7.holds Tryd.pinned (.plain (OpenSpec.upto modpSumsSpec)) modpSumsUptoCard

/-- THE SECOND FORM's CARD OF 'algebristlaw07.ModpPowers'. -/
def modpPowersUptoCard : Claim7 := { stood := { row := modpPowersUptoRow, standIns := [], harness := (true, "adf5af21a9b9ca3f2f9e596091ac2942689fdadf23b0111c2be8ec5611ea9254"), looks := false }, kinds := [], alts := [], laidByText := true, laidKinds := [.data, .data], laidTests := true, laidLooks := .later }
def ModpPowersUptoCardSaid : Prop := Claim7.holds Tryd.pinned (.plain (OpenSpec.upto modpPowersSpec)) modpPowersUptoCard

/-- THE SECOND FORM's CARD OF 'algebristlaw07.ModpInverses'. -/
def modpInversesUptoCard : Claim7 := { stood := { row := modpInversesUptoRow, standIns := [], harness := (true, "adf5af21a9b9ca3f2f9e596091ac2942689fdadf23b0111c2be8ec5611ea9254"), looks := false }, kinds := [], alts := [], laidByText := true, laidKinds := [.data, .data], laidTests := true, laidLooks := .later }
def ModpInversesUptoCardSaid : Prop := Claim7.holds Tryd.pinned (.plain (OpenSpec.upto modpInversesSpec)) modpInversesUptoCard

/-- THE SECOND FORM's CARD OF 'algebristlaw07.ModpOrders'. -/
def modpOrdersUptoCard : Claim7 := { stood := { row := modpOrdersUptoRow, standIns := [], harness := (true, "adf5af21a9b9ca3f2f9e596091ac2942689fdadf23b0111c2be8ec5611ea9254"), looks := false }, kinds := [], alts := [], laidByText := true, laidKinds := [.data, .data], laidTests := true, laidLooks := .later }
def ModpOrdersUptoCardSaid : Prop := Claim7.holds Tryd.pinned (.plain (OpenSpec.upto modpOrdersSpec)) modpOrdersUptoCard

/-- THE SECOND FORM's CARD OF 'algebristlaw07.ModpLeast'. -/
def modpLeastUptoCard : Claim7 := { stood := { row := modpLeastUptoRow, standIns := [], harness := (true, "adf5af21a9b9ca3f2f9e596091ac2942689fdadf23b0111c2be8ec5611ea9254"), looks := false }, kinds := [], alts := [], laidByText := true, laidKinds := [.data, .data], laidTests := true, laidLooks := .later }
def ModpLeastUptoCardSaid : Prop := Claim7.holds Tryd.pinned (.plain (OpenSpec.upto modpLeastSpec)) modpLeastUptoCard

/-- THE SECOND FORM's CARD OF 'algebristlaw07.ModpRoots'. -/
def modpRootsUptoCard : Claim7 := { stood := { row := modpRootsUptoRow, standIns := [], harness := (true, "adf5af21a9b9ca3f2f9e596091ac2942689fdadf23b0111c2be8ec5611ea9254"), looks := false }, kinds := [], alts := [], laidByText := true, laidKinds := [.data, .data], laidTests := true, laidLooks := .later }
def ModpRootsUptoCardSaid : Prop := Claim7.holds Tryd.pinned (.plain (OpenSpec.upto modpRootsSpec)) modpRootsUptoCard

/-- THE SECOND FORM's CARD OF 'algebristlaw07.ModpSquares'. -/
def modpSquaresUptoCard : Claim7 := { stood := { row := modpSquaresUptoRow, standIns := [], harness := (true, "adf5af21a9b9ca3f2f9e596091ac2942689fdadf23b0111c2be8ec5611ea9254"), looks := false }, kinds := [], alts := [], laidByText := true, laidKinds := [.data, .data], laidTests := true, laidLooks := .later }
def ModpSquaresUptoCardSaid : Prop := Claim7.holds Tryd.pinned (.plain (OpenSpec.upto modpSquaresSpec)) modpSquaresUptoCard

/-- THE SECOND FORM's CARD OF 'algebristlaw07.ModpLaws'. -/
def modpLawsUptoCard : Claim7 := { stood := { row := modpLawsUptoRow, standIns := [], harness := (true, "adf5af21a9b9ca3f2f9e596091ac2942689fdadf23b0111c2be8ec5611ea9254"), looks := false }, kinds := [], alts := [], laidByText := true, laidKinds := [.data, .data], laidTests := true, laidLooks := .later }
def ModpLawsUptoCardSaid : Prop := Claim7.holds Tryd.pinned (.plain (OpenSpec.upto modpLawsSpec)) modpLawsUptoCard
end Rows
end Go.Proofs.YtehlnkhbfbnadaaDoor
