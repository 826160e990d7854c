/-
  DERIVED. GIVEN WITH THE SEED: THE CARDS: each row of YtdlnbcceafofoaaDoorRows.lean that lists a variable, with what it lists TIED to the program's text (the seventh form; the later family's looks); each row that meets fmt, with fmt's text TOLD by the authors' own Lean function (tested against real Go, not proved from fmt's source: count such statements apart). THE CARD IS WHAT COUNTS. Prove the row's statement (the work); the ties are given (YtdlnbcceafofoaaDoorTie.lean); close each card by the builder's one call (the guide's Derived/Test/ToyasCard.lean, 'card_holds'). Laid BY PROGRAM, IN A SANDBOX (cutbox-door.mjs). By AI agents, Wed Nov 11 2026. No macro, syntax, notation, axiom, sorry.
-/
import Derived.Test.YtdlnbcceafofoaaDoorRows
import GoSem.ClaimSeven
namespace Go.Proofs.YtdlnbcceafofoaaDoor
namespace Rows

/-- THE TIED CARD OF 'algebristlaw05.PrimeIs'. -/
def primeIsCard : Claim7 := { stood := { row := primeIsRow, standIns := [], harness := (true, "43d3e5364d4f5b04c056e80c7093e10d87a23e9f21c6171c071a0b7cce31936d"), looks := false }, kinds := [], alts := [], laidByText := true, laidKinds := [.data], laidTests := true, laidLooks := .later }
def PrimeIsCardSaid : Prop := Claim7.holds Tryd.pinned (.plain (OpenSpec.ofChange primeIsSpec)) primeIsCard

/-- THE TIED CARD OF 'algebristlaw05.PrimeNext'. -/
def primeNextCard : Claim7 := { stood := { row := primeNextRow, standIns := [], harness := (true, "43d3e5364d4f5b04c056e80c7093e10d87a23e9f21c6171c071a0b7cce31936d"), looks := false }, kinds := [], alts := [], laidByText := true, laidKinds := [.data], laidTests := true, laidLooks := .later }
def PrimeNextCardSaid : Prop := Claim7.holds Tryd.pinned (.plain (OpenSpec.ofChange primeNextSpec)) primeNextCard

/-- THE SECOND FORM's CARD OF 'algebristlaw05.PrimeIs'. -/
def primeIsUptoCard : Claim7 := { stood := { row := primeIsUptoRow, standIns := [], harness := (true, "43d3e5364d4f5b04c056e80c7093e10d87a23e9f21c6171c071a0b7cce31936d"), looks := false }, kinds := [], alts := [], laidByText := true, laidKinds := [.data], laidTests := true, laidLooks := .later }
def PrimeIsUptoCardSaid : Prop := Claim7.holds Tryd.pinned (.plain (OpenSpec.upto primeIsSpec)) primeIsUptoCard

/-- THE SECOND FORM's CARD OF 'algebristlaw05.PrimeNext'. -/
def primeNextUptoCard : Claim7 := { stood := { row := primeNextUptoRow, standIns := [], harness := (true, "43d3e5364d4f5b04c056e80c7093e10d87a23e9f21c6171c071a0b7cce31936d"), looks := false }, kinds := [], alts := [], laidByText := true, laidKinds := [.data], laidTests := true, laidLooks := .later }
def PrimeNextUptoCardSaid : Prop := Claim7.holds Tryd.pinned (.plain (OpenSpec.upto primeNextSpec)) primeNextUptoCard
end Rows
end Go.Proofs.YtdlnbcceafofoaaDoor
