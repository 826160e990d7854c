/-
  DERIVED. GIVEN WITH THE SEED: THE CARDS: each row of YtkcnigpajhmjiaaDoorRows.lean that lists a variable, with what it lists TIED to the program's text (the seventh form; the later family's looks); each row that meets fmt, with fmt's text TOLD by the authors' own Lean function (tested against real Go, not proved from fmt's source: count such statements apart). THE CARD IS WHAT COUNTS. Prove the row's statement (the work); the ties are given (YtkcnigpajhmjiaaDoorTie.lean); close each card by the builder's one call (the guide's Derived/Test/ToyasCard.lean, 'card_holds'). Laid BY PROGRAM, IN A SANDBOX (cutbox-door.mjs). By AI agents, Wed Nov 11 2026. No macro, syntax, notation, axiom, sorry.
-/
import Derived.Test.YtkcnigpajhmjiaaDoorRows
import GoSem.ClaimSeven
namespace Go.Proofs.YtkcnigpajhmjiaaDoor
namespace Rows

/-- THE TIED CARD OF 'algebristlaw05.PrimeHolds'. -/
def primeHoldsCard : Claim7 := { stood := { row := primeHoldsRow, standIns := [], harness := (true, "d160a4d44266c3c3dc18627da1419e1719ef40226a3d90f3e7e66b60e07f1952"), looks := false }, kinds := [], alts := [], laidByText := true, laidKinds := [.data], laidTests := true, laidLooks := .later }
def PrimeHoldsCardSaid : Prop := Claim7.holds Tryd.pinned (.plain (OpenSpec.ofChange primeHoldsSpec)) primeHoldsCard

/-- THE TIED CARD OF 'algebristlaw05.PrimeShown'. -/
def primeShownCard : Claim7 := { stood := { row := primeShownRow, standIns := [], harness := (true, "d160a4d44266c3c3dc18627da1419e1719ef40226a3d90f3e7e66b60e07f1952"), looks := false }, kinds := [], alts := [], laidByText := true, laidKinds := [.data], laidTests := true, laidLooks := .later }
def PrimeShownCardSaid : Prop := Claim7.holds Tryd.pinned (.plain (OpenSpec.ofChange primeShownSpec)) primeShownCard

/-- THE TIED CARD OF 'algebristlaw05.PrimeDraws'. -/
def primeDrawsCard : Claim7 := { stood := { row := primeDrawsRow, standIns := [], harness := (true, "d160a4d44266c3c3dc18627da1419e1719ef40226a3d90f3e7e66b60e07f1952"), looks := false }, kinds := [], alts := [], laidByText := true, laidKinds := [.data], laidTests := true, laidLooks := .later }
def PrimeDrawsCardSaid : Prop := Claim7.holds Tryd.pinned (.plain (OpenSpec.ofChange primeDrawsSpec)) primeDrawsCard

/-- THE SECOND FORM's CARD OF 'algebristlaw05.PrimeHolds'. -/
def primeHoldsUptoCard : Claim7 := { stood := { row := primeHoldsUptoRow, standIns := [], harness := (true, "d160a4d44266c3c3dc18627da1419e1719ef40226a3d90f3e7e66b60e07f1952"), looks := false }, kinds := [], alts := [], laidByText := true, laidKinds := [.data], laidTests := true, laidLooks := .later }
def PrimeHoldsUptoCardSaid : Prop := Claim7.holds Tryd.pinned (.plain (OpenSpec.upto primeHoldsSpec)) primeHoldsUptoCard

/-- THE SECOND FORM's CARD OF 'algebristlaw05.PrimeShown'. -/
def primeShownUptoCard : Claim7 := { stood := { row := primeShownUptoRow, standIns := [], harness := (true, "d160a4d44266c3c3dc18627da1419e1719ef40226a3d90f3e7e66b60e07f1952"), looks := false }, kinds := [], alts := [], laidByText := true, laidKinds := [.data], laidTests := true, laidLooks := .later }
def PrimeShownUptoCardSaid : Prop := Claim7.holds Tryd.pinned (.plain (OpenSpec.upto primeShownSpec)) primeShownUptoCard

/-- THE SECOND FORM's CARD OF 'algebristlaw05.PrimeDraws'. -/
def primeDrawsUptoCard : Claim7 := { stood := { row := primeDrawsUptoRow, standIns := [], harness := (true, "d160a4d44266c3c3dc18627da1419e1719ef40226a3d90f3e7e66b60e07f1952"), looks := false }, kinds := [], alts := [], laidByText := true, laidKinds := [.data], laidTests := true, laidLooks := .later }
def PrimeDrawsUptoCardSaid : Prop := Claim7.holds Tryd.pinned (.plain (OpenSpec.upto primeDrawsSpec)) primeDrawsUptoCard
end Rows
end Go.Proofs.YtkcnigpajhmjiaaDoor
