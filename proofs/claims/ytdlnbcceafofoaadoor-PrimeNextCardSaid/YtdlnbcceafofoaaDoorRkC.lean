/- The reckoning of RkD, part C: no condition. -/
import Derived.Test.YtdlnbcceafofoaaDoorRkD
namespace Go.Proofs.YtdlnbcceafofoaaDoor
open Go.RowKit
theorem rk2 : goP 10 43 = true := by decide +kernel
end Go.Proofs.YtdlnbcceafofoaaDoor
