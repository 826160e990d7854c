/- The reckoning of RkD, part E: no condition. -/
import Derived.Test.YtdlnbcceafofoaaDoorRkD
namespace Go.Proofs.YtdlnbcceafofoaaDoor
open Go.RowKit
theorem rk4 : goP 50 103 = true := by decide +kernel
end Go.Proofs.YtdlnbcceafofoaaDoor
