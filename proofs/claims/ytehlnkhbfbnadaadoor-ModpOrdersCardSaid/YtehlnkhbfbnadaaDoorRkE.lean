/- The reckoning of RkD, part E: no condition. -/
import Derived.Test.YtehlnkhbfbnadaaDoorRkD
namespace Go.Proofs.YtehlnkhbfbnadaaDoor
open Go.RowKit
theorem rk4 : goP 50 103 = true := by decide +kernel
end Go.Proofs.YtehlnkhbfbnadaaDoor
