/- The reckoning of RkD, part A: no condition. -/
import Derived.Test.YtehlnkhbfbnadaaDoorRkD
namespace Go.Proofs.YtehlnkhbfbnadaaDoor
open Go.RowKit
theorem rkA0 : goA 30030 108 41 primA = true := by decide +kernel
theorem rkA1 : goA sieveA 32640 257 sieveA = true := by decide +kernel
theorem rkC : goC 5184 41 = true := by decide +kernel
end Go.Proofs.YtehlnkhbfbnadaaDoor
