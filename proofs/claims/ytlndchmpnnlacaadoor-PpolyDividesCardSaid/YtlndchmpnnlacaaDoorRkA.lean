/- The reckoning of RkD, part A: no condition. The reckoning of RkD, part E: no condition. -/
import Derived.Test.YtlndchmpnnlacaaDoorRkD
namespace Go.Proofs.YtlndchmpnnlacaaDoor
open Go.RowKit
theorem rkA0 : goA 30030 108 41 primA = true := by decide +kernel
theorem rkA1 : goA sieveA 32640 257 sieveA = true := by decide +kernel
theorem rkC : goC 5184 41 = true := by decide +kernel
end Go.Proofs.YtlndchmpnnlacaaDoor

namespace Go.Proofs.YtlndchmpnnlacaaDoor
open Go.RowKit
theorem rk4 : goP 50 103 = true := by decide +kernel
end Go.Proofs.YtlndchmpnnlacaaDoor
