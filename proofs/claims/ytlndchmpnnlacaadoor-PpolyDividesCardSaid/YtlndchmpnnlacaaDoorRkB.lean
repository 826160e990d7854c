/- The reckoning of RkD, part B: no condition. -/
import Derived.Test.YtlndchmpnnlacaaDoorRkD
namespace Go.Proofs.YtlndchmpnnlacaaDoor
open Go.RowKit
theorem rk1 : goP 1 41 = true := by decide +kernel
theorem rk3 : goP 20 63 = true := by decide +kernel
end Go.Proofs.YtlndchmpnnlacaaDoor
