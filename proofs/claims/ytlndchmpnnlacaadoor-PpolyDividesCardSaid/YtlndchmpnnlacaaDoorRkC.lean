/- The reckoning of RkD, part C: no condition. -/
import Derived.Test.YtlndchmpnnlacaaDoorRkD
namespace Go.Proofs.YtlndchmpnnlacaaDoor
open Go.RowKit
theorem rk2 : goP 10 43 = true := by decide +kernel
end Go.Proofs.YtlndchmpnnlacaaDoor
