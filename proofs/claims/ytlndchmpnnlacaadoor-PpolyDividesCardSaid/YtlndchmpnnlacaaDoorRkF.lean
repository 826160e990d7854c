/- The reckoning of RkD, part F: no condition. -/
import Derived.Test.YtlndchmpnnlacaaDoorRkD
namespace Go.Proofs.YtlndchmpnnlacaaDoor
open Go.RowKit
theorem rk5 : goP 712 203 = true := by decide +kernel
end Go.Proofs.YtlndchmpnnlacaaDoor
