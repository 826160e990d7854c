/- The frame of the tied rows: what the listed tables read as, and a start that meets it. -/
import Derived.Test.YtehlnkhbfbnadaaDoorFrame
import Derived.Test.YtehlnkhbfbnadaaDoorCards
import Derived.Test.YtehlnkhbfbnadaaDoorTie
import Derived.ChangeSame
import Derived.ChangeVars
import Derived.JoinedOf
import Derived.RowKit
import Derived.RowKitTokens
import Derived.LaidLaws
import Derived.LaidHandle
import Derived.LaidMore
import Derived.Stop.Joined
import Derived.SevenTiedAt
import Derived.ProofKit
import Derived.OpenShut
namespace Go.Proofs.YtehlnkhbfbnadaaDoor
open Go.ChangeShapes Go.WideShapes Go.ChangeAt Go.WideMaps Go.WideElems Go.RowKit

theorem u32_range {n : Int} (h : (Lit.int .u32 n).wf = true) : 0 ≤ n ∧ n ≤ 4294967295 := by
  rw [show Lit.wf (.int .u32 n) = (decide (IntKind.u32.min ≤ n) && decide (n ≤ IntKind.u32.max)) from rfl, Bool.and_eq_true, decide_eq_true_iff, decide_eq_true_iff, show IntKind.u32.min = 0 by decide, show IntKind.u32.max = 4294967295 by decide] at h
  exact h
def laidT : List (String × DataW Unit) := [("math/bits.deBruijn32tab", Rows.laid_math_bits_deBruijn32tab), ("math/bits.deBruijn64tab", Rows.laid_math_bits_deBruijn64tab)]
theorem gTab : Tryd.prog.globalNamed "math/bits.deBruijn32tab" = some 0 := by kernel_rfl
theorem tTab : (Tryd.prog.globals[0]?).map (·.type) = some 57 := by kernel_rfl
set_option maxRecDepth 100000 in
theorem door_met (os : Os) (args : Array Value) : laidMetH Tryd.prog laidT ((World.doorLaid Tryd.prog 40 os).forCall (fun _ _ => 0) ⟨#[], args, []⟩).memory :=
  laidMetH_of_parts3 (fuel := 8) (laidMet_of_run' 8 (by kernel_rfl) (by kernel_rfl)) (by kernel_rfl) (by kernel_rfl)
set_option maxRecDepth 100000 in
theorem of_laid {W : World} (h : laidMetH Tryd.prog laidT W) : W.cell? ⟨0, 1, none⟩ = some (.int .u8 1) := by
  rw [MakeChecks.laidMetH_plain _ _ _ (by kernel_rfl)] at h
  obtain ⟨ps, ⟨g0, t0, cs0, f0, p0, q0, hg0, ht0, hv0, hd0, _, _⟩, _, _⟩ := h
  obtain rfl := Option.some.inj (gTab.symm.trans hg0)
  obtain rfl := Option.some.inj (tTab.symm.trans ht0)
  obtain ⟨xs, m1, _, hx1, hlen, hn3, hel⟩ := DataW.trod_array Tryd.underlying57 hd0
  have c3 : Tryd.prog.cellsOf 5 = 1 := by kernel_rfl
  have h1 := hel 1 (by decide)
  rw [Nat.one_mul, c3] at h1
  have hx2 : xs.map (·.1) = (match (Rows.laid_math_bits_deBruijn32tab : DataW Unit) with | .agg l => l | _ => []) := by
    simp only [Prod.mk.injEq] at hx1
    rw [← show DataW.agg (xs.map (·.1)) = Rows.laid_math_bits_deBruijn32tab from hx1.1.symm]
  obtain ⟨x1, hx3⟩ : ∃ x1, xs[1]? = some x1 := ⟨xs[1]'(by rw [hn3]; decide), List.getElem?_eq_getElem _⟩
  have hx4 : x1.1 = .lit (.int .u8 1) := by
    have h5 : (xs.map (·.1))[1]? = some x1.1 := by rw [List.getElem?_map, hx3]; rfl
    rw [hx2] at h5
    exact (Option.some.inj (h5.symm.trans (show _ = some (DataW.lit (.int .u8 1)) from rfl)))
  rw [hx3] at h1
  obtain ⟨k, e1, e2, _⟩ := DataW.trod_int Tryd.underlying5 h1
  have hk : k = 1 := by rw [e2] at hx4; simpa using hx4
  subst hk
  have hv := World.var?_cell hg0 hv0 1
  rw [hv]
  have h6 : (cs0.toList.drop 1)[0]? = some (Value.int .u8 1) := by
    have h7 : ((cs0.toList.drop 1).take 1)[0]? = some (Value.int .u8 1) := by rw [e1]; rfl
    simpa using h7
  simpa using h6
end Go.Proofs.YtehlnkhbfbnadaaDoor
