/- The table of 64 of math/bits, cell by cell, as the rows lay it. -/
import Derived.Test.YtehlnkhbfbnadaaDoorTab
import Derived.Test.YtehlnkhbfbnadaaDoorMr
namespace Go.Proofs.YtehlnkhbfbnadaaDoor
open Go.ChangeShapes Go.WideShapes Go.ChangeAt Go.WideMaps Go.WideElems Go.RowKit

theorem list64 : ∀ j, j < 64 → (listOf (Rows.laid_math_bits_deBruijn64tab : DataW Unit))[j]? = some (.lit (.int .u8 ((tab64.getD j 0 : Nat) : Int)))
  | 0, _ => rfl
  | 1, _ => rfl
  | 2, _ => rfl
  | 3, _ => rfl
  | 4, _ => rfl
  | 5, _ => rfl
  | 6, _ => rfl
  | 7, _ => rfl
  | 8, _ => rfl
  | 9, _ => rfl
  | 10, _ => rfl
  | 11, _ => rfl
  | 12, _ => rfl
  | 13, _ => rfl
  | 14, _ => rfl
  | 15, _ => rfl
  | 16, _ => rfl
  | 17, _ => rfl
  | 18, _ => rfl
  | 19, _ => rfl
  | 20, _ => rfl
  | 21, _ => rfl
  | 22, _ => rfl
  | 23, _ => rfl
  | 24, _ => rfl
  | 25, _ => rfl
  | 26, _ => rfl
  | 27, _ => rfl
  | 28, _ => rfl
  | 29, _ => rfl
  | 30, _ => rfl
  | 31, _ => rfl
  | 32, _ => rfl
  | 33, _ => rfl
  | 34, _ => rfl
  | 35, _ => rfl
  | 36, _ => rfl
  | 37, _ => rfl
  | 38, _ => rfl
  | 39, _ => rfl
  | 40, _ => rfl
  | 41, _ => rfl
  | 42, _ => rfl
  | 43, _ => rfl
  | 44, _ => rfl
  | 45, _ => rfl
  | 46, _ => rfl
  | 47, _ => rfl
  | 48, _ => rfl
  | 49, _ => rfl
  | 50, _ => rfl
  | 51, _ => rfl
  | 52, _ => rfl
  | 53, _ => rfl
  | 54, _ => rfl
  | 55, _ => rfl
  | 56, _ => rfl
  | 57, _ => rfl
  | 58, _ => rfl
  | 59, _ => rfl
  | 60, _ => rfl
  | 61, _ => rfl
  | 62, _ => rfl
  | 63, _ => rfl
  | j + 64, h => absurd h (by omega)
theorem gTab64 : Tryd.prog.globalNamed "math/bits.deBruijn64tab" = some 1 := by kernel_rfl
theorem tTab64 : (Tryd.prog.globals[1]?).map (·.type) = some 58 := by kernel_rfl
set_option maxRecDepth 100000 in
theorem of_tab64 {W : World} (h : laidMetH Tryd.prog laidT W) : TabG W := by
  intro j hj
  rw [MakeChecks.laidMetH_plain _ _ _ (by kernel_rfl)] at h
  obtain ⟨ps, ⟨_, _, _, _, _, _, _, _, _, _, ⟨g0, t0, cs0, f0, p0, q0, hg0, ht0, hv0, hd0, _, _⟩, _⟩, _, _⟩ := h
  obtain rfl := Option.some.inj (gTab64.symm.trans hg0)
  obtain rfl := Option.some.inj (tTab64.symm.trans ht0)
  obtain ⟨xs, m1, _, hx1, hlen, hn3, hel⟩ := DataW.trod_array Tryd.underlying58 hd0
  have c3 : Tryd.prog.cellsOf 5 = 1 := by kernel_rfl
  have h1 := hel j hj
  rw [c3, Nat.mul_one] at h1
  have hx2 : xs.map (·.1) = listOf (Rows.laid_math_bits_deBruijn64tab : DataW Unit) := by
    simp only [Prod.mk.injEq] at hx1
    rw [← show DataW.agg (xs.map (·.1)) = Rows.laid_math_bits_deBruijn64tab from hx1.1.symm]
    rfl
  obtain ⟨x1, hx3⟩ : ∃ x1, xs[j]? = some x1 := ⟨xs[j]'(by rw [hn3]; exact hj), List.getElem?_eq_getElem _⟩
  have hx4 : x1.1 = .lit (.int .u8 ((tab64.getD j 0 : Nat) : Int)) := by
    have h5 : (xs.map (·.1))[j]? = some x1.1 := by rw [List.getElem?_map, hx3]; rfl
    rw [hx2] at h5
    exact (Option.some.inj (h5.symm.trans (list64 j hj)))
  rw [hx3] at h1
  obtain ⟨k, e1, e2, _⟩ := DataW.trod_int Tryd.underlying5 h1
  have hk : k = ((tab64.getD j 0 : Nat) : Int) := by rw [e2] at hx4; simpa using hx4
  have hv := World.var?_cell hg0 hv0 j
  rw [hv, ← hk]
  have h6 : (cs0.toList.drop j)[0]? = some (Value.int .u8 k) := by
    have h7 : ((cs0.toList.drop j).take 1)[0]? = some (Value.int .u8 k) := by rw [e1]; rfl
    simpa using h7
  simpa using h6
end Go.Proofs.YtehlnkhbfbnadaaDoor
