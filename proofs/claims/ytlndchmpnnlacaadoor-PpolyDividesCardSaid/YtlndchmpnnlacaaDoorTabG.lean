/- The table of 64 of math/bits, cell by cell, as the rows lay it. Polynomials that come in as arguments. -/
import Derived.Test.YtlndchmpnnlacaaDoorFrameD
import Derived.Test.YtlndchmpnnlacaaDoorIsG
import Derived.Deep.Slices
namespace Go.Proofs.YtlndchmpnnlacaaDoor
open Go.ChangeShapes Go.WideShapes Go.ChangeAt Go.WideMaps Go.WideElems Go.RowKit

def listOf : DataW Unit → List (DataW Unit)
  | .agg l => l
  | _ => []
theorem list64 : ∀ j, j < 64 → (listOf (Rows.laid_math_bits_deBruijn64tab : DataW Unit))[j]? = some (.lit (.int .u8 ((tab64.getD j 0 : Nat) : Int)))
  | 0, _ => rfl
  | 1, _ => rfl
  | 2, _ => rfl
  | 3, _ => rfl
  | 4, _ => rfl
  | 5, _ => rfl
  | 6, _ => rfl
  | 7, _ => rfl
  | 8, _ => rfl
  | 9, _ => rfl
  | 10, _ => rfl
  | 11, _ => rfl
  | 12, _ => rfl
  | 13, _ => rfl
  | 14, _ => rfl
  | 15, _ => rfl
  | 16, _ => rfl
  | 17, _ => rfl
  | 18, _ => rfl
  | 19, _ => rfl
  | 20, _ => rfl
  | 21, _ => rfl
  | 22, _ => rfl
  | 23, _ => rfl
  | 24, _ => rfl
  | 25, _ => rfl
  | 26, _ => rfl
  | 27, _ => rfl
  | 28, _ => rfl
  | 29, _ => rfl
  | 30, _ => rfl
  | 31, _ => rfl
  | 32, _ => rfl
  | 33, _ => rfl
  | 34, _ => rfl
  | 35, _ => rfl
  | 36, _ => rfl
  | 37, _ => rfl
  | 38, _ => rfl
  | 39, _ => rfl
  | 40, _ => rfl
  | 41, _ => rfl
  | 42, _ => rfl
  | 43, _ => rfl
  | 44, _ => rfl
  | 45, _ => rfl
  | 46, _ => rfl
  | 47, _ => rfl
  | 48, _ => rfl
  | 49, _ => rfl
  | 50, _ => rfl
  | 51, _ => rfl
  | 52, _ => rfl
  | 53, _ => rfl
  | 54, _ => rfl
  | 55, _ => rfl
  | 56, _ => rfl
  | 57, _ => rfl
  | 58, _ => rfl
  | 59, _ => rfl
  | 60, _ => rfl
  | 61, _ => rfl
  | 62, _ => rfl
  | 63, _ => rfl
  | j + 64, h => absurd h (by omega)
theorem gTab64 : Tryd.prog.globalNamed "math/bits.deBruijn64tab" = some 0 := by kernel_rfl
theorem tTab64 : (Tryd.prog.globals[0]?).map (·.type) = some 99 := by kernel_rfl
set_option maxRecDepth 100000 in
theorem of_tab64 {W : World} (h : laidMetH Tryd.prog laidT W) : TabG W := by
  intro j hj
  rw [MakeChecks.laidMetH_plain _ _ _ (by kernel_rfl)] at h
  obtain ⟨ps, ⟨g0, t0, cs0, f0, p0, q0, hg0, ht0, hv0, hd0, _, _⟩, _, _⟩ := h
  obtain rfl := Option.some.inj (gTab64.symm.trans hg0)
  obtain rfl := Option.some.inj (tTab64.symm.trans ht0)
  obtain ⟨xs, m1, _, hx1, hlen, hn3, hel⟩ := DataW.trod_array Tryd.underlying99 hd0
  have c3 : Tryd.prog.cellsOf 5 = 1 := by kernel_rfl
  have h1 := hel j hj
  rw [c3, Nat.mul_one] at h1
  have hx2 : xs.map (·.1) = listOf (Rows.laid_math_bits_deBruijn64tab : DataW Unit) := by
    simp only [Prod.mk.injEq] at hx1
    rw [← show DataW.agg (xs.map (·.1)) = Rows.laid_math_bits_deBruijn64tab from hx1.1.symm]
    rfl
  obtain ⟨x1, hx3⟩ : ∃ x1, xs[j]? = some x1 := ⟨xs[j]'(by rw [hn3]; exact hj), List.getElem?_eq_getElem _⟩
  have hx4 : x1.1 = .lit (.int .u8 ((tab64.getD j 0 : Nat) : Int)) := by
    have h5 : (xs.map (·.1))[j]? = some x1.1 := by rw [List.getElem?_map, hx3]; rfl
    rw [hx2] at h5
    exact (Option.some.inj (h5.symm.trans (list64 j hj)))
  rw [hx3] at h1
  obtain ⟨k, e1, e2, _⟩ := DataW.trod_int Tryd.underlying5 h1
  have hk : k = ((tab64.getD j 0 : Nat) : Int) := by rw [e2] at hx4; simpa using hx4
  have hv := World.var?_cell hg0 hv0 j
  rw [hv, ← hk]
  have h6 : (cs0.toList.drop j)[0]? = some (Value.int .u8 k) := by
    have h7 : ((cs0.toList.drop j).take 1)[0]? = some (Value.int .u8 k) := by rw [e1]; rfl
    simpa using h7
  simpa using h6
end Go.Proofs.YtlndchmpnnlacaaDoor

namespace Go.Proofs.YtlndchmpnnlacaaDoor
open Go.ChangeShapes Go.WideShapes Go.ChangeAt Go.WideMaps Go.WideElems Go.RowKit Go.Deep Go.Joins

theorem i64_range {n : Int} (h : (Lit.int .i64 n).wf = true) : -9223372036854775808 ≤ n ∧ n ≤ 9223372036854775807 := by
  rw [show Lit.wf (.int .i64 n) = (decide (IntKind.i64.min ≤ n) && decide (n ≤ IntKind.i64.max)) from rfl, Bool.and_eq_true, decide_eq_true_iff, decide_eq_true_iff, show IntKind.i64.min = -9223372036854775808 by decide, show IntKind.i64.max = 9223372036854775807 by decide] at h
  exact h
section
variable {H : Type} {enc : TypeId × Value → H} {P : Program} {W : World}
theorem cells_KL {k : IntKind} {t e : TypeId} {fuel : Nat} {cs : List Value} {y : DataW H × List MemPlace} (ht : P.underlying t = some (.slice e)) (he : P.underlying e = some (.int k)) (hc : P.cellsOf e = 1)
    (hf : DataW.trod enc P W 0 (fun _ => true) true fuel t cs = some y) :
    ∃ (A : Option Addr) (xs : List Int) (c : Nat), cs = [.slice A xs.length c] ∧ KL k W W.heap.size A xs ∧ (∀ x ∈ xs, (Lit.int k x).wf = true) ∧ xs.length ≤ c ∧ c ≤ maxLen := by
  rcases open_ints ht he hc hf with ⟨h1, _⟩ | ⟨a, len, cap, zs, h1, _, hl, hm, hzl, _, hcell, hwf⟩
  · exact ⟨none, [], 0, h1, KL.nil_, (fun x hx => by cases hx), by simp, by unfold maxLen; omega⟩
  · have hzl' : zs.length = cap := by simpa using hzl
    have htl : (zs.take len).length = len := by rw [List.length_take]; omega
    have hall : KL k W W.heap.size (some a) zs := fun hn => by
      refine ⟨a, rfl, ?_, fun k hk => hcell k hk⟩
      have := World.block_lt_of_cell? W _ (hcell 0 hn)
      rwa [block_of_add] at this
    exact ⟨some a, zs.take len, cap, by rw [htl]; exact h1, hall.head (by omega), fun x hx => hwf x (List.mem_of_mem_take hx), by omega, hm⟩
theorem d32_of {xs : List Int} (h : ∀ x ∈ xs, (Lit.int .u32 x).wf = true) : Dig 4294967296 xs := fun x hx => by
  have := u32_range (h x hx)
  omega
/-- A polynomial, by value. -/
theorem open_ppoly {base : Nat} {t tp ts : TypeId} {f0 f1 : Field} {v : Value} {d : DataW H} {p : List MemPlace} (hs : P.underlying t = some (.struct #[f0, f1])) (hone : oneCellFields P #[f0, f1] = true) (hC : P.cellsOf t = 2)
    (h0 : f0.type = tp) (h1 : f1.type = ts) (hp : P.underlying tp = some (.int .u32)) (ht : P.underlying ts = some (.slice tp)) (hc : P.cellsOf tp = 1) (hv : Value.okWide P W .any base t v) (h : DataW.Trod enc P W 0 (fun _ => true) true t v d p) :
    ∃ (q : Nat) (A : Option Addr) (xs : List Int) (c : Nat), v = .agg #[.int .u32 (q : Int), .slice A xs.length c] ∧ q ≤ 4294967295 ∧ KL .u32 W W.heap.size A xs ∧ Dig 4294967296 xs ∧ xs.length ≤ c ∧ c ≤ maxLen := by
  obtain ⟨v0, v1, y0, y1, n, rfl, _, _, g0, g1⟩ := open_agg2 hs hone hC hv h
  rw [h0] at g0
  rw [h1] at g1
  obtain ⟨z, e0, _, wz⟩ := DataW.trod_int hp g0
  obtain ⟨A, xs, c, e1, kA, wA, lA, mA⟩ := cells_KL ht hp hc g1
  injection e0 with e0
  injection e1 with e1
  have := u32_range wz
  exact ⟨z.toNat, A, xs, c, by rw [e0, e1, Int.toNat_of_nonneg this.1], by omega, kA, d32_of wA, lA, mA⟩
end
end Go.Proofs.YtlndchmpnnlacaaDoor
