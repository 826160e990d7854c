/- Arrays of numbers that come in. -/
import Derived.Test.YtehlnkhbfbnadaaDoorFrameD
namespace Go.Proofs.YtehlnkhbfbnadaaDoor
open Go.ChangeShapes Go.WideShapes Go.ChangeAt Go.WideMaps Go.WideElems Go.RowKit

theorem list_of_cells {k : IntKind} : ∀ (n : Nat) (cs : List Value), cs.length = n → (∀ i, i < n → ∃ z, (cs.drop i).take 1 = [.int k z] ∧ (Lit.int k z).wf = true) → ∃ zs : List Int, zs.length = n ∧ cs = zs.map (Value.int k) ∧ ∀ z ∈ zs, (Lit.int k z).wf = true
  | 0, cs, hl, _ => ⟨[], rfl, List.eq_nil_of_length_eq_zero hl, fun z hz => by cases hz⟩
  | n + 1, [], hl, _ => by simp at hl
  | n + 1, c :: cs, hl, h => by
    obtain ⟨z, hz, hw⟩ := h 0 (by omega)
    have : c = .int k z := by simpa using hz
    subst this
    obtain ⟨zs, h1, rfl, h3⟩ := list_of_cells (k := k) n cs (by simpa using hl) fun i hi => by
      have := h (i + 1) (by omega)
      simpa using this
    exact ⟨z :: zs, by simp [h1], rfl, fun y hy => by
      rcases List.mem_cons.1 hy with rfl | hy
      · exact hw
      · exact h3 y hy⟩
theorem open_arr_ints {H : Type} {enc : TypeId × Value → H} {P : Program} {w W : World} {r : Reach} {b0 base n : Nat} {spare : Nat → Bool} {held : Bool} {t e : TypeId} {k : IntKind} {v : Value} {d : DataW H} {ps : List MemPlace}
    (ht : P.underlying t = some (.array n e)) (he : P.underlying e = some (.int k)) (hce : P.cellsOf e = 1) (hct : P.cellsOf t = n) (hval : Value.okWide P W r b0 t v) (hd : DataW.Trod enc P w base spare held t v d ps) :
    ∃ zs : List Int, zs.length = n ∧ v = .agg (zs.map (Value.int k)).toArray ∧ ∀ z ∈ zs, (Lit.int k z).wf = true := by
  simp only [Value.okWide, ht] at hval
  obtain ⟨cs, rfl, hs, _⟩ := hval
  obtain ⟨fuel, hf⟩ := hd
  obtain ⟨xs, m, _, _, hl, hn, hel⟩ := DataW.trod_array ht hf
  rw [hce] at hel
  obtain ⟨zs, h1, h2, h3⟩ := list_of_cells (k := k) n cs.toList (by rw [Array.length_toList, hs, hct]) fun i hi => by
    have := hel i hi
    rw [Nat.mul_one, List.getElem?_eq_getElem (by omega)] at this
    obtain ⟨z, e1, _, hw⟩ := DataW.trod_int he this
    exact ⟨z, e1, hw⟩
  exact ⟨zs, h1, by rw [← h2], h3⟩
theorem u64_range {n : Int} (h : (Lit.int .u64 n).wf = true) : 0 ≤ n ∧ n ≤ 18446744073709551615 := by
  rw [show Lit.wf (.int .u64 n) = (decide (IntKind.u64.min ≤ n) && decide (n ≤ IntKind.u64.max)) from rfl, Bool.and_eq_true, decide_eq_true_iff, decide_eq_true_iff, show IntKind.u64.min = 0 by decide, show IntKind.u64.max = 18446744073709551615 by decide] at h
  exact h
theorem two_nats {zs : List Int} (hl : zs.length = 2) (hr : ∀ z ∈ zs, 0 ≤ z ∧ z ≤ 18446744073709551615) : ∃ a b : Nat, zs = [(a : Int), (b : Int)] ∧ a ≤ 18446744073709551615 ∧ b ≤ 18446744073709551615 := by
  match zs, hl with
  | [x, y], _ =>
    have hx := hr x (by simp)
    have hy := hr y (by simp)
    exact ⟨x.toNat, y.toNat, by rw [Int.toNat_of_nonneg hx.1, Int.toNat_of_nonneg hy.1], by omega, by omega⟩
theorem three_nats {zs : List Int} (hl : zs.length = 3) (hr : ∀ z ∈ zs, 0 ≤ z ∧ z ≤ 4294967295) : ∃ a b c : Nat, zs = [(a : Int), (b : Int), (c : Int)] ∧ a ≤ 4294967295 ∧ b ≤ 4294967295 ∧ c ≤ 4294967295 := by
  match zs, hl with
  | [x, y, z], _ =>
    have hx := hr x (by simp)
    have hy := hr y (by simp)
    have hz := hr z (by simp)
    exact ⟨x.toNat, y.toNat, z.toNat, by rw [Int.toNat_of_nonneg hx.1, Int.toNat_of_nonneg hy.1, Int.toNat_of_nonneg hz.1], by omega, by omega, by omega⟩
end Go.Proofs.YtehlnkhbfbnadaaDoor
