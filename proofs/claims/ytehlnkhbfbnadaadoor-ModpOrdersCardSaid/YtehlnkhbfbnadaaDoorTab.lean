/- The tables of math/bits, cell by cell, as the rows lay them. -/
import Derived.Test.YtehlnkhbfbnadaaDoorFrameD
import Derived.Test.YtehlnkhbfbnadaaDoorTon
namespace Go.Proofs.YtehlnkhbfbnadaaDoor
open Go.ChangeShapes Go.WideShapes Go.ChangeAt Go.WideMaps Go.WideElems Go.RowKit

def tab32 : List Nat := [0, 1, 28, 2, 29, 14, 24, 3, 30, 22, 20, 15, 25, 17, 4, 8, 31, 27, 13, 23, 21, 19, 16, 7, 26, 12, 18, 6, 11, 5, 10, 9]
theorem tab32_at : ∀ t, t < 32 → tab32.getD (2 ^ t * 125613361 % 4294967296 / 134217728) 0 = t ∧ 2 ^ t * 125613361 % 4294967296 / 134217728 < 32 := by decide +kernel
/-- The table of math/bits as it is laid. -/
def Tab32 (w : World) : Prop := ∀ j, j < 32 → w.cell? ⟨0, j, none⟩ = some (.int .u8 ((tab32.getD j 0 : Nat) : Int))
theorem Tab32.up {w w' : World} (h : Tab32 w) (hb : Below w.heap.size w w') : Tab32 w' := fun j hj => (hb.cell (World.block_lt_of_cell? w _ (h j hj))).trans (h j hj)
def listOf : DataW Unit → List (DataW Unit)
  | .agg l => l
  | _ => []
theorem list32 : ∀ j, j < 32 → (listOf (Rows.laid_math_bits_deBruijn32tab : DataW Unit))[j]? = some (.lit (.int .u8 ((tab32.getD j 0 : Nat) : Int)))
  | 0, _ => rfl
  | 1, _ => rfl
  | 2, _ => rfl
  | 3, _ => rfl
  | 4, _ => rfl
  | 5, _ => rfl
  | 6, _ => rfl
  | 7, _ => rfl
  | 8, _ => rfl
  | 9, _ => rfl
  | 10, _ => rfl
  | 11, _ => rfl
  | 12, _ => rfl
  | 13, _ => rfl
  | 14, _ => rfl
  | 15, _ => rfl
  | 16, _ => rfl
  | 17, _ => rfl
  | 18, _ => rfl
  | 19, _ => rfl
  | 20, _ => rfl
  | 21, _ => rfl
  | 22, _ => rfl
  | 23, _ => rfl
  | 24, _ => rfl
  | 25, _ => rfl
  | 26, _ => rfl
  | 27, _ => rfl
  | 28, _ => rfl
  | 29, _ => rfl
  | 30, _ => rfl
  | 31, _ => rfl
  | j + 32, h => absurd h (by omega)
theorem gTab32 : Tryd.prog.globalNamed "math/bits.deBruijn32tab" = some 0 := by kernel_rfl
theorem tTab32 : (Tryd.prog.globals[0]?).map (·.type) = some 57 := by kernel_rfl
set_option maxRecDepth 100000 in
theorem of_tab32 {W : World} (h : laidMetH Tryd.prog laidT W) : Tab32 W := by
  intro j hj
  rw [MakeChecks.laidMetH_plain _ _ _ (by kernel_rfl)] at h
  obtain ⟨ps, ⟨g0, t0, cs0, f0, p0, q0, hg0, ht0, hv0, hd0, _, _⟩, _, _⟩ := h
  obtain rfl := Option.some.inj (gTab32.symm.trans hg0)
  obtain rfl := Option.some.inj (tTab32.symm.trans ht0)
  obtain ⟨xs, m1, _, hx1, hlen, hn3, hel⟩ := DataW.trod_array Tryd.underlying57 hd0
  have c3 : Tryd.prog.cellsOf 5 = 1 := by kernel_rfl
  have h1 := hel j hj
  rw [c3, Nat.mul_one] at h1
  have hx2 : xs.map (·.1) = listOf (Rows.laid_math_bits_deBruijn32tab : DataW Unit) := by
    simp only [Prod.mk.injEq] at hx1
    rw [← show DataW.agg (xs.map (·.1)) = Rows.laid_math_bits_deBruijn32tab from hx1.1.symm]
    rfl
  obtain ⟨x1, hx3⟩ : ∃ x1, xs[j]? = some x1 := ⟨xs[j]'(by rw [hn3]; exact hj), List.getElem?_eq_getElem _⟩
  have hx4 : x1.1 = .lit (.int .u8 ((tab32.getD j 0 : Nat) : Int)) := by
    have h5 : (xs.map (·.1))[j]? = some x1.1 := by rw [List.getElem?_map, hx3]; rfl
    rw [hx2] at h5
    exact (Option.some.inj (h5.symm.trans (list32 j hj)))
  rw [hx3] at h1
  obtain ⟨k, e1, e2, _⟩ := DataW.trod_int Tryd.underlying5 h1
  have hk : k = ((tab32.getD j 0 : Nat) : Int) := by rw [e2] at hx4; simpa using hx4
  have hv := World.var?_cell hg0 hv0 j
  rw [hv, ← hk]
  have h6 : (cs0.toList.drop j)[0]? = some (Value.int .u8 k) := by
    have h7 : ((cs0.toList.drop j).take 1)[0]? = some (Value.int .u8 k) := by rw [e1]; rfl
    simpa using h7
  simpa using h6
theorem and_neg32 {x o t : Nat} (hx : x = o * 2 ^ t) (ho : o % 2 = 1) (hl : x < 4294967296) : bits .and .u32 (x : Int) (IntKind.u32.wrap (-(x : Int))) = ((2 ^ t : Nat) : Int) := by
  have hx0 : 0 < x := by rw [hx]; exact Nat.mul_pos (by omega) (Nat.pow_pos (by omega))
  have e0 : IntKind.u32.wrap (-(x : Int)) = ((4294967296 - x : Nat) : Int) := by rw [IntKind.wrap_u32]; omega
  have hlow := low_one (n := 32) hx ho hl
  rw [e0]
  show IntKind.u32.wrap ((BitVec.ofInt 32 (x : Int) &&& BitVec.ofInt 32 ((4294967296 - x : Nat) : Int)).toNat : Int) = _
  have e : (BitVec.ofInt 32 (x : Int) &&& BitVec.ofInt 32 ((4294967296 - x : Nat) : Int)).toNat = 2 ^ t := by
    rw [BitVec.toNat_and, BitVec.ofInt_natCast, BitVec.ofInt_natCast, BitVec.toNat_ofNat, BitVec.toNat_ofNat, Nat.mod_eq_of_lt (by omega), Nat.mod_eq_of_lt (by omega)]
    exact hlow
  rw [e, IntKind.wrap_u32]
  have : 2 ^ t ≤ x := by rw [hx]; exact Nat.le_mul_of_pos_left _ (by omega)
  omega
theorem tz32 (x o t : Nat) (w : World) (hg : Tab32 w) (hx : x = o * 2 ^ t) (ho : o % 2 = 1) (hl : x < 4294967296) :
    Calls Tryd.prog 40 #[.int .u32 (x : Int)] w fun e w' => e = .returned (.int .i64 (t : Int)) ∧ w = w' := by
  have hx0 : 0 < x := by rw [hx]; exact Nat.mul_pos (by omega) (Nat.pow_pos (by omega))
  have ht32 : t < 32 := by
    rcases Nat.lt_or_ge t 32 with h | h
    · exact h
    · have h1 := Nat.pow_le_pow_right (show 0 < 2 by omega) h
      have h2 : 1 * 2 ^ t ≤ o * 2 ^ t := Nat.mul_le_mul_right _ (by omega)
      omega
  have hb : bits .and .u32 (x : Int) (-(x : Int) % 4294967296) = ((2 ^ t : Nat) : Int) := by have := and_neg32 hx ho hl; rwa [IntKind.wrap_u32] at this
  obtain ⟨hv1, hv2⟩ := tab32_at t ht32
  obtain ⟨y, hy⟩ : ∃ y, 2 ^ t = y := ⟨_, rfl⟩
  rw [hy] at hb hv1 hv2
  obtain ⟨v, hv⟩ : ∃ v, y * 125613361 % 4294967296 = v := ⟨_, rfl⟩
  rw [hv] at hv1 hv2
  obtain ⟨i, hi⟩ : ∃ i, v / 134217728 = i := ⟨_, rfl⟩
  rw [hi] at hv1 hv2
  have hc := hg i hv2
  rw [hv1] at hc
  have hw : (y : Int) * 125613361 % 4294967296 = (v : Int) := by rw [← hv]; omega
  have hi' : (v : Int) / 134217728 = (i : Int) := by rw [← hi]; omega
  have hne : ((x : Int) == 0) = false := by rw [beq_eq_false_iff_ne]; omega
  have hi0 : (0 : Int) ≤ (i : Int) := by omega
  have hi1 : (i : Int) < 32 := by omega
  have ht0 : (0 : Int) ≤ (t : Int) := by omega
  have ht1 : (t : Int) ≤ 31 := by omega
  clear hg hx hl hy hv hi hv1
  go_enter Tryd.func40, Tryd.ntmps40
  go_wp2
  go_ret
  exact ⟨rfl, rfl⟩
end Go.Proofs.YtehlnkhbfbnadaaDoor
