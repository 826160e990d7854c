/- The fixed fact of layer 5. -/
import Derived.Test.YtdlnbcceafofoaaDoorFac
import Derived.Test.YtdlnbcceafofoaaDoorIsC
namespace Go.Proofs.YtdlnbcceafofoaaDoor
open Go.RowKit
theorem factor_12 (w : World) : Calls Tryd.prog 10 #[.int .u64 12] w fun e w' => MadeF w ([2, 3], [2, 1]) e w' := by
  have IS : IsKnown (fun _ => True) (fun q => if q = 3 then some true else none) := fun q b W _ h => by
    by_cases hq : q = 3
    · subst hq
      simp at h
      subst h
      exact is_3 W
    · simp [hq] at h
  exact factor_any _ (fun _ _ _ _ => trivial) _ IS 5 12 ([2, 3], [2, 1]) w trivial (by decide +kernel) (by omega) (by omega) (by omega)
set_option maxHeartbeats 1000000 in
theorem next_7 (w : World) : Calls Tryd.prog 8 #[.int .u64 7] w fun e w' => e = .returned (.tuple #[.int .u64 11, .int .i64 0]) ∧ Below w.heap.size w w' := by
  go_enter Tryd.func8, Tryd.ntmps8
  go_wp2
  go_loopw [4] (fun p wr => (p = .int .u64 9 ∨ p = .int .u64 11) ∧ Hid (Below w.heap.size w wr)) (fun p _ => 12 - (intOf p).toNat)
  case atStart => exact ⟨.inl rfl, Lib.hid (Below.refl _ _)⟩
  case round =>
    obtain ⟨rfl | rfl, HB⟩ := hrel
    · go_wp2_with (go_at_call 6; (with_reducible refine (is_9 _).mono ?_); rintro e w1 ⟨rfl, hb⟩; have HB1 := Lib.hid (below_chain HB.out hb); clear hb)
      go_roundw
      case rel => exact ⟨.inr (by go_num), HB1⟩
      case measure => simp [intOf]
    · go_wp2_with (go_at_call 6; (with_reducible refine (is_11 _).mono ?_); rintro e w1 ⟨rfl, hb⟩; have HB1 := Lib.hid (below_chain HB.out hb); clear hb)
      go_ret2
      exact ⟨rfl, HB1.out⟩
theorem cells_two {w w' : World} {ad : Addr} {x y : Value} (ha : ad.block < w.heap.size) (h0 : w.cell? (ad.add 0) = some x) (h1 : w.cell? (ad.add 1) = some y) (hb : Below w.heap.size w w') :
    w'.cell? ad = some x ∧ w'.cell? { block := ad.block, off := ad.off + 1 } = some y ∧ w'.cell? (ad.add 1) = some y := by
  have e0 := (hb.cell (p := ad.add 0) (by rw [block_of_add]; exact ha)).trans h0
  have e1 := (hb.cell (p := ad.add 1) (by rw [block_of_add]; exact ha)).trans h1
  exact ⟨by simpa [Addr.add] using e0, by simpa [Addr.add] using e1, e1⟩
set_option maxHeartbeats 2000000 in
theorem alive_any (w : World) : Calls Tryd.prog 5 #[] w fun e w' => e = .returned (.bool true) ∧ Below w.heap.size w w' := by
  go_enter Tryd.func5, Tryd.ntmps5
  go_wp2_with (first
    | (go_at_call 10; (with_reducible refine (factor_12 _).mono ?_); rintro e w1 ⟨A, c, B, d, rfl, hA, hB, hc, hd, hb⟩; obtain ⟨ad, rfl, ha, hcA⟩ := hA (by decide); obtain ⟨bd, rfl, hbl, hcB⟩ := hB (by decide); have HB := Lib.hid hb; have p0 := hcA 0 (by decide); have p1 := hcA 1 (by decide); have q0 := hcB 0 (by decide); have q1 := hcB 1 (by decide); clear hA hB hb hcA hcB)
    | (go_at_call 8; (with_reducible refine (next_7 _).mono ?_); rintro e w2 ⟨rfl, hb⟩; obtain ⟨r0, r1, r2⟩ := cells_two ha p0 p1 hb; obtain ⟨s0, s1, s2⟩ := cells_two hbl q0 q1 hb; have HB2 := Lib.hid (below_chain HB.out hb); clear hb p0 p1 q0 q1))
  go_ret
  exact ⟨ret_bool (by first | rfl | (simp; done)), HB2.out⟩
end Go.Proofs.YtdlnbcceafofoaaDoor
