/- The fixed fact: less one, and what it is modulo 7. -/
import Derived.Test.YtehlnkhbfbnadaaDoorFixB
import Derived.Maps.AppendAt
namespace Go.Proofs.YtehlnkhbfbnadaaDoor
open Go.RowKit

/-- Less one, as it was made. -/
def MadeM1 (w : World) (e : Ending) (w' : World) : Prop :=
  ∃ (ad : Addr) (c : Nat), e = .returned (.agg #[.bool true, .slice (some ad) 1 c]) ∧ w'.cell? ad = some (.int .u32 1) ∧ ad.block < w'.heap.size ∧ w.heap.size ≤ ad.block ∧ Below w.heap.size w w'
theorem cell_first {w : World} {g : Nat} {v : Value} {cs : Array Value} {t : TypeId} (h : w.heap.size = g) : (w.alloc (.cells (#[v] ++ cs) t)).cell? ⟨g, 0, none⟩ = some v := by
  subst h
  have e : (w.alloc (.cells (#[v] ++ cs) t)).heap[w.heap.size]? = some (.cells (#[v] ++ cs) t) := heap_alloc_new w _
  unfold World.cell?
  simp only [e]
  show (#[v] ++ cs)[0]? = some v
  rw [Array.getElem?_append_left (by simp)]
  rfl
set_option maxHeartbeats 1000000 in
theorem trim_m1 (g : Nat) (w : World) (h0 : w.cell? ⟨g, 0, none⟩ = some (.int .u32 1)) (h1 : w.cell? ⟨g, 1, none⟩ = some (.int .u32 0)) (hg : g < w.heap.size) :
    Calls Tryd.prog 38 #[.bool true, .slice (some ⟨g, 0, none⟩) 2 2] w fun e w' => MadeM1 w e w' := by
  have hb := Below.refl w.heap.size w
  have a0 : (w.alloc (.cells #[.bool false, .slice none 0 0] 43)).cell? ⟨g, 0, none⟩ = some (.int .u32 1) := ((hb.alloc (Nat.le_refl _) _).cell hg).trans h0
  have a1 : (w.alloc (.cells #[.bool false, .slice none 0 0] 43)).cell? ⟨g, 1, none⟩ = some (.int .u32 0) := ((hb.alloc (Nat.le_refl _) _).cell hg).trans h1
  go_enter Tryd.func38, Tryd.ntmps38
  go_wp2
  go_loop [5] (fun n => n = .int .i64 2 ∨ n = .int .i64 1) (fun n => (intOf n).toNat)
  case atStart => exact .inl rfl
  case round =>
    rcases hrel with rfl | rfl
    · go_wp2
      go_round
      case rel => exact .inr (by go_num)
      case measure => simp [intOf]
    · go_wp2
      refine bodyPost_ret (v := .agg #[.bool true, .slice (some ⟨w.heap.size + 1 + 1, 0, none⟩) 1 ((Question.appendCap 1 0 22).cut (w.tape w.drawn (Question.appendCap 1 0 22)))]) (by simp [results, Tryd.results38, go_sem]) rfl ?_
      exact ⟨⟨w.heap.size + 1 + 1, 0, none⟩, _, rfl, (cell_first (by simp) : _), by simp, (show w.heap.size ≤ w.heap.size + 1 + 1 by omega), by go_grown⟩
theorem of_m1 (w : World) : Calls Tryd.prog 32 #[.int .i64 (-1)] w fun e w' => MadeM1 w e w' := by
  have e1 : IntKind.u64.wrap (-1) = 18446744073709551615 := by decide
  have e2 : IntKind.u64.wrap (-18446744073709551615) = 1 := by decide
  go_enter Tryd.func32, Tryd.ntmps32
  go_wp2_with (go_at_call 38; (with_reducible refine (trim_m1 (w.heap.size + 1) _ (by go_cell) (by go_cell) (by simp)).mono ?_); rintro e w1 ⟨ad, c, rfl, hc, hl, hge, hb⟩; have HC := Lib.hid hc; have HL := Lib.hid hl; have hge2 : w.heap.size + 2 ≤ ad.block := (by (simp only [World.size_alloc] at hge; omega)); have HGE := Lib.hid hge2; have HB := Lib.hid hb; have c0 := (hb.cell (p := ⟨w.heap.size, 0, none⟩) (by (simp only [World.size_alloc]; omega))).trans (show _ = some (Value.bool false) by (simp; done)); have c1 := (hb.cell (p := ⟨w.heap.size, 1, none⟩) (by (simp only [World.size_alloc]; omega))).trans (show _ = some (Value.slice none 0 0) by (simp; done)); have f0 := (hb.frozen (p := ⟨w.heap.size, 0, none⟩) (by (simp only [World.size_alloc]; omega))).trans (show _ = false by (simp; done)); have f1 := (hb.frozen (p := ⟨w.heap.size, 1, none⟩) (by (simp only [World.size_alloc]; omega))).trans (show _ = false by (simp; done)); have hsz : w.heap.size + 2 ≤ w1.heap.size := (by (have := hb.size; simp only [World.size_alloc] at this; omega)); have HSZ := Lib.hid hsz; clear hc hl hb hge hge2 hsz)
  have d0 : (w1.setCell ⟨w.heap.size, 0, none⟩ (.bool true)).cell? ⟨w.heap.size, 0, none⟩ = some (.bool true) := World.cell?_setCell_same _ _ _ c0
  have d1 : ((w1.setCell ⟨w.heap.size, 0, none⟩ (.bool true)).setCell ⟨w.heap.size, 1, none⟩ (.slice (some ad) 1 c)).cell? ⟨w.heap.size, 1, none⟩ = some (.slice (some ad) 1 c) :=
    World.cell?_setCell_same _ _ _ ((World.cell?_setCell_other _ _ _ _ (by simp)).trans c1)
  refine bodyPost_ret (v := .agg #[.bool true, .slice (some ad) 1 c]) (by simp [results, Tryd.results32, go_sem, d0, d1]) rfl ?_
  have hne : ∀ k : Nat, (⟨w.heap.size, k, none⟩ : Addr) ≠ ad := fun k h => by
    have := HGE.out
    rw [← h] at this
    simp at this
    omega
  have hb2 : Below w.heap.size w w1 := (((Below.refl w.heap.size w).alloc (Nat.le_refl _) _).alloc (by simp) _).trans (HB.out.mono (by (simp only [World.size_alloc]; omega)))
  refine ⟨ad, c, rfl, ?_, ?_, ?_, (hb2.setCell (Nat.le_refl _) _).setCell (Nat.le_refl _) _⟩
  · rw [World.cell?_setCell_other _ _ _ _ (hne 1), World.cell?_setCell_other _ _ _ _ (hne 0)]
    exact HC.out
  · have := HL.out
    simpa [World.setCell] using this
  · have := HGE.out
    omega
set_option maxHeartbeats 1000000 in
theorem sign_m1 (ad : Addr) (c : Nat) (w : World) : Calls Tryd.prog 37 #[.agg #[.bool true, .slice (some ad) 1 c]] w fun e w' => e = .returned (.int .i64 (-1)) ∧ Below w.heap.size w w' := by
  go_enter Tryd.func37, Tryd.ntmps37
  go_wp2
  go_ret
  exact ⟨rfl, by go_grown⟩
set_option maxHeartbeats 1000000 in
theorem from_m1 (ad : Addr) (c : Nat) (w : World) (hc : w.cell? ad = some (.int .u32 1)) (hb : ad.block < w.heap.size) : Calls Tryd.prog 31 #[.int .u32 7, .agg #[.bool true, .slice (some ad) 1 c]] w fun e w' => e = .returned (.int .u32 6) ∧ Below w.heap.size w w' := by
  have hor : bits .or .u64 0 1 = 1 := by decide
  have HN : Hid (∀ W : World, Calls Tryd.prog 19 #[.int .u32 7, .int .u32 1] W fun e w' => e = .returned (.int .u32 6) ∧ W = w') := Lib.hid fun W => mneg_any 7 1 W (by decide) (by decide)
  have hcell : (w.alloc (.cells #[.bool true, .slice (some ad) 1 c] 43)).cell? ad = some (.int .u32 1) :=
    (((Below.refl w.heap.size w).alloc (Nat.le_refl _) _).cell hb).trans hc
  go_enter Tryd.func31, Tryd.ntmps31
  go_wp2
  go_loop [5, 6] (fun r i => (r = .int .u64 0 ∧ i = .int .i64 0) ∨ (r = .int .u64 1 ∧ i = .int .i64 (-1))) (fun _ i => ((intOf i) + 1).toNat)
  case atStart => exact .inl ⟨rfl, rfl⟩
  case round =>
    rcases hrel with ⟨rfl, rfl⟩ | ⟨rfl, rfl⟩
    · go_wp2
      go_round
      case rel => exact .inr ⟨by go_num, by go_num⟩
      case measure => simp [intOf]
    · go_wp2_with (first
        | (go_at_call 37; (with_reducible refine (sign_m1 ad c _).mono ?_); rintro e w1 ⟨rfl, hb1⟩; have HB := Lib.hid hb1; clear hb1)
        | (go_at_call 19; (with_reducible refine (HN.out _).mono ?_); rintro e w' ⟨rfl, rfl⟩))
      go_ret
      exact ⟨rfl, below_chain (w := w) (by go_grown) HB.out⟩
end Go.Proofs.YtehlnkhbfbnadaaDoor
