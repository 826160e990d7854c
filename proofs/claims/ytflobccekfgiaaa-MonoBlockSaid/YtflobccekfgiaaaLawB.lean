/- The walk of MonoBlock. -/
import Derived.Test.YtflobccekfgiaaaBlk
import Derived.Deep.RegionHeld3
namespace Go.Proofs.Ytflobccekfgiaaa
open Go.RowKit

set_option maxHeartbeats 2000000 in
theorem law_block (a0 : Int) (A B : Option Addr) (xs ys : List Int) (c d : Nat) (w : World) (h : IL w w.heap.size A xs) (h' : IL w w.heap.size B ys) (hxl : xs.length ≤ 9223372036854775807) (hyl : ys.length ≤ 9223372036854775807) (hc : xs.length ≤ c) (hd : ys.length ≤ d) (ha0 : 0 ≤ a0) (ha1 : a0 ≤ 255) :
    Calls Try.prog 9 #[.int .u8 a0, .slice A xs.length c, .slice B ys.length d] w fun e w' => e = .returned (.bool true) ∧ Below w.heap.size w w' := by
  have HA_0 : Hid _ := Lib.hid h
  have HB2_0 : Hid _ := Lib.hid h'
  have HB_0 : Hid _ := Lib.hid (Below.refl w.heap.size w)
  have HT : Hid (∀ W : World, IL W W.heap.size A xs → IL W W.heap.size B ys → Calls Try.prog 15 #[.slice A xs.length c, .slice B ys.length d] W fun e w' => e = .returned (.bool (twoB xs ys)) ∧ W = w') :=
    Lib.hid fun W h h' => two_any A B xs ys c d W h h' hxl hyl
  by_cases ht : twoB xs ys = true
  · obtain ⟨hl, hx, hy⟩ := two_lim ht
    have h6 := hx.1
    have h6' := hy.1
    rw [ht] at HT
    obtain ⟨i0, hi0, hz0, hz1, hz2⟩ := info_parts int_info
    obtain ⟨k, hk⟩ : ∃ k : Nat, a0 % ((xs.length : Int) + 1) = (k : Int) := ⟨(a0 % ((xs.length : Int) + 1)).toNat, by have := Int.emod_nonneg a0 (show (xs.length : Int) + 1 ≠ 0 by omega); omega⟩
    have hkl : k ≤ xs.length := by have := Int.emod_lt_of_pos a0 (show 0 < (xs.length : Int) + 1 by omega); omega
    have hkl' : k ≤ ys.length := by omega
    have HLE := Lib.hid hl
    have HX := Lib.hid hx
    have HY := Lib.hid hy
    clear h h' ht hl hx hy
    go_enter Try.func9, Try.ntmps9
    go_wp2_with (first
      | (go_at_call 10; (with_reducible refine (awake_any _).mono ?_); rintro e w1 ⟨rfl, hb⟩; have HA_1 := Lib.hid (HA_0.out.up hb); have HB2_1 := Lib.hid (HB2_0.out.up hb); have HB_1 := Lib.hid (below_chain HB_0.out hb); clear hb)
      | (go_at_call 15; (with_reducible refine (HT.out _ HA_1.out HB2_1.out).mono ?_); rintro e w' ⟨rfl, rfl⟩))
    rw [hk]
    have HK := Lib.hid hk
    clear hk
    have o2 : (w1.alloc (Obj.cells #[Value.int .i64 3, Value.int .i64 (k : Int)] 24)).cell? ⟨w1.heap.size, 0, none⟩ = some (.int .i64 3) := by go_cell
    have p2 : (w1.alloc (Obj.cells #[Value.int .i64 3, Value.int .i64 (k : Int)] 24)).cell? ⟨w1.heap.size, 1, none⟩ = some (.int .i64 (k : Int)) := by go_cell
    have z2 : w1.heap.size < (w1.alloc (Obj.cells #[Value.int .i64 3, Value.int .i64 (k : Int)] 24)).heap.size := by simp
    have HA_2 := Lib.hid (HA_1.out.up (w' := w1.alloc (Obj.cells #[Value.int .i64 3, Value.int .i64 (k : Int)] 24)) (by go_grown))
    have HB2_2 := Lib.hid (HB2_1.out.up (w' := w1.alloc (Obj.cells #[Value.int .i64 3, Value.int .i64 (k : Int)] 24)) (by go_grown))
    have HB_2 := Lib.hid (below_chain (w' := w1.alloc (Obj.cells #[Value.int .i64 3, Value.int .i64 (k : Int)] 24)) HB_1.out (by go_grown))
    generalize w1.alloc (Obj.cells #[Value.int .i64 3, Value.int .i64 (k : Int)] 24) = w2 at *
    obtain ⟨A2, hA2⟩ : ∃ Z, (if c = k then A else Option.map (fun x => x.add k) A) = Z := ⟨_, rfl⟩
    have HA2 : Hid (IL w2 w2.heap.size A2 (xs.drop k)) := Lib.hid (by rw [← hA2]; exact HA_2.out.cut hkl hc)
    have hmk := run_make_ints (P := Try.prog) 22 3 i0 Try.underlying22 hi0 hz0 hz1 hz2 k (by omega)
    have hbw := Below.refl w2.heap.size w2
    go_region_held3 (fun w' => Below w2.heap.size w2 w')
      (first
        | assumption
        | exact Below.drew (by assumption)
        | exact Below.alloc (by assumption) (by simp; done) _
        | exact Below.grown (by assumption) hgrow (by simp; done) (fun j hj => by simp [Value.ownBlock] at hj; omega))
      ((refine step_append_IL _ (by rfl) _ _ _ (by rfl) w2.heap.size 3 i0 8 Try.underlying22 hi0 hz0 hz1 hz2 _ k _ (by rfl) (World.ownsRow_lit _ _ k (Nat.le_refl _) (by unfold maxLen; omega) (by simp [size_madeCells])) w2.heap.size A2 (xs.length - k) (c - k) (xs.drop k) List.length_drop (by rfl) ((HA2.out.below ((Below.refl _ _).drew.alloc (by simp) _))) (by unfold maxLen; omega) (by omega) (by simp) ?_; intro v3 w3 hown hgrow))
    have hb : Below w2.heap.size w2 w3 := by
      refine Below.grown ?_ hgrow (by simp) (fun j hj => by simp [Value.ownBlock] at hj; omega)
      exact (Below.refl _ _).drew.alloc (by simp) _
    have hrow : w3.ownsRow w2.heap.size 3 1 v3 (k + (xs.length - k)) (List.map (Value.int .i64) (cutL k xs)) := by
      rw [toList_madeCells_one] at hown
      unfold cutL
      rw [List.map_append, List.map_replicate]
      exact hown
    obtain ⟨A3, c3, hv3, hA3, hc3⟩ := made_of_row hrow
    have o3 := (hb.cell (p := ⟨w1.heap.size, 0, none⟩) z2).trans o2
    have p3 := (hb.cell (p := ⟨w1.heap.size, 1, none⟩) z2).trans p2
    have z3 := Nat.lt_of_lt_of_le z2 hb.size
    have HA_3 := Lib.hid (HA_2.out.up hb)
    have HB2_3 := Lib.hid (HB2_2.out.up hb)
    have HB_3 := Lib.hid (below_chain HB_2.out hb)
    
    have HA3_3 := Lib.hid hA3
    have HCA3 := Lib.hid hc3
    have HV3 := Lib.hid hv3
    clear hown hgrow hb hrow hA3 hc3 hA2 hmk hbw hv3
    obtain rfl := HV3.out
    clear HV3
    go_wp2
    obtain ⟨B2, hB2⟩ : ∃ Z, (if d = k then B else Option.map (fun x => x.add k) B) = Z := ⟨_, rfl⟩
    have HB2 : Hid (IL w3 w3.heap.size B2 (ys.drop k)) := Lib.hid (by rw [← hB2]; exact HB2_3.out.cut hkl' hd)
    have hmk := run_make_ints (P := Try.prog) 22 3 i0 Try.underlying22 hi0 hz0 hz1 hz2 k (by omega)
    have hbw := Below.refl w3.heap.size w3
    go_region_held3 (fun w' => Below w3.heap.size w3 w')
      (first
        | assumption
        | exact Below.drew (by assumption)
        | exact Below.alloc (by assumption) (by simp; done) _
        | exact Below.grown (by assumption) hgrow (by simp; done) (fun j hj => by simp [Value.ownBlock] at hj; omega))
      ((refine step_append_IL _ (by rfl) _ _ _ (by rfl) w3.heap.size 3 i0 8 Try.underlying22 hi0 hz0 hz1 hz2 _ k _ (by rfl) (World.ownsRow_lit _ _ k (Nat.le_refl _) (by unfold maxLen; omega) (by simp [size_madeCells])) w3.heap.size B2 (ys.length - k) (d - k) (ys.drop k) List.length_drop (by rfl) ((HB2.out.below ((Below.refl _ _).drew.alloc (by simp) _))) (by unfold maxLen; omega) (by omega) (by simp) ?_; intro v4 w4 hown hgrow))
    have hb : Below w3.heap.size w3 w4 := by
      refine Below.grown ?_ hgrow (by simp) (fun j hj => by simp [Value.ownBlock] at hj; omega)
      exact (Below.refl _ _).drew.alloc (by simp) _
    have hrow : w4.ownsRow w3.heap.size 3 1 v4 (k + (ys.length - k)) (List.map (Value.int .i64) (cutL k ys)) := by
      rw [toList_madeCells_one] at hown
      unfold cutL
      rw [List.map_append, List.map_replicate]
      exact hown
    obtain ⟨B3, d3, hv4, hB3, hd3⟩ := made_of_row hrow
    have o4 := (hb.cell (p := ⟨w1.heap.size, 0, none⟩) z3).trans o3
    have p4 := (hb.cell (p := ⟨w1.heap.size, 1, none⟩) z3).trans p3
    have z4 := Nat.lt_of_lt_of_le z3 hb.size
    have HA_4 := Lib.hid (HA_3.out.up hb)
    have HB2_4 := Lib.hid (HB2_3.out.up hb)
    have HB_4 := Lib.hid (below_chain HB_3.out hb)
    have HA3_4 := Lib.hid (HA3_3.out.up hb)
    have HB3_4 := Lib.hid hB3
    have HCB3 := Lib.hid hd3
    have HV4 := Lib.hid hv4
    clear hown hgrow hb hrow hB3 hd3 hB2 hmk hbw hv4
    obtain rfl := HV4.out
    clear HV4
    have hle := HLE.out
    have hX6 := cutL_length hkl
    have hY6 := cutL_length hkl'
    have hXL := cutL_lim HX.out hkl
    have hYL := cutL_lim HY.out hkl'
    have hord : orderB ys.length 3 (k : Int) = true := decide_eq_true ⟨by omega, by omega, .inl ⟨rfl, by omega, by omega⟩⟩
    have hord' : orderB (cutL k xs).length 3 (k : Int) = true := decide_eq_true ⟨by omega, by omega, .inl ⟨rfl, by omega, by omega⟩⟩
    obtain ⟨g, hg⟩ : ∃ g, degL (ys.take k) = g := ⟨_, rfl⟩
    obtain ⟨r, hr⟩ : ∃ r, cmpL 3 (k : Int) (cutL k xs) (cutL k ys) = r := ⟨_, rfl⟩
    have hr2 : cmpL 2 0 (cutL k xs) (cutL k ys) = r := by
      rw [← hr]
      show grevL _ _ = blockL _ _ _
      exact (block_cut HLE.out).symm
    have D1 : Hid (∀ W : World, Below w4.heap.size w4 W → Calls Try.prog 28 #[.slice B k d] W fun e w' => e = .returned (.int .i64 g) ∧ W = w') :=
      Lib.hid fun W hb => by
        have := refdeg_any B (ys.take k) d 60 W ((HB2_4.out.up hb).head hkl') (HY.out.take k) (by omega) (by omega)
        rw [List.length_take, Nat.min_eq_left hkl', hg] at this
        exact this
    have M0 : Hid (0 < g → ∀ W : World, Below w4.heap.size w4 W → Calls Try.prog 29 #[.agg #[.int .i64 3, .int .i64 (k : Int)], .slice B ys.length d, .slice A3 (cutL k xs).length c3] W fun e w' => e = .returned (.int .i64 1) ∧ Below W.heap.size W w') :=
      Lib.hid fun hg0 W hb => by
        have e : cmpL 3 (k : Int) ys (cutL k xs) = 1 := by
          show blockL (k : Int).toNat ys (cutL k xs) = 1
          rw [Int.toNat_natCast]
          exact block_one HLE.out hkl (lim_mem HY.out) (by rw [hg]; exact hg0)
        have hcc := cmp_c _ 3 (k : Int) 60 B A3 ys (cutL k xs) d c3 W (HB2_4.out.up hb) (HA3_4.out.up hb) (by omega) HY.out hXL (by omega) (by omega) rfl hord hd HCA3.out
        rw [e] at hcc
        exact hcc
    have M1 : Hid (∀ W : World, Below w4.heap.size w4 W → Calls Try.prog 29 #[.agg #[.int .i64 3, .int .i64 (k : Int)], .slice A3 (cutL k xs).length c3, .slice B3 (cutL k ys).length d3] W fun e w' => e = .returned (.int .i64 r) ∧ Below W.heap.size W w') :=
      Lib.hid fun W hb => by rw [← hr]; exact cmp_c _ 3 (k : Int) 60 A3 B3 (cutL k xs) (cutL k ys) c3 d3 W (HA3_4.out.up hb) (HB3_4.out.up hb) (by omega) hXL hYL (by omega) (by omega) rfl hord' HCA3.out HCB3.out
    have M2 : Hid (∀ W : World, Below w4.heap.size w4 W → Calls Try.prog 29 #[.agg #[.int .i64 2, .int .i64 0], .slice A3 (cutL k xs).length c3, .slice B3 (cutL k ys).length d3] W fun e w' => e = .returned (.int .i64 r) ∧ Below W.heap.size W w') :=
      Lib.hid fun W hb => by rw [← hr2]; exact cmp_c _ 2 0 60 A3 B3 (cutL k xs) (cutL k ys) c3 d3 W (HA3_4.out.up hb) (HB3_4.out.up hb) (by omega) hXL hYL (by omega) (by omega) rfl (decide_eq_true ⟨by omega, by omega, .inr ⟨by omega, by omega, rfl⟩⟩) HCA3.out HCB3.out
    have HX6 := Lib.hid hX6
    have HY6 := Lib.hid hY6
    clear hle hX6 hY6 hXL hYL hord hord' hg hr hr2
    have HBW_4 := Lib.hid (Below.refl w4.heap.size w4)
    by_cases hg0 : 0 < g
    · have M0' := Lib.hid (M0.out hg0)
      go_wp2_with (first
        | (go_at_call 28; (with_reducible refine (D1.out _ HBW_4.out).mono ?_); rintro e w' ⟨rfl, rfl⟩)
        | (go_at_call 29; (with_reducible refine (M0'.out _ HBW_4.out).mono ?_); rintro e w5 ⟨rfl, hb⟩; have o5 := (hb.cell (p := ⟨w1.heap.size, 0, none⟩) z4).trans o4; have p5 := (hb.cell (p := ⟨w1.heap.size, 1, none⟩) z4).trans p4; have HBW_5 := Lib.hid (below_chain HBW_4.out hb); clear hb)
        | (go_at_call 29; (with_reducible refine (M1.out _ HBW_5.out).mono ?_); rintro e w6 ⟨rfl, hb⟩; have HBW_6 := Lib.hid (below_chain HBW_5.out hb); clear hb)
        | (go_at_call 29; (with_reducible refine (M2.out _ HBW_6.out).mono ?_); rintro e w7 ⟨rfl, hb⟩; have HBW_7 := Lib.hid (below_chain HBW_6.out hb); clear hb))
      go_ret
      exact ⟨rfl, below_chain HB_4.out HBW_7.out⟩
    · go_wp2_with (first
        | (go_at_call 28; (with_reducible refine (D1.out _ HBW_4.out).mono ?_); rintro e w' ⟨rfl, rfl⟩)
        | (go_at_call 29; (with_reducible refine (M1.out _ HBW_4.out).mono ?_); rintro e w6 ⟨rfl, hb⟩; have HBW_6 := Lib.hid (below_chain HBW_4.out hb); clear hb)
        | (go_at_call 29; (with_reducible refine (M2.out _ HBW_6.out).mono ?_); rintro e w7 ⟨rfl, hb⟩; have HBW_7 := Lib.hid (below_chain HBW_6.out hb); clear hb))
      go_ret
      exact ⟨rfl, below_chain HB_4.out HBW_7.out⟩
  · have ht' : twoB xs ys = false := by simpa using ht
    rw [ht'] at HT
    clear h h' ht ht'
    go_enter Try.func9, Try.ntmps9
    go_wp2_with (first
      | (go_at_call 10; (with_reducible refine (awake_any _).mono ?_); rintro e w1 ⟨rfl, hb⟩; have HA_1 := Lib.hid (HA_0.out.up hb); have HB2_1 := Lib.hid (HB2_0.out.up hb); have HB_1 := Lib.hid (below_chain HB_0.out hb); clear hb)
      | (go_at_call 15; (with_reducible refine (HT.out _ HA_1.out HB2_1.out).mono ?_); rintro e w' ⟨rfl, rfl⟩))
    go_ret
    exact ⟨rfl, HB_1.out⟩
end Go.Proofs.Ytflobccekfgiaaa
