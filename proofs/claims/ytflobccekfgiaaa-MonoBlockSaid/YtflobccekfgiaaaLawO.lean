/- The walk of MonoOrder. -/
import Derived.Test.YtflobccekfgiaaaOrd
namespace Go.Proofs.Ytflobccekfgiaaa
open Go.RowKit

theorem lexL_range : ∀ a b : List Int, -1 ≤ lexL a b ∧ lexL a b ≤ 1
  | [], [] => by simp [lexL]
  | [], _ :: _ => by simp [lexL]
  | _ :: _, [] => by simp [lexL]
  | x :: a, y :: b => by
    rw [lexL_cons]
    split
    · exact lexL_range a b
    · unfold sg; split <;> (try split) <;> omega
theorem lim_zeros {n : Nat} (h : n ≤ 6) : Lim 60 (List.replicate n (0 : Int)) := by
  refine ⟨by simpa using h, fun k hk => ?_⟩
  have : k < n := by simpa using hk
  simp [List.getD_eq_getElem?_getD, this]
theorem IL_zeros {w : World} {base : Nat} {e : TypeId} {A : Option Addr} {n c : Nat} (h : w.ownsRow base e 1 (.slice A n c) n (madeCells (Value.int .i64 0).cells (n * 1)).toList) : IL w w.heap.size A (List.replicate n 0) := by
  refine (IL.of_own (zs := List.replicate n 0) (n := n) (base := base) (e := e) (c := c) ?_).2.2
  rw [List.map_replicate, ← toList_madeCells_one (.int .i64 0) n]
  rw [Nat.mul_one] at h
  exact h

set_option maxHeartbeats 2000000 in
theorem law_order (k cut : Int) (A B C : Option Addr) (xs ys zs : List Int) (c d f : Nat) (w : World) (h : IL w w.heap.size A xs) (h' : IL w w.heap.size B ys) (h'' : IL w w.heap.size C zs) (hxl : xs.length ≤ 9223372036854775807) (hyl : ys.length ≤ 9223372036854775807) (hzl : zs.length ≤ 9223372036854775807) (hc : xs.length ≤ c) (hd : ys.length ≤ d) (hf : zs.length ≤ f) :
    Calls Try.prog 6 #[.agg #[.int .i64 k, .int .i64 cut], .slice A xs.length c, .slice B ys.length d, .slice C zs.length f] w fun e w' => e = .returned (.bool true) ∧ Below w.heap.size w w' := by
  have HA_0 : Hid _ := Lib.hid h
  have HB2_0 : Hid _ := Lib.hid h'
  have HC2_0 : Hid _ := Lib.hid h''
  have T1 : Hid (∀ W : World, IL W W.heap.size A xs → IL W W.heap.size B ys → Calls Try.prog 15 #[.slice A xs.length c, .slice B ys.length d] W fun e w' => e = .returned (.bool (twoB xs ys)) ∧ W = w') :=
    Lib.hid fun W h h' => two_any A B xs ys c d W h h' hxl hyl
  have T2 : Hid (∀ W : World, IL W W.heap.size A xs → IL W W.heap.size C zs → Calls Try.prog 15 #[.slice A xs.length c, .slice C zs.length f] W fun e w' => e = .returned (.bool (twoB xs zs)) ∧ W = w') :=
    Lib.hid fun W h h' => two_any A C xs zs c f W h h' hxl hzl
  have T3 : Hid (∀ W : World, Calls Try.prog 14 #[.int .i64 (xs.length : Int), .agg #[.int .i64 k, .int .i64 cut]] W fun e w' => e = .returned (.bool (orderB xs.length k cut)) ∧ Below W.heap.size W w') :=
    Lib.hid fun W => reforder_any xs.length k cut W
  cases ht1 : twoB xs ys
  · rw [ht1] at T1
    clear T2 T3
    clear ht1
    clear h h' h''
    go_enter Try.func6, Try.ntmps6
    go_wp2_with (first
      | (go_at_call 10; (with_reducible refine (awake_any _).mono ?_); rintro e w1 ⟨rfl, hb1⟩; have HB_1 := Lib.hid (below_chain (w := w) (by go_grown) hb1); have HA_1 := Lib.hid (HA_0.out.up HB_1.out); have HB2_1 := Lib.hid (HB2_0.out.up HB_1.out); have HC2_1 := Lib.hid (HC2_0.out.up HB_1.out); have o1 := (hb1.cell (p := ⟨w.heap.size, 0, none⟩) (by (try simp only [World.size_alloc]); omega)).trans (show _ = some (Value.int .i64 k) by go_cell); have p1 := (hb1.cell (p := ⟨w.heap.size, 1, none⟩) (by (try simp only [World.size_alloc]); omega)).trans (show _ = some (Value.int .i64 cut) by go_cell); have z1 : w.heap.size < w1.heap.size := (by (have := hb1.size; (try simp only [World.size_alloc] at this); omega)); clear hb1)
      | (go_at_call 15; (with_reducible refine (T1.out _ HA_1.out HB2_1.out).mono ?_); rintro e w' ⟨rfl, rfl⟩))
    go_ret
    exact ⟨rfl, HB_1.out⟩
  cases ht2 : twoB xs zs
  · rw [ht1] at T1
    rw [ht2] at T2
    clear T3
    clear ht1 ht2
    clear h h' h''
    go_enter Try.func6, Try.ntmps6
    go_wp2_with (first
      | (go_at_call 10; (with_reducible refine (awake_any _).mono ?_); rintro e w1 ⟨rfl, hb1⟩; have HB_1 := Lib.hid (below_chain (w := w) (by go_grown) hb1); have HA_1 := Lib.hid (HA_0.out.up HB_1.out); have HB2_1 := Lib.hid (HB2_0.out.up HB_1.out); have HC2_1 := Lib.hid (HC2_0.out.up HB_1.out); have o1 := (hb1.cell (p := ⟨w.heap.size, 0, none⟩) (by (try simp only [World.size_alloc]); omega)).trans (show _ = some (Value.int .i64 k) by go_cell); have p1 := (hb1.cell (p := ⟨w.heap.size, 1, none⟩) (by (try simp only [World.size_alloc]); omega)).trans (show _ = some (Value.int .i64 cut) by go_cell); have z1 : w.heap.size < w1.heap.size := (by (have := hb1.size; (try simp only [World.size_alloc] at this); omega)); clear hb1)
      | (go_at_call 15; (with_reducible refine (T1.out _ HA_1.out HB2_1.out).mono ?_); rintro e w' ⟨rfl, rfl⟩)
      | (go_at_call 15; (with_reducible refine (T2.out _ HA_1.out HC2_1.out).mono ?_); rintro e w' ⟨rfl, rfl⟩))
    go_ret
    exact ⟨rfl, HB_1.out⟩
  cases ho : orderB xs.length k cut
  · rw [ht1] at T1
    rw [ht2] at T2
    rw [ho] at T3
    clear ht1 ht2 ho
    clear h h' h''
    go_enter Try.func6, Try.ntmps6
    go_wp2_with (first
      | (go_at_call 10; (with_reducible refine (awake_any _).mono ?_); rintro e w1 ⟨rfl, hb1⟩; have HB_1 := Lib.hid (below_chain (w := w) (by go_grown) hb1); have HA_1 := Lib.hid (HA_0.out.up HB_1.out); have HB2_1 := Lib.hid (HB2_0.out.up HB_1.out); have HC2_1 := Lib.hid (HC2_0.out.up HB_1.out); have o1 := (hb1.cell (p := ⟨w.heap.size, 0, none⟩) (by (try simp only [World.size_alloc]); omega)).trans (show _ = some (Value.int .i64 k) by go_cell); have p1 := (hb1.cell (p := ⟨w.heap.size, 1, none⟩) (by (try simp only [World.size_alloc]); omega)).trans (show _ = some (Value.int .i64 cut) by go_cell); have z1 : w.heap.size < w1.heap.size := (by (have := hb1.size; (try simp only [World.size_alloc] at this); omega)); clear hb1)
      | (go_at_call 15; (with_reducible refine (T1.out _ HA_1.out HB2_1.out).mono ?_); rintro e w' ⟨rfl, rfl⟩)
      | (go_at_call 15; (with_reducible refine (T2.out _ HA_1.out HC2_1.out).mono ?_); rintro e w' ⟨rfl, rfl⟩)
      | (go_at_call 14; (with_reducible refine (T3.out _).mono ?_); rintro e w2 ⟨rfl, hb⟩; have o2 := (hb.cell (p := ⟨w.heap.size, 0, none⟩) z1).trans o1; have p2 := (hb.cell (p := ⟨w.heap.size, 1, none⟩) z1).trans p1; have z2 := Nat.lt_of_lt_of_le z1 hb.size; have HA_2 := Lib.hid (HA_1.out.up hb); have HB2_2 := Lib.hid (HB2_1.out.up hb); have HC2_2 := Lib.hid (HC2_1.out.up hb); have HB_2 := Lib.hid (below_chain HB_1.out hb); clear hb))
    go_ret
    exact ⟨rfl, HB_2.out⟩
  obtain ⟨hl, hx, hy⟩ := two_lim ht1
  obtain ⟨hl', _, hz⟩ := two_lim ht2
  have h6 := hx.1
  rw [ht1] at T1
  rw [ht2] at T2
  rw [ho] at T3
  obtain ⟨i0, hi0, hz0, hz1, hz2⟩ := info_parts int_info
  obtain ⟨x, hcx⟩ : ∃ r, cmpL k cut xs ys = r := ⟨_, rfl⟩
  obtain ⟨y, hcy⟩ : ∃ r, cmpL k cut ys zs = r := ⟨_, rfl⟩
  obtain ⟨z, hcz⟩ : ∃ r, cmpL k cut xs zs = r := ⟨_, rfl⟩
  obtain ⟨v, hcv⟩ : ∃ r, cmpL k cut xs (List.replicate xs.length 0) = r := ⟨_, rfl⟩
  have hback : cmpL k cut ys xs = -x := by rw [cmp_flip hl, hcx]
  have hv0 : 0 ≤ v := by rw [← hcv]; exact cmp_zeros (lim_mem hx)
  have R1 : Hid (0 ≤ x → 0 ≤ y → 0 ≤ z) := Lib.hid fun p q => by rw [← hcz]; rw [← hcx] at p; rw [← hcy] at q; exact cmp_trans hl (by omega) p q
  have R2 : Hid (x ≤ 0 → y ≤ 0 → z ≤ 0) := Lib.hid fun p q => by
    have e1 := cmp_flip (k := k) (cut := cut) hl
    have e2 := cmp_flip (k := k) (cut := cut) (show ys.length = zs.length by omega)
    have e3 := cmp_flip (k := k) (cut := cut) hl'
    have := cmp_trans (k := k) (cut := cut) (show zs.length = ys.length by omega) hl.symm (by omega) (by omega)
    omega
  have hxb : -1 ≤ x ∧ x ≤ 1 := by rw [← hcx, cmpL_key k cut hl]; exact lexL_range _ _
  obtain ⟨s, hss⟩ : ∃ s, sameB xs ys = s := ⟨_, rfl⟩
  have hxs : (x == 0) = s := by
    rw [← hss, Bool.eq_iff_iff, beq_iff_eq, ← hcx, cmp_zero hl]
    unfold sameB
    rw [decide_eq_true_iff]
  have hzl0 : Lim 60 (List.replicate xs.length (0 : Int)) := lim_zeros h6
  have M1 : Hid (∀ W : World, IL W W.heap.size A xs → IL W W.heap.size B ys → Calls Try.prog 29 #[.agg #[.int .i64 k, .int .i64 cut], .slice A xs.length c, .slice B ys.length d] W fun e w' => e = .returned (.int .i64 x) ∧ Below W.heap.size W w') :=
    Lib.hid fun W h h' => by rw [← hcx]; exact cmp_c _ k cut 60 A B xs ys c d W h h' (by omega) hx hy (by omega) (by omega) rfl ho hc hd
  have M2 : Hid (∀ W : World, IL W W.heap.size B ys → IL W W.heap.size C zs → Calls Try.prog 29 #[.agg #[.int .i64 k, .int .i64 cut], .slice B ys.length d, .slice C zs.length f] W fun e w' => e = .returned (.int .i64 y) ∧ Below W.heap.size W w') :=
    Lib.hid fun W h h' => by rw [← hcy]; exact cmp_c _ k cut 60 B C ys zs d f W h h' (by omega) hy hz (by omega) (by omega) (by omega) ho hd hf
  have M3 : Hid (∀ W : World, IL W W.heap.size A xs → IL W W.heap.size C zs → Calls Try.prog 29 #[.agg #[.int .i64 k, .int .i64 cut], .slice A xs.length c, .slice C zs.length f] W fun e w' => e = .returned (.int .i64 z) ∧ Below W.heap.size W w') :=
    Lib.hid fun W h h' => by rw [← hcz]; exact cmp_c _ k cut 60 A C xs zs c f W h h' (by omega) hx hz (by omega) (by omega) rfl ho hc hf
  have M4 : Hid (∀ W : World, IL W W.heap.size B ys → IL W W.heap.size A xs → Calls Try.prog 29 #[.agg #[.int .i64 k, .int .i64 cut], .slice B ys.length d, .slice A xs.length c] W fun e w' => e = .returned (.int .i64 (-x)) ∧ Below W.heap.size W w') :=
    Lib.hid fun W h h' => by rw [← hback]; exact cmp_c _ k cut 60 B A ys xs d c W h h' (by omega) hy hx (by omega) (by omega) (by omega) ho hd hc
  have M5 : Hid (∀ (W : World) (L : Option Addr), IL W W.heap.size A xs → IL W W.heap.size L (List.replicate xs.length 0) → Calls Try.prog 29 #[.agg #[.int .i64 k, .int .i64 cut], .slice A xs.length c, .slice L xs.length xs.length] W fun e w' => e = .returned (.int .i64 v) ∧ Below W.heap.size W w') :=
    Lib.hid fun W L h h' => by
      have := cmp_c _ k cut 60 A L xs (List.replicate xs.length 0) c xs.length W h h' (by simp) hx hzl0 (by omega) (by omega) rfl ho hc (by simp)
      rw [List.length_replicate, hcv] at this
      exact this
  have S1 : Hid (∀ W : World, IL W W.heap.size A xs → IL W W.heap.size B ys → Calls Try.prog 20 #[.slice A xs.length c, .slice B ys.length d] W fun e w' => e = .returned (.bool s) ∧ Below W.heap.size W w') :=
    Lib.hid fun W h h' => by rw [← hss]; exact same_c A B xs ys c d W h h' (by omega) (by omega)
  clear h h' h'' ht1 ht2 ho hl hl' hx hy hz hcx hcy hcz hcv hback hss hzl0
  go_enter Try.func6, Try.ntmps6
  go_wp2_with (first
      | (go_at_call 10; (with_reducible refine (awake_any _).mono ?_); rintro e w1 ⟨rfl, hb1⟩; have HB_1 := Lib.hid (below_chain (w := w) (by go_grown) hb1); have HA_1 := Lib.hid (HA_0.out.up HB_1.out); have HB2_1 := Lib.hid (HB2_0.out.up HB_1.out); have HC2_1 := Lib.hid (HC2_0.out.up HB_1.out); have o1 := (hb1.cell (p := ⟨w.heap.size, 0, none⟩) (by (try simp only [World.size_alloc]); omega)).trans (show _ = some (Value.int .i64 k) by go_cell); have p1 := (hb1.cell (p := ⟨w.heap.size, 1, none⟩) (by (try simp only [World.size_alloc]); omega)).trans (show _ = some (Value.int .i64 cut) by go_cell); have z1 : w.heap.size < w1.heap.size := (by (have := hb1.size; (try simp only [World.size_alloc] at this); omega)); clear hb1)
      | (go_at_call 15; (with_reducible refine (T1.out _ HA_1.out HB2_1.out).mono ?_); rintro e w' ⟨rfl, rfl⟩)
      | (go_at_call 15; (with_reducible refine (T2.out _ HA_1.out HC2_1.out).mono ?_); rintro e w' ⟨rfl, rfl⟩)
      | (go_at_call 14; (with_reducible refine (T3.out _).mono ?_); rintro e w2 ⟨rfl, hb⟩; have o2 := (hb.cell (p := ⟨w.heap.size, 0, none⟩) z1).trans o1; have p2 := (hb.cell (p := ⟨w.heap.size, 1, none⟩) z1).trans p1; have z2 := Nat.lt_of_lt_of_le z1 hb.size; have HA_2 := Lib.hid (HA_1.out.up hb); have HB2_2 := Lib.hid (HB2_1.out.up hb); have HC2_2 := Lib.hid (HC2_1.out.up hb); have HB_2 := Lib.hid (below_chain HB_1.out hb); clear hb)
      | (go_at_call 29; (with_reducible refine (M1.out _ HA_2.out HB2_2.out).mono ?_); rintro e w3 ⟨rfl, hb⟩; have o3 := (hb.cell (p := ⟨w.heap.size, 0, none⟩) z2).trans o2; have p3 := (hb.cell (p := ⟨w.heap.size, 1, none⟩) z2).trans p2; have z3 := Nat.lt_of_lt_of_le z2 hb.size; have HA_3 := Lib.hid (HA_2.out.up hb); have HB2_3 := Lib.hid (HB2_2.out.up hb); have HC2_3 := Lib.hid (HC2_2.out.up hb); have HB_3 := Lib.hid (below_chain HB_2.out hb); clear hb)
      | (go_at_call 29; (with_reducible refine (M2.out _ HB2_3.out HC2_3.out).mono ?_); rintro e w4 ⟨rfl, hb⟩; have o4 := (hb.cell (p := ⟨w.heap.size, 0, none⟩) z3).trans o3; have p4 := (hb.cell (p := ⟨w.heap.size, 1, none⟩) z3).trans p3; have z4 := Nat.lt_of_lt_of_le z3 hb.size; have HA_4 := Lib.hid (HA_3.out.up hb); have HB2_4 := Lib.hid (HB2_3.out.up hb); have HC2_4 := Lib.hid (HC2_3.out.up hb); have HB_4 := Lib.hid (below_chain HB_3.out hb); clear hb)
      | (go_at_call 29; (with_reducible refine (M3.out _ HA_4.out HC2_4.out).mono ?_); rintro e w5 ⟨rfl, hb⟩; have o5 := (hb.cell (p := ⟨w.heap.size, 0, none⟩) z4).trans o4; have p5 := (hb.cell (p := ⟨w.heap.size, 1, none⟩) z4).trans p4; have z5 := Nat.lt_of_lt_of_le z4 hb.size; have HA_5 := Lib.hid (HA_4.out.up hb); have HB2_5 := Lib.hid (HB2_4.out.up hb); have HC2_5 := Lib.hid (HC2_4.out.up hb); have HB_5 := Lib.hid (below_chain HB_4.out hb); clear hb)
      | (at_make; refine wpList_make_full _ rfl _ _ 22 rfl w5.heap.size 3 i0 (.int .i64 0) 1 Try.underlying22 hi0 hz0 hz1 _ _ _ _ xs.length rfl rfl rfl rfl (by rw [hz2]; omega) (by unfold maxLen; omega) (Nat.le_refl _) ?_; intro w6 hown hg; have hb : Below w5.heap.size w5 w6 := (Below.refl _ _).grown hg (Nat.le_refl _) (fun k hk => by cases hk); have o6 := (hb.cell (p := ⟨w.heap.size, 0, none⟩) z5).trans o5; have p6 := (hb.cell (p := ⟨w.heap.size, 1, none⟩) z5).trans p5; have z6 := Nat.lt_of_lt_of_le z5 hb.size; have HA_6 := Lib.hid (HA_5.out.up hb); have HB2_6 := Lib.hid (HB2_5.out.up hb); have HC2_6 := Lib.hid (HC2_5.out.up hb); have HB_6 := Lib.hid (below_chain HB_5.out hb); have HO_6 := Lib.hid (IL_zeros hown); clear hown hg hb)
      | (go_at_call 29; (with_reducible refine (M4.out _ HB2_6.out HA_6.out).mono ?_); rintro e w7 ⟨rfl, hb⟩; have o7 := (hb.cell (p := ⟨w.heap.size, 0, none⟩) z6).trans o6; have p7 := (hb.cell (p := ⟨w.heap.size, 1, none⟩) z6).trans p6; have z7 := Nat.lt_of_lt_of_le z6 hb.size; have HA_7 := Lib.hid (HA_6.out.up hb); have HB2_7 := Lib.hid (HB2_6.out.up hb); have HC2_7 := Lib.hid (HC2_6.out.up hb); have HO_7 := Lib.hid (HO_6.out.up hb); have HB_7 := Lib.hid (below_chain HB_6.out hb); clear hb)
      | (go_at_call 20; (with_reducible refine (S1.out _ HA_7.out HB2_7.out).mono ?_); rintro e w8 ⟨rfl, hb⟩; have o8 := (hb.cell (p := ⟨w.heap.size, 0, none⟩) z7).trans o7; have p8 := (hb.cell (p := ⟨w.heap.size, 1, none⟩) z7).trans p7; have z8 := Nat.lt_of_lt_of_le z7 hb.size; have HA_8 := Lib.hid (HA_7.out.up hb); have HB2_8 := Lib.hid (HB2_7.out.up hb); have HC2_8 := Lib.hid (HC2_7.out.up hb); have HO_8 := Lib.hid (HO_7.out.up hb); have HB_8 := Lib.hid (below_chain HB_7.out hb); clear hb)
      | (go_at_call 29; (with_reducible refine (M5.out _ _ HA_8.out HO_8.out).mono ?_); rintro e w9 ⟨rfl, hb⟩; have o9 := (hb.cell (p := ⟨w.heap.size, 0, none⟩) z8).trans o8; have p9 := (hb.cell (p := ⟨w.heap.size, 1, none⟩) z8).trans p8; have z9 := Nat.lt_of_lt_of_le z8 hb.size; have HA_9 := Lib.hid (HA_8.out.up hb); have HB2_9 := Lib.hid (HB2_8.out.up hb); have HC2_9 := Lib.hid (HC2_8.out.up hb); have HO_9 := Lib.hid (HO_8.out.up hb); have HB_9 := Lib.hid (below_chain HB_8.out hb); clear hb))
  all_goals go_ret
  all_goals exact ⟨ret_bool (by have := R1.out; have := R2.out; first | (simp at *; done) | (simp at *; omega) | (exfalso; simp_all; done) | (simp_all; done) | (simp_all; omega)), HB_9.out⟩

end Go.Proofs.Ytflobccekfgiaaa
