/- Contracts of the reference: Shl, Shr. -/
import Derived.Test.YtdflhidhnejbbaaRefG
namespace Go.Proofs.Ytdflhidhnejbbaa
open Go.RowKit

theorem keep_grown {B : Nat} {a w w' : World} {g n c : Nat} (h : Below B a w) (hg : w.grownBy w' (Value.slice (some ⟨g, 0, none⟩) n c).ownBlock) (hs : B ≤ w.heap.size) (hB : B ≤ g) : Below B a w' :=
  h.grown hg hs fun j hj => by
    have hj' : g = j := by simpa [Value.ownBlock] using hj
    omega
theorem own_drew {w : World} {base : Nat} {e : TypeId} {size n : Nat} {v : Value} {xs : List Value} (h : w.ownsRow base e size v n xs) : w.drew.ownsRow base e size v n xs := h
theorem two_pow_cast (k : Nat) : ((2 ^ k * 2 : Nat) : Int) = ((2 ^ (k + 1) : Nat) : Int) := by rw [Nat.pow_succ]
theorem shl_lists_val {m x L R n : Nat} (hx : x = 2 ^ R) (hn : n = 32 * L + R) : nv (List.replicate L 0 ++ limbs (m * x)) = m * 2 ^ n := by
  unfold nv
  rw [val_append, val_zeros, List.length_replicate, Nat.zero_add, show val 4294967296 (limbs (m * x)) = m * x from nv_limbs _, hx, hn, Nat.pow_add, Nat.pow_mul, Nat.mul_left_comm]

set_option maxHeartbeats 2000000 in
theorem refshl_yes (m : Nat) (A : Option Addr) (c n : Nat) (w : World) (h : KL .u32 w w.heap.size A (limbs m)) (hml : (limbs m).length ≤ 500) (hn : n ≤ 100000) :
    Calls Try.prog 25 #[.slice A (limbs m).length c, .int .i64 (n : Int)] w fun e w' => MadeN (m * 2 ^ n) w e w' := by
  obtain ⟨i0, hi0, hz0, hz1, hz2⟩ := info_parts u32_info
  obtain ⟨L, hL⟩ : ∃ L : Nat, n / 32 = L := ⟨_, rfl⟩
  obtain ⟨R, hR⟩ : ∃ R : Nat, n % 32 = R := ⟨_, rfl⟩
  have hL' : (n : Int) / 32 = (L : Int) := by omega
  have hR' : (n : Int) % 32 = (R : Int) := by omega
  have hR32 : R < 32 := by omega
  have hL2 : L ≤ 3125 := by omega
  have HNN : Hid (n = 32 * L + R) := Lib.hid (by omega)
  have H := Lib.hid h
  clear h hL hR
  go_enter Try.func25, Try.ntmps25
  go_wp2
  go_loop [5, 6] (fun x k => ∃ j y : Nat, j ≤ R ∧ k = .int .i64 j ∧ x = .int .u64 y ∧ y = 2 ^ j) (fun _ k => R - (intOf k).toNat)
  case atStart => exact ⟨0, 1, Nat.zero_le _, rfl, rfl, rfl⟩
  case round =>
    obtain ⟨j, y, hj, rfl, rfl, hy⟩ := hrel
    by_cases hlt : j < R
    · have h31 := pow_le_31 (r := j) (by omega)
      rw [← hy] at h31
      have HY : Hid (y * 2 = 2 ^ (j + 1)) := Lib.hid (by rw [hy, Nat.pow_succ])
      clear hy
      have hLw : IntKind.i64.wrap (L : Int) = (L : Int) := by rw [IntKind.wrap_i64]; omega
      go_wp2
      go_round
      case rel => exact ⟨j + 1, y * 2, by omega, by go_num, by first | rfl | (congr 1 <;> omega), HY.out⟩
      case measure => simp [intOf] <;> omega
    · obtain rfl : R = j := by omega
      have h31 := pow_le_31 hR32
      rw [← hy] at h31
      have hy1 : 1 ≤ y := by rw [hy]; exact Nat.pow_pos (by omega)
      have HV := Lib.hid (shl_lists_val (m := m) hy HNN.out)
      have hmk := run_make_limbs (P := Try.prog) 22 41 i0 Try.underlying22 hi0 hz0 hz1 hz2 L (by omega)
      have HOF : Hid (∀ W : World, Calls Try.prog 35 #[.int .u64 (y : Int)] W fun e w' => MadeN y W e w') := Lib.hid fun W => refof_any y (by omega) W
      have hyl := limbs_small (g := y) (by omega)
      have hpl := mul_len (Nat.le_refl (limbs m).length) hyl
      have HMU : Hid (∀ (W : World) (A' : Option Addr) (c' : Nat), KL .u32 W W.heap.size A (limbs m) → KL .u32 W W.heap.size A' (limbs y) → Calls Try.prog 23 #[.slice A (limbs m).length c, .slice A' (limbs y).length c'] W fun e w' => MadeN (m * y) W e w') :=
        Lib.hid fun W A' c' h1 h2 => refmul_any m y A A' c c' W h1 h2 (by omega) (by omega)
      have HTR : Hid (∀ (W : World) (A' : Option Addr) (n' c' : Nat), KL .u32 W W.heap.size A' (List.replicate L 0 ++ limbs (m * y)) → n' = (List.replicate L 0 ++ limbs (m * y)).length → n' ≤ c' → Calls Try.prog 40 #[.slice A' n' c'] W fun e w' => MadeN (m * 2 ^ n) W e w') :=
        Lib.hid fun W A' n' c' h1 h2 h3 => by
          have := reftrim_any A' _ c' W h1 ((Dig.zeros (by omega) L).append_ (limbs_dig (m * y))) (by omega) (by rw [List.length_append, List.length_replicate]; omega)
          rw [HV.out] at this
          rw [h2]
          exact this
      have hbw := Below.refl w.heap.size w
      have hs4 : (madeCells #[Value.int .u32 0] L).size = L * 1 := by rw [size_madeCells, Nat.mul_one]
      have hm4 : L ≤ maxLen := by unfold maxLen; omega
      have HY := Lib.hid hy
      clear hy
      have hLw : IntKind.i64.wrap (L : Int) = (L : Int) := by rw [IntKind.wrap_i64]; omega
      go_wp2
      go_region_held3 (fun w' => Below w.heap.size w w')
        (first
          | assumption
          | exact Below.drew (by assumption)
          | exact Below.alloc (by assumption) (by simp; done) _
          | exact Below.alloc (by assumption) (Below.size (by assumption)) _
          | exact below_chain (by assumption) hb4
          | exact below_chain (by assumption) hb5
          | exact below_chain (by assumption) hb7
          | exact keep_grown (by assumption) hgrow (Below.size (by assumption)) (Nat.le_refl _)
          | exact keep_grown (by assumption) hgrow (Below.size (by assumption)) hb4.size
          | exact keep_grown (by assumption) hgrow (Below.size (by assumption)) (Nat.le_trans hb4.size hb5.size))
        (first
          | (go_at_call 35; (with_reducible refine (HOF.out _).mono ?_); rintro e w4 ⟨A4, c4, rfl, hA4, hcap4, hb4⟩)
          | (go_at_call 23; (with_reducible refine (HMU.out _ A4 c4 (H.out.up ?_) ?_).mono ?_); (first | assumption | exact Below.drew (by assumption)); (first | exact hA4 | exact hA4.up ((Below.refl _ _).drew) | exact hA4.up ((Below.refl _ _).alloc (Nat.le_refl _) _) | exact hA4.up (((Below.refl _ _).alloc (Nat.le_refl _) _).drew)); rintro e w5 ⟨A5, c5, rfl, hA5, hcap5, hb5⟩)
          | (have hrow : w5.ownsRow w.heap.size 41 1 (.slice (some ⟨w.heap.size, 0, none⟩) L L) L (madeCells #[Value.int .u32 0] L).toList := (by first | exact (own_below (own_drew (own_below (own_drew (World.ownsRow_lit (base := w.heap.size) (e := 41) (size := 1) w (madeCells #[Value.int .u32 0] L) L (Nat.le_refl _) hm4 hs4)) hb4)) hb5) | exact (own_below (own_drew (own_below (World.ownsRow_lit (base := w.heap.size) (e := 41) (size := 1) w (madeCells #[Value.int .u32 0] L) L (Nat.le_refl _) hm4 hs4) hb4)) hb5) | exact (own_below (own_below (own_drew (World.ownsRow_lit (base := w.heap.size) (e := 41) (size := 1) w (madeCells #[Value.int .u32 0] L) L (Nat.le_refl _) hm4 hs4)) hb4) hb5) | exact (own_below (own_below (World.ownsRow_lit (base := w.heap.size) (e := 41) (size := 1) w (madeCells #[Value.int .u32 0] L) L (Nat.le_refl _) hm4 hs4) hb4) hb5))
             have hbase : w.heap.size ≤ w5.heap.size := Below.size (show Below w.heap.size w w5 by assumption)
             have HKL := hA5
             have hy4 : L + (limbs (m * y)).length ≤ maxLen := (by unfold maxLen; omega)
             have hx4 : (L + (limbs (m * y)).length) * 4 ≤ 140737488355328 := (by omega)
             refine step_append_KL _ (by rfl) _ _ _ (by rfl) w.heap.size 41 i0 4 Try.underlying22 hi0 hz0 hz1 hz2 _ L _ (by rfl) hrow _ A5 (limbs (m * y)).length c5 (limbs (m * y)) rfl (by rfl) HKL hy4 hx4 hbase ?_
             intro v6 w6 hown hgrow
             rw [toList_madeCells_one, ← List.map_replicate, ← List.map_append] at hown
             obtain ⟨A6, c6, hv6, hA6, hc6⟩ := made_of_row hown
             subst hv6)
          | (have hz4 : w.heap.size ≤ w4.heap.size := (by first | exact hb4.size)
             have hrow : w5.ownsRow w.heap.size 41 1 (.slice (some ⟨w4.heap.size, 0, none⟩) L L) L (madeCells #[Value.int .u32 0] L).toList := (by first | exact (own_below (own_drew (World.ownsRow_lit (base := w.heap.size) (e := 41) (size := 1) w4 (madeCells #[Value.int .u32 0] L) L (hz4) hm4 hs4)) hb5) | exact (own_below (World.ownsRow_lit (base := w.heap.size) (e := 41) (size := 1) w4 (madeCells #[Value.int .u32 0] L) L (hz4) hm4 hs4) hb5))
             have hbase : w.heap.size ≤ w5.heap.size := Below.size (show Below w.heap.size w w5 by assumption)
             have HKL := hA5
             have hy4 : L + (limbs (m * y)).length ≤ maxLen := (by unfold maxLen; omega)
             have hx4 : (L + (limbs (m * y)).length) * 4 ≤ 140737488355328 := (by omega)
             refine step_append_KL _ (by rfl) _ _ _ (by rfl) w.heap.size 41 i0 4 Try.underlying22 hi0 hz0 hz1 hz2 _ L _ (by rfl) hrow _ A5 (limbs (m * y)).length c5 (limbs (m * y)) rfl (by rfl) HKL hy4 hx4 hbase ?_
             intro v6 w6 hown hgrow
             rw [toList_madeCells_one, ← List.map_replicate, ← List.map_append] at hown
             obtain ⟨A6, c6, hv6, hA6, hc6⟩ := made_of_row hown
             subst hv6)
          | (have hz5 : w.heap.size ≤ w5.heap.size := Nat.le_trans hb4.size hb5.size
             have hrow := (World.ownsRow_lit (base := w.heap.size) (e := 41) (size := 1) w5 (madeCells #[Value.int .u32 0] L) L hz5 hm4 hs4)
             have hbase : w.heap.size ≤ (w5.alloc (.cells (madeCells #[Value.int .u32 0] L) 41)).heap.size := Nat.le_trans hz5 ((Below.refl 0 w5).alloc (Nat.zero_le _) _).size
             have HKL := hA5.up ((Below.refl _ _).alloc (Nat.le_refl _) (.cells (madeCells #[Value.int .u32 0] L) 41))
             have hy4 : L + (limbs (m * y)).length ≤ maxLen := (by unfold maxLen; omega)
             have hx4 : (L + (limbs (m * y)).length) * 4 ≤ 140737488355328 := (by omega)
             refine step_append_KL _ (by rfl) _ _ _ (by rfl) w.heap.size 41 i0 4 Try.underlying22 hi0 hz0 hz1 hz2 _ L _ (by rfl) hrow _ A5 (limbs (m * y)).length c5 (limbs (m * y)) rfl (by rfl) HKL hy4 hx4 hbase ?_
             intro v6 w6 hown hgrow
             rw [toList_madeCells_one, ← List.map_replicate, ← List.map_append] at hown
             obtain ⟨A6, c6, hv6, hA6, hc6⟩ := made_of_row hown
             subst hv6)
          | (go_at_call 40; (with_reducible refine (HTR.out _ A6 _ c6 ?_ ?_ ?_).mono ?_); (first | exact hA6 | exact hA6.up ((Below.refl _ _).drew)); (simp); (simpa using hc6); rintro e w7 ⟨A7, c7, rfl, hA7, hcap7, hb7⟩))
      all_goals
        have hb8 : Below w.heap.size w w7 := by assumption
        clear hown hA4 hA5 hb4 hb5 hgrow
        go_wp2
        go_ret
        exact ⟨A7, c7, rfl, hA7, hcap7, hb8⟩
theorem refshl_none (m : Nat) (A : Option Addr) (c : Nat) (n : Int) (w : World) (h : n < 0 ∨ 100000 < n) :
    Calls Try.prog 25 #[.slice A (limbs m).length c, .int .i64 n] w fun e w' => MadeN 0 w e w' := by
  by_cases h0 : n < 0
  · clear h
    go_enter Try.func25, Try.ntmps25
    go_wp2
    go_ret
    exact made_nil _ w
  · have h1 : 100000 < n := by omega
    clear h
    go_enter Try.func25, Try.ntmps25
    go_wp2
    go_ret
    exact made_nil _ w
theorem refshl_any (m : Nat) (A : Option Addr) (c : Nat) (n : Int) (w : World) (h : KL .u32 w w.heap.size A (limbs m)) (hml : (limbs m).length ≤ 500) :
    Calls Try.prog 25 #[.slice A (limbs m).length c, .int .i64 n] w fun e w' => MadeN (shlN m n) w e w' := by
  unfold shlN
  by_cases hn : 0 ≤ n ∧ n ≤ 100000
  · rw [if_pos hn]
    obtain ⟨k, rfl⟩ : ∃ k : Nat, n = k := ⟨n.toNat, by omega⟩
    exact refshl_yes m A c k w h hml (by omega)
  · rw [if_neg hn]
    exact refshl_none m A c n w (by omega)

theorem shrN_none {m : Nat} {n : Int} (hn : n < 0 ∨ 100000 < n ∨ ((limbs m).length : Int) ≤ n / 32) : shrN m n = 0 := by
  unfold shrN
  split
  · rename_i h1
    obtain ⟨k, rfl⟩ : ∃ k : Nat, n = k := ⟨n.toNat, by omega⟩
    rw [Int.toNat_natCast]
    apply Nat.div_eq_of_lt
    refine Nat.lt_of_lt_of_le (limbs_lt m) ?_
    rw [show (4294967296 : Nat) = 2 ^ 32 by rfl, ← Nat.pow_mul]
    exact Nat.pow_le_pow_right (by omega) (by omega)
  · rfl
theorem refshr_none (m : Nat) (A : Option Addr) (c : Nat) (n : Int) (w : World) (_hml : (limbs m).length ≤ 500) (h : n < 0 ∨ 100000 < n ∨ ((limbs m).length : Int) ≤ n / 32) :
    Calls Try.prog 27 #[.slice A (limbs m).length c, .int .i64 n] w fun e w' => MadeN 0 w e w' := by
  by_cases h0 : n < 0
  · clear h
    go_enter Try.func27, Try.ntmps27
    go_wp2
    go_ret
    exact made_nil _ w
  · by_cases h1 : 100000 < n
    · clear h
      go_enter Try.func27, Try.ntmps27
      go_wp2
      go_ret
      exact made_nil _ w
    · have hl : ((limbs m).length : Int) ≤ n / 32 := by omega
      clear h
      go_enter Try.func27, Try.ntmps27
      go_wp2
      go_ret
      exact made_nil _ w

set_option maxHeartbeats 2000000 in
theorem refshr_yes (m : Nat) (A : Option Addr) (c n : Nat) (w : World) (h : KL .u32 w w.heap.size A (limbs m)) (hml : (limbs m).length ≤ 500) (hcap : (limbs m).length ≤ c) (hcm : c ≤ maxLen) (hn : n ≤ 100000) (hlt : n / 32 < (limbs m).length) :
    Calls Try.prog 27 #[.slice A (limbs m).length c, .int .i64 (n : Int)] w fun e w' => MadeN (m / 2 ^ n) w e w' := by
  obtain ⟨L, hL⟩ : ∃ L : Nat, n / 32 = L := ⟨_, rfl⟩
  obtain ⟨R, hR⟩ : ∃ R : Nat, n % 32 = R := ⟨_, rfl⟩
  unfold maxLen at hcm
  rw [hL] at hlt
  have hL' : (n : Int) / 32 = (L : Int) := by omega
  have hR' : (n : Int) % 32 = (R : Int) := by omega
  have hR32 : R < 32 := by omega
  have hVAL : Hid (m / 4294967296 ^ L / 2 ^ R = m / 2 ^ n) := Lib.hid (by rw [← hL, ← hR]; exact shr_val)
  obtain ⟨A2, hA2⟩ : ∃ Z, (if c = L then A else Option.map (fun x => x.add L) A) = Z := ⟨_, rfl⟩
  obtain ⟨d, hd⟩ : ∃ d, m / 4294967296 ^ L = d := ⟨_, rfl⟩
  have hdl : (limbs m).length - L = (limbs d).length := by rw [← hd, ← limbs_drop, List.length_drop]
  have HA2 : Hid (KL .u32 w w.heap.size A2 (limbs d)) := Lib.hid (by
    rw [← hA2, ← hd, ← limbs_drop]
    exact h.cut (by omega) hcap)
  rw [hd] at hVAL
  have hdl2 : (limbs d).length ≤ 500 := by omega
  have hdc : (limbs d).length ≤ c - L := by omega
  clear h hL hR hd
  go_enter Try.func27, Try.ntmps27
  go_wp2
  go_loop [5, 6] (fun x k => ∃ j y : Nat, j ≤ R ∧ k = .int .i64 j ∧ x = .int .u64 y ∧ y = 2 ^ j) (fun _ k => R - (intOf k).toNat)
  case atStart => exact ⟨0, 1, Nat.zero_le _, rfl, rfl, rfl⟩
  case round =>
    obtain ⟨j, y, hj, rfl, rfl, hy⟩ := hrel
    by_cases hlt2 : j < R
    · have h31 := pow_le_31 (r := j) (by omega)
      rw [← hy] at h31
      have HY : Hid (y * 2 = 2 ^ (j + 1)) := Lib.hid (by rw [hy, Nat.pow_succ])
      clear hy
      go_wp2
      go_round
      case rel => exact ⟨j + 1, y * 2, by omega, by go_num, by first | rfl | (congr 1 <;> omega), HY.out⟩
      case measure => simp [intOf] <;> omega
    · obtain rfl : R = j := by omega
      have h31 := pow_le_31 hR32
      rw [← hy] at h31
      have hy1 : 1 ≤ y := by rw [hy]; exact Nat.pow_pos (by omega)
      have HV : Hid (d / y = m / 2 ^ n) := Lib.hid (by rw [hy]; exact hVAL.out)
      have HOF : Hid (∀ W : World, Calls Try.prog 35 #[.int .u64 (y : Int)] W fun e w' => MadeN y W e w') := Lib.hid fun W => refof_any y (by omega) W
      have hyl := limbs_small (g := y) (by omega)
      have HDM : Hid (∀ (W : World) (A' : Option Addr) (c' : Nat), KL .u32 W W.heap.size A2 (limbs d) → KL .u32 W W.heap.size A' (limbs y) → Calls Try.prog 21 #[.slice A2 (limbs d).length (c - L), .slice A' (limbs y).length c'] W fun e w' => MadeQR (m / 2 ^ n) (remN d y) true W e w') :=
        Lib.hid fun W A' c' h1 h2 => by
          have := refdivmod_any d y A2 A' (c - L) c' W h1 h2 (by omega) (by omega) hdc
          rwa [HV.out, decide_eq_true (by omega : 0 < y)] at this
      have hbw := Below.refl w.heap.size w
      have hLw : IntKind.i64.wrap (L : Int) = (L : Int) := by rw [IntKind.wrap_i64]; omega
      have hi1 : (L : Int) ≤ (limbs m).length := by omega
      clear hy
      go_wp2
      go_region_held3 (fun w' => Below w.heap.size w w')
        (first
          | assumption
          | exact Below.drew (by assumption)
          | exact below_chain (by assumption) hb4
          | exact below_chain (by assumption) hb5)
        (first
          | (go_at_call 35; (with_reducible refine (HOF.out _).mono ?_); rintro e w4 ⟨A4, c4, rfl, hA4, hcap4, hb4⟩)
          | (go_at_call 21; (with_reducible refine (HDM.out _ A4 c4 (HA2.out.up ?_) ?_).mono ?_); (first | assumption | exact Below.drew (by assumption)); (first | exact hA4 | exact hA4.up ((Below.refl _ _).drew)); rintro e w5 ⟨A5, c5, A6, c6, rfl, hA5, hA6, hcap5, hcap6, hb5⟩))
      all_goals
        have hb8 : Below w.heap.size w w5 := by assumption
        clear hA4 hb4 hb5
        go_wp2
        go_ret
        exact ⟨A5, c5, rfl, hA5, hcap5, hb8⟩
theorem refshr_any (m : Nat) (A : Option Addr) (c : Nat) (n : Int) (w : World) (h : KL .u32 w w.heap.size A (limbs m)) (hml : (limbs m).length ≤ 500) (hcap : (limbs m).length ≤ c) (hcm : c ≤ maxLen) :
    Calls Try.prog 27 #[.slice A (limbs m).length c, .int .i64 n] w fun e w' => MadeN (shrN m n) w e w' := by
  by_cases hn : n < 0 ∨ 100000 < n ∨ ((limbs m).length : Int) ≤ n / 32
  · rw [shrN_none hn]
    exact refshr_none m A c n w hml hn
  · obtain ⟨k, rfl⟩ : ∃ k : Nat, n = k := ⟨n.toNat, by omega⟩
    unfold shrN
    rw [if_pos (by omega), Int.toNat_natCast]
    exact refshr_yes m A c k w h hml hcap hcm (by omega) (by omega)
end Go.Proofs.Ytdflhidhnejbbaa
