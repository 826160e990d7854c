/- Contracts: shiftUp, shiftDown. -/
import Derived.Test.YtdflhidhnejbbaaDivE
import Derived.StillTailTactics
namespace Go.Proofs.Ytdflhidhnejbbaa
open Go.RowKit

/-- One word shifted: what goes into its place, and what into the next one. -/
theorem up_digit (x p s : Nat) (hs : s ≤ 63) (hx : x ≤ 18446744073709551615) (hp : p < 2 ^ s) :
    ∃ lo hi v k x1 : Nat, IntKind.u64.wrap ((x : Int) * 2 ^ s) = (lo : Int) ∧ bits .or .u64 (p : Int) (lo : Int) = (v : Int) ∧ (63 : Int) - (s : Int) = (k : Int) ∧ (x : Int) / 2 = (x1 : Int) ∧ (x1 : Int) / 2 ^ k = (hi : Int) ∧
      v = p + lo ∧ v ≤ 18446744073709551615 ∧ hi < 2 ^ s ∧ lo + 18446744073709551616 * hi = x * 2 ^ s ∧ lo ≤ 18446744073709551615 ∧ hi ≤ 18446744073709551615 ∧ k ≤ 63 := by
  have hB : (18446744073709551616 : Nat) = 2 ^ s * 2 ^ (64 - s) := by rw [← Nat.pow_add, show s + (64 - s) = 64 by omega]
  have hlo : x * 2 ^ s % 18446744073709551616 = 2 ^ s * (x % 2 ^ (64 - s)) := by rw [hB, Nat.mul_comm x, Nat.mul_mod_mul_left]
  have h1 : x % 2 ^ (64 - s) < 2 ^ (64 - s) := Nat.mod_lt _ (Nat.pow_pos (by omega))
  have hpl : p + x * 2 ^ s % 18446744073709551616 < 18446744073709551616 := by
    have h2 : 2 ^ s * (x % 2 ^ (64 - s) + 1) ≤ 2 ^ s * 2 ^ (64 - s) := Nat.mul_le_mul_left _ h1
    rw [Nat.mul_add, Nat.mul_one, ← hlo, ← hB] at h2
    omega
  have hhi : x / 2 / 2 ^ (63 - s) = x * 2 ^ s / 18446744073709551616 := by
    rw [Nat.div_div_eq_div_mul, show 2 * 2 ^ (63 - s) = 2 ^ (64 - s) by rw [Nat.mul_comm, ← Nat.pow_succ]; congr 1; omega, hB, Nat.mul_comm x, Nat.mul_div_mul_left _ _ (Nat.pow_pos (by omega))]
  have hhi2 : x * 2 ^ s / 18446744073709551616 < 2 ^ s := by
    rw [Nat.div_lt_iff_lt_mul (by omega), Nat.mul_comm]
    exact Nat.mul_lt_mul_of_pos_left (by omega) (Nat.pow_pos (by omega))
  have hhi3 : x * 2 ^ s / 18446744073709551616 ≤ 18446744073709551615 := by
    rw [← hhi]
    exact Nat.le_trans (Nat.div_le_self _ _) (by omega)
  have hlt := Nat.mod_lt (x * 2 ^ s) (show 18446744073709551616 > 0 by omega)
  refine ⟨x * 2 ^ s % 18446744073709551616, x * 2 ^ s / 18446744073709551616, p + x * 2 ^ s % 18446744073709551616, 63 - s, x / 2, ?_, ?_, by omega, by omega, ?_, rfl, by omega, hhi2, Nat.mod_add_div _ _, by omega, hhi3, by omega⟩
  · rw [IntKind.wrap_u64, Int.natCast_emod, Int.natCast_mul, Int.natCast_pow]
    rfl
  · rw [bits_or_u64_nat _ _ (by omega) (by omega), hlo, or_free hp]
  · rw [← hhi, Int.natCast_ediv (x / 2), Int.natCast_pow]
    rfl

set_option maxHeartbeats 1000000 in
theorem shiftUp_any (A : Option Addr) (xs : List Int) (c s : Nat) (w : World) (h : KL .u64 w w.heap.size A xs) (hd : W64 xs) (hxl : xs.length ≤ 1099511627776) (hs : s ≤ 63) :
    Calls Try.prog 52 #[.slice A xs.length c, .int .u64 (s : Int)] w fun e w' => MadeW (xs.length + 1) (wv xs * 2 ^ s) w e w' := by
  obtain ⟨i0, hi0, hz0, hz1, hz2⟩ := info_parts u64_info
  have H := Lib.hid h; clear h
  have HD := Lib.hid hd; clear hd
  go_enter Try.func52, Try.ntmps52
  go_wp2_with (at_make; refine wpList_make_full _ rfl _ _ 47 rfl w.heap.size 36 i0 (.int .u64 0) 1 Try.underlying47 hi0 hz0 hz1 _ _ _ _ (xs.length + 1) rfl rfl (by simp) (by simp) (by rw [hz2]; omega) (by unfold maxLen; omega) (Nat.le_refl _) ?_; intro w1 hown hg; have HO := Lib.hid (own_zeros hown); have HB := Lib.hid ((Below.refl w.heap.size w).grown hg (Nat.le_refl _) (fun k hk => by cases hk)); clear hown hg)
  go_loopw [14] (fun i wr => ∃ (k : Nat) (S : List Int), k ≤ xs.length ∧ i = .int .i64 k ∧ S.length = xs.length + 1 ∧ W64 S ∧ wv S = wv (xs.take k) * 2 ^ s ∧ (S.getD k 0).toNat < 2 ^ s ∧ (∀ j, k < j → S.getD j 0 = 0) ∧
      wr.ownsRow w.heap.size 36 1 (.slice (some ⟨w.heap.size, 0, none⟩) (xs.length + 1) (xs.length + 1)) (xs.length + 1) (S.map (Value.int .u64)) ∧ Below w.heap.size w wr) (fun i _ => xs.length - (intOf i).toNat)
  case atStart => exact ⟨0, _, Nat.zero_le _, rfl, by simp, Dig.zeros (by omega) _, by unfold wv; rw [val_zeros]; simp [val], by rw [getD_zeros]; exact Nat.pow_pos (by omega), fun j _ => getD_zeros _ _, HO.out, HB.out⟩
  case round =>
    obtain ⟨k, S, hk, rfl, hSl, hSd, hSv, hSp, hSz, hown, hbw⟩ := hrel
    by_cases hlt : k < xs.length
    · obtain ⟨ad, rfl, hab, hcc⟩ := (H.out.below hbw) (by omega)
      have hcell := hcc k hlt
      have hx1 := long_range HD.out hlt
      obtain ⟨x, hx⟩ : ∃ x : Nat, xs.getD k 0 = x := ⟨(xs.getD k 0).toNat, by omega⟩
      rw [hx] at hcell hx1
      have hp1 := long_range hSd (k := k) (by omega)
      obtain ⟨p, hp⟩ : ∃ p : Nat, S.getD k 0 = p := ⟨(S.getD k 0).toNat, by omega⟩
      rw [hp] at hSp hp1
      obtain ⟨lo, hi, v, k6, x1, e1, e2, e3, e4, e5, e6, b1, b2, e7, b3, b4, b5⟩ := up_digit x p s hs (by omega) hSp
      have hcu := own_cell hown (j := k) (by omega)
      rw [hp] at hcu
      have hfz := hown.frozenAt k
      have hown2 := own_set hown k (v : Int)
      have hSd2 := hSd.set_ (v := (v : Int)) (by omega) (by omega) k
      have hcu2 := own_cell hown (j := k + 1) (by omega)
      rw [hSz _ (by omega)] at hcu2
      have hfz2 := hown.frozenAt (k + 1)
      have HO3 := Lib.hid (own_set hown2 (k + 1) (hi : Int))
      have HSL3 : Hid (((S.set k (v : Int)).set (k + 1) (hi : Int)).length = xs.length + 1) := Lib.hid (by simpa using hSl)
      have HSD3 := Lib.hid (hSd2.set_ (v := (hi : Int)) (by omega) (by omega) (k + 1))
      have HB3 := Lib.hid ((hbw.setCell (p := ⟨w.heap.size, k, none⟩) (Nat.le_refl _) (.int .u64 (v : Int))).setCell (p := ⟨w.heap.size, k + 1, none⟩) (Nat.le_refl _) (.int .u64 (hi : Int)))
      have HSP3 : Hid ((((S.set k (v : Int)).set (k + 1) (hi : Int)).getD (k + 1) 0).toNat < 2 ^ s) := Lib.hid (by
        rw [getD_set _ (by simp; omega), if_pos rfl, Int.toNat_natCast]
        exact b2)
      have HSZ3 : Hid (∀ j, k + 1 < j → ((S.set k (v : Int)).set (k + 1) (hi : Int)).getD j 0 = 0) := Lib.hid (by
        intro j hj
        rw [getD_set _ (by simp; omega), if_neg (by omega), getD_set _ (by omega), if_neg (by omega)]
        exact hSz j (by omega))
      have HSV3 : Hid (wv ((S.set k (v : Int)).set (k + 1) (hi : Int)) = wv (xs.take (k + 1)) * 2 ^ s) := Lib.hid (by
        have h := shl_step (b := 18446744073709551616) (S := S) (xs := xs) (q := 0) (k := k) (x := x) (p := p) (v := v) (lo := lo) (hi := hi) (R := 2 ^ s) (by omega) hx (by rw [Nat.zero_add]; exact hp) (by rw [Nat.zero_add]; exact hSz _ (by omega)) (by rw [Nat.pow_zero, Nat.one_mul]; exact hSv) e6 e7
        rw [Nat.pow_zero, Nat.one_mul, Nat.zero_add] at h
        exact h)
      clear hcc hx hp hSp hSz hSv hSl hSd hSd2 hown hown2 hbw e6 e7
      go_wp2
      go_roundw
      case rel => exact ⟨k + 1, _, by omega, by go_num, HSL3.out, HSD3.out, HSV3.out, HSP3.out, HSZ3.out, HO3.out, HB3.out⟩
      case measure => simp [intOf] <;> omega
    · obtain rfl : k = xs.length := by omega
      have HV : Hid (wv S = wv xs * 2 ^ s) := Lib.hid (by rw [hSv, List.take_of_length_le (Nat.le_refl _)])
      have HSL := Lib.hid hSl
      have HSD := Lib.hid hSd
      have HO2 := Lib.hid hown
      have HB2 := Lib.hid hbw
      clear hSl hSd hSv hSp hSz hown hbw
      go_wp2
      go_ret
      exact ⟨w.heap.size, S, HSL.out, HSD.out, HV.out, rfl, HO2.out, HB2.out⟩

/-- Two words, shifted down into one. -/
theorem down_digit (x0 x1 s : Nat) (hs : s ≤ 63) (h0 : x0 ≤ 18446744073709551615) (h1 : x1 ≤ 18446744073709551615) :
    ∃ a x1d k t v : Nat, (x0 : Int) / 2 ^ s = (a : Int) ∧ IntKind.u64.wrap ((x1 : Int) * 2) = (x1d : Int) ∧ (63 : Int) - (s : Int) = (k : Int) ∧ IntKind.u64.wrap ((x1d : Int) * 2 ^ k) = (t : Int) ∧ bits .or .u64 (a : Int) (t : Int) = (v : Int) ∧
      v = (x0 + 18446744073709551616 * x1) / 2 ^ s % 18446744073709551616 ∧ v ≤ 18446744073709551615 ∧ a ≤ 18446744073709551615 ∧ (x1 = 0 → v = a) ∧ x1d ≤ 18446744073709551615 ∧ t ≤ 18446744073709551615 ∧ k ≤ 63 := by
  have hB : (18446744073709551616 : Nat) = 2 ^ s * 2 ^ (64 - s) := by rw [← Nat.pow_add, show s + (64 - s) = 64 by omega]
  have ha : x0 / 2 ^ s < 2 ^ (64 - s) := by
    rw [Nat.div_lt_iff_lt_mul (Nat.pow_pos (by omega)), Nat.mul_comm, ← hB]
    omega
  have ha2 : x0 / 2 ^ s ≤ 18446744073709551615 := Nat.le_trans (Nat.div_le_self _ _) h0
  have ht : x1 * 2 % 18446744073709551616 * 2 ^ (63 - s) % 18446744073709551616 = 2 ^ (64 - s) * (x1 % 2 ^ s) := by
    rw [Nat.mod_mul_mod, Nat.mul_assoc, show 2 * 2 ^ (63 - s) = 2 ^ (64 - s) by rw [Nat.mul_comm, ← Nat.pow_succ]; congr 1; omega]
    conv => lhs; arg 2; rw [hB]
    rw [Nat.mul_comm x1, Nat.mul_comm (2 ^ s), Nat.mul_mod_mul_left]
  have hx : x1 % 2 ^ s < 2 ^ s := Nat.mod_lt _ (Nat.pow_pos (by omega))
  have hsum : x0 / 2 ^ s + 2 ^ (64 - s) * (x1 % 2 ^ s) < 18446744073709551616 := by
    have h2 : 2 ^ (64 - s) * (x1 % 2 ^ s + 1) ≤ 2 ^ (64 - s) * 2 ^ s := Nat.mul_le_mul_left _ hx
    rw [Nat.mul_add, Nat.mul_one, Nat.mul_comm (2 ^ (64 - s)) (2 ^ s), ← hB] at h2
    omega
  have hval : (x0 + 18446744073709551616 * x1) / 2 ^ s % 18446744073709551616 = x0 / 2 ^ s + 2 ^ (64 - s) * (x1 % 2 ^ s) := by
    have e1 : (x0 + 18446744073709551616 * x1) / 2 ^ s = x0 / 2 ^ s + 2 ^ (64 - s) * x1 := by
      conv => lhs; arg 1; arg 2; rw [hB]
      rw [Nat.mul_assoc, Nat.add_mul_div_left _ _ (Nat.pow_pos (by omega))]
    have e2 : 2 ^ (64 - s) * x1 % 18446744073709551616 = 2 ^ (64 - s) * (x1 % 2 ^ s) := by
      conv => lhs; arg 2; rw [hB, Nat.mul_comm]
      rw [Nat.mul_mod_mul_left]
    rw [e1, Nat.add_mod, e2, Nat.mod_eq_of_lt (a := x0 / 2 ^ s) (by omega), Nat.mod_eq_of_lt hsum]
  have hl1 := Nat.mod_lt (x1 * 2) (show 18446744073709551616 > 0 by omega)
  have hl2 := Nat.mod_lt (x1 * 2 % 18446744073709551616 * 2 ^ (63 - s)) (show 18446744073709551616 > 0 by omega)
  refine ⟨x0 / 2 ^ s, x1 * 2 % 18446744073709551616, 63 - s, x1 * 2 % 18446744073709551616 * 2 ^ (63 - s) % 18446744073709551616, x0 / 2 ^ s + 2 ^ (64 - s) * (x1 % 2 ^ s), ?_, ?_, by omega, ?_, ?_, hval.symm, by omega, ha2, ?_, by omega, by omega, by omega⟩
  · rw [Int.natCast_ediv, Int.natCast_pow]; rfl
  · rw [IntKind.wrap_u64, Int.natCast_emod, Int.natCast_mul]; rfl
  · rw [IntKind.wrap_u64, Int.natCast_emod (x1 * 2 % 18446744073709551616 * 2 ^ (63 - s)), Int.natCast_mul, Int.natCast_pow]; rfl
  · rw [bits_or_u64_nat _ _ (by omega) (by omega), ht, or_free ha]
  · rintro rfl
    simp

set_option maxHeartbeats 2000000 in
theorem shiftDown_any (A : Option Addr) (xs : List Int) (c s : Nat) (w : World) (h : KL .u64 w w.heap.size A xs) (hd : W64 xs) (hxl : xs.length ≤ 1099511627776) (hs : s ≤ 63) :
    Calls Try.prog 54 #[.slice A xs.length c, .int .u64 (s : Int)] w fun e w' => MadeW xs.length (wv xs / 2 ^ s) w e w' := by
  obtain ⟨i0, hi0, hz0, hz1, hz2⟩ := info_parts u64_info
  have hR : 0 < 2 ^ s := Nat.pow_pos (by omega)
  have hBR : (18446744073709551616 : Nat) = 2 ^ s * 2 ^ (64 - s) := by rw [← Nat.pow_add, show s + (64 - s) = 64 by omega]
  have HR := Lib.hid hBR
  have H := Lib.hid h; clear h
  have HD := Lib.hid hd; clear hd hBR
  go_enter Try.func54, Try.ntmps54
  go_wp2_with (at_make; refine wpList_make_full _ rfl _ _ 47 rfl w.heap.size 36 i0 (.int .u64 0) 1 Try.underlying47 hi0 hz0 hz1 _ _ _ _ xs.length rfl rfl (by simp) (by simp) (by rw [hz2]; omega) (by unfold maxLen; omega) (Nat.le_refl _) ?_; intro w1 hown hg; have HO := Lib.hid (own_zeros hown); have HB := Lib.hid ((Below.refl w.heap.size w).grown hg (Nat.le_refl _) (fun k hk => by cases hk)); clear hown hg)
  go_loopw [13] (fun i wr => ∃ (k : Nat) (S : List Int), k ≤ xs.length ∧ i = .int .i64 k ∧ S.length = xs.length ∧ W64 S ∧ wv (S.take k) = wv xs / 2 ^ s % 18446744073709551616 ^ k ∧
      wr.ownsRow w.heap.size 36 1 (.slice (some ⟨w.heap.size, 0, none⟩) xs.length xs.length) xs.length (S.map (Value.int .u64)) ∧ Below w.heap.size w wr) (fun i _ => xs.length - (intOf i).toNat)
  case atStart => exact ⟨0, _, Nat.zero_le _, rfl, by simp, Dig.zeros (by omega) _, by rw [List.take_zero, Nat.pow_zero, Nat.mod_one]; rfl, HO.out, HB.out⟩
  case round =>
    obtain ⟨k, S, hk, rfl, hSl, hSd, hSv, hown, hbw⟩ := hrel
    by_cases hlt : k < xs.length
    · obtain ⟨ad, rfl, hab, hcc⟩ := (H.out.below hbw) (by omega)
      have hcell := hcc k hlt
      have hr0 := long_range HD.out hlt
      obtain ⟨x0, hx0⟩ : ∃ x : Nat, xs.getD k 0 = x := ⟨(xs.getD k 0).toNat, by omega⟩
      have hr1 : 0 ≤ xs.getD (k + 1) 0 ∧ xs.getD (k + 1) 0 ≤ 18446744073709551615 := by
        rcases Nat.lt_or_ge (k + 1) xs.length with h | h
        · exact long_range HD.out h
        · rw [getD_out h]; omega
      obtain ⟨x1, hx1⟩ : ∃ x : Nat, xs.getD (k + 1) 0 = x := ⟨(xs.getD (k + 1) 0).toNat, by omega⟩
      obtain ⟨a, x1d, k6, t, v, e1, e2, e3, e4, e5, e6, b1, b2, b3, b4, b5, b6⟩ := down_digit x0 x1 s hs (by omega) (by omega)
      rw [hx0] at hcell hr0
      have hcu := own_cell hown (j := k) (by omega)
      obtain ⟨u, hu⟩ : ∃ u, S.getD k 0 = u := ⟨_, rfl⟩
      rw [hu] at hcu
      have hfz := hown.frozenAt k
      have hown2 := own_set hown k (a : Int)
      have hbw2 := hbw.setCell (p := ⟨w.heap.size, k, none⟩) (Nat.le_refl _) (.int .u64 (a : Int))
      have HSV3 : Hid (wv ((S.set k (v : Int)).take (k + 1)) = wv xs / 2 ^ s % 18446744073709551616 ^ (k + 1)) := Lib.hid (by
        obtain ⟨Z, hZ⟩ := div_digits (by omega) HD.out (j := k) hlt
        rw [hx0, hx1, Int.toNat_natCast, Int.toNat_natCast] at hZ
        have h1 := shr_step (q := 0) (k := k) (X := val 18446744073709551616 xs) (x0 := x0) (x1 := x1) (Z := Z) HR.out hR (by rw [Nat.zero_add]; exact hZ)
        rw [Nat.pow_zero, Nat.div_one, ← e6] at h1
        exact (set_val (b := 18446744073709551616) (by omega) v).trans ((congrArg (· + 18446744073709551616 ^ k * v) hSv).trans h1.symm))
      have HSL3 : Hid ((S.set k (v : Int)).length = xs.length) := Lib.hid (by simpa using hSl)
      have HSD3 := Lib.hid (hSd.set_ (v := (v : Int)) (by omega) (by omega) k)
      by_cases hn : k + 1 < xs.length
      · rw [hx1] at hr1
        have HKL := (H.out.below hbw2).get_ (j := k + 1) hn
        rw [hx1] at HKL
        have hcu2 := own_cell hown2 (j := k) (by omega)
        rw [getD_set _ (by omega), if_pos rfl] at hcu2
        have hfz2 := hown2.frozenAt k
        have HO3 : Hid _ := Lib.hid (own_set hown2 k (v : Int))
        rw [List.set_set] at HO3
        have HB3 := Lib.hid (hbw2.setCell (p := ⟨w.heap.size, k, none⟩) (Nat.le_refl _) (.int .u64 (v : Int)))
        obtain ⟨W, hW⟩ : ∃ W, wr.setCell ⟨w.heap.size, k, none⟩ (.int .u64 (a : Int)) = W := ⟨_, rfl⟩
        rw [hW] at HKL hcu2 hfz2 HO3 HB3
        have HW := Lib.hid hW
        clear hcc hW hx0 hx1 hu hSv hSl hSd hown hown2 hbw hbw2 e6 b3
        go_wp2
        rw [HW.out]
        refine wp_region_still_tail 15 (by kernel_rfl) (by kernel_rfl) ?_
        have hcx4 : W.cell? { block := ad.block, off := ad.off + (k + 1) } = some (.int .u64 (x1 : Int)) := by simpa [Addr.add] using HKL
        have z1 : (0 : Int) ≤ (k : Int) + 1 := by omega
        have z2 : (k : Int) + 1 < (xs.length : Int) := by omega
        have z3 : IntKind.u64.wrap (k6 : Int) = (k6 : Int) := by rw [IntKind.wrap_u64]; omega
        have z4 : ((k : Int) + 1).toNat = k + 1 := by omega
        have z5 : IntKind.i64.wrap ((k : Int) + 1) = (k : Int) + 1 := by rw [IntKind.wrap_i64]; omega
        simp only [List.take_succ_cons, List.take_zero, List.drop_succ_cons, List.drop_zero]
        repeat still_step
        refine wpStill_nil ?_
        clear z3 z4 z5
        go_wp2
        go_roundw
        case rel => exact ⟨k + 1, _, by omega, by go_num, HSL3.out, HSD3.out, HSV3.out, HO3.out, ⟨HB3.out.os, HB3.out.tape, HB3.out.output, HB3.out.size, HB3.out.block⟩⟩
        case measure => simp [intOf] <;> omega
      · rw [getD_out (by omega)] at hx1
        obtain rfl : x1 = 0 := by omega
        obtain rfl : v = a := b3 rfl
        have HO3 : Hid _ := Lib.hid hown2
        have HB3 := Lib.hid hbw2
        clear hcc hx0 hx1 hu hSv hSl hSd hown hown2 hbw hbw2 e6 b3 e2 e4 e5
        go_wp2
        go_roundw
        case rel => exact ⟨k + 1, _, by omega, by go_num, HSL3.out, HSD3.out, HSV3.out, HO3.out, HB3.out⟩
        case measure => simp [intOf] <;> omega
    · obtain rfl : k = xs.length := by omega
      have HV : Hid (wv S = wv xs / 2 ^ s) := Lib.hid (by
        rw [List.take_of_length_le (by omega)] at hSv
        rw [hSv]
        apply Nat.mod_eq_of_lt
        exact Nat.lt_of_le_of_lt (Nat.div_le_self _ _) (val_lt HD.out))
      have HSL := Lib.hid hSl
      have HSD := Lib.hid hSd
      have HO2 := Lib.hid hown
      have HB2 := Lib.hid hbw
      clear hSl hSd hSv hown hbw
      go_wp2
      go_ret
      exact ⟨w.heap.size, S, HSL.out, HSD.out, HV.out, rfl, HO2.out, HB2.out⟩
end Go.Proofs.Ytdflhidhnejbbaa
