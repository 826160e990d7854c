/- Contracts: divStep, its walk. -/
import Derived.Test.YtdflhidhnejbbaaDivD
namespace Go.Proofs.Ytdflhidhnejbbaa
open Go.RowKit

theorem back_step {B W s s' X r t y c c' a P Pi : Nat} (h1 : s' + Pi * r = s + Pi * t) (h2 : s + Pi * c = X + P * a) (h3 : t + B * c' = r + y + c) (hP : Pi = P * W) : s' + Pi * B * c' = X + P * (a + W * y) := by
  have e : Pi * (t + B * c') = Pi * (r + y + c) := by rw [h3]
  rw [Nat.mul_add, Nat.mul_add, Nat.mul_add, ← Nat.mul_assoc] at e
  have e2 : P * (a + W * y) = P * a + Pi * y := by rw [Nat.mul_add, hP, Nat.mul_assoc]
  omega

/-- A step of the long division: the digit, and the row behind it. -/
def Stepped (base g N X Y : Nat) (w : World) (e : Ending) (w' : World) : Prop :=
  ∃ S : List Int, e = .returned (.int .u64 (X / Y : Nat)) ∧ S.length = N ∧ W64 S ∧ wv S = X % Y ∧ w'.ownsRow base 36 1 (.slice (some ⟨g, 0, none⟩) N N) N (S.map (Value.int .u64)) ∧ w.grownBy w' (some g)

set_option maxHeartbeats 4000000 in
theorem divStep_any (base g : Nat) (V : Option Addr) (S ys : List Int) (j n cu cv N : Nat) (w : World) (hown : w.ownsRow base 36 1 (.slice (some ⟨g, 0, none⟩) N N) N (S.map (Value.int .u64))) (hV : KL .u64 w base V ys) (hd : W64 S) (hd' : W64 ys)
    (hSl : S.length = N) (hn : ys.length = n) (hn2 : 2 ≤ n) (hjn : j + n + 1 ≤ N) (hNl : N ≤ 1099511627776) (hlt : wv S < wv ys * 18446744073709551616 ^ (j + 1)) (htop : ys.getD (n - 1) 0 ≠ 0) :
    Calls Try.prog 53 #[.slice (some ⟨g, j, none⟩) (n + 1 : Nat) cu, .slice V n cv] w fun e w' => Stepped base g N (wv S) (wv ys * 18446744073709551616 ^ j) w e w' := by
  obtain ⟨n2, hn2e⟩ : ∃ n2, n = n2 + 2 := ⟨n - 2, by omega⟩
  obtain ⟨n1, hn1e⟩ : ∃ n1, n = n1 + 1 := ⟨n - 1, by omega⟩
  have hbg := (hown.lt g rfl).1
  have HBZ : Hid (base ≤ w.heap.size) := Lib.hid (Nat.le_trans hbg (Nat.le_of_lt (hown.lt g rfl).2))
  -- the words that the guess reads
  have rv1 := long_range hd' (k := n1) (by omega)
  have rv0 := long_range hd' (k := n2) (by omega)
  have ru2 := long_range hd (k := j + n) (by omega)
  have ru1 := long_range hd (k := j + n1) (by omega)
  have ru0 := long_range hd (k := j + n2) (by omega)
  obtain ⟨v1, hv1⟩ : ∃ v1 : Nat, ys.getD n1 0 = v1 := ⟨(ys.getD n1 0).toNat, by omega⟩
  obtain ⟨v0, hv0⟩ : ∃ v0 : Nat, ys.getD n2 0 = v0 := ⟨(ys.getD n2 0).toNat, by omega⟩
  obtain ⟨u2, hu2⟩ : ∃ u2 : Nat, S.getD (j + n) 0 = u2 := ⟨(S.getD (j + n) 0).toNat, by omega⟩
  obtain ⟨u1, hu1⟩ : ∃ u1 : Nat, S.getD (j + n1) 0 = u1 := ⟨(S.getD (j + n1) 0).toNat, by omega⟩
  obtain ⟨u0, hu0⟩ : ∃ u0 : Nat, S.getD (j + n2) 0 = u0 := ⟨(S.getD (j + n2) 0).toNat, by omega⟩
  have cv1 : w.cell? ⟨g, j + n, none⟩ = some (.int .u64 (u2 : Int)) := by have := own_cell hown (j := j + n) (by omega); rwa [hu2] at this
  have cv2 : w.cell? ⟨g, j + n1, none⟩ = some (.int .u64 (u1 : Int)) := by have := own_cell hown (j := j + n1) (by omega); rwa [hu1] at this
  have cv3 : w.cell? ⟨g, j + n2, none⟩ = some (.int .u64 (u0 : Int)) := by have := own_cell hown (j := j + n2) (by omega); rwa [hu0] at this
  obtain ⟨vd, rfl, hvb, hvc⟩ := hV (by omega)
  have cv4 := hvc n1 (by omega)
  have cv5 := hvc n2 (by omega)
  rw [hv1] at rv1 cv4
  rw [hv0] at rv0 cv5
  rw [hu2] at ru2
  rw [hu1] at ru1
  rw [hu0] at ru0
  have hvpos : 0 < v1 := by
    rcases Nat.eq_zero_or_pos v1 with h | h
    · rw [h, show n1 = n - 1 by omega] at hv1
      exact absurd hv1 htop
    · exact h
  -- the numbers
  obtain ⟨X, hX⟩ : ∃ X, wv S = X := ⟨_, rfl⟩
  have hXv : val 18446744073709551616 S = X := hX
  obtain ⟨Vn, hVn⟩ : ∃ Vn, wv ys = Vn := ⟨_, rfl⟩
  have hP : 0 < 18446744073709551616 ^ j := Nat.pow_pos (by omega)
  have hVtwo : Vn = val 18446744073709551616 (ys.take n2) + 18446744073709551616 ^ n2 * (v1 * 18446744073709551616 + v0) := by rw [← hVn]; exact two_top (by omega) (by rw [show n2 + 1 = n1 by omega]; exact hv1) hv0
  have hvl : val 18446744073709551616 (ys.take n2) < 18446744073709551616 ^ n2 := by
    have := val_lt (hd'.take_ n2)
    rwa [List.length_take, Nat.min_eq_left (by omega)] at this
  have hVpos : 0 < Vn := by
    have : 18446744073709551616 ^ n2 * 1 ≤ 18446744073709551616 ^ n2 * (v1 * 18446744073709551616 + v0) := Nat.mul_le_mul_left _ (by omega)
    have := Nat.pow_pos (n := n2) (show 0 < 18446744073709551616 by omega)
    omega
  have hVlt : Vn < 18446744073709551616 ^ n := by rw [← hVn, ← hn]; exact val_lt hd'
  rw [hX, hVn] at hlt
  have hXlt : X < 18446744073709551616 ^ (j + n + 1) := by
    rw [show j + n + 1 = n + (j + 1) by omega, Nat.pow_add]
    exact Nat.lt_of_lt_of_le hlt (Nat.mul_le_mul_right _ (by omega))
  have hXthree : X = val 18446744073709551616 (S.take (j + n2)) + 18446744073709551616 ^ (j + n2) * ((u2 * 18446744073709551616 + u1) * 18446744073709551616 + u0) := by
    rw [← hX]
    refine three_top (by omega) ?_ (by rw [show j + n2 + 2 = j + n by omega]; exact hu2) (by rw [show j + n2 + 1 = j + n1 by omega]; exact hu1) hu0
    rw [show j + n2 + 3 = j + n + 1 by omega]
    exact hXv ▸ hXlt
  have hxl : val 18446744073709551616 (S.take (j + n2)) < 18446744073709551616 ^ (j + n2) := by
    have := val_lt (hd.take_ (j + n2))
    rwa [List.length_take, Nat.min_eq_left (by omega)] at this
  have h21 : u2 ≤ v1 := by
    have a1 := top_low (b := 18446744073709551616) (xs := S.take (j + n + 1)) (L := j + n) (by rw [List.length_take]; omega) (by rw [getD_take (by omega)]; exact hu2)
    have a2 := val_take_drop (b := 18446744073709551616) (xs := S) (j + n + 1) (by omega)
    rw [above_zero (by omega) (hXv ▸ hXlt), Nat.mul_zero, Nat.add_zero, hXv] at a2
    rw [← a2] at a1
    have a3 : Vn ≤ 18446744073709551616 ^ n1 * (v1 + 1) := by rw [← hVn]; exact top_above hd' (by omega) hv1
    refine top_le (P := 18446744073709551616 ^ j) (B := 18446744073709551616) a1 (by rw [← Nat.pow_succ]; exact hlt) a3 ?_
    rw [← Nat.pow_succ, ← Nat.pow_add]
    congr 1
    omega
  obtain ⟨q, hG, hq1, hq2, hqm⟩ := digit_any u2 u1 u0 v1 v0 h21 hvpos (by omega) (by omega) (by omega) (by omega)
  have hYpos : 0 < Vn * 18446744073709551616 ^ j := Nat.mul_pos hVpos hP
  obtain ⟨d, hd0⟩ : ∃ d, X / (Vn * 18446744073709551616 ^ j) = d := ⟨_, rfl⟩
  have hdB : d < 18446744073709551616 := by
    rw [← hd0, Nat.div_lt_iff_lt_mul hYpos, Nat.mul_comm, Nat.mul_assoc, ← Nat.pow_succ]
    exact hlt
  have hdq : d ≤ q := hqm d (by omega) (ds_low (X := X) (P := 18446744073709551616 ^ j) (M := 18446744073709551616 ^ n2) (by rw [← Nat.pow_add]; exact hXthree) (by rw [← Nat.pow_add]; exact hxl) hVtwo (by rw [← hd0]; exact Nat.div_mul_le_self _ _))
  have hqd : q ≤ d + 1 := by
    have h1 := ds_high (X := X) (P := 18446744073709551616 ^ j) (M := 18446744073709551616 ^ n2) (B := 18446744073709551616) (q := q) (by rw [← Nat.pow_add]; exact hXthree) hVtwo hvl (by omega) (by omega) hq1
    have h2 : q - 1 ≤ d := by rw [← hd0]; exact (Nat.le_div_iff_mul_le hYpos).2 h1
    omega
  have hSZ : val 18446744073709551616 (S.drop (j + n + 1)) = 0 := above_zero (by omega) (hXv ▸ hXlt)
  rw [hX, hVn]
  have HG : Hid (∀ W : World, Calls Try.prog 60 #[.int .u64 (u2 : Int), .int .u64 (u1 : Int), .int .u64 (u0 : Int), .int .u64 (v1 : Int), .int .u64 (v0 : Int)] W fun e w' => e = .returned (.int .u64 (q : Int)) ∧ ∃ n, w' = W.drewN n) := Lib.hid hG
  have HQ : Hid (d ≤ q ∧ q ≤ d + 1 ∧ X / (Vn * 18446744073709551616 ^ j) = d ∧ X < 18446744073709551616 ^ (j + n + 1) ∧ 0 < Vn * 18446744073709551616 ^ j) := Lib.hid ⟨hdq, hqd, hd0, hXlt, hYpos⟩
  have HO := Lib.hid hown
  have HV := Lib.hid hV
  have HD := Lib.hid hd
  have HD' := Lib.hid hd'
  have HXS := Lib.hid hX
  have HVS := Lib.hid hVn
  have HSL := Lib.hid hSl
  have HYL := Lib.hid hn
  have HSZ := Lib.hid hSZ
  have HU2 := Lib.hid hu2
  have i1 : (n : Int) - 1 = (n1 : Int) := by omega
  have i2 : (n : Int) - 2 = (n2 : Int) := by omega
  have i3 : IntKind.i64.wrap ((n : Int) - 1) = (n1 : Int) := by rw [i1, IntKind.wrap_i64]; omega
  have i4 : IntKind.i64.wrap ((n : Int) - 2) = (n2 : Int) := by rw [i2, IntKind.wrap_i64]; omega
  have i5 : n1 < n := by omega
  have i6 : n2 < n := by omega
  have hnl : n ≤ 1099511627776 := by omega
  have HN : Hid (n = n2 + 2 ∧ n = n1 + 1) := Lib.hid ⟨hn2e, hn1e⟩
  clear hXv hG hdq hqd hd0 hXlt hYpos hown hV hd hd' hX hVn hSl hn hSZ hu2 hu1 hu0 hv1 hv0 hVtwo hvl hVpos hVlt hlt hXthree hxl hqm hq1 htop hvc hn2e hn1e hP hdB
  go_enter Try.func53, Try.ntmps53
  go_wp2
  go_quiet ((go_at_call 60; exact Calls.quiet_of (HG.out _)))
  by_cases hq0 : q = 0
  · have hqb : ((q : Int) == 0) = true := by rw [beq_iff_eq]; omega
    have HF : Hid (X / (Vn * 18446744073709551616 ^ j) = 0 ∧ X % (Vn * 18446744073709551616 ^ j) = X) := Lib.hid (by
      have h := HQ.out
      have h1 : X / (Vn * 18446744073709551616 ^ j) = 0 := by omega
      have h2 := Nat.div_add_mod X (Vn * 18446744073709551616 ^ j)
      rw [h1, Nat.mul_zero, Nat.zero_add] at h2
      exact ⟨h1, h2⟩)
    clear hq0
    go_wp2
    go_ret
    refine ⟨S, by rw [HF.out.1]; rfl, HSL.out, HD.out, by rw [HXS.out, HF.out.2], HO.out, grown_drewN (World.grownBy.refl _ _) _⟩
  · have hqb : ((q : Int) == 0) = false := by rw [beq_eq_false_iff_ne]; omega
    go_wp2
    go_loopw [7, 8, 48] (fun cv bv iv wr => ∃ (i c b : Nat) (S' : List Int), i ≤ n ∧ iv = .int .i64 i ∧ cv = .int .u64 c ∧ bv = .int .u64 b ∧ c ≤ 18446744073709551615 ∧ b ≤ 1 ∧ S'.length = N ∧ W64 S' ∧
        wv S' + q * 18446744073709551616 ^ j * wv (ys.take i) = X + 18446744073709551616 ^ (j + i) * (c + b) ∧ S'.drop (j + i) = S.drop (j + i) ∧ wr.ownsRow base 36 1 (.slice (some ⟨g, 0, none⟩) N N) N (S'.map (Value.int .u64)) ∧ w.grownBy wr (some g)) (fun _ _ iv _ => n - (intOf iv).toNat)
    case atStart => exact ⟨0, 0, 0, S, Nat.zero_le _, rfl, rfl, rfl, by omega, by omega, HSL.out, HD.out, by rw [HXS.out]; simp [wv, val], rfl, HO.out, grown_drewN (World.grownBy.refl _ _) _⟩
    case round =>
      obtain ⟨i, c, b, S', hi, rfl, rfl, rfl, hc, hb, hSl', hSd', hinv, hdr, hown, hbw⟩ := hrel
      obtain ⟨wo, rfl⟩ : ∃ wo : World, wo = wr := ⟨_, rfl⟩
      by_cases hlt : i < n
      · have hcelly := (HV.out.grown hbw hbg HBZ.out).get_ (j := i) (by have := HYL.out; omega)
        have ry := long_range HD'.out (k := i) (by have := HYL.out; omega)
        obtain ⟨y, hy⟩ : ∃ y : Nat, ys.getD i 0 = y := ⟨(ys.getD i 0).toNat, by omega⟩
        rw [hy] at hcelly ry
        have rr := long_range hSd' (k := j + i) (by omega)
        obtain ⟨r, hr⟩ : ∃ r : Nat, S'.getD (j + i) 0 = r := ⟨(S'.getD (j + i) 0).toNat, by omega⟩
        have hcr := own_cell hown (j := j + i) (by omega)
        rw [hr] at hcr rr
        have hfz := hown.frozenAt (j + i)
        obtain ⟨hi', lo, lo1, c1, r', b', e1, e2, e3, e4, e5, e6, b1, b2, b3, b4, b5, b6, b7, hdig⟩ := ds_digit q y r c b (by omega) (by omega) (by omega) hc hb
        have HMUL : Hid (∀ W : World, Calls Try.prog 55 #[.int .u64 (q : Int), .int .u64 (y : Int)] W fun e w' => e = .returned (.tuple #[.int .u64 (hi' : Int), .int .u64 (lo : Int)]) ∧ W = w') :=
          Lib.hid fun W => by rw [← e1, ← e2]; exact (Try.bits_Mul64 q y (by omega) (by omega) W).mono fun _ _ h => ⟨h.1, h.2.symm⟩
        have hadd : ∀ W : World, (callFunc 61 #[.int .u64 (lo : Int), .int .u64 (c : Int), .int .u64 0]).run Try.prog W = .ok (.value (.tuple #[.int .u64 (lo1 : Int), .int .u64 (c1 : Int)])) W := fun W => by
          rw [← e3, ← e4]; exact add64_run lo c 0 (by omega) W
        have hsub : ∀ W : World, (callFunc 62 #[.int .u64 (r : Int), .int .u64 (lo1 : Int), .int .u64 (b : Int)]).run Try.prog W = .ok (.value (.tuple #[.int .u64 (r' : Int), .int .u64 (b' : Int)])) W := fun W => by
          rw [← e5, ← e6]; exact sub64_run r lo1 b hb W
        have HO2 := Lib.hid (own_set hown (j + i) (r' : Int))
        have HB2 := Lib.hid (grown_set hbw (j + i) (.int .u64 (r' : Int)))
        have HSL2 : Hid ((S'.set (j + i) (r' : Int)).length = N) := Lib.hid (by simpa using hSl')
        have HSD2 := Lib.hid (hSd'.set_ (v := (r' : Int)) (by omega) (by omega) (j + i))
        have HDR2 : Hid ((S'.set (j + i) (r' : Int)).drop (j + (i + 1)) = S.drop (j + (i + 1))) := Lib.hid (by
          rw [List.drop_set_of_lt (by omega), show j + (i + 1) = (j + i) + 1 by omega, ← List.tail_drop, hdr, List.tail_drop])
        have HINV2 : Hid (wv (S'.set (j + i) (r' : Int)) + q * 18446744073709551616 ^ j * wv (ys.take (i + 1)) = X + 18446744073709551616 ^ (j + (i + 1)) * (hi' + c1 + b')) := Lib.hid (by
          have h1 := val_set (b := 18446744073709551616) (S := S') (k := j + i) (by omega) (r' : Int)
          rw [hr, Int.toNat_natCast, Int.toNat_natCast] at h1
          have h2 : wv (ys.take (i + 1)) = wv (ys.take i) + 18446744073709551616 ^ i * y := by
            unfold wv
            rw [val_take_step, hy, Int.toNat_natCast]
          rw [h2, show j + (i + 1) = (j + i) + 1 by omega, Nat.pow_succ]
          exact ds_step h1 hinv hdig (Nat.pow_add _ _ _))
        have b8 : ((hi' : Int) + c1) ≤ 18446744073709551615 := by omega
        clear hy hr hown hbw hinv hdr hSl' hSd' e1 e2 e3 e4 e5 e6 hdig
        go_wp2_with (go_at_call 55; (with_reducible refine (HMUL.out _).mono ?_); rintro e w' ⟨rfl, rfl⟩)
        go_roundw
        case rel => exact ⟨i + 1, hi' + c1, b', _, by omega, by go_num, by congr 1 <;> omega, rfl, by omega, b6, HSL2.out, HSD2.out, HINV2.out, HDR2.out, HO2.out, HB2.out⟩
        case measure => simp [intOf] <;> omega
      · obtain rfl : n = i := by omega
        have hu : S'.getD (j + n) 0 = (u2 : Int) := by
          have e : ∀ T : List Int, T.getD (j + n) 0 = (T.drop (j + n)).getD 0 0 := fun T => by simp [List.getD_eq_getElem?_getD, List.getElem?_drop]
          rw [e, hdr, ← e]
          exact HU2.out
        have hcr := own_cell hown (j := j + n) (by omega)
        rw [hu] at hcr
        have hfz := hown.frozenAt (j + n)
        obtain ⟨r', e5⟩ : ∃ r', (u2 + 18446744073709551616 - c - b) % 18446744073709551616 = r' := ⟨_, rfl⟩
        obtain ⟨b', e6⟩ : ∃ b' : Nat, (if u2 < c + b then 1 else 0) = b' := ⟨_, rfl⟩
        have hsub : ∀ W : World, (callFunc 62 #[.int .u64 (u2 : Int), .int .u64 (c : Int), .int .u64 (b : Int)]).run Try.prog W = .ok (.value (.tuple #[.int .u64 (r' : Int), .int .u64 (b' : Int)])) W := fun W => by
          rw [← e5, ← e6]; exact sub64_run u2 c b hb W
        have hb' : b' ≤ 1 := by rw [← e6]; split <;> omega
        have hr' : r' ≤ 18446744073709551615 := by omega
        have hdig : r' + c + b = u2 + 18446744073709551616 * b' := by
          rw [← e6]
          split <;> omega
        have hown2 := own_set hown (j + n) (r' : Int)
        have hb2 := grown_set hbw (j + n) (.int .u64 (r' : Int))
        have hSl2 : (S'.set (j + n) (r' : Int)).length = N := by simpa using hSl'
        have hSd2 := hSd'.set_ (v := (r' : Int)) (by omega) (by omega) (j + n)
        have hdr2 : (S'.set (j + n) (r' : Int)).drop (j + n + 1) = S.drop (j + n + 1) := by
          rw [List.drop_set_of_lt (by omega), ← List.tail_drop, hdr, List.tail_drop]
        have hsm : val 18446744073709551616 (S'.set (j + n) (r' : Int)) < 18446744073709551616 ^ (j + n + 1) := below_of_drop hSd2 (by omega) hdr2 HSZ.out
        have hlast : wv (S'.set (j + n) (r' : Int)) + q * (Vn * 18446744073709551616 ^ j) = X + 18446744073709551616 ^ (j + n) * 18446744073709551616 * b' := by
          have h1 := val_set (b := 18446744073709551616) (S := S') (k := j + n) (by omega) (r' : Int)
          rw [hu, Int.toNat_natCast, Int.toNat_natCast] at h1
          have h2 : q * 18446744073709551616 ^ j * wv (ys.take n) = q * (Vn * 18446744073709551616 ^ j) := by
            rw [List.take_of_length_le (by have := HYL.out; omega), HVS.out, Nat.mul_assoc, Nat.mul_comm Vn]
          rw [h2] at hinv
          exact ds_last h1 hinv hdig
        have HO2 := Lib.hid hown2
        have HB2 := Lib.hid hb2
        have HSL2 := Lib.hid hSl2
        have HSD2 := Lib.hid hSd2
        have HDR2 := Lib.hid hdr2
        by_cases hz : b' = 0
        · have hzb : ((b' : Int) == 0) = true := by rw [beq_iff_eq]; omega
          rw [hz, Nat.mul_zero, Nat.add_zero] at hlast
          have h := HQ.out
          obtain ⟨f1, f2⟩ := ds_right h.2.2.2.2 h.2.2.1 h.2.1 h.1 hlast
          have HF : Hid (q = X / (Vn * 18446744073709551616 ^ j) ∧ wv (S'.set (j + n) (r' : Int)) = X % (Vn * 18446744073709551616 ^ j)) := Lib.hid ⟨by rw [f1, h.2.2.1], f2⟩
          clear hz hlast h f1 f2 hown2 hb2 hSl2 hSd2 hdr2 hsm hown hbw hinv hdr hSl' hSd' hu hdig e5 e6
          go_wp2
          go_ret
          exact ⟨_, ret_int (congrArg Int.ofNat HF.out.1), HSL2.out, HSD2.out, HF.out.2, HO2.out, HB2.out⟩
        · obtain rfl : b' = 1 := by omega
          rw [Nat.mul_one] at hlast
          have h := HQ.out
          obtain ⟨f1, f2⟩ := ds_wrong h.2.2.1 h.2.1 h.1 (show wv (S'.set (j + n) (r' : Int)) < 18446744073709551616 ^ (j + n) * 18446744073709551616 by rw [← Nat.pow_succ]; exact hsm) hlast
          have HF : Hid (q = X / (Vn * 18446744073709551616 ^ j) + 1 ∧ wv (S'.set (j + n) (r' : Int)) + Vn * 18446744073709551616 ^ j = X % (Vn * 18446744073709551616 ^ j) + 18446744073709551616 ^ (j + n) * 18446744073709551616) := Lib.hid ⟨by rw [f1, h.2.2.1], f2⟩
          have hq1 : (1 : Int) ≤ (q : Int) := by omega
          clear hz hlast h f1 f2 hown2 hb2 hSl2 hSd2 hdr2 hsm hown hbw hinv hdr hSl' hSd' hu hdig e5 e6
          obtain ⟨S2, hS2⟩ : ∃ S2, S'.set (j + n) (r' : Int) = S2 := ⟨_, rfl⟩
          rw [hS2] at HO2 HSL2 HSD2 HDR2 HF
          have HS2 := Lib.hid hS2
          clear hS2
          go_wp2
          go_loopw [14, 100] (fun cv iv wr => ∃ (i c : Nat) (S' : List Int), i ≤ n ∧ iv = .int .i64 i ∧ cv = .int .u64 c ∧ c ≤ 1 ∧ S'.length = N ∧ W64 S' ∧
              wv S' + 18446744073709551616 ^ (j + i) * c = wv S2 + 18446744073709551616 ^ j * wv (ys.take i) ∧ S'.drop (j + i) = S2.drop (j + i) ∧ wr.ownsRow base 36 1 (.slice (some ⟨g, 0, none⟩) N N) N (S'.map (Value.int .u64)) ∧ w.grownBy wr (some g)) (fun _ iv _ => n - (intOf iv).toNat)
          case atStart => exact ⟨0, 0, S2, Nat.zero_le _, rfl, rfl, by omega, HSL2.out, HSD2.out, by simp [wv, val], rfl, HO2.out, HB2.out⟩
          case round =>
            obtain ⟨i, c, S', hi, rfl, rfl, hc, hSl', hSd', hinv, hdr, hown, hbw⟩ := hrel
            obtain ⟨wp, rfl⟩ : ∃ wp : World, wp = wr := ⟨_, rfl⟩
            by_cases hlt : i < n
            · have hcelly := (HV.out.grown hbw hbg HBZ.out).get_ (j := i) (by have := HYL.out; omega)
              have ry := long_range HD'.out (k := i) (by have := HYL.out; omega)
              obtain ⟨y, hy⟩ : ∃ y : Nat, ys.getD i 0 = y := ⟨(ys.getD i 0).toNat, by omega⟩
              rw [hy] at hcelly ry
              have rr := long_range hSd' (k := j + i) (by omega)
              obtain ⟨r, hr⟩ : ∃ r : Nat, S'.getD (j + i) 0 = r := ⟨(S'.getD (j + i) 0).toNat, by omega⟩
              have hcr := own_cell hown (j := j + i) (by omega)
              rw [hr] at hcr rr
              have hfz := hown.frozenAt (j + i)
              obtain ⟨t, e3⟩ : ∃ t, (r + y + c) % 18446744073709551616 = t := ⟨_, rfl⟩
              obtain ⟨c', e4⟩ : ∃ c', (r + y + c) / 18446744073709551616 = c' := ⟨_, rfl⟩
              have hadd : ∀ W : World, (callFunc 61 #[.int .u64 (r : Int), .int .u64 (y : Int), .int .u64 (c : Int)]).run Try.prog W = .ok (.value (.tuple #[.int .u64 (t : Int), .int .u64 (c' : Int)])) W := fun W => by
                rw [← e3, ← e4]; exact add64_run r y c hc W
              have ht : t ≤ 18446744073709551615 := by omega
              have hc' : c' ≤ 1 := by omega
              have hdig : t + 18446744073709551616 * c' = r + y + c := by omega
              have HO3 := Lib.hid (own_set hown (j + i) (t : Int))
              have HB3 := Lib.hid (grown_set hbw (j + i) (.int .u64 (t : Int)))
              have HSL3 : Hid ((S'.set (j + i) (t : Int)).length = N) := Lib.hid (by simpa using hSl')
              have HSD3 := Lib.hid (hSd'.set_ (v := (t : Int)) (by omega) (by omega) (j + i))
              have HDR3 : Hid ((S'.set (j + i) (t : Int)).drop (j + (i + 1)) = S2.drop (j + (i + 1))) := Lib.hid (by
                rw [List.drop_set_of_lt (by omega), show j + (i + 1) = (j + i) + 1 by omega, ← List.tail_drop, hdr, List.tail_drop])
              have HINV3 : Hid (wv (S'.set (j + i) (t : Int)) + 18446744073709551616 ^ (j + (i + 1)) * c' = wv S2 + 18446744073709551616 ^ j * wv (ys.take (i + 1))) := Lib.hid (by
                have h1 := val_set (b := 18446744073709551616) (S := S') (k := j + i) (by omega) (t : Int)
                rw [hr, Int.toNat_natCast, Int.toNat_natCast] at h1
                have h2 : wv (ys.take (i + 1)) = wv (ys.take i) + 18446744073709551616 ^ i * y := by
                  unfold wv
                  rw [val_take_step, hy, Int.toNat_natCast]
                rw [h2, show j + (i + 1) = (j + i) + 1 by omega, Nat.pow_succ]
                exact back_step h1 hinv hdig (Nat.pow_add _ _ _))
              clear hy hr hown hbw hinv hdr hSl' hSd' e3 e4 hdig
              go_wp2
              go_roundw
              case rel => exact ⟨i + 1, c', _, by omega, by go_num, rfl, hc', HSL3.out, HSD3.out, HINV3.out, HDR3.out, HO3.out, HB3.out⟩
              case measure => simp [intOf] <;> omega
            · obtain rfl : n = i := by omega
              have rt := long_range hSd' (k := j + n) (by omega)
              obtain ⟨t, ht⟩ : ∃ t : Nat, S'.getD (j + n) 0 = t := ⟨(S'.getD (j + n) 0).toNat, by omega⟩
              rw [ht] at rt
              have hcr := own_cell hown (j := j + n) (by omega)
              rw [ht] at hcr
              have hfz := hown.frozenAt (j + n)
              have hz3 : val 18446744073709551616 (S'.drop (j + n + 1)) = 0 := by
                rw [← List.tail_drop, hdr, List.tail_drop, HDR2.out]
                exact HSZ.out
              have hsplit : wv S' = val 18446744073709551616 (S'.take (j + n)) + 18446744073709551616 ^ (j + n) * t := by
                have h1 := val_take_drop (b := 18446744073709551616) (xs := S') (j + n) (by omega)
                rw [drop_at (k := j + n) (by omega), val_cons, hz3, ht, Nat.mul_zero, Nat.add_zero, Int.toNat_natCast] at h1
                exact h1
              have hlow : val 18446744073709551616 (S'.take (j + n)) < 18446744073709551616 ^ (j + n) := by
                have := val_lt (hSd'.take_ (j + n))
                rwa [List.length_take, Nat.min_eq_left (by omega)] at this
              have hset := val_set (b := 18446744073709551616) (S := S') (k := j + n) (by omega) ((0 : Nat) : Int)
              rw [ht, Int.toNat_natCast, Int.toNat_natCast] at hset
              have hinv2 : wv S' + 18446744073709551616 ^ (j + n) * c = X % (Vn * 18446744073709551616 ^ j) + 18446744073709551616 ^ (j + n) * 18446744073709551616 := by
                rw [List.take_of_length_le (by have := HYL.out; omega), HVS.out, Nat.mul_comm (18446744073709551616 ^ j)] at hinv
                rw [hinv, HF.out.2]
              obtain ⟨f1, f2⟩ := ds_back rfl hset hinv2 hsplit hlow (by omega) hc
              have HFF : Hid (wv (S'.set (j + n) ((0 : Nat) : Int)) = X % (Vn * 18446744073709551616 ^ j)) := Lib.hid f2
              have hw0 : IntKind.u64.wrap ((t : Int) + (c : Int)) = ((0 : Nat) : Int) := by rw [IntKind.wrap_u64]; omega
              have HO3 := Lib.hid (own_set hown (j + n) ((0 : Nat) : Int))
              have HB3 := Lib.hid (grown_set hbw (j + n) (.int .u64 ((0 : Nat) : Int)))
              have HSL3 : Hid ((S'.set (j + n) ((0 : Nat) : Int)).length = N) := Lib.hid (by simpa using hSl')
              have HSD3 := Lib.hid (hSd'.set_ (v := ((0 : Nat) : Int)) (by omega) (by omega) (j + n))
              clear ht hown hbw hinv hinv2 hdr hSl' hSd' hz3 hsplit hlow hset f1 f2
              go_wp2
              go_ret
              exact ⟨_, ret_int (by have := HF.out.1; omega), HSL3.out, HSD3.out, HFF.out, HO3.out, HB3.out⟩
end Go.Proofs.Ytdflhidhnejbbaa
