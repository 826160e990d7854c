/- Contracts: mulSchool. -/
import Derived.Test.YtdflhidhnejbbaaUnpack
namespace Go.Proofs.Ytdflhidhnejbbaa
open Go.RowKit

theorem val_set {b : Nat} {S : List Int} {k : Nat} (h : k < S.length) (v : Int) : val b (S.set k v) + b ^ k * (S.getD k 0).toNat = val b S + b ^ k * v.toNat := by
  have h1 := val_take_drop (b := b) (xs := S) (k + 1) (by omega)
  have h2 := val_take_drop (b := b) (xs := S.set k v) (k + 1) (by simp; omega)
  rw [val_take_step] at h1
  rw [take_set_succ h, val_snoc, List.length_take, Nat.min_eq_left (by omega), List.drop_set_of_lt (by omega)] at h2
  omega
theorem zero_of_lt {b : Nat} {S : List Int} {p : Nat} (hd : Dig b S) (hp : p < S.length) (h : val b S < b ^ p) : S.getD p 0 = 0 := by
  have h1 := val_take_drop (b := b) (xs := S) (p + 1) (by omega)
  rw [val_take_step] at h1
  have h2 := hd.at_ hp
  rcases Nat.eq_zero_or_pos (S.getD p 0).toNat with h3 | h3
  · omega
  · have : b ^ p * 1 ≤ b ^ p * (S.getD p 0).toNat := Nat.mul_le_mul_left _ h3
    omega

/-- One step of the school method, by words. -/
theorem school_digit (x y r c : Nat) (hx : x ≤ 18446744073709551615) (hy : y ≤ 18446744073709551615) (hr : r ≤ 18446744073709551615) (hc : c ≤ 18446744073709551615) :
    ∃ hi lo lo1 c1 r' c2 : Nat, x * y / 18446744073709551616 = hi ∧ x * y % 18446744073709551616 = lo ∧ (lo + r + 0) % 18446744073709551616 = lo1 ∧ (lo + r + 0) / 18446744073709551616 = c1 ∧ (lo1 + c + 0) % 18446744073709551616 = r' ∧ (lo1 + c + 0) / 18446744073709551616 = c2 ∧
      lo ≤ 18446744073709551615 ∧ lo1 ≤ 18446744073709551615 ∧ r' ≤ 18446744073709551615 ∧ hi + c1 ≤ 18446744073709551615 ∧ hi + c1 + c2 ≤ 18446744073709551615 ∧ r' + 18446744073709551616 * (hi + c1 + c2) = r + x * y + c := by
  refine ⟨_, _, _, _, _, _, rfl, rfl, rfl, rfl, rfl, rfl, ?_⟩
  have h1 : x * y ≤ 18446744073709551615 * 18446744073709551615 := Nat.mul_le_mul hx hy
  generalize x * y = p at *
  refine ⟨by omega, by omega, by omega, by omega, by omega, by omega⟩
theorem school_step {B P p q r r' c c' v v' s x y a : Nat} (h1 : v' + P * r = v + P * r') (h2 : v + P * c = s + y * p * a) (h3 : r' + B * c' = r + x * y + c) (hP : P = p * q) : v' + P * B * c' = s + y * p * (a + q * x) := by
  have e1 : P * (r' + B * c') = P * (r + x * y + c) := by rw [h3]
  rw [Nat.mul_add, Nat.mul_add, Nat.mul_add, ← Nat.mul_assoc P B c'] at e1
  have e2 : y * p * (a + q * x) = y * p * a + P * (x * y) := by
    rw [Nat.mul_add, hP, show y * p * (q * x) = p * q * (x * y) by simp only [Nat.mul_comm, Nat.mul_left_comm]]
  omega

/-- The same room, other words. -/
def Wrote (base g N v : Nat) (w w' : World) : Prop :=
  ∃ S : List Int, S.length = N ∧ W64 S ∧ wv S = v ∧ w'.ownsRow base 36 1 (.slice (some ⟨g, 0, none⟩) N N) N (S.map (Value.int .u64)) ∧ Below base w w'

set_option maxHeartbeats 2000000 in
theorem school_any (base g : Nat) (A B : Option Addr) (xs ys : List Int) (c d : Nat) (w : World) (hown : w.ownsRow base 36 1 (.slice (some ⟨g, 0, none⟩) (xs.length + ys.length) (xs.length + ys.length)) (xs.length + ys.length) ((List.replicate (xs.length + ys.length) (0 : Int)).map (Value.int .u64)))
    (h : KL .u64 w base A xs) (h' : KL .u64 w base B ys) (hd : W64 xs) (hd' : W64 ys) (hxl : xs.length ≤ 1099511627776) (hyl : ys.length ≤ 1099511627776) (hx1 : 1 ≤ xs.length) :
    Calls Try.prog 56 #[.slice (some ⟨g, 0, none⟩) (xs.length + ys.length) (xs.length + ys.length), .slice A xs.length c, .slice B ys.length d] w fun e w' => e = .returned (.tuple #[]) ∧ Wrote base g (xs.length + ys.length) (wv xs * wv ys) w w' := by
  have hbg := (hown.lt g rfl).1
  have HO := Lib.hid hown; clear hown
  have H := Lib.hid h; clear h
  have H' := Lib.hid h'; clear h'
  have HD := Lib.hid hd; clear hd
  have HD' := Lib.hid hd'; clear hd'
  go_enter Try.func56, Try.ntmps56
  go_wp2
  go_loopw [17] (fun i wr => ∃ (k : Nat) (S : List Int), k ≤ ys.length ∧ i = .int .i64 k ∧ S.length = xs.length + ys.length ∧ W64 S ∧ wv S = wv xs * wv (ys.take k) ∧
      wr.ownsRow base 36 1 (.slice (some ⟨g, 0, none⟩) (xs.length + ys.length) (xs.length + ys.length)) (xs.length + ys.length) (S.map (Value.int .u64)) ∧ Below base w wr) (fun i _ => ys.length - (intOf i).toNat)
  case atStart => exact ⟨0, _, Nat.zero_le _, rfl, by simp, Dig.zeros (by omega) _, by unfold wv; rw [val_zeros]; simp [val], HO.out, Below.refl _ _⟩
  case round =>
    obtain ⟨k, S, hk, rfl, hSl, hSd, hSv, hown, hbw⟩ := hrel
    obtain ⟨wo, rfl⟩ : ∃ wo : World, wo = wr := ⟨_, rfl⟩
    by_cases hlt : k < ys.length
    · obtain ⟨bd, rfl, hbb, hcc⟩ := (H'.out.below hbw) (by omega)
      have hcell := hcc k hlt
      have hy1 := long_range HD'.out hlt
      obtain ⟨y, hy⟩ : ∃ y : Nat, ys.getD k 0 = y := ⟨(ys.getD k 0).toNat, by omega⟩
      rw [hy] at hcell hy1
      have hvs : wv (ys.take (k + 1)) = wv (ys.take k) + 18446744073709551616 ^ k * y := by
        unfold wv
        rw [val_take_step, hy, Int.toNat_natCast]
      have HVS := Lib.hid hvs
      have HSL := Lib.hid hSl
      have HSD := Lib.hid hSd
      have HSV := Lib.hid hSv
      have HOW := Lib.hid hown
      have HBW := Lib.hid hbw
      clear hcc hy hvs hSl hSd hSv hown hbw
      by_cases hy0 : y = 0
      · have hyb : ((y : Int) == 0) = true := by rw [beq_iff_eq]; omega
        have HY0 := Lib.hid hy0
        clear hy0
        go_wp2
        go_roundw
        case rel => exact ⟨k + 1, S, by omega, by go_num, HSL.out, HSD.out, by rw [HVS.out, HY0.out, Nat.mul_zero, Nat.add_zero]; exact HSV.out, HOW.out, HBW.out⟩
        case measure => simp [intOf] <;> omega
      · have hyb : ((y : Int) == 0) = false := by rw [beq_eq_false_iff_ne]; omega
        have hcap : ¬ xs.length + ys.length = k := by omega
        have hzero : S.getD (k + xs.length) 0 = 0 := by
          refine zero_of_lt (b := 18446744073709551616) HSD.out (by have := HSL.out; omega) ?_
          have e : val 18446744073709551616 S = wv xs * wv (ys.take k) := HSV.out
          rw [e, Nat.pow_add]
          have h1 : wv xs < 18446744073709551616 ^ xs.length := val_lt HD.out
          have h2 : wv (ys.take k) < 18446744073709551616 ^ k := by
            have := val_lt (HD'.out.take_ k)
            rwa [List.length_take, Nat.min_eq_left (by omega)] at this
          rw [Nat.mul_comm (18446744073709551616 ^ k)]
          exact Nat.mul_lt_mul'' h1 h2
        have HZERO := Lib.hid hzero
        clear hzero
        have hy2 : y ≤ 18446744073709551615 := by omega
        go_wp2
        go_loopw [8, 34] (fun cr i wr => ∃ (j cc : Nat) (S' : List Int), j ≤ xs.length ∧ i = .int .i64 j ∧ cr = .int .u64 cc ∧ cc ≤ 18446744073709551615 ∧ S'.length = xs.length + ys.length ∧ W64 S' ∧
            wv S' + 18446744073709551616 ^ (k + j) * cc = wv S + y * 18446744073709551616 ^ k * wv (xs.take j) ∧ S'.drop (k + j) = S.drop (k + j) ∧
            wr.ownsRow base 36 1 (.slice (some ⟨g, 0, none⟩) (xs.length + ys.length) (xs.length + ys.length)) (xs.length + ys.length) (S'.map (Value.int .u64)) ∧ Below base w wr) (fun _ i _ => xs.length - (intOf i).toNat)
        case atStart => exact ⟨0, 0, S, Nat.zero_le _, rfl, rfl, by omega, HSL.out, HSD.out, by simp [wv, val], rfl, HOW.out, HBW.out⟩
        case round =>
          obtain ⟨j, cc, S', hj, rfl, rfl, hcc1, hSl', hSd', hinv, hdr, hown, hbw⟩ := hrel
          by_cases hlt2 : j < xs.length
          · obtain ⟨ad, rfl, hab, hca⟩ := (H.out.below hbw) (by omega)
            have hcellx := hca j hlt2
            have hx2 := long_range HD.out hlt2
            obtain ⟨x, hx⟩ : ∃ x : Nat, xs.getD j 0 = x := ⟨(xs.getD j 0).toNat, by omega⟩
            rw [hx] at hcellx hx2
            have hr2 := long_range hSd' (k := k + j) (by omega)
            obtain ⟨r, hr⟩ : ∃ r : Nat, S'.getD (k + j) 0 = r := ⟨(S'.getD (k + j) 0).toNat, by omega⟩
            have hcr := own_cell hown (j := k + j) (by omega)
            rw [hr] at hcr hr2
            have hfz := hown.frozenAt (k + j)
            obtain ⟨hi, lo, lo1, c1, r', c2, e1, e2, e3, e4, e5, e6, b1, b2, b3, b4, b5, hdig⟩ := school_digit x y r cc (by omega) hy2 (by omega) hcc1
            have HMUL : Hid (∀ W : World, Calls Try.prog 55 #[.int .u64 (x : Int), .int .u64 (y : Int)] W fun e w' => e = .returned (.tuple #[.int .u64 (hi : Int), .int .u64 (lo : Int)]) ∧ W = w') :=
              Lib.hid fun W => by rw [← e1, ← e2]; exact (Try.bits_Mul64 x y (by omega) (by omega) W).mono fun _ _ h => ⟨h.1, h.2.symm⟩
            have hadd1 : ∀ W : World, (callFunc 61 #[.int .u64 (lo : Int), .int .u64 (r : Int), .int .u64 0]).run Try.prog W = .ok (.value (.tuple #[.int .u64 (lo1 : Int), .int .u64 (c1 : Int)])) W := fun W => by
              rw [← e3, ← e4]; exact add64_run lo r 0 (by omega) W
            have hadd2 : ∀ W : World, (callFunc 61 #[.int .u64 (lo1 : Int), .int .u64 (cc : Int), .int .u64 0]).run Try.prog W = .ok (.value (.tuple #[.int .u64 (r' : Int), .int .u64 (c2 : Int)])) W := fun W => by
              rw [← e5, ← e6]; exact add64_run lo1 cc 0 (by omega) W
            have HO2 := Lib.hid (own_set hown (k + j) (r' : Int))
            have HB2 := Lib.hid (hbw.setCell (p := ⟨g, k + j, none⟩) hbg (.int .u64 (r' : Int)))
            have HSL2 : Hid ((S'.set (k + j) (r' : Int)).length = xs.length + ys.length) := Lib.hid (by simpa using hSl')
            have HSD2 := Lib.hid (hSd'.set_ (v := (r' : Int)) (by omega) (by omega) (k + j))
            have HDR2 : Hid ((S'.set (k + j) (r' : Int)).drop (k + (j + 1)) = S.drop (k + (j + 1))) := Lib.hid (by
              rw [List.drop_set_of_lt (by omega), show k + (j + 1) = (k + j) + 1 by omega, ← List.tail_drop, hdr, List.tail_drop])
            have HINV2 : Hid (wv (S'.set (k + j) (r' : Int)) + 18446744073709551616 ^ (k + (j + 1)) * (hi + c1 + c2) = wv S + y * 18446744073709551616 ^ k * wv (xs.take (j + 1))) := Lib.hid (by
              have h1 := val_set (b := 18446744073709551616) (S := S') (k := k + j) (by omega) (r' : Int)
              rw [hr, Int.toNat_natCast, Int.toNat_natCast] at h1
              have h2 : wv (xs.take (j + 1)) = wv (xs.take j) + 18446744073709551616 ^ j * x := by
                unfold wv
                rw [val_take_step, hx, Int.toNat_natCast]
              rw [h2, show k + (j + 1) = (k + j) + 1 by omega, Nat.pow_succ]
              exact school_step h1 hinv hdig (Nat.pow_add _ _ _))
            clear hca hx hr hown hbw hinv hdr hSl' hSd' e1 e2 e3 e4 e5 e6 hdig
            go_wp2_with (go_at_call 55; (with_reducible refine (HMUL.out _).mono ?_); rintro e w' ⟨rfl, rfl⟩)
            go_roundw
            case rel => exact ⟨j + 1, hi + c1 + c2, _, by omega, by go_num, by congr 1 <;> omega, b5, HSL2.out, HSD2.out, HINV2.out, HDR2.out, HO2.out, HB2.out⟩
            case measure => simp [intOf] <;> omega
          · obtain rfl : j = xs.length := by omega
            have hz2 : S'.getD (k + xs.length) 0 = 0 := by
              have h1 := HZERO.out
              have h2 : (S'.drop (k + xs.length)).getD 0 0 = (S.drop (k + xs.length)).getD 0 0 := by rw [hdr]
              simp only [List.getD_eq_getElem?_getD, List.getElem?_drop, Nat.add_zero] at h2 h1 ⊢
              rw [h2, h1]
            have hcr := own_cell hown (j := k + xs.length) (by omega)
            rw [hz2] at hcr
            have hfz := hown.frozenAt (k + xs.length)
            have HO2 := Lib.hid (own_set hown (k + xs.length) (cc : Int))
            have HB2 := Lib.hid (hbw.setCell (p := ⟨g, k + xs.length, none⟩) hbg (.int .u64 (cc : Int)))
            have HSL2 : Hid ((S'.set (k + xs.length) (cc : Int)).length = xs.length + ys.length) := Lib.hid (by simpa using hSl')
            have HSD2 := Lib.hid (hSd'.set_ (v := (cc : Int)) (by omega) (by omega) (k + xs.length))
            have HSV2 : Hid (wv (S'.set (k + xs.length) (cc : Int)) = wv xs * wv (ys.take (k + 1))) := Lib.hid (by
              have h1 := val_set (b := 18446744073709551616) (S := S') (k := k + xs.length) (by omega) (cc : Int)
              rw [hz2, Int.toNat_natCast, Int.toNat_zero, Nat.mul_zero, Nat.add_zero] at h1
              have h2 := hinv
              rw [List.take_of_length_le (Nat.le_refl _)] at h2
              unfold wv at h2 ⊢
              rw [h1, h2]
              have h3 : val 18446744073709551616 (ys.take (k + 1)) = val 18446744073709551616 (ys.take k) + 18446744073709551616 ^ k * y := HVS.out
              have h4 : val 18446744073709551616 S = val 18446744073709551616 xs * val 18446744073709551616 (ys.take k) := HSV.out
              rw [h3, h4, Nat.mul_add, Nat.mul_comm (y * _), Nat.mul_comm y])
            clear hown hbw hinv hdr hSl' hSd' hz2
            go_wp2
            go_roundw
            case rel => exact ⟨k + 1, _, by omega, by go_num, HSL2.out, HSD2.out, HSV2.out, HO2.out, HB2.out⟩
            case measure => simp [intOf] <;> omega
    · obtain rfl : k = ys.length := by omega
      have HR : Hid (Wrote base g (xs.length + ys.length) (wv xs * wv ys) w wo) := Lib.hid ⟨S, hSl, hSd, by rw [hSv, List.take_of_length_le (Nat.le_refl _)], hown, hbw⟩
      clear hSl hSd hSv hown hbw
      go_wp2
      go_end0
      exact ⟨rfl, HR.out⟩
end Go.Proofs.Ytdflhidhnejbbaa
