/- Contracts: Sub. -/
import Derived.Test.YtdflhidhnejbbaaAdd
namespace Go.Proofs.Ytdflhidhnejbbaa
open Go.RowKit

theorem sub_round (x br y : Nat) (hx : (x : Int) < 4294967296) (hbr : br ≤ 1) (hy : (y : Int) < 4294967296) :
    ∃ (d1 d2 : Int) (v b' : Nat), IntKind.u64.wrap ((x : Int) - br) = d1 ∧ IntKind.u64.wrap (d1 - y) = d2 ∧ d2 % 4294967296 = (v : Int) ∧ d2 / 9223372036854775808 = (b' : Int) ∧ (0 ≤ d1 ∧ d1 ≤ 18446744073709551615) ∧ (0 ≤ d2 ∧ d2 ≤ 18446744073709551615) ∧ (v : Int) < 4294967296 ∧ b' ≤ 1 ∧ v + br + y = x + 4294967296 * b' := by
  by_cases h : (x : Int) - br - y < 0
  · refine ⟨_, _, (x + 4294967296 - br - y), 1, rfl, rfl, ?_, ?_, ?_, ?_, ?_, by omega, by omega⟩ <;> (try simp only [IntKind.wrap_u64]) <;> omega
  · refine ⟨_, _, (x - br - y), 0, rfl, rfl, ?_, ?_, ?_, ?_, ?_, by omega, by omega⟩ <;> (try simp only [IntKind.wrap_u64]) <;> omega
theorem sub_step {B P c x y a b s v c' : Nat} (h : s + b = a + P * c) (e : v + c + y = x + B * c') : s + P * v + (b + P * y) = a + P * x + P * B * c' := by
  have h1 : P * (v + c + y) = P * (x + B * c') := by rw [e]
  rw [Nat.mul_add, Nat.mul_add, Nat.mul_add, ← Nat.mul_assoc] at h1
  omega
theorem lens_of_le {n m : Nat} (h : m ≤ n) : (limbs m).length ≤ (limbs n).length := limbs_len_le (Nat.lt_of_le_of_lt h (limbs_lt n))

set_option maxHeartbeats 1000000 in
theorem sub_lists (A B : Option Addr) (xs ys : List Int) (c d : Nat) (w : World) (h : KL .u32 w w.heap.size A xs) (h' : KL .u32 w w.heap.size B ys) (hd : D32 xs) (hd' : D32 ys) (hxl : xs.length ≤ 1099511627776) (hyl : ys.length ≤ xs.length) (hle : nv ys ≤ nv xs) :
    Calls Try.prog 13 #[.slice A xs.length c, .slice B ys.length d] w fun e w' => ∃ A c, e = .returned (.tuple #[.slice A (limbs (nv xs - nv ys)).length c, .bool true]) ∧ KL .u32 w' w'.heap.size A (limbs (nv xs - nv ys)) ∧ (limbs (nv xs - nv ys)).length ≤ c ∧ Below w.heap.size w w' := by
  obtain ⟨i0, hi0, hz0, hz1, hz2⟩ := info_parts u32_info
  have hcmp := cmp_lists A B xs ys c d w h h' hd hd' (by omega) (by omega)
  obtain ⟨r, hr⟩ : ∃ r, cmpV xs ys = r := ⟨_, rfl⟩
  have hr0 : 0 ≤ r := by
    rw [← hr]
    unfold cmpV
    rw [if_neg (by omega)]
    split
    · omega
    · rw [if_neg (by omega)]
      split <;> omega
  rw [hr] at hcmp
  have HCMP := Lib.hid hcmp
  have H := Lib.hid h; clear h
  have H' := Lib.hid h'; clear h'
  have HD := Lib.hid hd; clear hd
  have HD' := Lib.hid hd'; clear hd'
  clear hcmp hr
  go_enter Try.func13, Try.ntmps13
  go_wp2_with (first
    | (go_at_call 18; (with_reducible refine HCMP.out.mono ?_); rintro e w0 ⟨rfl, hw⟩; have HB0 := Lib.hid (below_of_drewN (Below.refl w.heap.size w) hw); have hws := (below_of_drewN (Below.refl w.heap.size w) hw).size; clear hw)
    | (at_make; refine wpList_make_full _ rfl _ _ 22 rfl w.heap.size 41 i0 (.int .u32 0) 1 Try.underlying22 hi0 hz0 hz1 _ _ _ _ xs.length rfl rfl rfl rfl (by rw [hz2]; omega) (by unfold maxLen; omega) hws ?_; intro w1 hown hg; have HO := Lib.hid (own_zeros hown); have HB := Lib.hid (HB0.out.grown hg hws (fun k hk => by cases hk)); clear hown hg))
  obtain ⟨g, hg⟩ : ∃ g, w0.heap.size = g := ⟨_, rfl⟩
  rw [hg] at HO hws ⊢
  clear hg
  go_loopw [7, 20] (fun cr i wr => ∃ (k br : Nat) (S : List Int), k ≤ xs.length ∧ i = .int .i64 k ∧ cr = .int .u64 br ∧ br ≤ 1 ∧ S.length = xs.length ∧ D32 S ∧
      wr.ownsRow w.heap.size 41 1 (.slice (some ⟨g, 0, none⟩) xs.length xs.length) xs.length (S.map (Value.int .u32)) ∧ Below w.heap.size w wr ∧
      val 4294967296 (S.take k) + val 4294967296 (ys.take k) = val 4294967296 (xs.take k) + 4294967296 ^ k * br) (fun _ i _ => xs.length - (intOf i).toNat)
  case atStart => exact ⟨0, 0, List.replicate xs.length 0, Nat.zero_le _, rfl, rfl, by omega, by simp, Dig.zeros (by omega) _, HO.out, HB.out, by simp [val]⟩
  case round =>
    obtain ⟨k, br, S, hk, rfl, rfl, hbr, hSl, hSd, hown, hbw, hinv⟩ := hrel
    by_cases hlt : k < xs.length
    · obtain ⟨ad, rfl, hab, hcc⟩ := (H.out.below hbw) (by omega)
      have hcell := hcc k hlt
      have hx1 := word_range HD.out hlt
      obtain ⟨x, hx⟩ : ∃ x : Nat, xs.getD k 0 = x := ⟨(xs.getD k 0).toNat, by omega⟩
      rw [hx] at hcell hx1
      have hfz := hown.frozenAt k
      have hcu := own_cell hown (j := k) (by omega)
      by_cases hlt2 : k < ys.length
      · obtain ⟨bd, rfl, hbb, hcc'⟩ := (H'.out.below hbw) (by omega)
        have hcell' := hcc' k hlt2
        have hy1 := word_range HD'.out hlt2
        obtain ⟨y, hy⟩ : ∃ y : Nat, ys.getD k 0 = y := ⟨(ys.getD k 0).toNat, by omega⟩
        rw [hy] at hcell' hy1
        obtain ⟨d1, d2, v, b', hw1, hw2, hm, hq, hd1, hd2, hv, hb', heq⟩ := sub_round x br y hx1.2 hbr hy1.2
        have HO := Lib.hid (own_set hown k (v : Int))
        have HBW := Lib.hid (hbw.setCell (p := ⟨g, k, none⟩) hws (.int .u32 (v : Int)))
        have HSD := Lib.hid (hSd.set_ (v := (v : Int)) (by omega) (by omega) k)
        have HSL : Hid ((S.set k (v : Int)).length = xs.length) := Lib.hid (by simpa using hSl)
        have HINV : Hid (val 4294967296 ((S.set k (v : Int)).take (k + 1)) + val 4294967296 (ys.take (k + 1)) = val 4294967296 (xs.take (k + 1)) + 4294967296 ^ (k + 1) * b') := Lib.hid (by
          rw [take_set_succ (by omega), val_snoc, List.length_take, Nat.min_eq_left (by omega), val_take_step, val_take_step, hx, hy, Nat.pow_succ, Int.toNat_natCast, Int.toNat_natCast, Int.toNat_natCast]
          exact sub_step hinv heq)
        clear hcc hcc' hx hy hown hbw hinv hSl hSd heq
        go_wp2
        go_roundw
        case rel => exact ⟨k + 1, b', _, by omega, by go_num, by congr 1 <;> omega, hb', HSL.out, HSD.out, HO.out, HBW.out, HINV.out⟩
        case measure => simp [intOf] <;> omega
      · have hy : ys.getD k 0 = ((0 : Nat) : Int) := by simp [List.getD_eq_getElem?_getD, show ys.length ≤ k by omega]
        obtain ⟨d1, d2, v, b', hw1, hw2, hm, hq, hd1, hd2, hv, hb', heq⟩ := sub_round x br 0 hx1.2 hbr (by omega)
        obtain rfl : d2 = d1 := by
          rw [← hw2, IntKind.wrap_u64]
          omega
        clear hw2
        have HO := Lib.hid (own_set hown k (v : Int))
        have HBW := Lib.hid (hbw.setCell (p := ⟨g, k, none⟩) hws (.int .u32 (v : Int)))
        have HSD := Lib.hid (hSd.set_ (v := (v : Int)) (by omega) (by omega) k)
        have HSL : Hid ((S.set k (v : Int)).length = xs.length) := Lib.hid (by simpa using hSl)
        have HINV : Hid (val 4294967296 ((S.set k (v : Int)).take (k + 1)) + val 4294967296 (ys.take (k + 1)) = val 4294967296 (xs.take (k + 1)) + 4294967296 ^ (k + 1) * b') := Lib.hid (by
          rw [take_set_succ (by omega), val_snoc, List.length_take, Nat.min_eq_left (by omega), val_take_step, val_take_step, hx, hy, Nat.pow_succ, Int.toNat_natCast, Int.toNat_natCast, Int.toNat_natCast]
          exact sub_step hinv heq)
        clear hcc  hx hy hown hbw hinv hSl hSd heq
        go_wp2
        go_roundw
        case rel => exact ⟨k + 1, b', _, by omega, by go_num, by congr 1 <;> omega, hb', HSL.out, HSD.out, HO.out, HBW.out, HINV.out⟩
        case measure => simp [intOf] <;> omega
    · obtain rfl : k = xs.length := by omega
      have hval : nv S = nv xs - nv ys := by
        have h1 := hinv
        rw [val_take_all _ (by omega), val_take_all _ (Nat.le_refl _), val_take_all _ (by omega)] at h1
        have h2 := val_lt hSd
        rw [hSl] at h2
        unfold nv at hle ⊢
        have h3 : br = 0 := by
          rcases Nat.eq_zero_or_pos br with h | h
          · exact h
          · have : 4294967296 ^ xs.length * 1 ≤ 4294967296 ^ xs.length * br := Nat.mul_le_mul_left _ h
            omega
        rw [h3] at h1
        omega
      obtain ⟨hrl, hrc, hrow⟩ := KL.of_own hown
      have HT : Hid _ := Lib.hid (trim_any (some ⟨g, 0, none⟩) S xs.length _ hrow hSd (by omega) (by omega))
      have hkl := trim_KL hrow hSd
      rw [hval, hSl] at HT
      rw [hval] at hkl
      have HKL := Lib.hid hkl
      have HBW := Lib.hid hbw
      clear hown hSd hbw hinv hval hSl hrl hrc hrow hkl hyl
      go_wp2_with (go_at_call 38; (with_reducible refine HT.out.mono ?_); rintro e w' ⟨rfl, rfl⟩)
      go_ret2
      exact ⟨_, _, rfl, HKL.out, Nat.le_refl _, HBW.out⟩

/-- Two results: a number that was made, and something small. -/
def MadeNV (n : Nat) (v : Value) (w : World) (e : Ending) (w' : World) : Prop :=
  ∃ A c, e = .returned (.tuple #[.slice A (limbs n).length c, v]) ∧ KL .u32 w' w'.heap.size A (limbs n) ∧ (limbs n).length ≤ c ∧ Below w.heap.size w w'

set_option maxHeartbeats 1000000 in
theorem sub_no (n m : Nat) (A B : Option Addr) (c d : Nat) (w : World) (h : KL .u32 w w.heap.size A (limbs n)) (h' : KL .u32 w w.heap.size B (limbs m)) (hxl : (limbs n).length ≤ 1099511627776) (hyl : (limbs m).length ≤ 1099511627776) (hlt : n < m) :
    Calls Try.prog 13 #[.slice A (limbs n).length c, .slice B (limbs m).length d] w fun e w' => MadeNV 0 (.bool false) w e w' := by
  have hcmp := cmp_lists A B (limbs n) (limbs m) c d w h h' (limbs_dig n) (limbs_dig m) (by omega) (by omega)
  have e : cmpV (limbs n) (limbs m) = -1 := by rw [cmpV_limbs]; unfold cmpN; rw [if_pos hlt]
  rw [e] at hcmp
  have HCMP := Lib.hid hcmp
  clear h h' hcmp e
  go_enter Try.func13, Try.ntmps13
  go_wp2_with (go_at_call 18; (with_reducible refine HCMP.out.mono ?_); rintro e w0 ⟨rfl, hw⟩; have HB0 := Lib.hid (below_of_drewN (Below.refl w.heap.size w) hw); clear hw)
  go_ret2
  have hz : (limbs 0).length = 0 := by rw [limbs_zero]; rfl
  exact ⟨none, 0, by rw [hz]; rfl, by rw [limbs_zero]; exact KL.nil_, by rw [hz]; exact Nat.le_refl _, HB0.out⟩
theorem sub_any (n m : Nat) (A B : Option Addr) (c d : Nat) (w : World) (h : KL .u32 w w.heap.size A (limbs n)) (h' : KL .u32 w w.heap.size B (limbs m)) (hxl : (limbs n).length ≤ 1099511627776) (hyl : (limbs m).length ≤ 1099511627776) :
    Calls Try.prog 13 #[.slice A (limbs n).length c, .slice B (limbs m).length d] w fun e w' => MadeNV (n - m) (.bool (decide (m ≤ n))) w e w' := by
  by_cases hle : m ≤ n
  · have := sub_lists A B (limbs n) (limbs m) c d w h h' (limbs_dig n) (limbs_dig m) hxl (lens_of_le hle) (by rw [nv_limbs, nv_limbs]; exact hle)
    rw [nv_limbs, nv_limbs] at this
    rw [decide_eq_true hle]
    exact this
  · have := sub_no n m A B c d w h h' hxl hyl (by omega)
    rw [show n - m = 0 by omega, decide_eq_false hle]
    exact this
end Go.Proofs.Ytdflhidhnejbbaa
