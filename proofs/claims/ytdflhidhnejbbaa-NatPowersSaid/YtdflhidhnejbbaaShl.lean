/- Contracts: Shl. -/
import Derived.Test.YtdflhidhnejbbaaMul
namespace Go.Proofs.Ytdflhidhnejbbaa
open Go.RowKit

theorem bits_or_u32_nat (a b : Nat) (ha : a < 4294967296) (hb : b < 4294967296) : bits .or .u32 (a : Int) (b : Int) = ((a ||| b : Nat) : Int) := by
  have hx : a ||| b < 2 ^ 32 := Nat.or_lt_two_pow (by omega) (by omega)
  show IntKind.u32.wrap ((BitVec.ofInt 32 (a : Int) ||| BitVec.ofInt 32 (b : Int)).toNat : Int) = _
  rw [BitVec.toNat_or, BitVec.ofInt_natCast, BitVec.ofInt_natCast, BitVec.toNat_ofNat, BitVec.toNat_ofNat, Nat.mod_eq_of_lt (by omega), Nat.mod_eq_of_lt (by omega), IntKind.wrap_u32']
  omega
/-- The low places of a multiple of 2^r are free. -/
theorem or_free {r p m : Nat} (hp : p < 2 ^ r) : p ||| 2 ^ r * m = p + 2 ^ r * m := by
  rw [Nat.or_comm, ← Nat.two_pow_add_eq_or_of_lt hp m, Nat.add_comm]
theorem pow_le_31 {r : Nat} (hr : r < 32) : 2 ^ r ≤ 2147483648 := by
  have : 2 ^ r ≤ 2 ^ 31 := Nat.pow_le_pow_right (by omega) (by omega)
  omega

/-- One limb shifted: what goes into its place, and what into the next one. -/
theorem shl_digit (x p r : Nat) (hr : r < 32) (hx : x < 4294967296) (hp : p < 2 ^ r) :
    ∃ wide lo hi v : Nat, IntKind.u64.wrap ((x : Int) * 2 ^ r) = (wide : Int) ∧ (wide : Int) % 4294967296 = (lo : Int) ∧ (wide : Int) / 4294967296 = (hi : Int) ∧ bits .or .u32 (p : Int) (lo : Int) = (v : Int) ∧
      v = p + lo ∧ v ≤ 4294967295 ∧ hi < 2 ^ r ∧ lo + 4294967296 * hi = x * 2 ^ r ∧ wide ≤ 18446744073709551615 ∧ hi ≤ 4294967295 := by
  have h31 := pow_le_31 hr
  have hb : x * 2 ^ r ≤ 4294967295 * 2147483648 := Nat.mul_le_mul (by omega) h31
  have hi1 : x * 2 ^ r / 4294967296 < 2 ^ r := by
    rw [Nat.div_lt_iff_lt_mul (by omega), Nat.mul_comm]
    exact Nat.mul_lt_mul_of_pos_left hx (Nat.pow_pos (by omega))
  have hdiv : (4294967296 : Nat) = 2 ^ r * 2 ^ (32 - r) := by rw [← Nat.pow_add, show r + (32 - r) = 32 by omega]
  have hlo : x * 2 ^ r % 4294967296 = 2 ^ r * (x % 2 ^ (32 - r)) := by rw [hdiv, Nat.mul_comm x, Nat.mul_mod_mul_left]
  have hpl : p + x * 2 ^ r % 4294967296 < 4294967296 := by
    have h1 : x % 2 ^ (32 - r) < 2 ^ (32 - r) := Nat.mod_lt _ (Nat.pow_pos (by omega))
    have h2 : 2 ^ r * (x % 2 ^ (32 - r) + 1) ≤ 2 ^ r * 2 ^ (32 - r) := Nat.mul_le_mul_left _ h1
    rw [Nat.mul_add, Nat.mul_one, ← hlo, ← hdiv] at h2
    omega
  have hcast : (x : Int) * 2 ^ r = ((x * 2 ^ r : Nat) : Int) := by rw [Int.natCast_mul, Int.natCast_pow]; rfl
  refine ⟨x * 2 ^ r, x * 2 ^ r % 4294967296, x * 2 ^ r / 4294967296, p + x * 2 ^ r % 4294967296, ?_, ?_, ?_, ?_, rfl, by omega, hi1, Nat.mod_add_div _ _, by omega, by omega⟩
  · rw [hcast, IntKind.wrap_u64]
    omega
  · omega
  · omega
  · rw [bits_or_u32_nat _ _ (by omega) (by omega), hlo, or_free hp]

theorem getD_zeros (n j : Nat) : (List.replicate n (0 : Int)).getD j 0 = 0 := by
  rcases Nat.lt_or_ge j n with h | h
  · simp [List.getD_eq_getElem?_getD, h]
  · simp [List.getD_eq_getElem?_getD, h]
theorem getD_set {S : List Int} {i j : Nat} (v : Int) (hi : i < S.length) : (S.set i v).getD j 0 = if i = j then v else S.getD j 0 := by
  simp only [List.getD_eq_getElem?_getD, List.getElem?_set]
  by_cases h : i = j
  · subst h; simp [hi]
  · simp [h]

/-- The value after one limb of the shift. -/
theorem shl_value {b v1 v2 s P p v lo hi a x R Bl Bk : Nat} (h1 : v1 + P * p = s + P * v) (h2 : v2 = v1 + P * b * hi) (hv : v = p + lo) (hs : s = Bl * (a * R)) (hP : P = Bl * Bk) (hx : lo + b * hi = x * R) :
    v2 = Bl * ((a + Bk * x) * R) := by
  have hv1 : v1 = s + P * lo := by rw [hv, Nat.mul_add] at h1; omega
  rw [h2, hv1, Nat.add_assoc, Nat.mul_assoc P, ← Nat.mul_add, hx, hs, hP, Nat.add_mul, Nat.mul_add, Nat.mul_assoc Bl, Nat.mul_assoc Bk]

theorem shl_step {b : Nat} {S xs : List Int} {q k x p v lo hi R : Nat} (hl : q + k + 1 < S.length) (hxk : xs.getD k 0 = x) (hp : S.getD (q + k) 0 = p) (hn : S.getD (q + k + 1) 0 = 0)
    (hs : val b S = b ^ q * (val b (xs.take k) * R)) (hv : v = p + lo) (hx : lo + b * hi = x * R) :
    val b ((S.set (q + k) (v : Int)).set (q + k + 1) (hi : Int)) = b ^ q * (val b (xs.take (k + 1)) * R) := by
  have h1 := val_set (b := b) (S := S) (k := q + k) (by omega) (v : Int)
  have h2 := val_set (b := b) (S := S.set (q + k) (v : Int)) (k := q + k + 1) (by simpa using hl) (hi : Int)
  rw [getD_set _ (by omega), if_neg (by omega), hn] at h2
  rw [hp] at h1
  simp only [Int.toNat_natCast, Int.toNat_zero, Nat.mul_zero, Nat.add_zero] at h1 h2
  have h3 : val b (xs.take (k + 1)) = val b (xs.take k) + b ^ k * x := by
    rw [val_take_step, hxk, Int.toNat_natCast]
  rw [h3]
  exact shl_value h1 (by rw [← Nat.pow_succ]; exact h2) hv hs (Nat.pow_add _ _ _) hx

set_option maxHeartbeats 1000000 in
theorem shl_lists (A : Option Addr) (xs : List Int) (c n : Nat) (w : World) (h : KL .u32 w w.heap.size A xs) (hd : D32 xs) (hxl : xs.length ≤ 1099511627776) (hx1 : 1 ≤ xs.length) (hn : n ≤ 100000) :
    Calls Try.prog 24 #[.slice A xs.length c, .int .i64 (n : Int)] w fun e w' => MadeN (nv xs * 2 ^ n) w e w' := by
  obtain ⟨i0, hi0, hz0, hz1, hz2⟩ := info_parts u32_info
  have hb1 : ((xs.length : Int) == 0) = false := by rw [beq_eq_false_iff_ne]; omega
  have hr32 : n % 32 < 32 := Nat.mod_lt _ (by omega)
  have hl2 : n / 32 ≤ 3125 := by omega
  have H := Lib.hid h; clear h
  have HD := Lib.hid hd; clear hd
  go_enter Try.func24, Try.ntmps24
  go_wp2_with (at_make; refine wpList_make_full _ rfl _ _ 22 rfl w.heap.size 41 i0 (.int .u32 0) 1 Try.underlying22 hi0 hz0 hz1 _ _ _ _ (n / 32 + xs.length + 1) rfl rfl (by omega) (by omega) (by rw [hz2]; omega) (by unfold maxLen; omega) (Nat.le_refl _) ?_; intro w1 hown hg; have HO := Lib.hid (own_zeros hown); have HB := Lib.hid ((Below.refl w.heap.size w).grown hg (Nat.le_refl _) (fun k hk => by cases hk)); clear hown hg)
  go_loopw [35] (fun i wr => ∃ (k : Nat) (S : List Int), k ≤ xs.length ∧ i = .int .i64 k ∧ S.length = n / 32 + xs.length + 1 ∧ D32 S ∧ nv S = 4294967296 ^ (n / 32) * (nv (xs.take k) * 2 ^ (n % 32)) ∧ (S.getD (n / 32 + k) 0).toNat < 2 ^ (n % 32) ∧ (∀ j, n / 32 + k < j → S.getD j 0 = 0) ∧
      wr.ownsRow w.heap.size 41 1 (.slice (some ⟨w.heap.size, 0, none⟩) (n / 32 + xs.length + 1) (n / 32 + xs.length + 1)) (n / 32 + xs.length + 1) (S.map (Value.int .u32)) ∧ Below w.heap.size w wr) (fun i _ => xs.length - (intOf i).toNat)
  case atStart => exact ⟨0, _, Nat.zero_le _, rfl, by simp, Dig.zeros (by omega) _, by unfold nv; rw [val_zeros]; simp [val], by rw [getD_zeros]; exact Nat.pow_pos (by omega), fun j _ => getD_zeros _ _, HO.out, HB.out⟩
  case round =>
    obtain ⟨k, S, hk, rfl, hSl, hSd, hSv, hSp, hSz, hown, hbw⟩ := hrel
    by_cases hlt : k < xs.length
    · obtain ⟨ad, rfl, hab, hcc⟩ := (H.out.below hbw) (by omega)
      have hcell := hcc k hlt
      have hx1 := word_range HD.out hlt
      obtain ⟨x, hx⟩ : ∃ x : Nat, xs.getD k 0 = x := ⟨(xs.getD k 0).toNat, by omega⟩
      rw [hx] at hcell hx1
      have hp1 := word_range hSd (k := n / 32 + k) (by omega)
      obtain ⟨p, hp⟩ : ∃ p : Nat, S.getD (n / 32 + k) 0 = p := ⟨(S.getD (n / 32 + k) 0).toNat, by omega⟩
      rw [hp] at hSp hp1
      obtain ⟨wide, lo, hi, v, e1, e2, e3, e4, e5, b1, b2, e6, b3, b4⟩ := shl_digit x p (n % 32) hr32 (by omega) hSp
      have hcu := own_cell hown (j := n / 32 + k) (by omega)
      rw [hp] at hcu
      have hfz := hown.frozenAt (n / 32 + k)
      have hown2 := own_set hown (n / 32 + k) (v : Int)
      have hSl2 : (S.set (n / 32 + k) (v : Int)).length = n / 32 + xs.length + 1 := by simpa using hSl
      have hSd2 := hSd.set_ (v := (v : Int)) (by omega) (by omega) (n / 32 + k)
      have hnext : (S.set (n / 32 + k) (v : Int)).getD (n / 32 + k + 1) 0 = 0 := by rw [getD_set _ (by omega), if_neg (by omega)]; exact hSz _ (by omega)
      have hcu2 := own_cell hown (j := n / 32 + k + 1) (by omega)
      rw [hSz _ (by omega)] at hcu2
      have hfz2 := hown.frozenAt (n / 32 + k + 1)
      have hown3 := own_set hown2 (n / 32 + k + 1) (hi : Int)
      have hSd3 := hSd2.set_ (v := (hi : Int)) (by omega) (by omega) (n / 32 + k + 1)
      have HO3 := Lib.hid hown3
      have HSL3 : Hid (((S.set (n / 32 + k) (v : Int)).set (n / 32 + k + 1) (hi : Int)).length = n / 32 + xs.length + 1) := Lib.hid (by simpa using hSl)
      have HSD3 := Lib.hid hSd3
      have HB3 := Lib.hid ((hbw.setCell (p := ⟨w.heap.size, n / 32 + k, none⟩) (Nat.le_refl _) (.int .u32 (v : Int))).setCell (p := ⟨w.heap.size, n / 32 + k + 1, none⟩) (Nat.le_refl _) (.int .u32 (hi : Int)))
      have HSP3 : Hid ((((S.set (n / 32 + k) (v : Int)).set (n / 32 + k + 1) (hi : Int)).getD (n / 32 + (k + 1)) 0).toNat < 2 ^ (n % 32)) := Lib.hid (by
        rw [show n / 32 + (k + 1) = n / 32 + k + 1 by omega, getD_set _ (by omega), if_pos rfl, Int.toNat_natCast]
        exact b2)
      have HSZ3 : Hid (∀ j, n / 32 + (k + 1) < j → ((S.set (n / 32 + k) (v : Int)).set (n / 32 + k + 1) (hi : Int)).getD j 0 = 0) := Lib.hid (by
        intro j hj
        rw [getD_set _ (by omega), if_neg (by omega), getD_set _ (by omega), if_neg (by omega)]
        exact hSz j (by omega))
      have HSV3 : Hid (nv ((S.set (n / 32 + k) (v : Int)).set (n / 32 + k + 1) (hi : Int)) = 4294967296 ^ (n / 32) * (nv (xs.take (k + 1)) * 2 ^ (n % 32))) := Lib.hid (by
        exact shl_step (by omega) hx hp (hSz _ (by omega)) hSv e5 e6)
      clear hcc hx hp hSp hSz hSv hSl hSl2 hSd hSd2 hSd3 hown hown2 hown3 hnext hbw e5 e6
      go_wp2
      go_roundw
      case rel => exact ⟨k + 1, _, by omega, by go_num, HSL3.out, HSD3.out, HSV3.out, HSP3.out, HSZ3.out, HO3.out, HB3.out⟩
      case measure => simp [intOf] <;> omega
    · obtain rfl : k = xs.length := by omega
      have hval : nv S = nv xs * 2 ^ n := by
        rw [hSv, List.take_of_length_le (Nat.le_refl _), Nat.mul_left_comm]
        congr 1
        rw [show (4294967296 : Nat) = 2 ^ 32 by rfl, ← Nat.pow_mul, ← Nat.pow_add, show 32 * (n / 32) + n % 32 = n by omega]
      obtain ⟨hrl, hrc, hrow⟩ := KL.of_own hown
      have HT : Hid _ := Lib.hid (trim_any (some ⟨w.heap.size, 0, none⟩) S (n / 32 + xs.length + 1) _ hrow hSd (by omega) (by omega))
      have hkl := trim_KL hrow hSd
      rw [hval, hSl] at HT
      rw [hval] at hkl
      have HKL := Lib.hid hkl
      have HBW := Lib.hid hbw
      clear hown hbw hval hSl hSd hSv hSp hSz hrl hrc hrow hkl
      go_wp2_with (go_at_call 38; (with_reducible refine HT.out.mono ?_); rintro e w' ⟨rfl, rfl⟩)
      go_ret
      exact ⟨_, _, rfl, HKL.out, Nat.le_refl _, HBW.out⟩

/-- A shift to the left, of any number of places. -/
def shlN (m : Nat) (n : Int) : Nat := if 0 ≤ n ∧ n ≤ 100000 then m * 2 ^ n.toNat else 0

set_option maxHeartbeats 1000000 in
theorem shl_none (A : Option Addr) (xs : List Int) (c : Nat) (n : Int) (w : World) (hxl : xs.length ≤ 1099511627776) (h : n < 0 ∨ 100000 < n ∨ xs.length = 0) :
    Calls Try.prog 24 #[.slice A xs.length c, .int .i64 n] w fun e w' => MadeN 0 w e w' := by
  by_cases h0 : n < 0
  · go_enter Try.func24, Try.ntmps24
    go_wp2
    go_ret
    exact made_nil _ w
  · by_cases h1 : 100000 < n
    · go_enter Try.func24, Try.ntmps24
      go_wp2
      go_ret
      exact made_nil _ w
    · have hl : xs.length = 0 := by omega
      have hb1 : ((xs.length : Int) == 0) = true := by rw [beq_iff_eq]; omega
      clear h hl
      go_enter Try.func24, Try.ntmps24
      go_wp2
      go_ret
      exact made_nil _ w
theorem shl_any (m : Nat) (A : Option Addr) (c : Nat) (n : Int) (w : World) (h : KL .u32 w w.heap.size A (limbs m)) (hxl : (limbs m).length ≤ 1099511627776) :
    Calls Try.prog 24 #[.slice A (limbs m).length c, .int .i64 n] w fun e w' => MadeN (shlN m n) w e w' := by
  by_cases hn : n < 0 ∨ 100000 < n ∨ (limbs m).length = 0
  · have e : shlN m n = 0 := by
      unfold shlN
      split
      · rename_i h1
        have : m = 0 := mul_lens.1 (by omega)
        rw [this, Nat.zero_mul]
      · rfl
    rw [e]
    exact shl_none A (limbs m) c n w hxl hn
  · obtain ⟨k, rfl⟩ : ∃ k : Nat, n = k := ⟨n.toNat, by omega⟩
    have := shl_lists A (limbs m) c k w h (limbs_dig m) hxl (by omega) (by omega)
    rw [nv_limbs] at this
    unfold shlN
    rw [if_pos (by omega), Int.toNat_natCast]
    exact this
end Go.Proofs.Ytdflhidhnejbbaa
