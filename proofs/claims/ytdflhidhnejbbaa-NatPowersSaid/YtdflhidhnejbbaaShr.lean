/- Contracts: Shr. -/
import Derived.Test.YtdflhidhnejbbaaShl
namespace Go.Proofs.Ytdflhidhnejbbaa
open Go.RowKit

theorem or_high (n m : Nat) (hn : n < 4294967296) (hm : m < 4294967296) : bits .or .u64 (n : Int) ((m : Int) * 4294967296) = ((n + 4294967296 * m : Nat) : Int) := by
  have h := or_low m n hn hm
  rw [← h]
  unfold bits
  simp only [BitVec.or_comm]
theorem div_digits {b : Nat} (hb : 0 < b) {xs : List Int} (hd : Dig b xs) {j : Nat} (hj : j < xs.length) :
    ∃ Z, val b xs / b ^ j = (xs.getD j 0).toNat + b * ((xs.getD (j + 1) 0).toNat + b * Z) := by
  have h1 := val_take_drop (b := b) (xs := xs) j (by omega)
  have h2 := val_lt (hd.take_ j)
  rw [List.length_take, Nat.min_eq_left (by omega)] at h2
  have h3 : val b xs / b ^ j = val b (xs.drop j) := by
    rw [h1, Nat.add_mul_div_left _ _ (Nat.pow_pos hb), Nat.div_eq_of_lt h2, Nat.zero_add]
  rw [h3, drop_at hj, val_cons]
  rcases Nat.lt_or_ge (j + 1) xs.length with h | h
  · rw [drop_at h, val_cons]
    exact ⟨_, rfl⟩
  · rw [List.drop_of_length_le h, getD_out h]
    exact ⟨0, by simp [val]⟩
theorem shr_step {b R T X q k x0 x1 Z : Nat} (hb : b = R * T) (hR : 0 < R) (hX : X / b ^ (q + k) = x0 + b * (x1 + b * Z)) :
    (X / b ^ q / R) % b ^ (k + 1) = (X / b ^ q / R) % b ^ k + b ^ k * (((x0 + b * x1) / R) % b) := by
  have e : X / b ^ q / R / b ^ k = X / b ^ (q + k) / R := by
    rw [Nat.div_div_eq_div_mul, Nat.div_div_eq_div_mul, Nat.div_div_eq_div_mul, Nat.pow_add]
    congr 1
    rw [Nat.mul_assoc, Nat.mul_comm R]
  have e2 : x0 + b * (x1 + b * Z) = (x0 + b * x1) + R * (T * Z * b) := by
    have : b * (b * Z) = R * (T * Z * b) := by
      conv => lhs; arg 1; rw [hb]
      rw [Nat.mul_assoc, Nat.mul_comm b Z, Nat.mul_assoc T]
    rw [Nat.mul_add, this]
    omega
  rw [Nat.pow_succ, Nat.mod_mul, e, hX, e2, Nat.add_mul_div_left _ _ hR, Nat.add_mul_mod_self_right]
theorem pow32 {r : Nat} (hr : r < 32) : 4294967296 = 2 ^ r * 2 ^ (32 - r) := by rw [← Nat.pow_add, show r + (32 - r) = 32 by omega]
theorem shr_val {m n : Nat} : m / 4294967296 ^ (n / 32) / 2 ^ (n % 32) = m / 2 ^ n := by
  rw [Nat.div_div_eq_div_mul, show (4294967296 : Nat) = 2 ^ 32 by rfl, ← Nat.pow_mul, ← Nat.pow_add, show 32 * (n / 32) + n % 32 = n by omega]
theorem shr_small {b X q L R : Nat} (hb : 0 < b) (h : X < b ^ (q + L)) : X / b ^ q / R % b ^ L = X / b ^ q / R := by
  apply Nat.mod_eq_of_lt
  refine Nat.lt_of_le_of_lt (Nat.div_le_self _ _) ?_
  rw [Nat.div_lt_iff_lt_mul (Nat.pow_pos hb), Nat.mul_comm, ← Nat.pow_add]
  exact h
theorem pow_cast (r : Nat) : (2 : Int) ^ r = ((2 ^ r : Nat) : Int) := by rw [Int.natCast_pow]; rfl
theorem set_val {b : Nat} {S : List Int} {k : Nat} (h : k < S.length) (v : Nat) : val b ((S.set k (v : Int)).take (k + 1)) = val b (S.take k) + b ^ k * v := by
  rw [take_set_succ h, val_snoc, List.length_take, Nat.min_eq_left (by omega), Int.toNat_natCast]

set_option maxHeartbeats 1000000 in
theorem shr_lists (A : Option Addr) (xs : List Int) (c n L : Nat) (w : World) (h : KL .u32 w w.heap.size A xs) (hd : D32 xs) (hxl : xs.length ≤ 1099511627776) (hn : n ≤ 100000) (hL : n / 32 + L = xs.length) (hL1 : 1 ≤ L) :
    Calls Try.prog 26 #[.slice A xs.length c, .int .i64 (n : Int)] w fun e w' => MadeN (nv xs / 2 ^ n) w e w' := by
  obtain ⟨i0, hi0, hz0, hz1, hz2⟩ := info_parts u32_info
  have hr32 : n % 32 < 32 := Nat.mod_lt _ (by omega)
  have hl2 : n / 32 ≤ 3125 := by omega
  have hsub : (xs.length : Int) - ((n / 32 : Nat) : Int) = (L : Int) := by omega
  have hsub2 : (xs.length : Int) - (n : Int) / 32 = (L : Int) := by omega
  have H := Lib.hid h; clear h
  have HD := Lib.hid hd; clear hd
  go_enter Try.func26, Try.ntmps26
  go_wp2_with (at_make; refine wpList_make_full _ rfl _ _ 22 rfl w.heap.size 41 i0 (.int .u32 0) 1 Try.underlying22 hi0 hz0 hz1 _ _ _ _ L rfl rfl (by omega) (by omega) (by rw [hz2]; omega) (by unfold maxLen; omega) (Nat.le_refl _) ?_; intro w1 hown hg; have HO := Lib.hid (own_zeros hown); have HB := Lib.hid ((Below.refl w.heap.size w).grown hg (Nat.le_refl _) (fun k hk => by cases hk)); clear hown hg)
  go_loopw [35] (fun i wr => ∃ (k : Nat) (S : List Int), k ≤ L ∧ i = .int .i64 k ∧ S.length = L ∧ D32 S ∧ nv (S.take k) = (nv xs / 4294967296 ^ (n / 32) / 2 ^ (n % 32)) % 4294967296 ^ k ∧
      wr.ownsRow w.heap.size 41 1 (.slice (some ⟨w.heap.size, 0, none⟩) L L) L (S.map (Value.int .u32)) ∧ Below w.heap.size w wr) (fun i _ => L - (intOf i).toNat)
  case atStart => exact ⟨0, _, Nat.zero_le _, rfl, by simp, Dig.zeros (by omega) _, by rw [Nat.pow_zero, Nat.mod_one]; rfl, HO.out, HB.out⟩
  case round =>
    obtain ⟨k, S, hk, rfl, hSl, hSd, hSv, hown, hbw⟩ := hrel
    by_cases hlt : k < L
    · obtain ⟨ad, rfl, hab, hcc⟩ := (H.out.below hbw) (by omega)
      have hcell := hcc (n / 32 + k) (by omega)
      have hx1 := word_range HD.out (k := n / 32 + k) (by omega)
      obtain ⟨x, hx⟩ : ∃ x : Nat, xs.getD (n / 32 + k) 0 = x := ⟨(xs.getD (n / 32 + k) 0).toNat, by omega⟩
      rw [hx] at hcell hx1
      have hcu := own_cell hown (j := k) (by omega)
      obtain ⟨u, hu⟩ : ∃ u, S.getD k 0 = u := ⟨_, rfl⟩
      rw [hu] at hcu
      have hfz := hown.frozenAt k
      by_cases hlt2 : n / 32 + k + 1 < xs.length
      · have hcell2 := hcc (n / 32 + k + 1) hlt2
        have hx2 := word_range HD.out hlt2
        obtain ⟨y, hy⟩ : ∃ y : Nat, xs.getD (n / 32 + k + 1) 0 = y := ⟨(xs.getD (n / 32 + k + 1) 0).toNat, by omega⟩
        rw [hy] at hcell2 hx2
        have hcell3 : wr.cell? { block := ad.block, off := ad.off + (n / 32 + k + 1) } = some (.int .u32 (y : Int)) := by simpa [Addr.add] using hcell2
        have hor := or_high x y (by omega) (by omega)
        obtain ⟨wide, hwide⟩ : ∃ wide, x + 4294967296 * y = wide := ⟨_, rfl⟩
        rw [hwide] at hor
        have hw2 : wide ≤ 18446744073709551615 := by omega
        obtain ⟨v, hv⟩ : ∃ v : Nat, wide / 2 ^ (n % 32) % 4294967296 = v := ⟨_, rfl⟩
        have hv1 : (v : Int) < 4294967296 := by rw [← hv]; omega
        have hv2 : ((wide : Int) / 2 ^ (n % 32)) % 4294967296 = (v : Int) := by rw [← hv, pow_cast, ← Int.natCast_ediv]; omega
        have hSl2 : (S.set k (v : Int)).length = L := by simpa using hSl
        have hSd2 := hSd.set_ (v := (v : Int)) (by omega) hv1 k
        have hown2 := own_set hown k (v : Int)
        obtain ⟨Z, hZ⟩ := div_digits (by omega) HD.out (j := n / 32 + k) (by omega)
        rw [hx, hy, Int.toNat_natCast, Int.toNat_natCast] at hZ
        have hSv2 : nv ((S.set k (v : Int)).take (k + 1)) = (nv xs / 4294967296 ^ (n / 32) / 2 ^ (n % 32)) % 4294967296 ^ (k + 1) := by
          have h1 := shr_step (pow32 hr32) (Nat.pow_pos (by omega)) hZ
          rw [hwide, hv] at h1
          exact (set_val (b := 4294967296) (by omega) v).trans ((congrArg (· + 4294967296 ^ k * v) hSv).trans h1.symm)
        have HO3 := Lib.hid hown2
        have HSL3 := Lib.hid hSl2
        have HSD3 := Lib.hid hSd2
        have HSV3 := Lib.hid hSv2
        have HB3 := Lib.hid (hbw.setCell (p := ⟨w.heap.size, k, none⟩) (Nat.le_refl _) (.int .u32 (v : Int)))
        clear hcc hx hy hZ hSv hSl hSl2 hSd hSd2 hSv2 hown hown2 hbw hv hwide hu
        have HLL := Lib.hid hL
        have hi2 : n / 32 + k < xs.length := by omega
        have hi1 : (n : Int) / 32 + k + 1 < xs.length := by omega
        clear hL hlt2 hsub hsub2
        go_wp2
        go_roundw
        case rel => exact ⟨k + 1, _, by omega, by go_num, HSL3.out, HSD3.out, HSV3.out, HO3.out, HB3.out⟩
        case measure => simp [intOf] <;> omega
      · have hy : xs.getD (n / 32 + k + 1) 0 = ((0 : Nat) : Int) := getD_out (by omega)
        obtain ⟨wide, hwide⟩ : ∃ wide, x + 4294967296 * 0 = wide := ⟨_, rfl⟩
        have hw2 : wide ≤ 18446744073709551615 := by omega
        obtain rfl : x = wide := by omega
        obtain ⟨v, hv⟩ : ∃ v : Nat, x / 2 ^ (n % 32) % 4294967296 = v := ⟨_, rfl⟩
        have hv1 : (v : Int) < 4294967296 := by rw [← hv]; omega
        have hv2 : ((x : Int) / 2 ^ (n % 32)) % 4294967296 = (v : Int) := by rw [← hv, pow_cast, ← Int.natCast_ediv]; omega
        have hSl2 : (S.set k (v : Int)).length = L := by simpa using hSl
        have hSd2 := hSd.set_ (v := (v : Int)) (by omega) hv1 k
        have hown2 := own_set hown k (v : Int)
        obtain ⟨Z, hZ⟩ := div_digits (by omega) HD.out (j := n / 32 + k) (by omega)
        rw [hx, hy, Int.toNat_natCast, Int.toNat_natCast] at hZ
        have hSv2 : nv ((S.set k (v : Int)).take (k + 1)) = (nv xs / 4294967296 ^ (n / 32) / 2 ^ (n % 32)) % 4294967296 ^ (k + 1) := by
          have h1 := shr_step (pow32 hr32) (Nat.pow_pos (by omega)) hZ
          rw [hwide, hv] at h1
          exact (set_val (b := 4294967296) (by omega) v).trans ((congrArg (· + 4294967296 ^ k * v) hSv).trans h1.symm)
        have HO3 := Lib.hid hown2
        have HSL3 := Lib.hid hSl2
        have HSD3 := Lib.hid hSd2
        have HSV3 := Lib.hid hSv2
        have HB3 := Lib.hid (hbw.setCell (p := ⟨w.heap.size, k, none⟩) (Nat.le_refl _) (.int .u32 (v : Int)))
        clear hcc hx hy hZ hSv hSl hSl2 hSd hSd2 hSv2 hown hown2 hbw hv hwide hu
        have HLL := Lib.hid hL
        have hi2 : n / 32 + k < xs.length := by omega
        have hi1 : decide ((n : Int) / 32 + k + 1 < xs.length) = false := decide_eq_false (by omega)
        clear hL hlt2 hsub hsub2
        go_wp2
        go_roundw
        case rel => exact ⟨k + 1, _, by omega, by go_num, HSL3.out, HSD3.out, HSV3.out, HO3.out, HB3.out⟩
        case measure => simp [intOf] <;> omega
    · obtain rfl : k = L := by omega
      have hval : nv S = nv xs / 2 ^ n := by
        rw [List.take_of_length_le (by omega)] at hSv
        have := val_lt HD.out
        rw [hSv, shr_small (by omega) (by rw [hL]; exact this), shr_val]
      obtain ⟨hrl, hrc, hrow⟩ := KL.of_own hown
      have HT : Hid _ := Lib.hid (trim_any (some ⟨w.heap.size, 0, none⟩) S k _ hrow hSd (by omega) (by omega))
      have hkl := trim_KL hrow hSd
      rw [hval, hSl] at HT
      rw [hval] at hkl
      have HKL := Lib.hid hkl
      have HBW := Lib.hid hbw
      clear hown hbw hval hSl hSd hSv hrl hrc hrow hkl
      go_wp2_with (go_at_call 38; (with_reducible refine HT.out.mono ?_); rintro e w' ⟨rfl, rfl⟩)
      go_ret
      exact ⟨_, _, rfl, HKL.out, Nat.le_refl _, HBW.out⟩
end Go.Proofs.Ytdflhidhnejbbaa
