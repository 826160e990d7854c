/- Contracts of prime's helpers: times, power; and how many twos a number has. -/
import Derived.Test.YtehlnkhbfbnadaaDoorTon
import Derived.Test.YtehlnkhbfbnadaaDoorShelf
import Derived.Test.YtehlnkhbfbnadaaDoorDivB
import Derived.WalkMore
namespace Go.Proofs.YtehlnkhbfbnadaaDoor
open Go.RowKit

set_option maxHeartbeats 1000000 in
theorem times_any (a b m : Nat) (w : World) (hm : m ≤ 18446744073709551615) (ha : a < m) (hb : b < m) :
    Calls Tryd.prog 43 #[.int .u64 (a : Int), .int .u64 (b : Int), .int .u64 (m : Int)] w fun e w' => e = .returned (.int .u64 ((a * b % m : Nat) : Int)) ∧ ∃ n, w' = w.drewN n := by
  have hab : a * b < m * 18446744073709551616 := by
    have h1 : a * b ≤ m * b := Nat.mul_le_mul_right _ (by omega)
    have h2 : m * b < m * 18446744073709551616 := Nat.mul_lt_mul_of_pos_left (by omega) (by omega)
    omega
  obtain ⟨hi, hhi⟩ : ∃ hi, a * b / 18446744073709551616 = hi := ⟨_, rfl⟩
  obtain ⟨lo, hlo⟩ : ∃ lo, a * b % 18446744073709551616 = lo := ⟨_, rfl⟩
  have hhl : hi < m := by rw [← hhi]; exact (Nat.div_lt_iff_lt_mul (by omega)).2 hab
  have hll : lo ≤ 18446744073709551615 := by omega
  have hdm : hi * 18446744073709551616 + lo = a * b := by omega
  have HM : Hid (∀ W : World, Calls Tryd.prog 44 #[.int .u64 (a : Int), .int .u64 (b : Int)] W fun e w' => e = .returned (.tuple #[.int .u64 (hi : Int), .int .u64 (lo : Int)]) ∧ W = w') := Lib.hid fun W =>
    (Tryd.bits_Mul64 a b (by omega) (by omega) W).mono fun e w' h => ⟨by rw [h.1, hhi, hlo], h.2.symm⟩
  obtain ⟨z, hz⟩ : ∃ z, a * b % m = z := ⟨_, rfl⟩
  obtain ⟨q, hq⟩ : ∃ q, a * b / m = q := ⟨_, rfl⟩
  have HD : Hid (∀ W : World, Calls Tryd.prog 45 #[.int .u64 (hi : Int), .int .u64 (lo : Int), .int .u64 (m : Int)] W fun e w' => e = .returned (.tuple #[.int .u64 (q : Int), .int .u64 (z : Int)]) ∧ ∃ n, w' = W.drewN n) := Lib.hid fun W => by
    have := div64_any hi lo m W hhl hm hll
    rw [hdm, hz, hq] at this
    exact this
  rw [hz]
  clear hab hhi hlo hdm hz hq
  go_enter Tryd.func43, Tryd.ntmps43
  go_wp2_with (first
    | (go_at_call 44; (with_reducible refine (HM.out _).mono ?_); rintro e w' ⟨rfl, rfl⟩)
    | (go_at_call 45; (with_reducible refine (HD.out _).mono ?_); rintro e w' ⟨rfl, n1, rfl⟩))
  go_ret
  exact ⟨rfl, n1, rfl⟩
set_option maxHeartbeats 1000000 in
theorem power_any (a n m : Nat) (w : World) (hm : m ≤ 18446744073709551615) (hm2 : 2 ≤ m) (hal : a ≤ 18446744073709551615) (hn : n ≤ 18446744073709551615) :
    Calls Tryd.prog 42 #[.int .u64 (a : Int), .int .u64 (n : Int), .int .u64 (m : Int)] w fun e w' => e = .returned (.int .u64 ((a ^ n % m : Nat) : Int)) ∧ ∃ k, w' = w.drewN k := by
  obtain ⟨z, hz⟩ : ∃ z, a ^ n % m = z := ⟨_, rfl⟩
  obtain ⟨c, hc⟩ : ∃ c, a % m = c := ⟨_, rfl⟩
  have hcl : c < m := by rw [← hc]; exact Nat.mod_lt _ (by omega)
  have hcz : (a : Int) % (m : Int) = (c : Int) := by rw [← hc, Int.natCast_emod]
  have HZ : Hid (1 * c ^ n % m = z) := Lib.hid (by rw [Nat.one_mul, ← hc, ← Nat.pow_mod]; exact hz)
  have HT : Hid (∀ (x y r : Nat) (W : World), x < m → y < m → x * y % m = r → Calls Tryd.prog 43 #[.int .u64 (x : Int), .int .u64 (y : Int), .int .u64 (m : Int)] W fun e w' => e = .returned (.int .u64 (r : Int)) ∧ ∃ n, w' = W.drewN n) := Lib.hid fun x y r W hx hy hr => by rw [← hr]; exact times_any x y m W hm hx hy
  rw [hz]
  have hm0 : ((m : Int) == 0) = false := by rw [beq_eq_false_iff_ne]; omega
  have hmz : (0 : Int) < (m : Int) := by omega
  clear hz hc
  go_enter Tryd.func42, Tryd.ntmps42
  go_wp2
  go_loopw [7, 0, 1] (fun o b k wr => (∃ x y r : Nat, o = .int .u64 x ∧ b = .int .u64 y ∧ k = .int .u64 r ∧ x < m ∧ y < m ∧ r ≤ 18446744073709551615 ∧ Hid (x * y ^ r % m = z)) ∧ Hid (∃ n, wr = w.drewN n)) (fun _ _ k _ => (intOf k).toNat)
  case atStart => exact ⟨⟨1, c, n, rfl, by rw [hcz], rfl, by omega, hcl, hn, HZ⟩, Lib.hid ⟨0, rfl⟩⟩
  case round =>
    clear HZ hcz
    obtain ⟨⟨x, y, r, rfl, rfl, rfl, hx, hy, hr, HH⟩, HW⟩ := hrel
    by_cases h0 : r = 0
    · subst h0
      have HE : Hid (x = z) := Lib.hid (by have := HH.out; rw [Nat.pow_zero, Nat.mul_one, Nat.mod_eq_of_lt hx] at this; exact this)
      clear HH
      go_wp2
      go_ret
      exact ⟨ret_int (by rw [HE.out]), HW.out⟩
    · have hN := pow_half HH.out
      obtain ⟨y2, hy2⟩ : ∃ y2, y * y % m = y2 := ⟨_, rfl⟩
      have hy2l : y2 < m := by rw [← hy2]; exact Nat.mod_lt _ (by omega)
      have HY := Lib.hid hy2
      have hri : (0 : Int) < (r : Int) := by omega
      have hand := and_one64 r hr
      obtain ⟨t, ht⟩ : ∃ t, r % 2 = t := ⟨_, rfl⟩
      obtain ⟨d, hd⟩ : ∃ d, r / 2 = d := ⟨_, rfl⟩
      have hdd : (r : Int) / 2 = (d : Int) := by omega
      have hdl : d < r := by omega
      rw [ht] at hand
      rw [hy2, ht, hd] at hN
      by_cases h1 : t = 1
      · subst h1
        obtain ⟨x2, hx2⟩ : ∃ x2, x * y % m = x2 := ⟨_, rfl⟩
        have hx2l : x2 < m := by rw [← hx2]; exact Nat.mod_lt _ (by omega)
        have HX := Lib.hid hx2
        have HN := Lib.hid (hN.1 rfl)
        rw [hx2] at HN
        clear hN hx2 hy2 ht hd HH
        go_wp2_with (first
          | (go_at_call 43; (with_reducible refine (HT.out x y x2 _ hx hy HX.out).mono ?_); rintro e w' ⟨rfl, n1, rfl⟩; have HW1 : Hid (∃ n, wr.drewN n1 = w.drewN n) := Lib.hid (by (obtain ⟨n0, h⟩ := HW.out; exact ⟨n0 + n1, by rw [h, World.drewN_drewN]⟩)))
          | (go_at_call 43; (with_reducible refine (HT.out y y y2 _ hy hy HY.out).mono ?_); rintro e w' ⟨rfl, n2, rfl⟩; have HW2 : Hid (∃ n, wr.drewN (n1 + n2) = w.drewN n) := Lib.hid (by (obtain ⟨n0, h⟩ := HW1.out; exact ⟨n0 + n2, by rw [← World.drewN_drewN, h, World.drewN_drewN]⟩))))
        go_roundw
        case rel => exact ⟨⟨x2, y2, d, rfl, rfl, rfl, hx2l, hy2l, by omega, HN⟩, HW2⟩
        case measure => simp [intOf]; omega
      · obtain rfl : t = 0 := by omega
        have HN := Lib.hid (hN.2 rfl)
        clear hN hy2 ht hd HH h1
        go_wp2_with (go_at_call 43; (with_reducible refine (HT.out y y y2 _ hy hy HY.out).mono ?_); rintro e w' ⟨rfl, n2, rfl⟩; have HW2 : Hid (∃ n, wr.drewN n2 = w.drewN n) := Lib.hid (by (obtain ⟨n0, h⟩ := HW.out; exact ⟨n0 + n2, by rw [h, World.drewN_drewN]⟩)))
        go_roundw
        case rel => exact ⟨⟨x, y2, d, rfl, rfl, rfl, hx, hy2l, by omega, HN⟩, HW2⟩
        case measure => simp [intOf]; omega
def tab64 : List Nat := [0, 1, 56, 2, 57, 49, 28, 3, 61, 58, 42, 50, 38, 29, 17, 4, 62, 47, 59, 36, 45, 43, 51, 22, 53, 39, 33, 30, 24, 18, 12, 5, 63, 55, 48, 27, 60, 41, 37, 16, 46, 35, 44, 21, 52, 32, 23, 11, 54, 26, 40, 15, 34, 20, 31, 10, 25, 14, 19, 9, 13, 8, 7, 6]
theorem tab64_at : ∀ t, t < 64 → tab64.getD (2 ^ t * 285870213051353865 % 18446744073709551616 / 288230376151711744) 0 = t ∧ 2 ^ t * 285870213051353865 % 18446744073709551616 / 288230376151711744 < 64 := by decide +kernel
/-- The table of math/bits as it is laid. -/
def TabG (w : World) : Prop := ∀ j, j < 64 → w.cell? ⟨1, j, none⟩ = some (.int .u8 ((tab64.getD j 0 : Nat) : Int))
theorem TabG.up {w w' : World} (h : TabG w) (hb : Below w.heap.size w w') : TabG w' := fun j hj => (hb.cell (World.block_lt_of_cell? w _ (h j hj))).trans (h j hj)
theorem TabG.drewN {w : World} (h : TabG w) (n : Nat) : TabG (w.drewN n) := h.up (below_drewN (Below.refl _ _) n)
theorem and_neg64 {x o t : Nat} (hx : x = o * 2 ^ t) (ho : o % 2 = 1) (hl : x < 18446744073709551616) : bits .and .u64 (x : Int) (IntKind.u64.wrap (-(x : Int))) = ((2 ^ t : Nat) : Int) := by
  have hx0 : 0 < x := by rw [hx]; exact Nat.mul_pos (by omega) (Nat.pow_pos (by omega))
  have e0 : IntKind.u64.wrap (-(x : Int)) = ((18446744073709551616 - x : Nat) : Int) := by rw [IntKind.wrap_u64]; omega
  have hlow := low_one (n := 64) hx ho hl
  rw [e0]
  show IntKind.u64.wrap ((BitVec.ofInt 64 (x : Int) &&& BitVec.ofInt 64 ((18446744073709551616 - x : Nat) : Int)).toNat : Int) = _
  have e : (BitVec.ofInt 64 (x : Int) &&& BitVec.ofInt 64 ((18446744073709551616 - x : Nat) : Int)).toNat = 2 ^ t := by
    rw [BitVec.toNat_and, BitVec.ofInt_natCast, BitVec.ofInt_natCast, BitVec.toNat_ofNat, BitVec.toNat_ofNat, Nat.mod_eq_of_lt (by omega), Nat.mod_eq_of_lt (by omega)]
    exact hlow
  rw [e, IntKind.wrap_u64]
  have : 2 ^ t ≤ x := by rw [hx]; exact Nat.le_mul_of_pos_left _ (by omega)
  omega
theorem tz64 (x o t : Nat) (w : World) (hg : TabG w) (hx : x = o * 2 ^ t) (ho : o % 2 = 1) (hl : x < 18446744073709551616) :
    Calls Tryd.prog 41 #[.int .u64 (x : Int)] w fun e w' => e = .returned (.int .i64 (t : Int)) ∧ w = w' := by
  have hx0 : 0 < x := by rw [hx]; exact Nat.mul_pos (by omega) (Nat.pow_pos (by omega))
  have ht64 : t < 64 := by
    rcases Nat.lt_or_ge t 64 with h | h
    · exact h
    · have h1 := Nat.pow_le_pow_right (show 0 < 2 by omega) h
      have h2 : 1 * 2 ^ t ≤ o * 2 ^ t := Nat.mul_le_mul_right _ (by omega)
      omega
  have hb := and_neg64 hx ho hl
  obtain ⟨hv1, hv2⟩ := tab64_at t ht64
  obtain ⟨y, hy⟩ : ∃ y, 2 ^ t = y := ⟨_, rfl⟩
  rw [hy] at hb hv1 hv2
  obtain ⟨v, hv⟩ : ∃ v, y * 285870213051353865 % 18446744073709551616 = v := ⟨_, rfl⟩
  rw [hv] at hv1 hv2
  obtain ⟨i, hi⟩ : ∃ i, v / 288230376151711744 = i := ⟨_, rfl⟩
  rw [hi] at hv1 hv2
  have hc := hg i hv2
  rw [hv1] at hc
  have hw : IntKind.u64.wrap ((y : Int) * 285870213051353865) = (v : Int) := by rw [IntKind.wrap_u64, ← hv]; omega
  have hi' : (v : Int) / 288230376151711744 = (i : Int) := by rw [← hi]; omega
  have hne : ((x : Int) == 0) = false := by rw [beq_eq_false_iff_ne]; omega
  have hi0 : (0 : Int) ≤ (i : Int) := by omega
  have hi1 : (i : Int) < 64 := by omega
  have ht0 : (0 : Int) ≤ (t : Int) := by omega
  have ht1 : (t : Int) ≤ 63 := by omega
  clear hg hx hl hy hv hi hv1
  go_enter Tryd.func41, Tryd.ntmps41
  go_wp2
  go_ret
  exact ⟨rfl, rfl⟩
end Go.Proofs.YtehlnkhbfbnadaaDoor
