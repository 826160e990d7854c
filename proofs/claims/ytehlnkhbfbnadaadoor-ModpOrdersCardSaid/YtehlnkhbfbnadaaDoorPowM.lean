/- Contracts: powers modulo p, the program's. -/
import Derived.Test.YtehlnkhbfbnadaaDoorField
import Derived.Test.YtehlnkhbfbnadaaDoorShelf
import Derived.Test.YtehlnkhbfbnadaaDoorBitsC
namespace Go.Proofs.YtehlnkhbfbnadaaDoor
open Go.RowKit

theorem pow_next {a n i : Nat} : a ^ (n % 2 ^ (i + 1)) = a ^ (n % 2 ^ i) * (if n / 2 ^ i % 2 = 1 then a ^ 2 ^ i else 1) := by
  rw [Nat.mod_pow_succ, Nat.pow_add]
  congr 1
  rcases (show n / 2 ^ i % 2 = 0 ∨ n / 2 ^ i % 2 = 1 by omega) with h | h <;> simp [h]
theorem sq_next {a i : Nat} : a ^ 2 ^ (i + 1) = a ^ 2 ^ i * a ^ 2 ^ i := by rw [Nat.pow_succ, Nat.mul_two, Nat.pow_add]
theorem bitLen_bound {n b : Nat} (hn : n ≤ 18446744073709551615) (h : Lib.bitLen n = b) : b ≤ 64 ∧ n < 2 ^ b := by
  rw [← h]
  exact ⟨bitLenAux_le 64 n 64 (by omega), bitLenAux_lt 64 n (by omega)⟩
theorem pow_castZ (i : Nat) : (2 : Int) ^ i = ((2 ^ i : Nat) : Int) := by rw [Int.natCast_pow]; rfl

set_option maxHeartbeats 1000000 in
theorem mpow_any (p a n : Nat) (w : World) (hp : p ≤ 2147483647) (hp2 : 2 ≤ p) (ha : a < p) (hn : n ≤ 18446744073709551615) :
    Calls Tryd.prog 21 #[.int .u32 (p : Int), .int .u32 (a : Int), .int .u64 (n : Int)] w fun e w' => e = .returned (.int .u32 ((a ^ n % p : Nat) : Int)) ∧ w = w' := by
  obtain ⟨b, hb⟩ : ∃ b, Lib.bitLen n = b := ⟨_, rfl⟩
  obtain ⟨hb64, hnb⟩ := bitLen_bound hn hb
  have HBL : Hid (∀ W : World, Calls Tryd.prog 33 #[.int .u64 (n : Int)] W fun e w' => e = .returned (.int .i64 (b : Nat)) ∧ W = w') :=
    Lib.hid fun W => ((Tryd.bits_Len64 n W (by omega) (by omega)).mono fun _ _ h => ⟨by rw [h.1, Int.toNat_natCast, hb], h.2.symm⟩)
  have HM : Hid (∀ (x y z : Nat) (W : World), x < p → y < p → x * y % p = z → Calls Tryd.prog 17 #[.int .u32 (p : Int), .int .u32 (x : Int), .int .u32 (y : Int)] W fun e w' => e = .returned (.int .u32 (z : Int)) ∧ W = w') :=
    Lib.hid fun x y z W hx hy hz => by rw [← hz]; exact mmul_any p x y W hp (by omega) hx hy
  have HNB := Lib.hid hnb
  obtain ⟨z, hz⟩ : ∃ z, a ^ n % p = z := ⟨_, rfl⟩
  rw [hz]
  have HZ := Lib.hid hz
  clear hb hnb hz
  go_enter Tryd.func21, Tryd.ntmps21
  go_wp2_with (go_at_call 33; (with_reducible refine (HBL.out _).mono ?_); rintro e w' ⟨rfl, rfl⟩)
  go_loop [7, 8, 13] (fun out sq k => ∃ i o s : Nat, k = .int .i64 i ∧ i ≤ b ∧ out = .int .u32 o ∧ sq = .int .u32 s ∧ o < p ∧ s < p ∧ Hid (o = a ^ (n % 2 ^ i) % p ∧ s = a ^ 2 ^ i % p)) (fun _ _ k => b - (intOf k).toNat)
  case atStart => exact ⟨0, 1, a, rfl, Nat.zero_le _, rfl, rfl, by omega, ha, Lib.hid ⟨by rw [Nat.pow_zero, Nat.mod_one, Nat.pow_zero, Nat.mod_eq_of_lt (by omega)], by rw [Nat.pow_zero, Nat.pow_one, Nat.mod_eq_of_lt ha]⟩⟩
  case round =>
    obtain ⟨i, o, s, rfl, hi, rfl, rfl, ho, hs, HOS⟩ := hrel
    by_cases hlt : i < b
    · obtain ⟨q, hq⟩ : ∃ q, n / 2 ^ i = q := ⟨_, rfl⟩
      have hqn : q ≤ 18446744073709551615 := by rw [← hq]; exact Nat.le_trans (Nat.div_le_self _ _) hn
      have hq' : (n : Int) / 2 ^ i = (q : Int) := by rw [← hq, pow_castZ, ← Int.natCast_ediv]
      have hand := and_one64 q hqn
      obtain ⟨s', hs'⟩ : ∃ s', s * s % p = s' := ⟨_, rfl⟩
      have hsl : s' < p := by rw [← hs']; exact Nat.mod_lt _ (by omega)
      have HS' := Lib.hid hs'
      have HSQ : Hid (s' = a ^ 2 ^ (i + 1) % p) := Lib.hid (by rw [← hs', sq_next, Nat.mul_mod (a ^ 2 ^ i), ← HOS.out.2])
      by_cases hr : q % 2 = 1
      · rw [hr] at hand
        obtain ⟨o', ho'⟩ : ∃ o', o * s % p = o' := ⟨_, rfl⟩
        have hol : o' < p := by rw [← ho']; exact Nat.mod_lt _ (by omega)
        have HO' := Lib.hid ho'
        have HOQ : Hid (o' = a ^ (n % 2 ^ (i + 1)) % p) := Lib.hid (by rw [← ho', pow_next, hq, if_pos hr, Nat.mul_mod (a ^ (n % 2 ^ i)), ← HOS.out.1, ← HOS.out.2])
        clear hs' ho' hq hr
        go_wp2_with (first
          | (go_at_call 17; (with_reducible refine (HM.out o s o' _ ho hs HO'.out).mono ?_); rintro e w' ⟨rfl, rfl⟩)
          | (go_at_call 17; (with_reducible refine (HM.out s s s' _ hs hs HS'.out).mono ?_); rintro e w' ⟨rfl, rfl⟩))
        go_round
        case rel => exact ⟨i + 1, o', s', by go_num, by omega, rfl, rfl, hol, hsl, Lib.hid ⟨HOQ.out, HSQ.out⟩⟩
        case measure => simp [intOf] <;> omega
      · have hr0 : q % 2 = 0 := by omega
        have HOQ : Hid (o = a ^ (n % 2 ^ (i + 1)) % p) := Lib.hid (by rw [pow_next, hq, if_neg hr, Nat.mul_one, ← HOS.out.1])
        rw [hr0] at hand
        clear hs' hq hr hr0
        go_wp2_with (go_at_call 17; (with_reducible refine (HM.out s s s' _ hs hs HS'.out).mono ?_); rintro e w' ⟨rfl, rfl⟩)
        go_round
        case rel => exact ⟨i + 1, o, s', by go_num, by omega, rfl, rfl, ho, hsl, Lib.hid ⟨HOQ.out, HSQ.out⟩⟩
        case measure => simp [intOf] <;> omega
    · have HR : Hid (o = z) := Lib.hid (by
        have hnm : n % 2 ^ i = n := Nat.mod_eq_of_lt (by rw [show i = b by omega]; exact HNB.out)
        rw [HOS.out.1, hnm]; exact HZ.out)
      have hbi : ¬ (i : Int) < (b : Int) := by omega
      go_wp2
      go_ret
      exact ⟨ret_int (by rw [HR.out]), rfl⟩
end Go.Proofs.YtehlnkhbfbnadaaDoor
