/- Contract of the reference: inverse. -/
import Derived.Test.YtlndchmpnnlacaaDoorWd
namespace Go.Proofs.YtlndchmpnnlacaaDoor
open Go.RowKit

set_option maxHeartbeats 2000000 in
theorem rinverse_any (p a : Nat) (w : World) (hpl : p ≤ 2147483647) (hp2 : 2 ≤ p) (ha : a < p) :
    Calls Tryd.prog 58 #[.int .u32 (p : Int), .int .u32 (a : Int)] w fun e w' => e = .returned (.int .u32 ((a ^ (p - 2) % p : Nat) : Int)) ∧ w = w' := by
  obtain ⟨q, hq⟩ : ∃ q, p - 2 = q := ⟨_, rfl⟩
  obtain ⟨z, hz⟩ : ∃ z, a ^ q % p = z := ⟨_, rfl⟩
  have HZ : Hid (1 * a ^ q % p = z) := Lib.hid (by rw [Nat.one_mul]; exact hz)
  rw [hq, hz]
  have hp0 : ((p : Int) == 0) = false := by rw [beq_eq_false_iff_ne]; omega
  have hp1 : p ≠ 0 := by omega
  have hs : (p : Int) - 2 = (q : Int) := by omega
  have hpz : (0 : Int) < (p : Int) := by omega
  clear hz hq
  go_enter Tryd.func58, Tryd.ntmps58
  go_wp2
  go_loop [5, 6, 7] (fun o b k => ∃ x y m : Nat, o = .int .u64 x ∧ b = .int .u64 y ∧ k = .int .u32 m ∧ x < p ∧ y < p ∧ m ≤ 2147483647 ∧ Hid (x * y ^ m % p = z)) (fun _ _ k => (intOf k).toNat)
  case atStart => exact ⟨1, a, q, rfl, rfl, rfl, by omega, ha, by omega, HZ⟩
  case round =>
    clear HZ hs
    obtain ⟨x, y, m, rfl, rfl, rfl, hx, hy, hm, HH⟩ := hrel
    by_cases h0 : m = 0
    · subst h0
      have HE : Hid (x = z) := Lib.hid (by have := HH.out; rw [Nat.pow_zero, Nat.mul_one, Nat.mod_eq_of_lt hx] at this; exact this)
      have hx1 : (x : Int) % (p : Int) = (x : Int) := Int.emod_eq_of_lt (by omega) (by omega)
      have hx2 : (x : Int).tmod (p : Int) = (x : Int) := by rw [Int.tmod_eq_emod_of_nonneg (by omega)]; exact hx1
      clear HH
      go_wp2
      go_ret
      exact ⟨ret_int (by rw [HE.out]), rfl⟩
    · have hN := pow_half HH.out
      have hr1 := mul_room (a := y) (b := y) (by omega) (by omega)
      obtain ⟨yy, hyy⟩ : ∃ yy, y * y = yy := ⟨_, rfl⟩
      have hyy' : (y : Int) * (y : Int) = (yy : Int) := by rw [← hyy, Int.natCast_mul]
      obtain ⟨y2, hy2⟩ : ∃ y2, yy % p = y2 := ⟨_, rfl⟩
      have hy2l : y2 < p := by rw [← hy2]; exact Nat.mod_lt _ (by omega)
      obtain ⟨hyt1, hyt2⟩ := mod_parts hy2
      rw [hyy] at hr1
      have hyy64 : (yy : Int) ≤ 18446744073709551615 := by omega
      have hmi : (0 : Int) < (m : Int) := by omega
      obtain ⟨t, ht⟩ : ∃ t, m % 2 = t := ⟨_, rfl⟩
      have htt : (m : Int) % 2 = (t : Int) := by omega
      obtain ⟨d, hd⟩ : ∃ d, m / 2 = d := ⟨_, rfl⟩
      have hdd : (m : Int) / 2 = (d : Int) := by omega
      have hdl : d < m := by omega
      rw [hyy, hy2, ht, hd] at hN
      by_cases h1 : t = 1
      · subst h1
        have hr2 := mul_room (a := x) (b := y) (by omega) (by omega)
        obtain ⟨xy, hxy⟩ : ∃ xy, x * y = xy := ⟨_, rfl⟩
        have hxy' : (x : Int) * (y : Int) = (xy : Int) := by rw [← hxy, Int.natCast_mul]
        obtain ⟨x2, hx2⟩ : ∃ x2, xy % p = x2 := ⟨_, rfl⟩
        have hx2l : x2 < p := by rw [← hx2]; exact Nat.mod_lt _ (by omega)
        obtain ⟨hxt1, hxt2⟩ := mod_parts hx2
        rw [hxy] at hr2
        have hxy64 : (xy : Int) ≤ 18446744073709551615 := by omega
        have HN := Lib.hid (hN.1 rfl)
        rw [hxy, hx2] at HN
        clear hN hx2 hy2 ht hd HH hxy hyy hr1 hr2
        go_wp2
        go_round
        case rel => exact ⟨x2, y2, d, rfl, rfl, rfl, hx2l, hy2l, by omega, HN⟩
        case measure => simp [intOf]; omega
      · obtain rfl : t = 0 := by omega
        have HN := Lib.hid (hN.2 rfl)
        clear hN hy2 ht hd HH h1 hyy hr1
        go_wp2
        go_round
        case rel => exact ⟨x, y2, d, rfl, rfl, rfl, hx, hy2l, by omega, HN⟩
        case measure => simp [intOf]; omega
end Go.Proofs.YtlndchmpnnlacaaDoor
