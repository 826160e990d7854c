/- The document's powers and inverses modulo p. -/
import Derived.Test.YtehlnkhbfbnadaaDoorInv
namespace Go.Proofs.YtehlnkhbfbnadaaDoor
open Go.RowKit
set_option maxHeartbeats 1000000 in
theorem rpow_any (p a n : Nat) (w : World) (hpl : p ≤ 2147483647) (hp2 : 2 ≤ p) (ha : a < p) (hn : n ≤ 18446744073709551615) :
    Calls Tryd.prog 22 #[.int .u32 (p : Int), .int .u32 (a : Int), .int .u64 (n : Int)] w fun e w' => e = .returned (.int .u32 ((a ^ n % p : Nat) : Int)) ∧ w = w' := by
  have HM : Hid (∀ (x y z : Nat) (W : World), x < p → y < p → x * y % p = z → Calls Tryd.prog 18 #[.int .u32 (p : Int), .int .u32 (x : Int), .int .u32 (y : Int)] W fun e w' => e = .returned (.int .u32 (z : Int)) ∧ W = w') :=
    Lib.hid fun x y z W hx hy hz => by rw [← hz]; exact rmul_any p x y W hpl (by omega) hx hy
  obtain ⟨z, hz⟩ : ∃ z, a ^ n % p = z := ⟨_, rfl⟩
  have HZ : Hid (1 * a ^ n % p = z) := Lib.hid (by rw [Nat.one_mul]; exact hz)
  rw [hz]
  have hp0 : ((p : Int) == 0) = false := by rw [beq_eq_false_iff_ne]; omega
  have h1p : (1 : Int) % (p : Int) = 1 := Int.emod_eq_of_lt (by omega) (by omega)
  have hpz : (0 : Int) < (p : Int) := by omega
  clear hz
  go_enter Tryd.func22, Tryd.ntmps22
  go_wp2
  go_loop [7, 1, 2] (fun o b k => ∃ x y m : Nat, o = .int .u32 x ∧ b = .int .u32 y ∧ k = .int .u64 m ∧ x < p ∧ y < p ∧ m ≤ 18446744073709551615 ∧ Hid (x * y ^ m % p = z)) (fun _ _ k => (intOf k).toNat)
  case atStart => exact ⟨1, a, n, by rw [h1p]; rfl, rfl, rfl, by omega, ha, hn, HZ⟩
  case round =>
    clear HZ h1p
    obtain ⟨x, y, m, rfl, rfl, rfl, hx, hy, hm, HH⟩ := hrel
    by_cases h0 : m = 0
    · subst h0
      have HE : Hid (x = z) := Lib.hid (by have := HH.out; rw [Nat.pow_zero, Nat.mul_one, Nat.mod_eq_of_lt hx] at this; exact this)
      clear HH
      go_wp2
      go_ret
      exact ⟨ret_int (by rw [HE.out]), rfl⟩
    · have hN := pow_half HH.out
      obtain ⟨y2, hy2⟩ : ∃ y2, y * y % p = y2 := ⟨_, rfl⟩
      have hy2l : y2 < p := by rw [← hy2]; exact Nat.mod_lt _ (by omega)
      have HY := Lib.hid hy2
      have hmi : (0 : Int) < (m : Int) := by omega
      obtain ⟨t, ht⟩ : ∃ t, m % 2 = t := ⟨_, rfl⟩
      have htt : (m : Int) % 2 = (t : Int) := by omega
      obtain ⟨d, hd⟩ : ∃ d, m / 2 = d := ⟨_, rfl⟩
      have hdd : (m : Int) / 2 = (d : Int) := by omega
      have hdl : d < m := by omega
      rw [hy2, ht, hd] at hN
      by_cases h1 : t = 1
      · subst h1
        obtain ⟨x2, hx2⟩ : ∃ x2, x * y % p = x2 := ⟨_, rfl⟩
        have hx2l : x2 < p := by rw [← hx2]; exact Nat.mod_lt _ (by omega)
        have HX := Lib.hid hx2
        have HN := Lib.hid (hN.1 rfl)
        rw [hx2] at HN
        clear hN hx2 hy2 ht hd HH
        go_wp2_with (first
          | (go_at_call 18; (with_reducible refine (HM.out x y x2 _ hx hy HX.out).mono ?_); rintro e w' ⟨rfl, rfl⟩)
          | (go_at_call 18; (with_reducible refine (HM.out y y y2 _ hy hy HY.out).mono ?_); rintro e w' ⟨rfl, rfl⟩))
        go_round
        case rel => exact ⟨x2, y2, d, rfl, rfl, rfl, hx2l, hy2l, by omega, HN⟩
        case measure => simp [intOf]; omega
      · obtain rfl : t = 0 := by omega
        have HN := Lib.hid (hN.2 rfl)
        clear hN hy2 ht hd HH h1
        go_wp2_with (go_at_call 18; (with_reducible refine (HM.out y y y2 _ hy hy HY.out).mono ?_); rintro e w' ⟨rfl, rfl⟩)
        go_round
        case rel => exact ⟨x, y2, d, rfl, rfl, rfl, hx, hy2l, by omega, HN⟩
        case measure => simp [intOf]; omega
theorem rinv_nought (p : Nat) (w : World) :
    Calls Tryd.prog 24 #[.int .u32 (p : Int), .int .u32 0] w fun e w' => e = .returned (.tuple #[.int .u32 0, .int .i64 3]) ∧ w = w' := by
  go_enter Tryd.func24, Tryd.ntmps24
  go_wp2
  go_ret2
  exact ⟨rfl, rfl⟩
theorem rinv_any (p a : Nat) (w : World) (hpl : p ≤ 2147483647) (hp2 : 2 ≤ p) (ha : a < p) (ha0 : 0 < a) :
    Calls Tryd.prog 24 #[.int .u32 (p : Int), .int .u32 (a : Int)] w fun e w' => e = .returned (.tuple #[.int .u32 ((a ^ (p - 2) % p : Nat) : Int), .int .i64 0]) ∧ w = w' := by
  obtain ⟨q, hq⟩ : ∃ q, p - 2 = q := ⟨_, rfl⟩
  obtain ⟨z, hz⟩ : ∃ z, a ^ q % p = z := ⟨_, rfl⟩
  rw [hq, hz]
  have HP : Hid (∀ W : World, Calls Tryd.prog 22 #[.int .u32 (p : Int), .int .u32 (a : Int), .int .u64 (q : Int)] W fun e w' => e = .returned (.int .u32 (z : Int)) ∧ W = w') := Lib.hid fun W => by rw [← hz]; exact rpow_any p a q W hpl hp2 ha (by omega)
  have hs : (p : Int) - 2 = (q : Int) := by omega
  have ha1 : ((a : Int) == 0) = false := by rw [beq_eq_false_iff_ne]; omega
  have hle : (2 : Int) ≤ (p : Int) := by omega
  clear hz hq
  go_enter Tryd.func24, Tryd.ntmps24
  go_wp2_with (go_at_call 22; (with_reducible refine (HP.out _).mono ?_); rintro e w' ⟨rfl, rfl⟩)
  go_ret2
  exact ⟨rfl, rfl⟩
end Go.Proofs.YtehlnkhbfbnadaaDoor
