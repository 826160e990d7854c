/- The document's Order: without each prime that isn't needed; and the law of orders. -/
import Derived.Test.YtehlnkhbfbnadaaDoorOrdM
import Derived.Test.YtehlnkhbfbnadaaDoorRPow
import Derived.Test.YtehlnkhbfbnadaaDoorLawD
namespace Go.Proofs.YtehlnkhbfbnadaaDoor
open Go.RowKit
theorem prime_of_least {d y : Nat} (h2 : 2 ≤ d) (h : ∀ e, 2 ≤ e → e ∣ y → d ≤ e) (hd : d ∣ y) : PrimeN d := ⟨h2, fun e he => by
  have he0 : e ≠ 0 := fun h0 => by subst h0; have := Nat.eq_zero_of_zero_dvd he; omega
  by_cases h1 : e = 1
  · exact .inl h1
  · have h3 := h e (by omega) (Nat.dvd_trans he hd)
    have h4 := Nat.le_of_dvd (by omega) he
    exact .inr (by omega)⟩
theorem least_top {y z : Nat} (hy : 1 < y) (h : ∀ e, 2 ≤ e → e ∣ y → z ≤ e) (hz : y < z * z) : ∀ e, 2 ≤ e → e ∣ y → y ≤ e := fun e he hd => by
  obtain ⟨c, hc⟩ := hd
  have h1 := h e he ⟨c, hc⟩
  rcases Nat.lt_or_ge c 2 with h2 | h2
  · have : c ≠ 0 := fun e0 => by rw [e0, Nat.mul_zero] at hc; omega
    have : c = 1 := by omega
    rw [this, Nat.mul_one] at hc
    omega
  · have h3 := h c h2 ⟨e, by rw [Nat.mul_comm]; exact hc⟩
    have := Nat.mul_le_mul h1 h3
    omega
set_option maxHeartbeats 8000000 in
theorem rorder_any (p a n : Nat) (w : World) (hp : PrimeN p) (hpl : p ≤ 2147483647) (ha : a < p) (ha0 : 0 < a) (hn : IsOrd p a n) :
    Calls Tryd.prog 26 #[.int .u32 (p : Int), .int .u32 (a : Int)] w fun e w' => e = .returned (.tuple #[.int .u64 (n : Int), .int .i64 0]) ∧ Below w.heap.size w w' := by
  have hp2 := hp.1
  obtain ⟨p1, hp1⟩ : ∃ p1, p - 1 = p1 := ⟨_, rfl⟩
  have hsub : (p : Int) - 1 = (p1 : Int) := by omega
  have HPW : Hid (∀ (n x : Nat) (W : World), n ≤ 18446744073709551615 → a ^ n % p = x → Calls Tryd.prog 22 #[.int .u32 (p : Int), .int .u32 (a : Int), .int .u64 (n : Int)] W fun e w' => e = .returned (.int .u32 (x : Int)) ∧ W = w') := Lib.hid fun n x W hn hx => by rw [← hx]; exact rpow_any p a n W hpl hp2 ha hn
  have HST : Hid (OrdInv p a p1 p1) := Lib.hid (by rw [← hp1]; exact ord_start hp ha ha0)
  have HNN := Lib.hid hn
  have ha1 : ((a : Int) == 0) = false := by rw [beq_eq_false_iff_ne]; omega
  have hpu : (p1 : Int) ≤ 2147483646 := by omega
  have hpu0 : (1 : Int) ≤ (p1 : Int) := by omega
  have hpb : p = p1 + 1 := by omega
  have HPB := Lib.hid hpb
  clear hp hn hp1 hpb
  go_enter Tryd.func26, Tryd.ntmps26
  go_wp2
  go_loopw [6, 7, 8] (fun n l d wr => ∃ x y z : Nat, n = .int .u64 x ∧ l = .int .u64 y ∧ d = .int .u64 z ∧ Hid (OrdInv p a x y) ∧ 0 < y ∧ y ≤ p1 ∧ 0 < x ∧ x ≤ p1 ∧ Hid (∀ e, 2 ≤ e → e ∣ y → z ≤ e) ∧ 2 ≤ z ∧ z ≤ p1 + 2 ∧ ∃ n, wr = w.drewN n) (fun _ l d _ => (intOf l).toNat + 1 - (intOf d).toNat)
  case atStart => exact ⟨p1, p1, 2, rfl, rfl, rfl, HST, by omega, by omega, by omega, by omega, Lib.hid (fun e he _ => he), by omega, by omega, 0, rfl⟩
  case round =>
    clear HST
    obtain ⟨x, y, z, rfl, rfl, rfl, HO, hy, hyl, hx, hxl, HL, hz, hzl, k, rfl⟩ := hrel
    by_cases hy1 : 1 < y
    · have hy1' : 1 < (y : Int) := by omega
      have hzy : z ≤ y := HL.out y (by omega) (Nat.dvd_refl y)
      obtain ⟨s, hs⟩ : ∃ s, z * z = s := ⟨_, rfl⟩
      have hsl : s ≤ 4611686018427387904 := by rw [← hs]; exact Nat.le_trans (Nat.mul_le_mul (show z ≤ 2147483648 by omega) (show z ≤ 2147483648 by omega)) (by decide)
      have hzz : (z : Int) * (z : Int) = (s : Int) := by rw [← hs, Int.natCast_mul]
      have hsl1 : (s : Int) ≤ 4611686018427387904 := by omega
      by_cases hgt : y < s
      · have hgt' : (y : Int) < (s : Int) := by omega
        have HLE : Hid (∀ e, 2 ≤ e → e ∣ y → y ≤ e) := Lib.hid (least_top hy1 HL.out (by rw [hs]; exact hgt))
        clear hs hsl HL
        have HD2 : 2 ≤ y := by omega
        have hDl : y ≤ p1 := by omega
        have hD0 : ((y : Int) == 0) = false := by rw [beq_eq_false_iff_ne]; omega
        go_wp2
        go_loopw [6, 7] (fun n l wr => ∃ x2 y2 : Nat, n = .int .u64 x2 ∧ l = .int .u64 y2 ∧ Hid (OrdInv p a x2 y2) ∧ 0 < y2 ∧ y2 ≤ p1 ∧ 0 < x2 ∧ x2 ≤ p1 ∧ Hid (y2 ∣ y) ∧ ∃ n, wr = w.drewN n) (fun _ l _ => (intOf l).toNat)
        case atStart => exact ⟨x, y, rfl, rfl, HO, by omega, by omega, by omega, by omega, Lib.hid (Nat.dvd_refl y), _, rfl⟩
        case round =>
          clear HO
          obtain ⟨x2, y2, rfl, rfl, HO, hy2, hy2l, hx2, hx2l, HY2, m, rfl⟩ := hrel
          by_cases hdiv : y2 % y = 0
          · obtain ⟨y3, hy3⟩ : ∃ y3, y2 / y = y3 := ⟨_, rfl⟩
            obtain ⟨x3, hx3⟩ : ∃ x3, x2 / y = x3 := ⟨_, rfl⟩
            have hyd : y2 = y3 * y := by have := Nat.div_add_mod y2 y; rw [hdiv, hy3, Nat.mul_comm] at this; omega
            have HPD : Hid (PrimeN y) := Lib.hid (prime_of_least HD2 HLE.out (Nat.dvd_trans ⟨y3, by rw [Nat.mul_comm]; exact hyd⟩ HY2.out))
            have hy30 : 0 < y3 := Nat.pos_of_ne_zero fun e => by rw [e, Nat.zero_mul] at hyd; omega
            have hy3l : y3 < y2 := by rw [hyd]; have := Nat.mul_lt_mul_of_pos_left (show 1 < y by omega) hy30; omega
            have HY3 : Hid (y3 ∣ y) := Lib.hid (Nat.dvd_trans ⟨y, hyd⟩ HY2.out)
            have HO' : Hid (OrdInv p a x2 (y3 * y)) := Lib.hid (by rw [← hyd]; exact HO.out)
            have hx3l : x3 ≤ x2 := by rw [← hx3]; exact Nat.div_le_self _ _
            obtain ⟨v, hv⟩ : ∃ v, a ^ x3 % p = v := ⟨_, rfl⟩
            have HV := Lib.hid hv
            have c1 : (y2 : Int) % (y : Int) = 0 := by omega
            have c2 : (y2 : Int) / (y : Int) = (y3 : Int) := by rw [← hy3, Int.natCast_ediv]
            have c3 : (x2 : Int) / (y : Int) = (x3 : Int) := by rw [← hx3, Int.natCast_ediv]
            have c5 : (x2 : Int).tdiv (y : Int) = (x3 : Int) := by rw [Int.tdiv_eq_ediv_of_nonneg (by omega)]; exact c3
            have c6 : ¬ y = 0 := by omega
            have c9 : ¬ p = 0 := by omega
            have c7 : IntKind.u64.wrap (x3 : Int) = (x3 : Int) := by rw [IntKind.wrap_u64]; omega
            have c8 : (1 : Int).tmod (p : Int) = 1 := by rw [Int.tmod_eq_emod_of_nonneg (by omega)]; exact Int.emod_eq_of_lt (by omega) (by omega)
            have c4 : (1 : Int) % (p : Int) = 1 := Int.emod_eq_of_lt (by omega) (by omega)
            by_cases hv1 : v = 1
            · have HN : Hid (OrdInv p a x3 y3) := Lib.hid (by rw [← hx3]; exact HO'.out.less (by omega) HPD.out (by rw [hx3, hv, hv1]))
              have hx30 : 0 < x3 := HN.out.1
              have hvb : ((v : Int) == 1) = true := by rw [hv1]; rfl
              clear hv hv1 hyd hdiv hy3 hx3
              go_wp2
              go_quiet ((go_at_call 22; exact quiet_add_left (HPW.out x3 v _ (by omega) HV.out)))
              go_wp2
              go_roundw
              case rel => exact ⟨x3, y3, rfl, rfl, HN, hy30, by omega, hx30, by omega, HY3, by first | exact ⟨_, rfl⟩ | exact ⟨_, World.drewN_drewN _ _ _⟩⟩
              case measure => simp [intOf]; omega
            · have HN : Hid (OrdInv p a x2 y3) := Lib.hid (HO'.out.keep HPD.out (by rw [hx3, hv]; exact hv1))
              have hvb : ((v : Int) == 1) = false := by rw [beq_eq_false_iff_ne]; omega
              clear hv hv1 hyd hdiv hy3 hx3
              go_wp2
              go_quiet ((go_at_call 22; exact quiet_add_left (HPW.out x3 v _ (by omega) HV.out)))
              go_wp2
              go_roundw
              case rel => exact ⟨x2, y3, rfl, rfl, HN, hy30, by omega, hx2, by omega, HY3, by first | exact ⟨_, rfl⟩ | exact ⟨_, World.drewN_drewN _ _ _⟩⟩
              case measure => simp [intOf]; omega
          · have c1 : (((y2 : Int) % (y : Int)) == 0) = false := by rw [beq_eq_false_iff_ne]; omega
            have HL3 : Hid (∀ e, 2 ≤ e → e ∣ y2 → y + 1 ≤ e) := Lib.hid fun e he hd => by
              have h1 := HLE.out e he (Nat.dvd_trans hd HY2.out)
              have h2 : e ≠ y := fun h => hdiv (Nat.mod_eq_zero_of_dvd (h ▸ hd))
              omega
            have hle : y2 ≤ y := Nat.le_of_dvd (by omega) HY2.out
            clear hdiv
            go_wp2
            go_roundw
            case rel => exact ⟨x2, y2, y + 1, rfl, rfl, by go_num, HO, hy2, hy2l, hx2, hx2l, HL3, by omega, by omega, _, rfl⟩
            case measure => simp [intOf]; omega
      · have hgt' : ¬ (y : Int) < (s : Int) := by omega
        have HLE : Hid (∀ e, 2 ≤ e → e ∣ y → z ≤ e) := HL
        clear hs hsl HL
        have HD2 : 2 ≤ z := by omega
        have hDl : z ≤ p1 := by omega
        have hD0 : ((z : Int) == 0) = false := by rw [beq_eq_false_iff_ne]; omega
        go_wp2
        go_loopw [6, 7] (fun n l wr => ∃ x2 y2 : Nat, n = .int .u64 x2 ∧ l = .int .u64 y2 ∧ Hid (OrdInv p a x2 y2) ∧ 0 < y2 ∧ y2 ≤ p1 ∧ 0 < x2 ∧ x2 ≤ p1 ∧ Hid (y2 ∣ y) ∧ ∃ n, wr = w.drewN n) (fun _ l _ => (intOf l).toNat)
        case atStart => exact ⟨x, y, rfl, rfl, HO, by omega, by omega, by omega, by omega, Lib.hid (Nat.dvd_refl y), _, rfl⟩
        case round =>
          clear HO
          obtain ⟨x2, y2, rfl, rfl, HO, hy2, hy2l, hx2, hx2l, HY2, m, rfl⟩ := hrel
          by_cases hdiv : y2 % z = 0
          · obtain ⟨y3, hy3⟩ : ∃ y3, y2 / z = y3 := ⟨_, rfl⟩
            obtain ⟨x3, hx3⟩ : ∃ x3, x2 / z = x3 := ⟨_, rfl⟩
            have hyd : y2 = y3 * z := by have := Nat.div_add_mod y2 z; rw [hdiv, hy3, Nat.mul_comm] at this; omega
            have HPD : Hid (PrimeN z) := Lib.hid (prime_of_least HD2 HLE.out (Nat.dvd_trans ⟨y3, by rw [Nat.mul_comm]; exact hyd⟩ HY2.out))
            have hy30 : 0 < y3 := Nat.pos_of_ne_zero fun e => by rw [e, Nat.zero_mul] at hyd; omega
            have hy3l : y3 < y2 := by rw [hyd]; have := Nat.mul_lt_mul_of_pos_left (show 1 < z by omega) hy30; omega
            have HY3 : Hid (y3 ∣ y) := Lib.hid (Nat.dvd_trans ⟨z, hyd⟩ HY2.out)
            have HO' : Hid (OrdInv p a x2 (y3 * z)) := Lib.hid (by rw [← hyd]; exact HO.out)
            have hx3l : x3 ≤ x2 := by rw [← hx3]; exact Nat.div_le_self _ _
            obtain ⟨v, hv⟩ : ∃ v, a ^ x3 % p = v := ⟨_, rfl⟩
            have HV := Lib.hid hv
            have c1 : (y2 : Int) % (z : Int) = 0 := by omega
            have c2 : (y2 : Int) / (z : Int) = (y3 : Int) := by rw [← hy3, Int.natCast_ediv]
            have c3 : (x2 : Int) / (z : Int) = (x3 : Int) := by rw [← hx3, Int.natCast_ediv]
            have c5 : (x2 : Int).tdiv (z : Int) = (x3 : Int) := by rw [Int.tdiv_eq_ediv_of_nonneg (by omega)]; exact c3
            have c6 : ¬ z = 0 := by omega
            have c9 : ¬ p = 0 := by omega
            have c7 : IntKind.u64.wrap (x3 : Int) = (x3 : Int) := by rw [IntKind.wrap_u64]; omega
            have c8 : (1 : Int).tmod (p : Int) = 1 := by rw [Int.tmod_eq_emod_of_nonneg (by omega)]; exact Int.emod_eq_of_lt (by omega) (by omega)
            have c4 : (1 : Int) % (p : Int) = 1 := Int.emod_eq_of_lt (by omega) (by omega)
            by_cases hv1 : v = 1
            · have HN : Hid (OrdInv p a x3 y3) := Lib.hid (by rw [← hx3]; exact HO'.out.less (by omega) HPD.out (by rw [hx3, hv, hv1]))
              have hx30 : 0 < x3 := HN.out.1
              have hvb : ((v : Int) == 1) = true := by rw [hv1]; rfl
              clear hv hv1 hyd hdiv hy3 hx3
              go_wp2
              go_quiet ((go_at_call 22; exact quiet_add_left (HPW.out x3 v _ (by omega) HV.out)))
              go_wp2
              go_roundw
              case rel => exact ⟨x3, y3, rfl, rfl, HN, hy30, by omega, hx30, by omega, HY3, by first | exact ⟨_, rfl⟩ | exact ⟨_, World.drewN_drewN _ _ _⟩⟩
              case measure => simp [intOf]; omega
            · have HN : Hid (OrdInv p a x2 y3) := Lib.hid (HO'.out.keep HPD.out (by rw [hx3, hv]; exact hv1))
              have hvb : ((v : Int) == 1) = false := by rw [beq_eq_false_iff_ne]; omega
              clear hv hv1 hyd hdiv hy3 hx3
              go_wp2
              go_quiet ((go_at_call 22; exact quiet_add_left (HPW.out x3 v _ (by omega) HV.out)))
              go_wp2
              go_roundw
              case rel => exact ⟨x2, y3, rfl, rfl, HN, hy30, by omega, hx2, by omega, HY3, by first | exact ⟨_, rfl⟩ | exact ⟨_, World.drewN_drewN _ _ _⟩⟩
              case measure => simp [intOf]; omega
          · have c1 : (((y2 : Int) % (z : Int)) == 0) = false := by rw [beq_eq_false_iff_ne]; omega
            have HL3 : Hid (∀ e, 2 ≤ e → e ∣ y2 → z + 1 ≤ e) := Lib.hid fun e he hd => by
              have h1 := HLE.out e he (Nat.dvd_trans hd HY2.out)
              have h2 : e ≠ z := fun h => hdiv (Nat.mod_eq_zero_of_dvd (h ▸ hd))
              omega
            have hle : y2 ≤ y := Nat.le_of_dvd (by omega) HY2.out
            clear hdiv
            go_wp2
            go_roundw
            case rel => exact ⟨x2, y2, z + 1, rfl, rfl, by go_num, HO, hy2, hy2l, hx2, hx2l, HL3, by omega, by omega, _, rfl⟩
            case measure => simp [intOf]; omega
    · have hy1' : ¬ 1 < (y : Int) := by omega
      have HE : Hid (x = n) := Lib.hid (by
        have h := HO.out
        rw [show y = 1 by omega] at h
        exact h.done.unique (by omega) HNN.out)
      clear HO HL
      go_wp2
      go_ret2
      exact ⟨ret_pair (by rw [HE.out]) rfl, below_drewN (Below.refl _ _) _⟩
theorem rorder_nought (p : Nat) (w : World) :
    Calls Tryd.prog 26 #[.int .u32 (p : Int), .int .u32 0] w fun e w' => e = .returned (.tuple #[.int .u64 0, .int .i64 3]) ∧ w = w' := by
  go_enter Tryd.func26, Tryd.ntmps26
  go_wp2
  go_ret2
  exact ⟨rfl, rfl⟩
theorem order_nought (p : Nat) (w : World) :
    Calls Tryd.prog 25 #[.int .u32 (p : Int), .int .u32 0] w fun e w' => e = .returned (.tuple #[.int .u64 0, .int .i64 3]) ∧ w = w' := by
  go_enter Tryd.func25, Tryd.ntmps25
  go_wp2
  go_ret2
  exact ⟨rfl, rfl⟩
end Go.Proofs.YtehlnkhbfbnadaaDoor
