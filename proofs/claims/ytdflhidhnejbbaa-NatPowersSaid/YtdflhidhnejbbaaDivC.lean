/- Contracts: the program's guess of a digit. -/
import Derived.Test.YtdflhidhnejbbaaDivB
namespace Go.Proofs.Ytdflhidhnejbbaa
open Go.RowKit

theorem gs_le {a b v1 v0 u u0 W : Nat} (hinv : a * v1 + b = u) (h : a * v0 ≤ b * W + u0) : a * (v1 * W + v0) ≤ u * W + u0 := by
  rw [← hinv, Nat.mul_add, Nat.add_mul, Nat.mul_assoc]
  omega
theorem gs_fit {a b v1 v0 u u0 W : Nat} (hinv : a * v1 + b = u) (h : a * (v1 * W + v0) ≤ u * W + u0) : a * v0 ≤ b * W + u0 := by
  rw [← hinv, Nat.mul_add, Nat.add_mul, Nat.mul_assoc] at h
  omega
/-- A digit: right, or too great by what the lower words tell. -/
def Digit (u2 u1 u0 v1 v0 : Nat) (w : World) (e : Ending) (w' : World) : Prop :=
  ∃ q : Nat, e = .returned (.int .u64 (q : Int)) ∧ q * (v1 * 18446744073709551616 + v0) ≤ (u2 * 18446744073709551616 + u1) * 18446744073709551616 + u0 ∧ q ≤ 18446744073709551615 ∧
    (∀ d, d ≤ 18446744073709551615 → d * (v1 * 18446744073709551616 + v0) ≤ (u2 * 18446744073709551616 + u1) * 18446744073709551616 + u0 → d ≤ q) ∧ ∃ n, w' = w.drewN n

set_option maxHeartbeats 4000000 in
theorem digit_lt (u2 u1 u0 v1 v0 : Nat) (w : World) (h2 : u2 < v1) (b2 : u2 ≤ 18446744073709551615) (b1 : u1 ≤ 18446744073709551615) (b0 : u0 ≤ 18446744073709551615) (c1 : v1 ≤ 18446744073709551615) (c0 : v0 ≤ 18446744073709551615) :
    Calls Try.prog 60 #[.int .u64 (u2 : Int), .int .u64 (u1 : Int), .int .u64 (u0 : Int), .int .u64 (v1 : Int), .int .u64 (v0 : Int)] w fun e w' => Digit u2 u1 u0 v1 v0 w e w' := by
    obtain ⟨q, hq⟩ : ∃ q, (u2 * 18446744073709551616 + u1) / v1 = q := ⟨_, rfl⟩
    obtain ⟨r, hr⟩ : ∃ r, (u2 * 18446744073709551616 + u1) % v1 = r := ⟨_, rfl⟩
    have hq1 : q < 18446744073709551616 := by
      rw [← hq, Nat.div_lt_iff_lt_mul (by omega)]
      have : (u2 + 1) * 18446744073709551616 ≤ v1 * 18446744073709551616 := Nat.mul_le_mul_right _ h2
      omega
    have hr1 : r < v1 := by rw [← hr]; exact Nat.mod_lt _ (by omega)
    have HDIV : Hid (∀ W : World, Calls Try.prog 50 #[.int .u64 (u2 : Int), .int .u64 (u1 : Int), .int .u64 (v1 : Int)] W fun e w' => e = .returned (.tuple #[.int .u64 (q : Int), .int .u64 (r : Int)]) ∧ ∃ n, w' = W.drewN n) :=
      Lib.hid fun W => by rw [← hq, ← hr]; exact div64_any u2 u1 v1 W h2 (by omega) (by omega)
    have HQI : Hid (q * v1 + r = u2 * 18446744073709551616 + u1) := Lib.hid (by rw [← hq, ← hr, Nat.mul_comm]; exact Nat.div_add_mod _ _)
    have HQM : Hid (∀ d, d ≤ 18446744073709551615 → d * (v1 * 18446744073709551616 + v0) ≤ (u2 * 18446744073709551616 + u1) * 18446744073709551616 + u0 → d ≤ q) := Lib.hid fun d _ h => by rw [← hq]; exact gs_max (by omega) (by omega) h
    have i1 : (u1 : Int) ≤ 18446744073709551615 := by omega
    have i0 : (u0 : Int) ≤ 18446744073709551615 := by omega
    have iv : (v1 : Int) ≤ 18446744073709551615 := by omega
    clear hq hr
    go_enter Try.func60, Try.ntmps60
    go_wp2_with (go_at_call 50; (with_reducible refine (HDIV.out _).mono ?_); rintro e w' ⟨rfl, n0, rfl⟩)
    go_loopg [11, 12] q (fun gk q r wr => ∃ a b : Nat, q = .int .u64 a ∧ r = .int .u64 b ∧ a ≤ 18446744073709551615 ∧ b ≤ 18446744073709551615 ∧ a * v1 + b = u2 * 18446744073709551616 + u1 ∧ (∀ d, d ≤ 18446744073709551615 → d * (v1 * 18446744073709551616 + v0) ≤ (u2 * 18446744073709551616 + u1) * 18446744073709551616 + u0 → d ≤ a) ∧ a = gk ∧ ∃ n, wr = w.drewN n)
    case atStart => exact ⟨q, r, rfl, rfl, by omega, by omega, HQI.out, HQM.out, rfl, n0, rfl⟩
    case round =>
      obtain ⟨a, b, rfl, rfl, ha, hb, hinv, hmax, hag, n, rfl⟩ := hrel
      obtain ⟨hi, hhi⟩ : ∃ hi, a * v0 / 18446744073709551616 = hi := ⟨_, rfl⟩
      obtain ⟨lo, hlo⟩ : ∃ lo, a * v0 % 18446744073709551616 = lo := ⟨_, rfl⟩
      have HMUL : Hid (∀ W : World, Calls Try.prog 55 #[.int .u64 (a : Int), .int .u64 (v0 : Int)] W fun e w' => e = .returned (.tuple #[.int .u64 (hi : Int), .int .u64 (lo : Int)]) ∧ W = w') :=
        Lib.hid fun W => by rw [← hhi, ← hlo]; exact (Try.bits_Mul64 a v0 (by omega) (by omega) W).mono fun _ _ h => ⟨h.1, h.2.symm⟩
      have hp1 : a * v0 = lo + 18446744073709551616 * hi := by rw [← hhi, ← hlo]; exact (Nat.mod_add_div _ _).symm
      have hlo1 : lo < 18446744073709551616 := by rw [← hlo]; exact Nat.mod_lt _ (by omega)
      have hhi1 : hi < 18446744073709551616 := by rw [← hhi]; exact (Nat.div_lt_iff_lt_mul (by omega)).2 (Nat.mul_lt_mul'' (by omega) (by omega))
      have hlo2 : (lo : Int) ≤ 18446744073709551615 := by omega
      have hhi2 : (hi : Int) ≤ 18446744073709551615 := by omega
      have ha2 : (a : Int) ≤ 18446744073709551615 := by omega
      have hb2 : (b : Int) ≤ 18446744073709551615 := by omega
      have HMAX := Lib.hid hmax
      have HAG := Lib.hid hag
      have HINV := Lib.hid hinv
      clear hmax hag hhi hlo
      by_cases hfit : a * v0 ≤ b * 18446744073709551616 + u0
      · have HLE : Hid (a * (v1 * 18446744073709551616 + v0) ≤ (u2 * 18446744073709551616 + u1) * 18446744073709551616 + u0) := Lib.hid (gs_le hinv hfit)
        rw [hp1] at hfit
        clear hp1 hinv
        by_cases c1 : hi < b
        · clear hfit
          go_wp2_with (go_at_call 55; (with_reducible refine (HMUL.out _).mono ?_); rintro e w' ⟨rfl, rfl⟩)
          go_ret
          exact ⟨a, rfl, HLE.out, ha, HMAX.out, n, rfl⟩
        · have c2 : hi = b := by omega
          have c3 : lo ≤ u0 := by omega
          subst c2
          clear hfit c1
          go_wp2_with (go_at_call 55; (with_reducible refine (HMUL.out _).mono ?_); rintro e w' ⟨rfl, rfl⟩)
          go_ret
          exact ⟨a, rfl, HLE.out, ha, HMAX.out, n, rfl⟩
      · have ha0 : 1 ≤ a := by
          rcases Nat.eq_zero_or_pos a with h0 | h0
          · rw [h0, Nat.zero_mul] at hfit; omega
          · exact h0
        obtain ⟨a', ha'⟩ : ∃ a', a = a' + 1 := ⟨a - 1, by omega⟩
        have hav : (a : Int) - 1 = (a' : Int) := by omega
        have ha1 : (1 : Int) ≤ (a : Int) := by omega
        have HMAX2 : Hid (∀ d, d ≤ 18446744073709551615 → d * (v1 * 18446744073709551616 + v0) ≤ (u2 * 18446744073709551616 + u1) * 18446744073709551616 + u0 → d ≤ a') :=
          Lib.hid fun d h1 h2 => by
            have h3 := HMAX.out d h1 h2
            have h4 : d ≠ a := fun e => by rw [e] at h2; exact hfit (gs_fit HINV.out h2)
            omega
        have HINV2 : Hid (a' * v1 + (b + v1) = u2 * 18446744073709551616 + u1) := Lib.hid (by have := HINV.out; rw [ha', Nat.add_mul] at this; omega)
        have HFIT2 : Hid (18446744073709551616 ≤ b + v1 → a' * (v1 * 18446744073709551616 + v0) ≤ (u2 * 18446744073709551616 + u1) * 18446744073709551616 + u0) := Lib.hid fun h => gs_le HINV2.out (by
          have h1 : a' * v0 ≤ 18446744073709551616 * 18446744073709551616 := Nat.mul_le_mul (by omega) (by omega)
          have h2 : 18446744073709551616 * 18446744073709551616 ≤ (b + v1) * 18446744073709551616 := Nat.mul_le_mul_right _ h
          omega)
        have hno : ¬ (hi < b) := by omega
        have hno2 : hi = b → ¬ lo ≤ u0 := fun e => by rw [e] at hp1; omega
        have HA' := Lib.hid ha'
        clear hfit hp1 HMAX hinv HINV ha'
        by_cases hov : 18446744073709551616 ≤ b + v1
        · have hw : IntKind.u64.wrap ((b : Int) + v1) = ((b + v1 - 18446744073709551616 : Nat) : Int) := by rw [IntKind.wrap_u64]; omega
          obtain ⟨t, ht⟩ : ∃ t, b + v1 - 18446744073709551616 = t := ⟨_, rfl⟩
          rw [ht] at hw
          have htv : t < v1 := by omega
          have HF := Lib.hid (HFIT2.out hov)
          clear ht hov HFIT2
          by_cases c2 : hi = b
          · have c3 := hno2 c2
            subst c2
            clear hno2
            go_wp2_with (go_at_call 55; (with_reducible refine (HMUL.out _).mono ?_); rintro e w' ⟨rfl, rfl⟩)
            go_ret
            exact ⟨a', rfl, HF.out, by have := HA'.out; omega, HMAX2.out, n, rfl⟩
          · have c3 : ((hi : Int) == b) = false := by rw [beq_eq_false_iff_ne]; omega
            clear hno2 c2
            go_wp2_with (go_at_call 55; (with_reducible refine (HMUL.out _).mono ?_); rintro e w' ⟨rfl, rfl⟩)
            go_ret
            exact ⟨a', rfl, HF.out, by have := HA'.out; omega, HMAX2.out, n, rfl⟩
        · have hbv : (b : Int) + v1 ≤ 18446744073709551615 := by omega
          have hge : ¬ (b : Int) + v1 < v1 := by omega
          clear hov HFIT2
          by_cases c2 : hi = b
          · have c3 := hno2 c2
            subst c2
            clear hno2
            go_wp2_with (go_at_call 55; (with_reducible refine (HMUL.out _).mono ?_); rintro e w' ⟨rfl, rfl⟩)
            go_roundg a'
            case measure => have := HAG.out; have := HA'.out; omega
            case rel => exact ⟨a', hi + v1, by first | rfl | (congr 1 <;> omega), by first | rfl | (congr 1 <;> omega), by have := HA'.out; omega, by omega, HINV2.out, HMAX2.out, rfl, n, rfl⟩
          · have c3 : ((hi : Int) == b) = false := by rw [beq_eq_false_iff_ne]; omega
            clear hno2 c2
            go_wp2_with (go_at_call 55; (with_reducible refine (HMUL.out _).mono ?_); rintro e w' ⟨rfl, rfl⟩)
            go_roundg a'
            case measure => have := HAG.out; have := HA'.out; omega
            case rel => exact ⟨a', b + v1, by first | rfl | (congr 1 <;> omega), by first | rfl | (congr 1 <;> omega), by have := HA'.out; omega, by omega, HINV2.out, HMAX2.out, rfl, n, rfl⟩

set_option maxHeartbeats 4000000 in
theorem digit_eq (u1 u0 v1 v0 : Nat) (w : World) (hv0 : 0 < v1) (b1 : u1 ≤ 18446744073709551615) (b0 : u0 ≤ 18446744073709551615) (c1 : v1 ≤ 18446744073709551615) (c0 : v0 ≤ 18446744073709551615) :
    Calls Try.prog 60 #[.int .u64 (v1 : Int), .int .u64 (u1 : Int), .int .u64 (u0 : Int), .int .u64 (v1 : Int), .int .u64 (v0 : Int)] w fun e w' => Digit v1 u1 u0 v1 v0 w e w' := by
  have i1 : (u1 : Int) ≤ 18446744073709551615 := by omega
  have i0 : (u0 : Int) ≤ 18446744073709551615 := by omega
  have iv : (v1 : Int) ≤ 18446744073709551615 := by omega
  have HI0 : Hid (18446744073709551615 * v1 + (u1 + v1) = v1 * 18446744073709551616 + u1) := Lib.hid (by omega)
  by_cases hov : 18446744073709551616 ≤ u1 + v1
  · have HLE : Hid (18446744073709551615 * (v1 * 18446744073709551616 + v0) ≤ (v1 * 18446744073709551616 + u1) * 18446744073709551616 + u0) := Lib.hid (gs_le HI0.out (by omega))
    have hw : IntKind.u64.wrap ((u1 : Int) + v1) = ((u1 + v1 - 18446744073709551616 : Nat) : Int) := by rw [IntKind.wrap_u64]; omega
    obtain ⟨t, ht⟩ : ∃ t, u1 + v1 - 18446744073709551616 = t := ⟨_, rfl⟩
    rw [ht] at hw
    have htv : t < v1 := by omega
    clear ht hov
    go_enter Try.func60, Try.ntmps60
    go_wp2
    go_ret
    exact ⟨18446744073709551615, rfl, HLE.out, by omega, fun d h _ => h, 0, rfl⟩
  · have hbv : (u1 : Int) + v1 ≤ 18446744073709551615 := by omega
    have hge : ¬ (u1 : Int) + v1 < v1 := by omega
    clear hov
    go_enter Try.func60, Try.ntmps60
    go_wp2
    go_loopg [11, 12] 18446744073709551615 (fun gk q r wr => ∃ a b : Nat, q = .int .u64 a ∧ r = .int .u64 b ∧ a ≤ 18446744073709551615 ∧ b ≤ 18446744073709551615 ∧ a * v1 + b = v1 * 18446744073709551616 + u1 ∧ (∀ d, d ≤ 18446744073709551615 → d * (v1 * 18446744073709551616 + v0) ≤ (v1 * 18446744073709551616 + u1) * 18446744073709551616 + u0 → d ≤ a) ∧ a = gk ∧ ∃ n, wr = w.drewN n)
    case atStart => exact ⟨18446744073709551615, u1 + v1, rfl, by first | rfl | (congr 1 <;> omega), by omega, by omega, HI0.out, fun d h _ => h, rfl, 0, rfl⟩
    case round =>
      obtain ⟨a, b, rfl, rfl, ha, hb, hinv, hmax, hag, n, rfl⟩ := hrel
      obtain ⟨hi, hhi⟩ : ∃ hi, a * v0 / 18446744073709551616 = hi := ⟨_, rfl⟩
      obtain ⟨lo, hlo⟩ : ∃ lo, a * v0 % 18446744073709551616 = lo := ⟨_, rfl⟩
      have HMUL : Hid (∀ W : World, Calls Try.prog 55 #[.int .u64 (a : Int), .int .u64 (v0 : Int)] W fun e w' => e = .returned (.tuple #[.int .u64 (hi : Int), .int .u64 (lo : Int)]) ∧ W = w') :=
        Lib.hid fun W => by rw [← hhi, ← hlo]; exact (Try.bits_Mul64 a v0 (by omega) (by omega) W).mono fun _ _ h => ⟨h.1, h.2.symm⟩
      have hp1 : a * v0 = lo + 18446744073709551616 * hi := by rw [← hhi, ← hlo]; exact (Nat.mod_add_div _ _).symm
      have hlo1 : lo < 18446744073709551616 := by rw [← hlo]; exact Nat.mod_lt _ (by omega)
      have hhi1 : hi < 18446744073709551616 := by rw [← hhi]; exact (Nat.div_lt_iff_lt_mul (by omega)).2 (Nat.mul_lt_mul'' (by omega) (by omega))
      have hlo2 : (lo : Int) ≤ 18446744073709551615 := by omega
      have hhi2 : (hi : Int) ≤ 18446744073709551615 := by omega
      have ha2 : (a : Int) ≤ 18446744073709551615 := by omega
      have hb2 : (b : Int) ≤ 18446744073709551615 := by omega
      have HMAX := Lib.hid hmax
      have HAG := Lib.hid hag
      have HINV := Lib.hid hinv
      clear hmax hag hhi hlo
      by_cases hfit : a * v0 ≤ b * 18446744073709551616 + u0
      · have HLE : Hid (a * (v1 * 18446744073709551616 + v0) ≤ (v1 * 18446744073709551616 + u1) * 18446744073709551616 + u0) := Lib.hid (gs_le hinv hfit)
        rw [hp1] at hfit
        clear hp1 hinv
        by_cases c1 : hi < b
        · clear hfit
          go_wp2_with (go_at_call 55; (with_reducible refine (HMUL.out _).mono ?_); rintro e w' ⟨rfl, rfl⟩)
          go_ret
          exact ⟨a, rfl, HLE.out, ha, HMAX.out, n, rfl⟩
        · have c2 : hi = b := by omega
          have c3 : lo ≤ u0 := by omega
          subst c2
          clear hfit c1
          go_wp2_with (go_at_call 55; (with_reducible refine (HMUL.out _).mono ?_); rintro e w' ⟨rfl, rfl⟩)
          go_ret
          exact ⟨a, rfl, HLE.out, ha, HMAX.out, n, rfl⟩
      · have ha0 : 1 ≤ a := by
          rcases Nat.eq_zero_or_pos a with h0 | h0
          · rw [h0, Nat.zero_mul] at hfit; omega
          · exact h0
        obtain ⟨a', ha'⟩ : ∃ a', a = a' + 1 := ⟨a - 1, by omega⟩
        have hav : (a : Int) - 1 = (a' : Int) := by omega
        have ha1 : (1 : Int) ≤ (a : Int) := by omega
        have HMAX2 : Hid (∀ d, d ≤ 18446744073709551615 → d * (v1 * 18446744073709551616 + v0) ≤ (v1 * 18446744073709551616 + u1) * 18446744073709551616 + u0 → d ≤ a') :=
          Lib.hid fun d h1 h2 => by
            have h3 := HMAX.out d h1 h2
            have h4 : d ≠ a := fun e => by rw [e] at h2; exact hfit (gs_fit HINV.out h2)
            omega
        have HINV2 : Hid (a' * v1 + (b + v1) = v1 * 18446744073709551616 + u1) := Lib.hid (by have := HINV.out; rw [ha', Nat.add_mul] at this; omega)
        have HFIT2 : Hid (18446744073709551616 ≤ b + v1 → a' * (v1 * 18446744073709551616 + v0) ≤ (v1 * 18446744073709551616 + u1) * 18446744073709551616 + u0) := Lib.hid fun h => gs_le HINV2.out (by
          have h1 : a' * v0 ≤ 18446744073709551616 * 18446744073709551616 := Nat.mul_le_mul (by omega) (by omega)
          have h2 : 18446744073709551616 * 18446744073709551616 ≤ (b + v1) * 18446744073709551616 := Nat.mul_le_mul_right _ h
          omega)
        have hno : ¬ (hi < b) := by omega
        have hno2 : hi = b → ¬ lo ≤ u0 := fun e => by rw [e] at hp1; omega
        have HA' := Lib.hid ha'
        clear hfit hp1 HMAX hinv HINV ha'
        by_cases hov : 18446744073709551616 ≤ b + v1
        · have hw : IntKind.u64.wrap ((b : Int) + v1) = ((b + v1 - 18446744073709551616 : Nat) : Int) := by rw [IntKind.wrap_u64]; omega
          obtain ⟨t, ht⟩ : ∃ t, b + v1 - 18446744073709551616 = t := ⟨_, rfl⟩
          rw [ht] at hw
          have htv : t < v1 := by omega
          have HF := Lib.hid (HFIT2.out hov)
          clear ht hov HFIT2
          by_cases c2 : hi = b
          · have c3 := hno2 c2
            subst c2
            clear hno2
            go_wp2_with (go_at_call 55; (with_reducible refine (HMUL.out _).mono ?_); rintro e w' ⟨rfl, rfl⟩)
            go_ret
            exact ⟨a', rfl, HF.out, by have := HA'.out; omega, HMAX2.out, n, rfl⟩
          · have c3 : ((hi : Int) == b) = false := by rw [beq_eq_false_iff_ne]; omega
            clear hno2 c2
            go_wp2_with (go_at_call 55; (with_reducible refine (HMUL.out _).mono ?_); rintro e w' ⟨rfl, rfl⟩)
            go_ret
            exact ⟨a', rfl, HF.out, by have := HA'.out; omega, HMAX2.out, n, rfl⟩
        · have hbv : (b : Int) + v1 ≤ 18446744073709551615 := by omega
          have hge : ¬ (b : Int) + v1 < v1 := by omega
          clear hov HFIT2
          by_cases c2 : hi = b
          · have c3 := hno2 c2
            subst c2
            clear hno2
            go_wp2_with (go_at_call 55; (with_reducible refine (HMUL.out _).mono ?_); rintro e w' ⟨rfl, rfl⟩)
            go_roundg a'
            case measure => have := HAG.out; have := HA'.out; omega
            case rel => exact ⟨a', hi + v1, by first | rfl | (congr 1 <;> omega), by first | rfl | (congr 1 <;> omega), by have := HA'.out; omega, by omega, HINV2.out, HMAX2.out, rfl, n, rfl⟩
          · have c3 : ((hi : Int) == b) = false := by rw [beq_eq_false_iff_ne]; omega
            clear hno2 c2
            go_wp2_with (go_at_call 55; (with_reducible refine (HMUL.out _).mono ?_); rintro e w' ⟨rfl, rfl⟩)
            go_roundg a'
            case measure => have := HAG.out; have := HA'.out; omega
            case rel => exact ⟨a', b + v1, by first | rfl | (congr 1 <;> omega), by first | rfl | (congr 1 <;> omega), by have := HA'.out; omega, by omega, HINV2.out, HMAX2.out, rfl, n, rfl⟩
end Go.Proofs.Ytdflhidhnejbbaa
