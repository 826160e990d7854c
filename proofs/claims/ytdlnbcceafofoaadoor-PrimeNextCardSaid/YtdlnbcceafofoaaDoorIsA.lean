/- prime.Is and the document's Is, by trial, below 2^32: both say whether the number is a prime; prime.Is from 2^63 on says no. -/
import Derived.Test.YtdlnbcceafofoaaDoorRkS
import Derived.Test.YtdlnbcceafofoaaDoorAlive
namespace Go.Proofs.YtdlnbcceafofoaaDoor
open Go.RowKit
theorem is_high (n : Nat) (hn : 9223372036854775808 ≤ n) (w : World) : Calls Tryd.prog 6 #[.int .u64 (n : Int)] w fun e w' => e = .returned (.bool false) ∧ Below w.heap.size w w' := by
  have h : ¬ (n : Int) < 2 := by omega
  have h2 : 9223372036854775808 ≤ (n : Int) := by omega
  go_enter Tryd.func6, Tryd.ntmps6
  go_wp2
  (try go_step3)
  (try go_wp2)
  (try rw [Exit.noGoto_ret])
  go_ret
  exact ⟨rfl, by go_grown⟩
theorem is_32 (n : Nat) (hn : n < 4294967296) : ∃ r : Bool, (r = true ↔ PrimeN n) ∧ ∀ w, TabG w → Calls Tryd.prog 6 #[.int .u64 (n : Int)] w fun e w' => e = .returned (.bool r) ∧ Below w.heap.size w w' := by
  rcases Nat.lt_or_ge n 2 with h | h
  · exact ⟨false, ⟨fun e => by simp at e, fun e => by have := e.1; omega⟩, fun w _ => is_low n h w⟩
  · obtain ⟨o, t, he, ho⟩ := twos_of (n - 1) (by omega)
    exact ⟨isMR n o t, ⟨sound32 hn he ho, fun h => isMR_prime h he⟩, fun w hg => is_gen n o t w hg (by omega) he ho h⟩
theorem is_63 (n : Nat) (hn : n < 9223372036854775808) : ∃ r : Bool, (r = true → 2 ≤ n) ∧ ∀ w, TabG w → Calls Tryd.prog 6 #[.int .u64 (n : Int)] w fun e w' => e = .returned (.bool r) ∧ Below w.heap.size w w' := by
  rcases Nat.lt_or_ge n 2 with h | h
  · exact ⟨false, fun e => by simp at e, fun w _ => is_low n h w⟩
  · obtain ⟨o, t, he, ho⟩ := twos_of (n - 1) (by omega)
    exact ⟨isMR n o t, fun _ => h, fun w hg => is_gen n o t w hg (by omega) he ho h⟩
set_option maxHeartbeats 1000000 in
theorem refis_any (n : Nat) (w : World) (hn : n < 4294967296) :
    Calls Tryd.prog 7 #[.int .u64 (n : Int)] w fun e w' => ((e = .returned (.bool false) ∧ ¬ PrimeN n) ∨ (e = .returned (.bool true) ∧ PrimeN n)) ∧ w = w' := by
  by_cases h2 : n < 2
  · have i2 : (n : Int) < 2 := by omega
    go_enter Tryd.func7, Tryd.ntmps7
    go_wp2
    go_ret
    exact ⟨.inl ⟨rfl, fun e => by have := e.1; omega⟩, rfl⟩
  · have i2 : ¬ (n : Int) < 2 := by omega
    have i3 : ¬ 9223372036854775808 ≤ (n : Int) := by omega
    go_enter Tryd.func7, Tryd.ntmps7
    go_wp2
    go_loop [3] (fun i => ∃ d : Nat, 2 ≤ d ∧ d ≤ 65537 ∧ i = .int .u64 d ∧ Hid (∀ j, 2 ≤ j → j < d → n % j ≠ 0)) (fun i => 65537 - (intOf i).toNat)
    case atStart => exact ⟨2, by omega, by omega, rfl, Lib.hid fun j h1 h2 => by omega⟩
    case round =>
      obtain ⟨d, hd2, hdl, rfl, HJ⟩ := hrel
      obtain ⟨z, hz⟩ : ∃ z, n / d = z := ⟨_, rfl⟩
      have hzi : (n : Int) / (d : Int) = (z : Int) := by rw [← hz, Int.natCast_ediv]
      have hzl : z ≤ n := by rw [← hz]; exact Nat.div_le_self _ _
      have hd1 : ((d : Int) == 0) = false := by rw [beq_eq_false_iff_ne]; omega
      have hd3 : d ≠ 0 := by omega
      have hmul : d ≤ z ↔ d * d ≤ n := by rw [← hz]; exact Nat.le_div_iff_mul_le (by omega)
      by_cases hle : d ≤ z
      · have HM := Lib.hid (hmul.1 hle)
        have ile : (d : Int) ≤ (z : Int) := by omega
        have hd65 : d ≤ 65535 := by
          rcases Nat.lt_or_ge 65535 d with h | h
          · have := Nat.mul_le_mul h h
            have := HM.out
            omega
          · exact h
        obtain ⟨t, ht⟩ : ∃ t, n % d = t := ⟨_, rfl⟩
        have hti : (n : Int) % (d : Int) = (t : Int) := by rw [← ht, Int.natCast_emod]
        have htl : t < d := by rw [← ht]; exact Nat.mod_lt _ (by omega)
        by_cases ht0 : t = 0
        · have hb : ((t : Int) == 0) = true := by simp [ht0]
          have HT : Hid (¬ PrimeN n) := Lib.hid fun hp => by
            rcases hp.2 d (Nat.dvd_of_mod_eq_zero (by rw [ht]; exact ht0)) with h | h
            · omega
            · have h5 := HM.out
              rw [← h] at h5
              have := Nat.mul_le_mul_right d hd2
              omega
          clear hmul hz ht ht0 hle
          go_wp2
          go_ret
          exact ⟨.inl ⟨rfl, HT.out⟩, rfl⟩
        · have hb : ((t : Int) == 0) = false := by rw [beq_eq_false_iff_ne]; omega
          have HT : Hid (n % d ≠ 0) := Lib.hid (by rw [ht]; exact ht0)
          clear hmul hz ht ht0 hle
          go_wp2
          go_round
          case rel => exact ⟨d + 1, by omega, by omega, by go_num, Lib.hid fun j h1 h2 => by
            rcases Nat.lt_or_ge j d with h3 | h3
            · exact HJ.out j h1 h3
            · obtain rfl : j = d := by omega
              exact HT.out⟩
          case measure => simp [intOf] <;> omega
      · have ile : ¬ (d : Int) ≤ (z : Int) := by omega
        have HP : Hid (PrimeN n) := Lib.hid (primeN_of_trial (by omega) fun j h1 h2 => by
          rcases Nat.lt_or_ge j d with h3 | h3
          · exact HJ.out j h1 h3
          · have h4 := Nat.mul_le_mul h3 h3
            exact absurd (hmul.2 (Nat.le_trans h4 h2)) hle)
        clear hmul hz hle
        go_wp2
        go_ret
        exact ⟨.inr ⟨rfl, HP.out⟩, rfl⟩
theorem refis_r (n : Nat) (w : World) (hn : n < 4294967296) (r : Bool) (hr : r = true ↔ PrimeN n) :
    Calls Tryd.prog 7 #[.int .u64 (n : Int)] w fun e w' => e = .returned (.bool r) ∧ w = w' :=
  (refis_any n w hn).mono fun e w' ⟨h, hw⟩ => by
    rcases h with ⟨rfl, h⟩ | ⟨rfl, h⟩
    · cases r with
      | false => exact ⟨rfl, hw⟩
      | true => exact absurd (hr.1 rfl) h
    · cases r with
      | false => exact absurd (hr.2 h) (by simp)
      | true => exact ⟨rfl, hw⟩
set_option maxHeartbeats 4000000 in
theorem law_is (n : Nat) (w : World) (hn : n ≤ 18446744073709551615) (hg : TabG w) :
    Calls Tryd.prog 3 #[.int .u64 (n : Int)] w fun e w' => e = .returned (.bool true) ∧ Below w.heap.size w w' := by
  have HG := Lib.hid hg
  clear hg
  by_cases h1 : 9223372036854775808 ≤ n
  · have i1 : 9223372036854775808 ≤ (n : Int) := by omega
    go_enter Tryd.func3, Tryd.ntmps3
    go_wp2_with (first
      | (go_at_call 5; (with_reducible refine (alive_any _).mono ?_); rintro e w1 ⟨rfl, hb⟩; have HB := Lib.hid hb; clear hb)
      | (go_at_call 6; (with_reducible refine (is_high n h1 _).mono ?_); rintro e w2 ⟨rfl, hb⟩; have HB2 := Lib.hid (below_chain HB.out hb); clear hb))
    go_ret
    exact ⟨rfl, HB2.out⟩
  · have i1 : decide (9223372036854775808 ≤ (n : Int)) = false := by rw [decide_eq_false_iff_not]; omega
    obtain ⟨m, hm⟩ : ∃ m, n % 4294967296 = m := ⟨_, rfl⟩
    have hmi : (n : Int) % 4294967296 = (m : Int) := by omega
    have hmt : Int.tmod (n : Int) 4294967296 = (m : Int) := by rw [Int.tmod_eq_emod_of_nonneg (by omega)]; exact hmi
    have hml : m < 4294967296 := by omega
    obtain ⟨r, hr, hcall⟩ := is_32 m hml
    obtain ⟨s, hs, hcalls⟩ := is_63 n (by omega)
    have HC := Lib.hid hcall
    have HCS := Lib.hid hcalls
    have HRF := Lib.hid fun W : World => refis_r m W hml r hr
    have hml2 : m ≤ 4294967295 := by omega
    clear hr hcall hcalls hm hml h1
    rcases Bool.eq_false_or_eq_true r with rfl | rfl <;> rcases Bool.eq_false_or_eq_true s with rfl | rfl
    · have hn2 := hs rfl
      have i2 : 1 < (n : Int) := by omega
      clear hs hn2
      go_enter Tryd.func3, Tryd.ntmps3
      go_wp2_with (first
        | (go_at_call 5; (with_reducible refine (alive_any _).mono ?_); rintro e w1 ⟨rfl, hb⟩; have HB := Lib.hid hb; clear hb)
        | (go_at_call 6; (with_reducible refine (HC.out _ (HG.out.up HB.out)).mono ?_); rintro e w2 ⟨rfl, hb⟩; have HB2 := Lib.hid (below_chain HB.out hb); clear hb)
        | (go_at_call 7; (with_reducible refine (HRF.out _).mono ?_); rintro e w3 ⟨rfl, rfl⟩)
        | (go_at_call 6; (with_reducible refine (HCS.out _ (HG.out.up HB2.out)).mono ?_); rintro e w4 ⟨rfl, hb⟩; have HB4 := Lib.hid (below_chain HB2.out hb); clear hb))
      go_ret
      exact ⟨rfl, HB4.out⟩
    · clear hs
      go_enter Tryd.func3, Tryd.ntmps3
      go_wp2_with (first
        | (go_at_call 5; (with_reducible refine (alive_any _).mono ?_); rintro e w1 ⟨rfl, hb⟩; have HB := Lib.hid hb; clear hb)
        | (go_at_call 6; (with_reducible refine (HC.out _ (HG.out.up HB.out)).mono ?_); rintro e w2 ⟨rfl, hb⟩; have HB2 := Lib.hid (below_chain HB.out hb); clear hb)
        | (go_at_call 7; (with_reducible refine (HRF.out _).mono ?_); rintro e w3 ⟨rfl, rfl⟩)
        | (go_at_call 6; (with_reducible refine (HCS.out _ (HG.out.up HB2.out)).mono ?_); rintro e w4 ⟨rfl, hb⟩; have HB4 := Lib.hid (below_chain HB2.out hb); clear hb))
      go_ret
      exact ⟨rfl, HB4.out⟩
    · have hn2 := hs rfl
      have i2 : 1 < (n : Int) := by omega
      clear hs hn2
      go_enter Tryd.func3, Tryd.ntmps3
      go_wp2_with (first
        | (go_at_call 5; (with_reducible refine (alive_any _).mono ?_); rintro e w1 ⟨rfl, hb⟩; have HB := Lib.hid hb; clear hb)
        | (go_at_call 6; (with_reducible refine (HC.out _ (HG.out.up HB.out)).mono ?_); rintro e w2 ⟨rfl, hb⟩; have HB2 := Lib.hid (below_chain HB.out hb); clear hb)
        | (go_at_call 7; (with_reducible refine (HRF.out _).mono ?_); rintro e w3 ⟨rfl, rfl⟩)
        | (go_at_call 6; (with_reducible refine (HCS.out _ (HG.out.up HB2.out)).mono ?_); rintro e w4 ⟨rfl, hb⟩; have HB4 := Lib.hid (below_chain HB2.out hb); clear hb))
      go_ret
      exact ⟨rfl, HB4.out⟩
    · clear hs
      go_enter Tryd.func3, Tryd.ntmps3
      go_wp2_with (first
        | (go_at_call 5; (with_reducible refine (alive_any _).mono ?_); rintro e w1 ⟨rfl, hb⟩; have HB := Lib.hid hb; clear hb)
        | (go_at_call 6; (with_reducible refine (HC.out _ (HG.out.up HB.out)).mono ?_); rintro e w2 ⟨rfl, hb⟩; have HB2 := Lib.hid (below_chain HB.out hb); clear hb)
        | (go_at_call 7; (with_reducible refine (HRF.out _).mono ?_); rintro e w3 ⟨rfl, rfl⟩)
        | (go_at_call 6; (with_reducible refine (HCS.out _ (HG.out.up HB2.out)).mono ?_); rintro e w4 ⟨rfl, hb⟩; have HB4 := Lib.hid (below_chain HB2.out hb); clear hb))
      go_ret
      exact ⟨rfl, HB4.out⟩
end Go.Proofs.YtdlnbcceafofoaaDoor
