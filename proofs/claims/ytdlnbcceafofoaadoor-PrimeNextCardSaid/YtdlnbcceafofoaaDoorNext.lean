/- prime.Next and the document's Next: the least number above that passes; the law PrimeNext's walk. -/
import Derived.Test.YtdlnbcceafofoaaDoorNextM
import Derived.Test.YtdlnbcceafofoaaDoorIsA
namespace Go.Proofs.YtdlnbcceafofoaaDoor
open Go.RowKit
set_option maxHeartbeats 1000000 in
theorem refis_more (n : Nat) (w : World) (hn : n ≤ 4294967311) :
    Calls Tryd.prog 7 #[.int .u64 (n : Int)] w fun e w' => ((e = .returned (.bool false) ∧ ¬ PrimeN n) ∨ (e = .returned (.bool true) ∧ PrimeN n)) ∧ w = w' := by
  by_cases h2 : n < 2
  · have i2 : (n : Int) < 2 := by omega
    go_enter Tryd.func7, Tryd.ntmps7
    go_wp2
    go_ret
    exact ⟨.inl ⟨rfl, fun e => by have := e.1; omega⟩, rfl⟩
  · have i2 : ¬ (n : Int) < 2 := by omega
    have i3 : ¬ 9223372036854775808 ≤ (n : Int) := by omega
    go_enter Tryd.func7, Tryd.ntmps7
    go_wp2
    go_loop [3] (fun i => ∃ d : Nat, 2 ≤ d ∧ d ≤ 65537 ∧ i = .int .u64 d ∧ Hid (∀ j, 2 ≤ j → j < d → n % j ≠ 0)) (fun i => 65537 - (intOf i).toNat)
    case atStart => exact ⟨2, by omega, by omega, rfl, Lib.hid fun j h1 h2 => by omega⟩
    case round =>
      obtain ⟨d, hd2, hdl, rfl, HJ⟩ := hrel
      obtain ⟨z, hz⟩ : ∃ z, n / d = z := ⟨_, rfl⟩
      have hzi : (n : Int) / (d : Int) = (z : Int) := by rw [← hz, Int.natCast_ediv]
      have hzl : z ≤ n := by rw [← hz]; exact Nat.div_le_self _ _
      have hd1 : ((d : Int) == 0) = false := by rw [beq_eq_false_iff_ne]; omega
      have hd3 : d ≠ 0 := by omega
      have hmul : d ≤ z ↔ d * d ≤ n := by rw [← hz]; exact Nat.le_div_iff_mul_le (by omega)
      by_cases hle : d ≤ z
      · have HM := Lib.hid (hmul.1 hle)
        have ile : (d : Int) ≤ (z : Int) := by omega
        have hd65 : d ≤ 65536 := by
          rcases Nat.lt_or_ge 65536 d with h | h
          · have := Nat.mul_le_mul h h
            have := HM.out
            omega
          · exact h
        obtain ⟨t, ht⟩ : ∃ t, n % d = t := ⟨_, rfl⟩
        have hti : (n : Int) % (d : Int) = (t : Int) := by rw [← ht, Int.natCast_emod]
        have htl : t < d := by rw [← ht]; exact Nat.mod_lt _ (by omega)
        by_cases ht0 : t = 0
        · have hb : ((t : Int) == 0) = true := by simp [ht0]
          have HT : Hid (¬ PrimeN n) := Lib.hid fun hp => by
            rcases hp.2 d (Nat.dvd_of_mod_eq_zero (by rw [ht]; exact ht0)) with h | h
            · omega
            · have h5 := HM.out
              rw [← h] at h5
              have := Nat.mul_le_mul_right d hd2
              omega
          clear hmul hz ht ht0 hle
          go_wp2
          go_ret
          exact ⟨.inl ⟨rfl, HT.out⟩, rfl⟩
        · have hb : ((t : Int) == 0) = false := by rw [beq_eq_false_iff_ne]; omega
          have HT : Hid (n % d ≠ 0) := Lib.hid (by rw [ht]; exact ht0)
          clear hmul hz ht ht0 hle
          go_wp2
          go_round
          case rel => exact ⟨d + 1, by omega, by omega, by go_num, Lib.hid fun j h1 h2 => by
            rcases Nat.lt_or_ge j d with h3 | h3
            · exact HJ.out j h1 h3
            · obtain rfl : j = d := by omega
              exact HT.out⟩
          case measure => simp [intOf] <;> omega
      · have ile : ¬ (d : Int) ≤ (z : Int) := by omega
        have HP : Hid (PrimeN n) := Lib.hid (primeN_of_trial (by omega) fun j h1 h2 => by
          rcases Nat.lt_or_ge j d with h3 | h3
          · exact HJ.out j h1 h3
          · have h4 := Nat.mul_le_mul h3 h3
            exact absurd (hmul.2 (Nat.le_trans h4 h2)) hle)
        clear hmul hz hle
        go_wp2
        go_ret
        exact ⟨.inr ⟨rfl, HP.out⟩, rfl⟩
theorem refis_q (n : Nat) (w : World) (hn : n ≤ 4294967311) (r : Bool) (hr : r = true ↔ PrimeN n) :
    Calls Tryd.prog 7 #[.int .u64 (n : Int)] w fun e w' => e = .returned (.bool r) ∧ w = w' :=
  (refis_more n w hn).mono fun e w' ⟨h, hw⟩ => by
    rcases h with ⟨rfl, h⟩ | ⟨rfl, h⟩
    · cases r with
      | false => exact ⟨rfl, hw⟩
      | true => exact absurd (hr.1 rfl) h
    · cases r with
      | false => exact absurd (hr.2 h) (by simp)
      | true => exact ⟨rfl, hw⟩
/-- What Is says of the numbers below 2^63, by V. -/
structure IsV (V : Nat → Bool) : Prop where
  call : ∀ n : Nat, n < 9223372036854775808 → ∀ w, TabG w → Calls Tryd.prog 6 #[.int .u64 (n : Int)] w fun e w' => e = .returned (.bool (V n)) ∧ Below w.heap.size w w'
  small : ∀ n : Nat, n ≤ 4294967311 → (V n = true ↔ PrimeN n)
  prime : ∀ n : Nat, PrimeN n → V n = true
  even : ∀ n : Nat, 2 < n → n % 2 = 0 → V n = false
  low : ∀ n : Nat, n < 2 → V n = false
theorem isV_some : ∃ V, IsV V := by
  have h : ∀ n : Nat, ∃ r : Bool, (n < 9223372036854775808 → ∀ w, TabG w → Calls Tryd.prog 6 #[.int .u64 (n : Int)] w fun e w' => e = .returned (.bool r) ∧ Below w.heap.size w w') ∧
      (n ≤ 4294967311 → (r = true ↔ PrimeN n)) ∧ (PrimeN n → r = true) ∧ (2 < n → n % 2 = 0 → r = false) ∧ (n < 2 → r = false) := by
    intro n
    rcases Nat.lt_or_ge n 2 with h | h
    · exact ⟨false, fun _ w _ => is_low n h w, fun _ => ⟨fun e => by simp at e, fun e => by have := e.1; omega⟩, fun e => by have := e.1; omega, fun _ _ => rfl, fun _ => rfl⟩
    · obtain ⟨o, t, he, ho⟩ := twos_of (n - 1) (by omega)
      exact ⟨isMR n o t, fun hn w hg => is_gen n o t w hg (by omega) he ho h, fun hn => ⟨sound32_more hn he ho, fun h => isMR_prime h he⟩, fun h => isMR_prime h he, fun h2 h3 => isMR_even h2 h3, fun h2 => by omega⟩
  obtain ⟨V, hV⟩ := Classical.skolem.1 h
  exact ⟨V, fun n => (hV n).1, fun n => (hV n).2.1, fun n => (hV n).2.2.1, fun n => (hV n).2.2.2.1, fun n => (hV n).2.2.2.2⟩
set_option maxHeartbeats 1000000 in
theorem next_high (n : Nat) (hn : 4611686018427387904 < n) (w : World) : Calls Tryd.prog 8 #[.int .u64 (n : Int)] w fun e w' => e = .returned (.tuple #[.int .u64 0, .int .i64 2]) ∧ Below w.heap.size w w' := by
  have i1 : decide (4611686018427387904 < (n : Int)) = true := by rw [decide_eq_true_iff]; omega
  clear hn
  go_enter Tryd.func8, Tryd.ntmps8
  go_wp2
  go_ret2
  exact ⟨rfl, by go_grown⟩
set_option maxHeartbeats 1000000 in
theorem next_low (n : Nat) (hn : n < 2) (w : World) : Calls Tryd.prog 8 #[.int .u64 (n : Int)] w fun e w' => e = .returned (.tuple #[.int .u64 2, .int .i64 0]) ∧ Below w.heap.size w w' := by
  have i1 : decide (4611686018427387904 < (n : Int)) = false := by rw [decide_eq_false_iff_not]; omega
  have i2 : decide ((n : Int) < 2) = true := by rw [decide_eq_true_iff]; omega
  clear hn
  go_enter Tryd.func8, Tryd.ntmps8
  go_wp2
  go_ret2
  exact ⟨rfl, by go_grown⟩
set_option maxHeartbeats 2000000 in
theorem next_any {V : Nat → Bool} (hV : IsV V) (n x : Nat) (w : World) (hg : TabG w) (hn2 : 2 ≤ n) (hn : n ≤ 4611686018427387904) (hx : NX V n x) :
    Calls Tryd.prog 8 #[.int .u64 (n : Int)] w fun e w' => e = .returned (.tuple #[.int .u64 (x : Int), .int .i64 0]) ∧ Below w.heap.size w w' := by
  have HV := Lib.hid hV
  have HG := Lib.hid hg
  have HX := Lib.hid hx
  have hxl := hx.2.1
  have hnx := hx.1
  have i1 : decide (4611686018427387904 < (n : Int)) = false := by rw [decide_eq_false_iff_not]; omega
  have i2 : decide ((n : Int) < 2) = false := by rw [decide_eq_false_iff_not]; omega
  obtain ⟨t, ht⟩ : ∃ t, n % 2 = t := ⟨_, rfl⟩
  obtain ⟨a, ha⟩ : ∃ a, n + 1 + t = a := ⟨_, rfl⟩
  have hti : (n : Int) % 2 = (t : Int) := by omega
  have hai : (n : Int) + 1 + (t : Int) = (a : Int) := by omega
  have HA : Hid (a % 2 = 1 ∧ n < a ∧ a ≤ x) := Lib.hid (by
    refine ⟨by omega, by omega, ?_⟩
    by_cases h0 : t = 0
    · omega
    · rcases Nat.lt_or_ge (n + 1) x with h1 | h1
      · omega
      · have h2 : x = n + 1 := by omega
        have h3 := hV.even x (by omega) (by omega)
        rw [hx.2.2.1] at h3
        exact absurd h3 (by simp))
  have hal : a ≤ 4611686018427387906 := by omega
  have HN2 : Hid (2 ≤ n) := Lib.hid hn2
  clear hx hV hg hn2 hn ht ha
  go_enter Tryd.func8, Tryd.ntmps8
  go_wp2
  clear hai hti i1 i2
  go_loopw [4] (fun p wr => ∃ c : Nat, p = .int .u64 (c : Int) ∧ Hid (c % 2 = 1 ∧ n < c ∧ c ≤ x) ∧ Hid (Below w.heap.size w wr)) (fun p _ => x - (intOf p).toNat)
  case atStart => exact ⟨a, rfl, HA, Lib.hid (Below.refl _ _)⟩
  case round =>
    obtain ⟨c, rfl, HC, HB⟩ := hrel
    have hcx := HC.out.2.2
    cases hr : V c with
    | false =>
      have HCa : Hid (∀ W : World, TabG W → Calls Tryd.prog 6 #[.int .u64 (c : Int)] W fun e w' => e = .returned (.bool false) ∧ Below W.heap.size W w') := Lib.hid fun W h => by rw [← hr]; exact HV.out.call c (by omega) W h
      have HN : Hid ((c + 2) % 2 = 1 ∧ n < c + 2 ∧ c + 2 ≤ x) := Lib.hid (by
        have h1 := HC.out
        have h0 := HN2.out
        refine ⟨by omega, by omega, ?_⟩
        have h2 := HX.out.2.2.1
        rcases Nat.lt_or_ge (c + 1) x with h3 | h3
        · omega
        · exfalso
          rcases (show x = c ∨ x = c + 1 by omega) with h4 | h4
          · rw [h4, hr] at h2; exact absurd h2 (by simp)
          · rw [HV.out.even x (by omega) (by omega)] at h2; exact absurd h2 (by simp))
      clear hr
      go_wp2_with (go_at_call 6; (with_reducible refine (HCa.out _ (HG.out.up HB.out)).mono ?_); rintro e w1 ⟨rfl, hb⟩; have HB1 := Lib.hid (below_chain HB.out hb); clear hb)
      go_roundw
      case rel => exact ⟨c + 2, by go_num, HN, HB1⟩
      case measure =>
        have := HN.out
        simp [intOf] <;> omega
    | true =>
      have HCa : Hid (∀ W : World, TabG W → Calls Tryd.prog 6 #[.int .u64 (c : Int)] W fun e w' => e = .returned (.bool true) ∧ Below W.heap.size W w') := Lib.hid fun W h => by rw [← hr]; exact HV.out.call c (by omega) W h
      have hcx2 : c = x := by
        rcases Nat.lt_or_ge c x with h1 | h1
        · have := HX.out.2.2.2 c HC.out.2.1 h1
          rw [hr] at this
          exact absurd this (by simp)
        · omega
      subst hcx2
      clear hr
      go_wp2_with (go_at_call 6; (with_reducible refine (HCa.out _ (HG.out.up HB.out)).mono ?_); rintro e w1 ⟨rfl, hb⟩; have HB1 := Lib.hid (below_chain HB.out hb); clear hb)
      go_ret2
      exact ⟨rfl, HB1.out⟩
theorem next_all {V : Nat → Bool} (hV : IsV V) (n x : Nat) (w : World) (hg : TabG w) (hn : n ≤ 4611686018427387904) (hx : NX V n x) :
    Calls Tryd.prog 8 #[.int .u64 (n : Int)] w fun e w' => e = .returned (.tuple #[.int .u64 (x : Int), .int .i64 0]) ∧ Below w.heap.size w w' := by
  rcases Nat.lt_or_ge n 2 with h | h
  · have h2 : x = 2 := by
      have h3 : V 2 = true := hV.prime 2 (bs_prime 2 (by decide))
      rcases Nat.lt_or_ge x 2 with h4 | h4
      · have := hV.low x h4
        rw [hx.2.2.1] at this
        exact absurd this (by simp)
      · rcases Nat.lt_or_ge 2 x with h5 | h5
        · have := hx.2.2.2 2 (by omega) h5
          rw [h3] at this
          exact absurd this (by simp)
        · omega
    subst h2
    exact next_low n h w
  · exact next_any hV n x w hg h hn hx
set_option maxHeartbeats 2000000 in
theorem refnext_any {V : Nat → Bool} (hV : IsV V) (n x : Nat) (w : World) (hn : n < 4294967296) (hx : NX V n x) :
    Calls Tryd.prog 9 #[.int .u64 (n : Int)] w fun e w' => e = .returned (.tuple #[.int .u64 (x : Int), .int .i64 0]) ∧ w = w' := by
  have HV := Lib.hid hV
  have HX := Lib.hid hx
  have hxl := hx.small hV.prime hn
  have hnx := hx.1
  have i1 : decide (4611686018427387904 < (n : Int)) = false := by rw [decide_eq_false_iff_not]; omega
  obtain ⟨a, ha⟩ : ∃ a, n + 1 = a := ⟨_, rfl⟩
  have hai : (n : Int) + 1 = (a : Int) := by omega
  have HA : Hid (n < a ∧ a ≤ x) := Lib.hid (by omega)
  have hal : a ≤ 4294967296 := by omega
  clear hx hV hn ha
  go_enter Tryd.func9, Tryd.ntmps9
  go_wp2
  clear hai i1
  go_loop [0] (fun p => ∃ c : Nat, p = .int .u64 (c : Int) ∧ Hid (n < c ∧ c ≤ x)) (fun p => x - (intOf p).toNat)
  case atStart => exact ⟨a, rfl, HA⟩
  case round =>
    obtain ⟨c, rfl, HC⟩ := hrel
    have hcx := HC.out.2
    cases hr : V c with
    | false =>
      have HCa := Lib.hid (fun W : World => refis_q c W (by omega) false (by have := HV.out.small c (by omega); rwa [hr] at this))
      have HN : Hid (n < c + 1 ∧ c + 1 ≤ x) := Lib.hid (by
        have h1 := HC.out
        refine ⟨by omega, ?_⟩
        have h2 := HX.out.2.2.1
        rcases Nat.lt_or_ge c x with h3 | h3
        · omega
        · exfalso
          have h4 : x = c := by omega
          rw [h4, hr] at h2; exact absurd h2 (by simp))
      clear hr
      go_wp2_with (go_at_call 7; (with_reducible refine (HCa.out _).mono ?_); rintro e w1 ⟨rfl, rfl⟩)
      go_round
      case rel => exact ⟨c + 1, by go_num, HN⟩
      case measure =>
        have := HN.out
        simp [intOf] <;> omega
    | true =>
      have HCa := Lib.hid (fun W : World => refis_q c W (by omega) true (by have := HV.out.small c (by omega); rwa [hr] at this))
      have hcx2 : c = x := by
        rcases Nat.lt_or_ge c x with h1 | h1
        · have := HX.out.2.2.2 c HC.out.1 h1
          rw [hr] at this
          exact absurd this (by simp)
        · omega
      subst hcx2
      clear hr
      go_wp2_with (go_at_call 7; (with_reducible refine (HCa.out _).mono ?_); rintro e w1 ⟨rfl, rfl⟩)
      go_ret2
      exact ⟨rfl, rfl⟩
set_option maxRecDepth 100000 in
set_option maxHeartbeats 8000000 in
theorem law_next (n a : Nat) (w : World) (hn : n ≤ 18446744073709551615) (ha : a ≤ 18446744073709551615) (hg : TabG w) :
    Calls Tryd.prog 4 #[.int .u64 (n : Int), .int .u64 (a : Int)] w fun e w' => e = .returned (.bool true) ∧ Below w.heap.size w w' := by
  obtain ⟨V, hV⟩ := isV_some
  obtain ⟨m, hm⟩ : ∃ m, n % 4294967296 = m := ⟨_, rfl⟩
  have hmi : (n : Int) % 4294967296 = (m : Int) := by omega
  have hml : m < 4294967296 := by omega
  have hml2 : m ≤ 4294967295 := by omega
  obtain ⟨y, hy⟩ := nx_some hV.prime (n := m) (by omega)
  have hyl := hy.2.1
  have HG := Lib.hid hg
  have HNY := Lib.hid fun (W : World) (h : TabG W) => next_all hV m y W h (by omega) hy
  have HRY := Lib.hid fun W : World => refnext_any hV m y W hml hy
  by_cases h1 : 4611686018427387904 < n
  · have i1 : decide (4611686018427387904 < (n : Int)) = true := by rw [decide_eq_true_iff]; omega
    have HNX := Lib.hid fun W : World => next_high n h1 W
    clear h1 hg hV hm hml hy
    go_enter Tryd.func4, Tryd.ntmps4
    go_wp2_with (first
      | (go_at_call 5; (with_reducible refine (alive_any _).mono ?_); rintro e w1 ⟨rfl, hb⟩; have HB := Lib.hid hb; clear hb)
      | (go_at_call 8; (with_reducible refine (HNY.out _ (HG.out.up HB.out)).mono ?_); rintro e w2 ⟨rfl, hb⟩; have HB2 := Lib.hid (below_chain HB.out hb); clear hb)
      | (go_at_call 9; (with_reducible refine (HRY.out _).mono ?_); rintro e w3 ⟨rfl, rfl⟩)
      | (go_at_call 8; (with_reducible refine (HNX.out _).mono ?_); rintro e w4 ⟨rfl, hb⟩; have HB4 := Lib.hid (below_chain HB2.out hb); clear hb))
    go_ret
    exact ⟨rfl, HB4.out⟩
  · have i1 : decide (4611686018427387904 < (n : Int)) = false := by rw [decide_eq_false_iff_not]; omega
    obtain ⟨x, hx⟩ := nx_some hV.prime (n := n) (by omega)
    have hxl := hx.2.1
    have hnx := hx.1
    have hnl : n ≤ 4611686018427387904 := by omega
    have HNX := Lib.hid fun (W : World) (h : TabG W) => next_all hV n x W h (by omega) hx
    have HIX : Hid (∀ W : World, TabG W → Calls Tryd.prog 6 #[.int .u64 (x : Int)] W fun e w' => e = .returned (.bool true) ∧ Below W.heap.size W w') := Lib.hid fun W h => by have := hV.call x (by omega) W h; rwa [hx.2.2.1] at this
    obtain ⟨d, hd⟩ : ∃ d, x - n = d := ⟨_, rfl⟩
    have hdi : (x : Int) - (n : Int) = (d : Int) := by omega
    have hd1 : 1 ≤ d := by omega
    have hd0 : ((d : Int) == 0) = false := by rw [beq_eq_false_iff_ne]; omega
    have hdl : d ≤ x := by omega
    obtain ⟨t, ht⟩ : ∃ t, a % d = t := ⟨_, rfl⟩
    have htl : t < d := by rw [← ht]; exact Nat.mod_lt _ (by omega)
    have hti : (a : Int) % (d : Int) = (t : Int) := by rw [← ht, Int.natCast_emod]
    have htt : (a : Int).tmod (d : Int) = (t : Int) := by rw [Int.tmod_eq_emod_of_nonneg (by omega)]; exact hti
    obtain ⟨k, hk⟩ : ∃ k, n + t = k := ⟨_, rfl⟩
    have hki : (n : Int) + (t : Int) = (k : Int) := by omega
    have hkl : k ≤ x := by omega
    have i2 : decide ((x : Int) ≤ (n : Int)) = false := by rw [decide_eq_false_iff_not]; omega
    by_cases h0 : k = n
    · have hkn : ((k : Int) == (n : Int)) = true := by simp [h0]
      clear h1 hg hV hm hml hy hx hd ht hk h0
      go_enter Tryd.func4, Tryd.ntmps4
      go_wp2_with (first
        | (go_at_call 5; (with_reducible refine (alive_any _).mono ?_); rintro e w1 ⟨rfl, hb⟩; have HB := Lib.hid hb; clear hb)
        | (go_at_call 8; (with_reducible refine (HNY.out _ (HG.out.up HB.out)).mono ?_); rintro e w2 ⟨rfl, hb⟩; have HB2 := Lib.hid (below_chain HB.out hb); clear hb)
        | (go_at_call 9; (with_reducible refine (HRY.out _).mono ?_); rintro e w3 ⟨rfl, rfl⟩)
        | (go_at_call 8; (with_reducible refine (HNX.out _ (HG.out.up HB2.out)).mono ?_); rintro e w4 ⟨rfl, hb⟩; have HB4 := Lib.hid (below_chain HB2.out hb); clear hb)
        | (go_at_call 6; (with_reducible refine (HIX.out _ (HG.out.up HB4.out)).mono ?_); rintro e w5 ⟨rfl, hb⟩; have HB5 := Lib.hid (below_chain HB4.out hb); clear hb))
      go_ret
      exact ⟨rfl, HB5.out⟩
    · have hkn : ((k : Int) == (n : Int)) = false := by rw [beq_eq_false_iff_ne]; omega
      have HIK : Hid (∀ W : World, TabG W → Calls Tryd.prog 6 #[.int .u64 (k : Int)] W fun e w' => e = .returned (.bool false) ∧ Below W.heap.size W w') := Lib.hid fun W h => by have := hV.call k (by omega) W h; rwa [hx.2.2.2 k (by omega) (by omega)] at this
      clear h1 hg hV hm hml hy hx hd ht hk h0
      go_enter Tryd.func4, Tryd.ntmps4
      go_wp2_with (first
        | (go_at_call 5; (with_reducible refine (alive_any _).mono ?_); rintro e w1 ⟨rfl, hb⟩; have HB := Lib.hid hb; clear hb)
        | (go_at_call 8; (with_reducible refine (HNY.out _ (HG.out.up HB.out)).mono ?_); rintro e w2 ⟨rfl, hb⟩; have HB2 := Lib.hid (below_chain HB.out hb); clear hb)
        | (go_at_call 9; (with_reducible refine (HRY.out _).mono ?_); rintro e w3 ⟨rfl, rfl⟩)
        | (go_at_call 8; (with_reducible refine (HNX.out _ (HG.out.up HB2.out)).mono ?_); rintro e w4 ⟨rfl, hb⟩; have HB4 := Lib.hid (below_chain HB2.out hb); clear hb)
        | (go_at_call 6; (with_reducible refine (HIX.out _ (HG.out.up HB4.out)).mono ?_); rintro e w5 ⟨rfl, hb⟩; have HB5 := Lib.hid (below_chain HB4.out hb); clear hb)
        | (go_at_call 6; (with_reducible refine (HIK.out _ (HG.out.up HB5.out)).mono ?_); rintro e w6 ⟨rfl, hb⟩; have HB6 := Lib.hid (below_chain HB5.out hb); clear hb))
      go_ret
      exact ⟨rfl, HB6.out⟩
end Go.Proofs.YtdlnbcceafofoaaDoor
