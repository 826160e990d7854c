/- What a paper shows is a prime; the walk of PrimeShown. -/
import Derived.Test.YtkcnigpajhmjiaaDoorHolds
import Derived.Test.YtkcnigpajhmjiaaDoorAlive
namespace Go.Proofs.YtkcnigpajhmjiaaDoor
open Go.RowKit
theorem goQ_primes {S : Nat → Bool} {p : Nat} (hp : PrimeN p) (hS : ∀ q, S q = true → PrimeN q) : ∀ (Q E : List Int) (f : Bool) (v l r : Nat), goQ S f v Q E l = some r → p ∣ l → p ∣ r ∨ ∃ x ∈ Q, x.toNat = p
  | [], _, _, _, l, r, h, hd => by
    have := Option.some.inj h
    exact .inl (this ▸ hd)
  | q :: qs, [], f, v, l, r, h, _ => by simp [goQ] at h
  | q :: qs, e :: es, f, v, l, r, h, hd => by
    unfold goQ at h
    by_cases hc : (f = false ∧ q.toNat ≤ v) ∨ S q.toNat = false ∨ e < 1
    · rw [if_pos hc] at h; cases h
    · rw [if_neg hc] at h
      rcases hdv : divE q.toNat (min e.toNat 64) l with _ | l'
      · rw [hdv] at h; cases h
      · rw [hdv] at h
        have hSq : S q.toNat = true := by
          rcases hb : S q.toNat with _ | _
          · exact absurd (.inr (.inl hb)) hc
          · rfl
        rcases divE_primes hp (hS _ hSq) hdv hd with h1 | h1
        · rcases goQ_primes hp hS qs es false q.toNat l' r h h1 with h2 | ⟨x, hx, hxe⟩
          · exact .inl h2
          · exact .inr ⟨x, by simp [hx], hxe⟩
        · exact .inr ⟨q, by simp, h1.symm⟩
theorem genB_all {N G : Nat} : ∀ (Q : List Int), genB N G Q = true → ∀ x ∈ Q, G ^ ((N - 1) / x.toNat) % N ≠ 1
  | [], _, x, hx => by cases hx
  | q :: qs, h, x, hx => by
    unfold genB at h
    by_cases hc : G ^ ((N - 1) / q.toNat) % N = 1
    · rw [if_pos hc] at h; cases h
    · rw [if_neg hc] at h
      rcases List.mem_cons.1 hx with rfl | hx
      · exact hc
      · exact genB_all qs h x hx
theorem stepB_prime {S : Nat → Bool} {N G : Nat} {Q E : List Int} (hS : ∀ q, S q = true → PrimeN q) (h : stepB S N G Q E = true) : PrimeN N := by
  unfold stepB at h
  by_cases hbad : N < 3 ∨ 9223372036854775808 ≤ N ∨ G < 1 ∨ N ≤ G ∨ Q.length ≠ E.length
  · rw [if_pos hbad] at h; cases h
  · rw [if_neg hbad] at h
    rcases hg : goQ S true 0 Q E (N - 1) with _ | left
    · rw [hg] at h; cases h
    · rw [hg] at h
      unfold lastB at h
      simp only [Bool.and_eq_true, decide_eq_true_eq] at h
      obtain ⟨h1, h2, h3⟩ := h
      subst h1
      refine pratt (by omega) (Q.map Int.toNat) (fun q hq hqd => ?_) h2 (fun q hq => ?_)
      · rcases goQ_primes hq hS Q E true 0 (N - 1) 1 hg hqd with h4 | ⟨x, hx, hxe⟩
        · have := Nat.dvd_one.1 h4
          have := hq.1
          omega
        · exact List.mem_map.2 ⟨x, hx, hxe⟩
      · obtain ⟨x, hx, rfl⟩ := List.mem_map.1 hq
        exact genB_all Q h3 x hx
theorem prime_two : PrimeN 2 := ⟨by decide, fun d hd => by
  have := Nat.le_of_dvd (by decide) hd
  rcases (show d = 0 ∨ d = 1 ∨ d = 2 by omega) with h | h | h
  · subst h; have := Nat.eq_zero_of_zero_dvd hd; omega
  · exact .inl h
  · exact .inr h⟩
theorem holdsL_prime : ∀ (l : List PSt) (S : Nat → Bool), (∀ q, S q = true → PrimeN q) → holdsL S l = true → ∀ s ∈ l, PrimeN s.N
  | [], _, _, _, s, hs => by cases hs
  | a :: r, S, hS, h, s, hs => by
    unfold holdsL at h
    by_cases hc : stepB S a.N a.G a.Q a.E = true
    · rw [if_pos hc] at h
      have ha := stepB_prime hS hc
      rcases List.mem_cons.1 hs with rfl | hs
      · exact ha
      · refine holdsL_prime r _ (fun q hq => ?_) h s hs
        rcases Bool.or_eq_true_iff.1 hq with h1 | h1
        · rw [of_decide_eq_true h1]; exact ha
        · exact hS q h1
    · rw [if_neg hc] at h; cases h
theorem holdsB_prime {n : Nat} {l : List PSt} (h : holdsB n l = true) : PrimeN n := by
  unfold holdsB at h
  by_cases h0 : l.length = 0
  · rw [if_pos h0] at h
    rw [of_decide_eq_true h]
    exact prime_two
  · rw [if_neg h0, Bool.and_eq_true] at h
    have h2 := of_decide_eq_true h.2
    have hm : l.getD (l.length - 1) PSt.nil ∈ l := by
      have hlt : l.length - 1 < l.length := by omega
      rw [show l.getD (l.length - 1) PSt.nil = l[l.length - 1] by simp [List.getD_eq_getElem?_getD, hlt]]
      exact List.getElem_mem hlt
    rw [← h2]
    refine holdsL_prime l _ (fun q hq => ?_) h.1 _ hm
    have : q = 2 := by simpa using hq
    rw [this]
    exact prime_two
theorem holds_all (n : Nat) (A : Option Addr) (c : Nat) (l : List PSt) (w : World) (hn : n ≤ 18446744073709551615) (hl : l.length ≤ 20) (hc : l.length ≤ c) (hK : KP w w.heap.size A l) :
    Calls Tryd.prog 7 #[.int .u64 (n : Int), .slice A l.length c] w fun e w' => e = .returned (.bool (holdsB n l)) ∧ Below w.heap.size w w' := by
  by_cases h0 : l.length = 0
  · have : holdsB n l = decide (n = 2) := by unfold holdsB; rw [if_pos h0]
    rw [this, h0]
    exact holds_none n A c w
  · exact holds_any n A c l w hn hl (by omega) hc hK
theorem KP.up {w w' : World} {A : Option Addr} {l : List PSt} (h : KP w w.heap.size A l) (hb : Below w.heap.size w w') : KP w' w'.heap.size A l := fun hn => by
  obtain ⟨ad, e, had, hs⟩ := h hn
  exact ⟨ad, e, Nat.lt_of_lt_of_le had hb.size, fun i hi => (hs i hi).up had hb⟩
set_option maxHeartbeats 4000000 in
theorem law_shown (n : Nat) (A : Option Addr) (c : Nat) (l : List PSt) (w : World) (hn : n ≤ 18446744073709551615) (hc : l.length ≤ c) (hll : l.length ≤ 9223372036854775807) (hK : KP w w.heap.size A l) :
    Calls Tryd.prog 4 #[.int .u64 (n : Int), .slice A l.length c] w fun e w' => e = .returned (.bool true) ∧ Below w.heap.size w w' := by
  have HK := Lib.hid hK
  clear hK
  by_cases h1 : 1099511627776 ≤ n
  · have i1 : 1099511627776 ≤ (n : Int) := by omega
    go_enter Tryd.func4, Tryd.ntmps4
    go_wp2_with (go_at_call 6; (with_reducible refine (alive_any _).mono ?_); rintro e w1 ⟨rfl, hb⟩; have HB := Lib.hid hb; clear hb)
    go_ret
    exact ⟨rfl, HB.out⟩
  · have i1 : ¬ 1099511627776 ≤ (n : Int) := by omega
    by_cases h2 : 20 < l.length
    · have i2 : 20 < (l.length : Int) := by omega
      go_enter Tryd.func4, Tryd.ntmps4
      go_wp2_with (go_at_call 6; (with_reducible refine (alive_any _).mono ?_); rintro e w1 ⟨rfl, hb⟩; have HB := Lib.hid hb; clear hb)
      go_ret
      exact ⟨rfl, HB.out⟩
    · have i2 : ¬ 20 < (l.length : Int) := by omega
      have d1 : decide (1099511627776 ≤ (n : Int)) = false := by simpa using i1
      have d2 : decide (20 < (l.length : Int)) = false := by simpa using i2
      clear i1 i2
      obtain ⟨r, hr⟩ : ∃ r, holdsB n l = r := ⟨_, rfl⟩
      have HHO : Hid (∀ W : World, Below w.heap.size w W → Calls Tryd.prog 7 #[.int .u64 (n : Int), .slice A l.length c] W fun e w' => e = .returned (.bool r) ∧ Below W.heap.size W w') := Lib.hid fun W hb => by
        rw [← hr]; exact holds_all n A c l W hn (by omega) hc (HK.out.up hb)
      cases r with
      | false =>
        clear hr
        go_enter Tryd.func4, Tryd.ntmps4
        go_wp2_with (first
          | (go_at_call 6; (with_reducible refine (alive_any _).mono ?_); rintro e w1 ⟨rfl, hb⟩; have HB := Lib.hid hb; clear hb)
          | (go_at_call 7; (with_reducible refine (HHO.out _ HB.out).mono ?_); rintro e w2 ⟨rfl, hb⟩; have HB2 := Lib.hid (below_chain HB.out hb); clear hb))
        go_ret
        exact ⟨rfl, HB2.out⟩
      | true =>
        have hp := holdsB_prime hr
        have hn2 := hp.1
        have HP := Lib.hid hp
        have I3 : Hid (1 < (n : Int)) := Lib.hid (by omega)
        have HN2 := Lib.hid hn2
        clear hr hp hn2
        go_enter Tryd.func4, Tryd.ntmps4
        go_wp2_with (first
          | (go_at_call 6; (with_reducible refine (alive_any _).mono ?_); rintro e w1 ⟨rfl, hb⟩; have HB := Lib.hid hb; clear hb)
          | (go_at_call 7; (with_reducible refine (HHO.out _ HB.out).mono ?_); rintro e w2 ⟨rfl, hb⟩; have HB2 := Lib.hid (below_chain HB.out hb); clear hb))
        go_loop [5] (fun x => ∃ d : Nat, x = .int .u64 d ∧ 2 ≤ d ∧ d ≤ n) (fun x => n - (intOf x).toNat)
        case atStart => exact ⟨2, rfl, Nat.le_refl _, HN2.out⟩
        case round =>
          obtain ⟨d, rfl, hd2, hdn⟩ := hrel
          have i3 := I3.out
          obtain ⟨q, hq⟩ : ∃ q, n / d = q := ⟨_, rfl⟩
          have hqi : (n : Int) / (d : Int) = (q : Int) := by rw [← hq, Int.natCast_ediv]
          have hqn : q ≤ n := by rw [← hq]; exact Nat.div_le_self _ _
          have hql : (q : Int) ≤ 1099511627776 := by omega
          have hd0 : ((d : Int) == 0) = false := by rw [beq_eq_false_iff_ne]; omega
          by_cases hle : d ≤ q
          · have hlei : (d : Int) ≤ (q : Int) := by omega
            have hdlt : d < n := by
              have h5 : d * d ≤ n := Nat.le_trans (Nat.mul_le_mul_left d hle) (by rw [← hq]; exact Nat.mul_div_le n d)
              have h6 : 2 * d ≤ d * d := Nat.mul_le_mul_right d hd2
              omega
            have hmod : n % d ≠ 0 := fun h => by
              rcases HP.out.2 d (Nat.dvd_of_mod_eq_zero h) with h4 | h4 <;> omega
            have hmi : ((n : Int) % (d : Int) == 0) = false := by rw [beq_eq_false_iff_ne, ← Int.natCast_emod]; omega
            clear hq hmod
            go_wp2
            go_round
            case rel => exact ⟨d + 1, by go_num, by omega, by omega⟩
            case measure => simp [intOf]; omega
          · have hlei : ¬ (d : Int) ≤ (q : Int) := by omega
            clear hq
            go_wp2
            go_ret
            exact ⟨rfl, HB2.out⟩
end Go.Proofs.YtkcnigpajhmjiaaDoor
