/- The least number above another that passes: primes that are there, numbers to 2^32 and a little above: no condition. -/
import Derived.Test.YtdlnbcceafofoaaDoorRkS
namespace Go.Proofs.YtdlnbcceafofoaaDoor
open Go.RowKit
theorem few_primes {q : Nat} (h : PrimeN q) (l : List Nat) (hl : ∀ b ∈ l, PrimeN b) {n : Nat} (hn : n = prodL l) (hd : q ∣ n) : q ∈ l := by
  subst hn
  obtain ⟨b, hb, hd⟩ := h.in_prod l hd
  rcases (hl b hb).2 q hd with h1 | h1
  · have := h.1; omega
  · rw [h1]; exact hb
theorem prime_by {b : Nat} (h2 : 2 ≤ b) (k : Nat) (hk : b < k * k) (h : ∀ j, j < k → 2 ≤ j → b % j ≠ 0) : PrimeN b :=
  primeN_of_trial h2 fun j h3 h4 => h j (by
    rcases Nat.lt_or_ge j k with h5 | h5
    · exact h5
    · have := Nat.mul_le_mul h5 h5; omega) h3
theorem pratt_pm {N G : Nat} (h3 : 3 ≤ N) (Q : List Nat) (hf : ∀ q, PrimeN q → q ∣ N - 1 → q ∈ Q) (h1 : pm G N 10 (N - 1) = 1) (h2 : ∀ q ∈ Q, pm G N 10 ((N - 1) / q) ≠ 1) : PrimeN N :=
  pratt h3 Q hf (by rw [← pm_eq G N 10]; exact h1) fun q hq => by rw [← pm_eq G N 10]; exact h2 q hq
/-- A prime between 2^62 and 2^63. -/
theorem prime_great : PrimeN 6269010681299730433 := by
  refine pratt_pm (G := 5) (by omega) (3 :: 29 :: List.replicate 56 2) (fun q hq hd => few_primes hq _ ?_ (by decide +kernel) hd) ?_ ?_
  · intro b hb
    simp only [List.mem_cons, List.mem_replicate] at hb
    rcases hb with rfl | rfl | ⟨_, rfl⟩
    · exact bs_prime 3 (by decide)
    · exact bs_prime 29 (by decide)
    · exact bs_prime 2 (by decide)
  · decide +kernel
  · decide +kernel
theorem prime_next32 : PrimeN 4294967311 := by
  refine pratt_pm (G := 3) (by omega) [2, 3, 3, 5, 131, 364289] (fun q hq hd => few_primes hq _ ?_ (by decide +kernel) hd) ?_ ?_
  · intro b hb
    simp only [List.mem_cons, List.not_mem_nil, or_false] at hb
    rcases hb with rfl | rfl | rfl | rfl | rfl | rfl
    · exact bs_prime 2 (by decide)
    · exact bs_prime 3 (by decide)
    · exact bs_prime 3 (by decide)
    · exact bs_prime 5 (by decide)
    · exact prime_by (by omega) 12 (by omega) (by decide +kernel)
    · exact prime_by (by omega) 604 (by omega) (by decide +kernel)
  · decide +kernel
  · decide +kernel
theorem isMR_strongs {n o t : Nat} (hn : 38 ≤ n) (he : n - 1 = o * 2 ^ t) (ho : o % 2 = 1) (h : isMR n o t = true) : strongs n bs12 = true := by
  unfold isMR at h
  rw [if_neg (by omega)] at h
  cases hdiv : divB n bases with
  | some r =>
    rw [hdiv] at h
    have : r = true := h
    subst this
    have := (show ∀ b ∈ bases, b ≤ 37 by decide) n (divB_some bases hdiv)
    omega
  | none =>
    rw [hdiv] at h
    have hall : mrAll n o t bases = true := h
    exact strongs_of bs12 fun b hb => strong_of (by omega) he ho (mrOne_SC (mrAll_mem bases hall b hb))
theorem sound32_more {n o t : Nat} (hn : n ≤ 4294967311) (he : n - 1 = o * 2 ^ t) (ho : o % 2 = 1) (h : isMR n o t = true) : PrimeN n := by
  rcases Nat.lt_or_ge n 4294967296 with h1 | h1
  · exact sound32 h1 he ho h
  · obtain ⟨i, hi⟩ : ∃ i, n = 4294967296 + i := ⟨n - 4294967296, by omega⟩
    have hs := isMR_strongs (by omega) he ho h
    rcases Nat.lt_or_ge i 15 with h2 | h2
    · have h3 : ∀ i, i < 15 → strongs (4294967296 + i) bs12 = false := by decide +kernel
      rw [hi, h3 i h2] at hs
      exact absurd hs (by simp)
    · rw [show n = 4294967311 by omega]
      exact prime_next32
theorem isMR_even {n o t : Nat} (hn : 2 < n) (he : n % 2 = 0) : isMR n o t = false := by
  unfold isMR bases divB
  rw [if_neg (by omega), if_pos he]
  simp; omega
/-- x is the least above n that V says yes to, and not too great. -/
def NX (V : Nat → Bool) (n x : Nat) : Prop := n < x ∧ x ≤ 6269010681299730433 ∧ V x = true ∧ ∀ k, n < k → k < x → V k = false
theorem nx_some {V : Nat → Bool} (hV : ∀ n, PrimeN n → V n = true) {n : Nat} (hn : n ≤ 4611686018427387904) : ∃ x, NX V n x := by
  obtain ⟨x, ⟨h1, h2⟩, h3, hmin⟩ := least_of (P := fun d => n < d ∧ V d = true) 6269010681299730433 ⟨by omega, hV _ prime_great⟩
  refine ⟨x, h1, h3, h2, fun k h4 h5 => ?_⟩
  cases hk : V k with
  | false => rfl
  | true => exact absurd ⟨h4, hk⟩ (hmin k h5)
theorem NX.small {V : Nat → Bool} (hV : ∀ n, PrimeN n → V n = true) {n x : Nat} (hn : n < 4294967296) (h : NX V n x) : x ≤ 4294967311 := by
  rcases Nat.lt_or_ge 4294967311 x with h1 | h1
  · have := h.2.2.2 4294967311 (by omega) h1
    rw [hV _ prime_next32] at this
    exact absurd this (by simp)
  · exact h1
end Go.Proofs.YtdlnbcceafofoaaDoor
