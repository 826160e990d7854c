/- Pratt's proof that a number is a prime: no condition. -/
import Derived.Test.YtehlnkhbfbnadaaDoorFermat
namespace Go.Proofs.YtehlnkhbfbnadaaDoor
open Go.RowKit
theorem prime_dvd : ∀ (c : Nat), 1 < c → ∃ q, PrimeN q ∧ q ∣ c := by
  intro c
  induction c using Nat.strongRecOn with
  | ind c ih =>
    intro hc
    by_cases h : ∀ d, d ∣ c → d = 1 ∨ d = c
    · exact ⟨c, ⟨hc, h⟩, Nat.dvd_refl _⟩
    · have : ∃ d, d ∣ c ∧ d ≠ 1 ∧ d ≠ c := by
        refine Classical.byContradiction fun hn => h fun d hd => ?_
        by_cases h1 : d = 1
        · exact .inl h1
        · by_cases h2 : d = c
          · exact .inr h2
          · exact absurd ⟨d, hd, h1, h2⟩ hn
      obtain ⟨d, hd, h1, h2⟩ := this
      have hle := Nat.le_of_dvd (by omega) hd
      have hd0 : d ≠ 0 := fun e => by subst e; have := Nat.eq_zero_of_zero_dvd hd; omega
      obtain ⟨q, hq, hqd⟩ := ih d (by omega) (by omega)
      exact ⟨q, hq, Nat.dvd_trans hqd hd⟩
theorem least_of {P : Nat → Prop} : ∀ (n : Nat), P n → ∃ d, P d ∧ d ≤ n ∧ ∀ j, j < d → ¬ P j := by
  intro n
  induction n using Nat.strongRecOn with
  | ind n ih =>
    intro hn
    by_cases h : ∃ j, j < n ∧ P j
    · obtain ⟨j, hj, hp⟩ := h
      obtain ⟨d, h1, h2, h3⟩ := ih j hj hp
      exact ⟨d, h1, by omega, h3⟩
    · exact ⟨n, hn, Nat.le_refl _, fun j hj hp => h ⟨j, hj, hp⟩⟩
theorem pow_one_mul {N G a : Nat} (h : G ^ a % N = 1) (hN : 1 < N) : ∀ k, G ^ (a * k) % N = 1
  | 0 => by rw [Nat.mul_zero, Nat.pow_zero, Nat.mod_eq_of_lt hN]
  | k + 1 => by
    rw [Nat.mul_succ, Nat.pow_add, Nat.mul_mod, pow_one_mul h hN k, h, Nat.one_mul, Nat.mod_eq_of_lt hN]
/-- If G to the N - 1 is 1 modulo N, and to no (N - 1)/q is, for the primes q that divide N - 1, then N is a prime. -/
theorem pratt {N G : Nat} (h3 : 3 ≤ N) (Q : List Nat) (hf : ∀ q, PrimeN q → q ∣ N - 1 → q ∈ Q) (h1 : G ^ (N - 1) % N = 1) (h2 : ∀ q ∈ Q, G ^ ((N - 1) / q) % N ≠ 1) : PrimeN N := by
  have hN : 1 < N := by omega
  obtain ⟨d, ⟨hd0, hd1⟩, hdl, hdm⟩ := least_of (P := fun j => 0 < j ∧ G ^ j % N = 1) (N - 1) ⟨by omega, h1⟩
  have hdd : d ∣ N - 1 := by
    have e := Nat.div_add_mod (N - 1) d
    have h4 : G ^ ((N - 1) % d) % N = 1 := by
      have h5 := h1
      rw [← e, Nat.pow_add, Nat.mul_mod, pow_one_mul hd1 hN, Nat.one_mul, Nat.mod_mod] at h5
      exact h5
    rcases Nat.eq_zero_or_pos ((N - 1) % d) with h5 | h5
    · exact Nat.dvd_of_mod_eq_zero h5
    · exact absurd ⟨h5, h4⟩ (hdm _ (Nat.mod_lt _ hd0))
  have hdN : d = N - 1 := by
    obtain ⟨c, hc⟩ := hdd
    by_cases hc1 : c = 1
    · rw [hc, hc1, Nat.mul_one]
    · exfalso
      have hc0 : c ≠ 0 := fun e => by rw [e, Nat.mul_zero] at hc; omega
      obtain ⟨q, hq, hqc⟩ := prime_dvd c (by omega)
      have hqN : q ∣ N - 1 := by rw [hc]; exact Nat.dvd_trans hqc (Nat.dvd_mul_left c d)
      refine h2 q (hf q hq hqN) ?_
      obtain ⟨e, he⟩ := hqc
      have : (N - 1) / q = d * e := by
        rw [hc, he, Nat.mul_left_comm, Nat.mul_div_cancel_left _ (by have := hq.1; omega)]
      rw [this]
      exact pow_one_mul hd1 hN e
  have hunit : ∀ i, i ≤ N - 1 → G ^ i * G ^ (N - 1 - i) % N = 1 := fun i hi => by
    rw [← Nat.pow_add, show i + (N - 1 - i) = N - 1 by omega]; exact h1
  have hinj : ∀ i j, i < j → j < N - 1 → G ^ i % N ≠ G ^ j % N := fun i j hij hj e => by
    have h5 : G ^ (j - i) % N = 1 := by
      have h6 := hunit i (by omega)
      have h7 : G ^ j * G ^ (N - 1 - i) % N = 1 := by rw [Nat.mul_mod, ← e, ← Nat.mul_mod]; exact h6
      rw [← Nat.pow_add, show j + (N - 1 - i) = (j - i) + (N - 1) by omega, Nat.pow_add, Nat.mul_mod, h1, Nat.mul_one, Nat.mod_mod] at h7
      exact h7
    exact hdm (j - i) (by omega) ⟨by omega, h5⟩
  have hperm : ((List.range (N - 1)).map fun i => G ^ i % N).Perm (List.range' 1 (N - 1)) := by
    refine perm_of_sub _ _ ?_ (fun y hy => ?_) (by simp)
    · rw [List.nodup_iff_pairwise_ne, List.pairwise_map]
      refine List.Pairwise.imp_of_mem (fun {x y} hx hy hlt => ?_) (List.pairwise_lt_range (n := N - 1))
      rw [List.mem_range] at hx hy
      exact hinj x y hlt hy
    · rw [List.mem_map] at hy
      obtain ⟨i, hi, rfl⟩ := hy
      rw [List.mem_range] at hi
      rw [List.mem_range'_1]
      have hlt := Nat.mod_lt (G ^ i) (show 0 < N by omega)
      refine ⟨?_, by omega⟩
      rcases Nat.eq_zero_or_pos (G ^ i % N) with h0 | h0
      · exfalso
        have := hunit i (by omega)
        rw [Nat.mul_mod, h0, Nat.zero_mul, Nat.zero_mod] at this
        omega
      · exact h0
  refine ⟨by omega, fun e he => ?_⟩
  by_cases heN : e = N
  · exact .inr heN
  · left
    have hel := Nat.le_of_dvd (by omega) he
    have he0 : e ≠ 0 := fun h => by subst h; have := Nat.eq_zero_of_zero_dvd he; omega
    have hmem : e ∈ List.range' 1 (N - 1) := by rw [List.mem_range'_1]; omega
    rw [← hperm.mem_iff, List.mem_map] at hmem
    obtain ⟨i, hi, hie⟩ := hmem
    rw [List.mem_range] at hi
    have h5 : e * G ^ (N - 1 - i) % N = 1 := by rw [← hie, Nat.mod_mul_mod]; exact hunit i (by omega)
    have h6 : e ∣ 1 := by
      have h7 := Nat.div_add_mod (e * G ^ (N - 1 - i)) N
      rw [h5] at h7
      have h8 : e ∣ N * (e * G ^ (N - 1 - i) / N) + 1 := by rw [h7]; exact Nat.dvd_mul_right _ _
      exact (Nat.dvd_add_right (Nat.dvd_trans he (Nat.dvd_mul_right _ _))).1 h8
    exact Nat.dvd_one.1 h6
/-- So often q is taken out of a number. -/
def divE (q : Nat) : Nat → Nat → Option Nat
  | 0, l => some l
  | e + 1, l => if l % q ≠ 0 then none else divE q e (l / q)
theorem divE_some {q : Nat} : ∀ (e l r : Nat), divE q e l = some r → l = r * q ^ e
  | 0, l, r, h => by
    have := Option.some.inj h
    rw [this, Nat.pow_zero, Nat.mul_one]
  | e + 1, l, r, h => by
    unfold divE at h
    by_cases h0 : l % q ≠ 0
    · rw [if_pos h0] at h; cases h
    · rw [if_neg h0] at h
      have := divE_some e (l / q) r h
      rw [Nat.pow_succ, ← Nat.mul_assoc, ← this]
      have := Nat.div_add_mod l q
      rw [Nat.mul_comm]
      omega
theorem divE_cut {q : Nat} (hq : 2 ≤ q) : ∀ (k l e : Nat), 0 < l → l < 2 ^ k → k ≤ e → divE q e l = none
  | 0, l, e, h0, hl, _ => by rw [Nat.pow_zero] at hl; omega
  | k + 1, l, 0, _, _, hk => by omega
  | k + 1, l, e + 1, h0, hl, hk => by
    unfold divE
    by_cases h1 : l % q ≠ 0
    · rw [if_pos h1]
    · rw [if_neg h1]
      have h2 := Nat.div_add_mod l q
      have h3 : 0 < l / q := by
        rcases Nat.eq_zero_or_pos (l / q) with h4 | h4
        · rw [h4, Nat.mul_zero] at h2; omega
        · exact h4
      refine divE_cut hq k (l / q) e h3 ?_ (by omega)
      rw [Nat.pow_succ] at hl
      have : l / q ≤ l / 2 := Nat.div_le_div_left hq (by omega)
      omega
/-- From a count on it is the same whether so often or 64 times. -/
theorem divE_min {q : Nat} (hq : 2 ≤ q) {l e : Nat} (h0 : 0 < l) (hl : l < 18446744073709551616) : divE q (min e 64) l = divE q e l := by
  rcases Nat.le_total e 64 with h | h
  · rw [Nat.min_eq_left h]
  · rw [Nat.min_eq_right h, divE_cut hq 64 l 64 h0 hl (Nat.le_refl _), divE_cut hq 64 l e h0 hl h]
theorem divE_pos {q e l r : Nat} (h : divE q e l = some r) (h0 : 0 < l) : 0 < r := by
  have := divE_some e l r h
  rcases Nat.eq_zero_or_pos r with h1 | h1
  · rw [h1, Nat.zero_mul] at this; omega
  · exact h1
theorem PrimeN.dvd_pow {p q : Nat} (hp : PrimeN p) (hq : PrimeN q) : ∀ e, p ∣ q ^ e → p = q
  | 0, h => by
    rw [Nat.pow_zero] at h
    have := Nat.dvd_one.1 h
    have := hp.1
    omega
  | e + 1, h => by
    rw [Nat.pow_succ] at h
    rcases hp.euclid (Nat.mod_eq_zero_of_dvd h) with h1 | h1
    · exact hp.dvd_pow hq e (Nat.dvd_of_mod_eq_zero h1)
    · rcases hq.2 p (Nat.dvd_of_mod_eq_zero h1) with h2 | h2
      · have := hp.1; omega
      · exact h2
/-- The primes of a number that go out by q. -/
theorem divE_primes {q e l r p : Nat} (hp : PrimeN p) (hq : PrimeN q) (h : divE q e l = some r) (hpl : p ∣ l) : p ∣ r ∨ p = q := by
  rw [divE_some e l r h] at hpl
  rcases hp.euclid (Nat.mod_eq_zero_of_dvd hpl) with h1 | h1
  · exact .inl (Nat.dvd_of_mod_eq_zero h1)
  · exact .inr (hp.dvd_pow hq e (Nat.dvd_of_mod_eq_zero h1))
end Go.Proofs.YtehlnkhbfbnadaaDoor
