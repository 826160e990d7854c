/- Primes: Euclid's lemma, Fermat's little theorem, Miller and Rabin's test passes a prime: no condition but that it is one. Pratt's proof that a number is a prime: no condition. Square roots modulo a prime: one that has none, and what a root is unique by; no condition but a prime's. -/
import Derived.Test.YtlndchmpnnlacaaDoorKit
namespace Go.Proofs.YtlndchmpnnlacaaDoor
open Go.RowKit
/-- A prime. -/
def PrimeN (p : Nat) : Prop := 2 ≤ p ∧ ∀ d, d ∣ p → d = 1 ∨ d = p
theorem primeN_of_trial {p : Nat} (h2 : 2 ≤ p) (h : ∀ j, 2 ≤ j → j * j ≤ p → p % j ≠ 0) : PrimeN p := by
  refine ⟨h2, fun d hd => ?_⟩
  obtain ⟨e, he⟩ := hd
  rcases Nat.lt_or_ge d 2 with h1 | h1
  · rcases (show d = 0 ∨ d = 1 by omega) with rfl | rfl
    · omega
    · exact .inl rfl
  · rcases Nat.lt_or_ge e 2 with h3 | h3
    · rcases (show e = 0 ∨ e = 1 by omega) with rfl | rfl
      · omega
      · exact .inr (by omega)
    · exfalso
      rcases Nat.le_total d e with h4 | h4
      · exact h d h1 (by rw [he]; exact Nat.mul_le_mul_left d h4) (by rw [he]; exact Nat.mul_mod_right d e)
      · exact h e h3 (by rw [he]; exact Nat.mul_le_mul_right e h4) (by rw [he]; exact Nat.mul_mod_left d e)
theorem PrimeN.coprime {p a : Nat} (h : PrimeN p) (ha : a % p ≠ 0) : Nat.Coprime p a := by
  rcases h.2 (Nat.gcd p a) (Nat.gcd_dvd_left p a) with h1 | h1
  · exact h1
  · exfalso
    have := Nat.gcd_dvd_right p a
    rw [h1] at this
    exact ha (Nat.mod_eq_zero_of_dvd this)
theorem PrimeN.euclid {p a b : Nat} (h : PrimeN p) (hab : (a * b) % p = 0) : a % p = 0 ∨ b % p = 0 := by
  by_cases ha : a % p = 0
  · exact .inl ha
  · right
    have hd : p ∣ a * b := Nat.dvd_of_mod_eq_zero hab
    exact Nat.mod_eq_zero_of_dvd ((h.coprime ha).dvd_of_dvd_mul_left hd)
theorem sub_mod_zero {p x y : Nat} (hxy : y ≤ x) (h : (x - y) % p = 0) : x % p = y % p := by
  obtain ⟨e, he⟩ := Nat.dvd_of_mod_eq_zero h
  have : x = y + p * e := by omega
  rw [this, Nat.add_mul_mod_self_left]
theorem mod_sub_zero {p x y : Nat} (hxy : y ≤ x) (h : x % p = y % p) : (x - y) % p = 0 := by
  have h1 := Nat.div_add_mod x p
  have h2 := Nat.div_add_mod y p
  rw [← h] at h2
  have : x - y = p * (x / p - y / p) := by
    rw [Nat.mul_sub]; omega
  rw [this, Nat.mul_mod_right]
/-- What is coprime to p may be struck. -/
theorem PrimeN.cancel {p a x y : Nat} (h : PrimeN p) (ha : a % p ≠ 0) (he : (a * x) % p = (a * y) % p) : x % p = y % p := by
  rcases Nat.le_total y x with hxy | hxy
  · have h1 := mod_sub_zero (Nat.mul_le_mul_left a hxy) he
    rw [← Nat.mul_sub] at h1
    rcases h.euclid h1 with h2 | h2
    · exact absurd h2 ha
    · exact sub_mod_zero hxy h2
  · have h1 := mod_sub_zero (Nat.mul_le_mul_left a hxy) he.symm
    rw [← Nat.mul_sub] at h1
    rcases h.euclid h1 with h2 | h2
    · exact absurd h2 ha
    · exact (sub_mod_zero hxy h2).symm
/-- Two lists without repeats, one in the other, as long: one is the other in another order. -/
theorem perm_of_sub : ∀ (l m : List Nat), l.Nodup → (∀ x ∈ l, x ∈ m) → m.length ≤ l.length → l.Perm m
  | [], m, _, _, hl => by
    have : m = [] := List.eq_nil_of_length_eq_zero (by simpa using hl)
    subst this
    exact List.Perm.refl _
  | x :: t, m, hn, hs, hl => by
    have hx : x ∈ m := hs x (by simp)
    have hp := List.perm_cons_erase hx
    rw [List.nodup_cons] at hn
    refine (List.Perm.cons x (perm_of_sub t (m.erase x) hn.2 (fun y hy => ?_) ?_)).trans hp.symm
    · have hne : y ≠ x := fun e => hn.1 (e ▸ hy)
      exact (List.mem_erase_of_ne hne).2 (hs y (by simp [hy]))
    · rw [List.length_erase_of_mem hx]
      simp at hl
      omega
def prodL : List Nat → Nat
  | [] => 1
  | x :: t => x * prodL t
theorem prodL_perm {l m : List Nat} (h : l.Perm m) : prodL l = prodL m := by
  induction h with
  | nil => rfl
  | cons x _ ih => simp only [prodL, ih]
  | swap x y l => simp only [prodL]; rw [← Nat.mul_assoc, ← Nat.mul_assoc, Nat.mul_comm x y]
  | trans _ _ h1 h2 => exact h1.trans h2
theorem prodL_mul (a p : Nat) : ∀ l : List Nat, prodL (l.map fun x => a * x % p) % p = (a ^ l.length * prodL l) % p
  | [] => by simp [prodL]
  | x :: t => by
    have ih := prodL_mul a p t
    simp only [List.map_cons, prodL, List.length_cons]
    rw [Nat.mul_mod, ih, Nat.mod_mod, ← Nat.mul_mod]
    congr 1
    rw [Nat.pow_succ]
    simp only [Nat.mul_assoc, Nat.mul_left_comm, Nat.mul_comm]
theorem prodL_ne {p : Nat} (h : PrimeN p) : ∀ l : List Nat, (∀ x ∈ l, x % p ≠ 0) → prodL l % p ≠ 0
  | [], _ => by
    simp only [prodL]
    have := h.1
    rw [Nat.mod_eq_of_lt (by omega)]
    omega
  | x :: t, hx => fun e => by
    rcases h.euclid e with h1 | h1
    · exact hx x (by simp) h1
    · exact prodL_ne h t (fun y hy => hx y (by simp [hy])) h1
theorem PrimeN.fermat {p a : Nat} (h : PrimeN p) (ha : a % p ≠ 0) : a ^ (p - 1) % p = 1 := by
  have h2 := h.1
  have hmem : ∀ x, x ∈ List.range' 1 (p - 1) ↔ 1 ≤ x ∧ x < p := by
    intro x
    rw [List.mem_range'_1]
    omega
  have hnz : ∀ x ∈ List.range' 1 (p - 1), x % p ≠ 0 := by
    intro x hx
    have := (hmem x).1 hx
    rw [Nat.mod_eq_of_lt this.2]
    omega
  have hperm : ((List.range' 1 (p - 1)).map fun x => a * x % p).Perm (List.range' 1 (p - 1)) := by
    refine perm_of_sub _ _ ?_ (fun y hy => ?_) (by simp)
    · rw [List.nodup_iff_pairwise_ne, List.pairwise_map]
      have hnd := (List.nodup_range' (s := 1) (n := p - 1))
      rw [List.nodup_iff_pairwise_ne] at hnd
      refine List.Pairwise.imp_of_mem (fun {x y} hx hy hne e => hne ?_) hnd
      have := h.cancel ha e
      rw [Nat.mod_eq_of_lt ((hmem x).1 hx).2, Nat.mod_eq_of_lt ((hmem y).1 hy).2] at this
      exact this
    · rw [List.mem_map] at hy
      obtain ⟨x, hx, rfl⟩ := hy
      rw [hmem]
      refine ⟨?_, Nat.mod_lt _ (by omega)⟩
      have : a * x % p ≠ 0 := fun e => by
        rcases h.euclid e with h1 | h1
        · exact ha h1
        · exact hnz x hx h1
      omega
  have h3 := prodL_mul a p (List.range' 1 (p - 1))
  rw [prodL_perm hperm, List.length_range'] at h3
  have h4 : (prodL (List.range' 1 (p - 1)) * a ^ (p - 1)) % p = (prodL (List.range' 1 (p - 1)) * 1) % p := by
    rw [Nat.mul_one, Nat.mul_comm]; exact h3.symm
  have h5 := h.cancel (prodL_ne h _ hnz) h4
  rw [h5, Nat.mod_eq_of_lt (by omega)]
theorem PrimeN.fermat_all {p a : Nat} (h : PrimeN p) (ha : a < p) : a ^ p % p = a := by
  by_cases h0 : a = 0
  · subst h0
    rw [Nat.zero_pow (by omega), Nat.zero_mod]
  · have h1 := h.fermat (a := a) (by rw [Nat.mod_eq_of_lt ha]; exact h0)
    have h2 := h.1
    rw [show p = (p - 1) + 1 by omega, Nat.pow_succ, ← show p = (p - 1) + 1 by omega, Nat.mul_mod, h1, Nat.one_mul, Nat.mod_mod, Nat.mod_eq_of_lt ha]
theorem PrimeN.inv {p a : Nat} (h : PrimeN p) (ha : a % p ≠ 0) : a * (a ^ (p - 2) % p) % p = 1 := by
  have h2 := h.1
  rw [Nat.mul_mod_mod, Nat.mul_comm, ← Nat.pow_succ, show (p - 2).succ = p - 1 by omega]
  exact h.fermat ha
theorem PrimeN.inv_unique {p a x y : Nat} (h : PrimeN p) (hx : x < p) (hy : y < p) (h1 : a * x % p = 1) (h2 : a * y % p = 1) : x = y := by
  have ha : a % p ≠ 0 := fun e => by
    rw [Nat.mul_mod, e, Nat.zero_mul, Nat.zero_mod] at h1; omega
  have := h.cancel ha (h1.trans h2.symm)
  rwa [Nat.mod_eq_of_lt hx, Nat.mod_eq_of_lt hy] at this
/-- Of a square that is 1 modulo a prime the root is 1 or less one. -/
theorem PrimeN.sq_one {p x : Nat} (h : PrimeN p) (hx : x < p) (h1 : x * x % p = 1) : x = 1 ∨ x = p - 1 := by
  have h2 := h.1
  by_cases h0 : x = 0
  · subst h0; simp at h1
  · have h3 : ((x - 1) * (x + 1)) % p = 0 := by
      have : (x - 1) * (x + 1) = x * x - 1 := by
        obtain ⟨y, rfl⟩ : ∃ y, x = y + 1 := ⟨x - 1, by omega⟩
        rw [Nat.add_sub_cancel]
        have e1 : y * (y + 1 + 1) = y * y + y + y := by rw [Nat.mul_add, Nat.mul_add, Nat.mul_one]
        have e2 : (y + 1) * (y + 1) = y * y + y + y + 1 := by rw [Nat.mul_add, Nat.add_mul]; omega
        omega
      rw [this]
      exact mod_sub_zero (by have := Nat.mul_pos (show 0 < x by omega) (show 0 < x by omega); omega) (by rw [h1, Nat.mod_eq_of_lt (by omega)])
    rcases h.euclid h3 with h4 | h4
    · left
      rw [Nat.mod_eq_of_lt (by omega)] at h4; omega
    · right
      rcases Nat.lt_or_ge (x + 1) p with h5 | h5
      · rw [Nat.mod_eq_of_lt h5] at h4; omega
      · omega
/-- One base of Miller and Rabin's test passes: x, squared up to so many times, comes to less one. -/
def mrRow (n : Nat) : Nat → Nat → Bool
  | 0, _ => false
  | t + 1, x => if x = n - 1 then true else mrRow n t (x * x % n)
theorem PrimeN.mrRow_up {p : Nat} (h : PrimeN p) : ∀ (t x : Nat), x < p → x ≠ 1 → x ^ 2 ^ t % p = 1 → mrRow p t x = true
  | 0, x, hx, hne, h1 => by
    rw [Nat.pow_zero, Nat.pow_one, Nat.mod_eq_of_lt hx] at h1
    exact absurd h1 hne
  | t + 1, x, hx, hne, h1 => by
    unfold mrRow
    by_cases hm : x = p - 1
    · rw [if_pos hm]
    · rw [if_neg hm]
      have h2 := h.1
      refine h.mrRow_up t _ (Nat.mod_lt _ (by omega)) (fun e => ?_) ?_
      · rcases h.sq_one hx e with h3 | h3
        · exact hne h3
        · exact hm h3
      · rw [← Nat.pow_mod]
        have e : (x * x) ^ 2 ^ t = x ^ 2 ^ (t + 1) := by
          rw [← Nat.pow_two, ← Nat.pow_mul, Nat.pow_succ, Nat.mul_comm 2]
        rw [e]
        exact h1
theorem PrimeN.mr_passes {p b o t : Nat} (h : PrimeN p) (hb : b % p ≠ 0) (he : p - 1 = o * 2 ^ t) : b ^ o % p = 1 ∨ mrRow p t (b ^ o % p) = true := by
  have h2 := h.1
  by_cases h1 : b ^ o % p = 1
  · exact .inl h1
  · right
    refine h.mrRow_up t _ (Nat.mod_lt _ (by omega)) h1 ?_
    rw [← Nat.pow_mod, ← Nat.pow_mul, ← he]
    exact h.fermat hb
end Go.Proofs.YtlndchmpnnlacaaDoor

namespace Go.Proofs.YtlndchmpnnlacaaDoor
open Go.RowKit
theorem prime_dvd : ∀ (c : Nat), 1 < c → ∃ q, PrimeN q ∧ q ∣ c := by
  intro c
  induction c using Nat.strongRecOn with
  | ind c ih =>
    intro hc
    by_cases h : ∀ d, d ∣ c → d = 1 ∨ d = c
    · exact ⟨c, ⟨hc, h⟩, Nat.dvd_refl _⟩
    · have : ∃ d, d ∣ c ∧ d ≠ 1 ∧ d ≠ c := by
        refine Classical.byContradiction fun hn => h fun d hd => ?_
        by_cases h1 : d = 1
        · exact .inl h1
        · by_cases h2 : d = c
          · exact .inr h2
          · exact absurd ⟨d, hd, h1, h2⟩ hn
      obtain ⟨d, hd, h1, h2⟩ := this
      have hle := Nat.le_of_dvd (by omega) hd
      have hd0 : d ≠ 0 := fun e => by subst e; have := Nat.eq_zero_of_zero_dvd hd; omega
      obtain ⟨q, hq, hqd⟩ := ih d (by omega) (by omega)
      exact ⟨q, hq, Nat.dvd_trans hqd hd⟩
theorem least_of {P : Nat → Prop} : ∀ (n : Nat), P n → ∃ d, P d ∧ d ≤ n ∧ ∀ j, j < d → ¬ P j := by
  intro n
  induction n using Nat.strongRecOn with
  | ind n ih =>
    intro hn
    by_cases h : ∃ j, j < n ∧ P j
    · obtain ⟨j, hj, hp⟩ := h
      obtain ⟨d, h1, h2, h3⟩ := ih j hj hp
      exact ⟨d, h1, by omega, h3⟩
    · exact ⟨n, hn, Nat.le_refl _, fun j hj hp => h ⟨j, hj, hp⟩⟩
theorem pow_one_mul {N G a : Nat} (h : G ^ a % N = 1) (hN : 1 < N) : ∀ k, G ^ (a * k) % N = 1
  | 0 => by rw [Nat.mul_zero, Nat.pow_zero, Nat.mod_eq_of_lt hN]
  | k + 1 => by
    rw [Nat.mul_succ, Nat.pow_add, Nat.mul_mod, pow_one_mul h hN k, h, Nat.one_mul, Nat.mod_eq_of_lt hN]
/-- If G to the N - 1 is 1 modulo N, and to no (N - 1)/q is, for the primes q that divide N - 1, then N is a prime. -/
theorem pratt {N G : Nat} (h3 : 3 ≤ N) (Q : List Nat) (hf : ∀ q, PrimeN q → q ∣ N - 1 → q ∈ Q) (h1 : G ^ (N - 1) % N = 1) (h2 : ∀ q ∈ Q, G ^ ((N - 1) / q) % N ≠ 1) : PrimeN N := by
  have hN : 1 < N := by omega
  obtain ⟨d, ⟨hd0, hd1⟩, hdl, hdm⟩ := least_of (P := fun j => 0 < j ∧ G ^ j % N = 1) (N - 1) ⟨by omega, h1⟩
  have hdd : d ∣ N - 1 := by
    have e := Nat.div_add_mod (N - 1) d
    have h4 : G ^ ((N - 1) % d) % N = 1 := by
      have h5 := h1
      rw [← e, Nat.pow_add, Nat.mul_mod, pow_one_mul hd1 hN, Nat.one_mul, Nat.mod_mod] at h5
      exact h5
    rcases Nat.eq_zero_or_pos ((N - 1) % d) with h5 | h5
    · exact Nat.dvd_of_mod_eq_zero h5
    · exact absurd ⟨h5, h4⟩ (hdm _ (Nat.mod_lt _ hd0))
  have hdN : d = N - 1 := by
    obtain ⟨c, hc⟩ := hdd
    by_cases hc1 : c = 1
    · rw [hc, hc1, Nat.mul_one]
    · exfalso
      have hc0 : c ≠ 0 := fun e => by rw [e, Nat.mul_zero] at hc; omega
      obtain ⟨q, hq, hqc⟩ := prime_dvd c (by omega)
      have hqN : q ∣ N - 1 := by rw [hc]; exact Nat.dvd_trans hqc (Nat.dvd_mul_left c d)
      refine h2 q (hf q hq hqN) ?_
      obtain ⟨e, he⟩ := hqc
      have : (N - 1) / q = d * e := by
        rw [hc, he, Nat.mul_left_comm, Nat.mul_div_cancel_left _ (by have := hq.1; omega)]
      rw [this]
      exact pow_one_mul hd1 hN e
  have hunit : ∀ i, i ≤ N - 1 → G ^ i * G ^ (N - 1 - i) % N = 1 := fun i hi => by
    rw [← Nat.pow_add, show i + (N - 1 - i) = N - 1 by omega]; exact h1
  have hinj : ∀ i j, i < j → j < N - 1 → G ^ i % N ≠ G ^ j % N := fun i j hij hj e => by
    have h5 : G ^ (j - i) % N = 1 := by
      have h6 := hunit i (by omega)
      have h7 : G ^ j * G ^ (N - 1 - i) % N = 1 := by rw [Nat.mul_mod, ← e, ← Nat.mul_mod]; exact h6
      rw [← Nat.pow_add, show j + (N - 1 - i) = (j - i) + (N - 1) by omega, Nat.pow_add, Nat.mul_mod, h1, Nat.mul_one, Nat.mod_mod] at h7
      exact h7
    exact hdm (j - i) (by omega) ⟨by omega, h5⟩
  have hperm : ((List.range (N - 1)).map fun i => G ^ i % N).Perm (List.range' 1 (N - 1)) := by
    refine perm_of_sub _ _ ?_ (fun y hy => ?_) (by simp)
    · rw [List.nodup_iff_pairwise_ne, List.pairwise_map]
      refine List.Pairwise.imp_of_mem (fun {x y} hx hy hlt => ?_) (List.pairwise_lt_range (n := N - 1))
      rw [List.mem_range] at hx hy
      exact hinj x y hlt hy
    · rw [List.mem_map] at hy
      obtain ⟨i, hi, rfl⟩ := hy
      rw [List.mem_range] at hi
      rw [List.mem_range'_1]
      have hlt := Nat.mod_lt (G ^ i) (show 0 < N by omega)
      refine ⟨?_, by omega⟩
      rcases Nat.eq_zero_or_pos (G ^ i % N) with h0 | h0
      · exfalso
        have := hunit i (by omega)
        rw [Nat.mul_mod, h0, Nat.zero_mul, Nat.zero_mod] at this
        omega
      · exact h0
  refine ⟨by omega, fun e he => ?_⟩
  by_cases heN : e = N
  · exact .inr heN
  · left
    have hel := Nat.le_of_dvd (by omega) he
    have he0 : e ≠ 0 := fun h => by subst h; have := Nat.eq_zero_of_zero_dvd he; omega
    have hmem : e ∈ List.range' 1 (N - 1) := by rw [List.mem_range'_1]; omega
    rw [← hperm.mem_iff, List.mem_map] at hmem
    obtain ⟨i, hi, hie⟩ := hmem
    rw [List.mem_range] at hi
    have h5 : e * G ^ (N - 1 - i) % N = 1 := by rw [← hie, Nat.mod_mul_mod]; exact hunit i (by omega)
    have h6 : e ∣ 1 := by
      have h7 := Nat.div_add_mod (e * G ^ (N - 1 - i)) N
      rw [h5] at h7
      have h8 : e ∣ N * (e * G ^ (N - 1 - i) / N) + 1 := by rw [h7]; exact Nat.dvd_mul_right _ _
      exact (Nat.dvd_add_right (Nat.dvd_trans he (Nat.dvd_mul_right _ _))).1 h8
    exact Nat.dvd_one.1 h6
/-- So often q is taken out of a number. -/
def divE (q : Nat) : Nat → Nat → Option Nat
  | 0, l => some l
  | e + 1, l => if l % q ≠ 0 then none else divE q e (l / q)
theorem divE_some {q : Nat} : ∀ (e l r : Nat), divE q e l = some r → l = r * q ^ e
  | 0, l, r, h => by
    have := Option.some.inj h
    rw [this, Nat.pow_zero, Nat.mul_one]
  | e + 1, l, r, h => by
    unfold divE at h
    by_cases h0 : l % q ≠ 0
    · rw [if_pos h0] at h; cases h
    · rw [if_neg h0] at h
      have := divE_some e (l / q) r h
      rw [Nat.pow_succ, ← Nat.mul_assoc, ← this]
      have := Nat.div_add_mod l q
      rw [Nat.mul_comm]
      omega
theorem divE_cut {q : Nat} (hq : 2 ≤ q) : ∀ (k l e : Nat), 0 < l → l < 2 ^ k → k ≤ e → divE q e l = none
  | 0, l, e, h0, hl, _ => by rw [Nat.pow_zero] at hl; omega
  | k + 1, l, 0, _, _, hk => by omega
  | k + 1, l, e + 1, h0, hl, hk => by
    unfold divE
    by_cases h1 : l % q ≠ 0
    · rw [if_pos h1]
    · rw [if_neg h1]
      have h2 := Nat.div_add_mod l q
      have h3 : 0 < l / q := by
        rcases Nat.eq_zero_or_pos (l / q) with h4 | h4
        · rw [h4, Nat.mul_zero] at h2; omega
        · exact h4
      refine divE_cut hq k (l / q) e h3 ?_ (by omega)
      rw [Nat.pow_succ] at hl
      have : l / q ≤ l / 2 := Nat.div_le_div_left hq (by omega)
      omega
/-- From a count on it is the same whether so often or 64 times. -/
theorem divE_min {q : Nat} (hq : 2 ≤ q) {l e : Nat} (h0 : 0 < l) (hl : l < 18446744073709551616) : divE q (min e 64) l = divE q e l := by
  rcases Nat.le_total e 64 with h | h
  · rw [Nat.min_eq_left h]
  · rw [Nat.min_eq_right h, divE_cut hq 64 l 64 h0 hl (Nat.le_refl _), divE_cut hq 64 l e h0 hl h]
theorem divE_pos {q e l r : Nat} (h : divE q e l = some r) (h0 : 0 < l) : 0 < r := by
  have := divE_some e l r h
  rcases Nat.eq_zero_or_pos r with h1 | h1
  · rw [h1, Nat.zero_mul] at this; omega
  · exact h1
theorem PrimeN.dvd_pow {p q : Nat} (hp : PrimeN p) (hq : PrimeN q) : ∀ e, p ∣ q ^ e → p = q
  | 0, h => by
    rw [Nat.pow_zero] at h
    have := Nat.dvd_one.1 h
    have := hp.1
    omega
  | e + 1, h => by
    rw [Nat.pow_succ] at h
    rcases hp.euclid (Nat.mod_eq_zero_of_dvd h) with h1 | h1
    · exact hp.dvd_pow hq e (Nat.dvd_of_mod_eq_zero h1)
    · rcases hq.2 p (Nat.dvd_of_mod_eq_zero h1) with h2 | h2
      · have := hp.1; omega
      · exact h2
/-- The primes of a number that go out by q. -/
theorem divE_primes {q e l r p : Nat} (hp : PrimeN p) (hq : PrimeN q) (h : divE q e l = some r) (hpl : p ∣ l) : p ∣ r ∨ p = q := by
  rw [divE_some e l r h] at hpl
  rcases hp.euclid (Nat.mod_eq_zero_of_dvd hpl) with h1 | h1
  · exact .inl (Nat.dvd_of_mod_eq_zero h1)
  · exact .inr (hp.dvd_pow hq e (Nat.dvd_of_mod_eq_zero h1))
end Go.Proofs.YtlndchmpnnlacaaDoor

namespace Go.Proofs.YtlndchmpnnlacaaDoor
open Go.RowKit
def evL : List Int → Int → Int
  | [], _ => 0
  | c :: cs, x => c + x * evL cs x
def quoL : List Int → Int → List Int
  | [], _ => []
  | [_], _ => []
  | _ :: c :: cs, r => evL (c :: cs) r :: quoL (c :: cs) r
theorem quoL_ev : ∀ (cs : List Int) (r x : Int), evL cs x = evL cs r + (x - r) * evL (quoL cs r) x
  | [], r, x => by simp [evL, quoL]
  | [c], r, x => by simp [evL, quoL]
  | c :: d :: cs, r, x => by
    have ih := quoL_ev (d :: cs) r x
    show c + x * evL (d :: cs) x = c + r * evL (d :: cs) r + (x - r) * (evL (d :: cs) r + x * evL (quoL (d :: cs) r) x)
    rw [ih, Int.mul_add x, Int.mul_add (x - r), Int.mul_left_comm x (x - r), Int.sub_mul x r (evL (d :: cs) r)]
    omega
theorem quoL_len : ∀ (c : Int) (cs : List Int) (r : Int), (quoL (c :: cs) r).length = cs.length
  | _, [], _ => rfl
  | _, d :: cs, r => by
    show (quoL (d :: cs) r).length + 1 = cs.length + 1
    rw [quoL_len d cs r]
theorem quoL_last : ∀ (c d : Int) (cs : List Int) (r : Int), (quoL (c :: d :: cs) r).getLast? = (d :: cs).getLast?
  | c, d, [], r => by simp [quoL, evL]
  | c, d, e :: cs, r => by
    have ih := quoL_last d e cs r
    show (evL (d :: e :: cs) r :: quoL (d :: e :: cs) r).getLast? = _
    rw [List.getLast?_cons_cons]
    rw [← ih]
    rcases hq : quoL (d :: e :: cs) r with _ | ⟨y, ys⟩
    · have := quoL_len d (e :: cs) r
      rw [hq] at this
      simp at this
    · rw [List.getLast?_cons_cons]
theorem PrimeN.euclidZ {p : Nat} (h : PrimeN p) {a b : Int} (hd : (p : Int) ∣ a * b) : (p : Int) ∣ a ∨ (p : Int) ∣ b := by
  have h1 : p ∣ a.natAbs * b.natAbs := by
    have := Int.natAbs_dvd_natAbs.2 hd
    rwa [Int.natAbs_mul, Int.natAbs_natCast] at this
  rcases h.euclid (Nat.mod_eq_zero_of_dvd h1) with h2 | h2
  · exact .inl (Int.ofNat_dvd_left.2 (Nat.dvd_of_mod_eq_zero h2))
  · exact .inr (Int.ofNat_dvd_left.2 (Nat.dvd_of_mod_eq_zero h2))
/-- A polynomial whose leading coefficient is 1 has at most as many roots as its degree. -/
theorem PrimeN.roots {p : Nat} (h : PrimeN p) : ∀ (n : Nat) (cs : List Int), cs.length = n + 1 → cs.getLast? = some 1 → ∀ l : List Int, l.Pairwise (fun x y => ¬ (p : Int) ∣ y - x) → (∀ x ∈ l, (p : Int) ∣ evL cs x) → l.length ≤ n
  | n, cs, hl, hlast, [], _, _ => Nat.zero_le _
  | 0, [c], _, hlast, r :: t, _, hz => by
    exfalso
    have hc : c = 1 := by simpa using hlast
    have := hz r (by simp)
    subst hc
    simp only [evL, Int.mul_zero, Int.add_zero] at this
    have h2 := h.1
    have := Int.le_of_dvd (by omega) this
    omega
  | n + 1, c :: d :: cs, hl, hlast, r :: t, hp, hz => by
    rw [List.pairwise_cons] at hp
    have := h.roots n (quoL (c :: d :: cs) r) (by rw [quoL_len]; simpa using hl) (by rw [quoL_last]; simpa [List.getLast?_cons_cons] using hlast) t hp.2 (fun x hx => by
      have h1 := hz x (by simp [hx])
      have h2 := hz r (by simp)
      rw [quoL_ev (c :: d :: cs) r x] at h1
      have h3 : (p : Int) ∣ (x - r) * evL (quoL (c :: d :: cs) r) x := by
        have := Int.dvd_sub h1 h2
        rwa [Int.add_comm, Int.add_sub_cancel] at this
      rcases h.euclidZ h3 with h4 | h4
      · exact absurd h4 (hp.1 x hx)
      · exact h4)
    simp
    omega
  | 0, c :: d :: cs, hl, _, _ :: _, _, _ => by simp at hl
  | n + 1, [c], hl, _, _ :: _, _, _ => by simp at hl
  | 0, [], hl, _, _ :: _, _, _ => by simp at hl
  | n + 1, [], hl, _, _ :: _, _, _ => by simp at hl
def xkL (k : Nat) : List Int := List.replicate k 0 ++ [1]
theorem xkL_ev : ∀ (k : Nat) (x : Int), evL (xkL k) x = x ^ k
  | 0, x => by simp [xkL, evL]
  | k + 1, x => by
    have ih := xkL_ev k x
    unfold xkL at ih ⊢
    rw [List.replicate_succ, List.cons_append]
    simp only [evL]
    rw [ih, Int.pow_succ, Int.mul_comm]
    omega
/-- An element that is no square, by Euler's criterion. -/
theorem PrimeN.nonres {p : Nat} (h : PrimeN p) (h3 : 3 ≤ p) : ∃ z, 2 ≤ z ∧ z < p ∧ z ^ ((p - 1) / 2) % p ≠ 1 := by
  by_cases hex : ∃ z, 2 ≤ z ∧ z < p ∧ z ^ ((p - 1) / 2) % p ≠ 1
  · exact hex
  · exfalso
    obtain ⟨k, hk⟩ : ∃ k, (p - 1) / 2 = k + 1 := ⟨(p - 1) / 2 - 1, by omega⟩
    rw [hk] at hex
    have hall : ∀ z, 1 ≤ z → z < p → z ^ (k + 1) % p = 1 := fun z h1 h2 => by
      by_cases hz : z = 1
      · rw [hz, Nat.one_pow, Nat.mod_eq_of_lt (by omega)]
      · by_cases he : z ^ (k + 1) % p = 1
        · exact he
        · exact absurd ⟨z, by omega, h2, he⟩ hex
    have := h.roots (k + 1) (-1 :: xkL k) (by simp [xkL]) (by simp [xkL, List.getLast?_cons]) ((List.range' 1 (p - 1)).map fun z : Nat => (z : Int)) (by
      rw [List.pairwise_map]
      have hnd := (List.pairwise_lt_range' (s := 1) (n := p - 1))
      refine List.Pairwise.imp_of_mem (fun {x y} hx hy hlt hd => ?_) hnd
      rw [List.mem_range'_1] at hx hy
      have := Int.le_of_dvd (by omega) hd
      omega) (fun x hx => by
      rw [List.mem_map] at hx
      obtain ⟨z, hz, rfl⟩ := hx
      rw [List.mem_range'_1] at hz
      have := hall z (by omega) (by omega)
      simp only [evL]
      rw [xkL_ev]
      have e : -1 + (z : Int) * (z : Int) ^ k = ((z ^ (k + 1) : Nat) : Int) - 1 := by
        rw [Nat.pow_succ, Int.natCast_mul, Int.natCast_pow, Int.mul_comm]; omega
      rw [e]
      have hdm := Nat.div_add_mod (z ^ (k + 1)) p
      rw [this] at hdm
      obtain ⟨N, hN⟩ : ∃ N, z ^ (k + 1) = N := ⟨_, rfl⟩
      obtain ⟨q, hq⟩ : ∃ q, N / p = q := ⟨_, rfl⟩
      rw [hN, hq] at hdm
      rw [hN]
      exact ⟨(q : Int), by rw [← hdm, Int.natCast_add, Int.natCast_mul]; simp⟩)
    rw [List.length_map, List.length_range'] at this
    omega
theorem PrimeN.odd {p : Nat} (h : PrimeN p) (h3 : 3 ≤ p) : p % 2 = 1 := by
  rcases (show p % 2 = 0 ∨ p % 2 = 1 by omega) with h0 | h1
  · rcases h.2 2 (Nat.dvd_of_mod_eq_zero h0) with h2 | h2 <;> omega
  · exact h1
/-- Euler: of what is not 0 the power by half of p - 1 is 1 or less one. -/
theorem PrimeN.euler {p a : Nat} (h : PrimeN p) (h3 : 3 ≤ p) (ha : a % p ≠ 0) : a ^ ((p - 1) / 2) % p = 1 ∨ a ^ ((p - 1) / 2) % p = p - 1 := by
  have ho := h.odd h3
  refine h.sq_one (Nat.mod_lt _ (by omega)) ?_
  rw [← Nat.mul_mod, ← Nat.pow_add, show (p - 1) / 2 + (p - 1) / 2 = p - 1 by omega]
  exact h.fermat ha
theorem PrimeN.sq_same {p x y : Nat} (h : PrimeN p) (hx : x < p) (hy : y < p) (e : x * x % p = y * y % p) : x = y ∨ x + y = p ∨ (x = 0 ∧ y = 0) := by
  have hd : (p : Int) ∣ ((x : Int) - y) * ((x : Int) + y) := by
    have e1 : ((x : Int) - y) * ((x : Int) + y) = (x : Int) * x - (y : Int) * y := by
      rw [Int.sub_mul, Int.mul_add, Int.mul_add, Int.mul_comm (y : Int) x]; omega
    rw [e1, ← Int.natCast_mul, ← Int.natCast_mul]
    have h1 := Nat.div_add_mod (x * x) p
    have h2 := Nat.div_add_mod (y * y) p
    rw [← e] at h2
    exact ⟨((x * x / p : Nat) : Int) - ((y * y / p : Nat) : Int), by
      rw [← h1, ← h2, Int.mul_sub, Int.natCast_add, Int.natCast_add, Int.natCast_mul, Int.natCast_mul]
      rw [h1, h2]
      omega⟩
  rcases h.euclidZ hd with h1 | h1
  · left
    by_cases hxy : x = y
    · exact hxy
    · exfalso
      rcases Nat.lt_or_ge x y with hl | hl
      · have := Int.le_of_dvd (by omega) ((Int.dvd_neg).2 h1)
        omega
      · have := Int.le_of_dvd (by omega) h1
        omega
  · right
    by_cases h0 : x + y = 0
    · right; omega
    · left
      obtain ⟨c, hc⟩ := h1
      have h2 : (p : Int) ≤ (x : Int) + y := Int.le_of_dvd (by omega) ⟨c, hc⟩
      have h3 : c = 1 := by
        rcases (show c ≤ 0 ∨ c = 1 ∨ 2 ≤ c by omega) with h4 | h4 | h4
        · have : (p : Int) * c ≤ 0 := Int.mul_nonpos_of_nonneg_of_nonpos (by omega) h4
          omega
        · exact h4
        · have : (p : Int) * 2 ≤ p * c := Int.mul_le_mul_of_nonneg_left h4 (by omega)
          omega
      rw [h3] at hc
      omega
theorem PrimeN.root_unique {p x y : Nat} (h : PrimeN p) (hx : x < p) (hy : y < p) (e : x * x % p = y * y % p) (hx0 : 0 < x) (_hy0 : 0 < y) : min x (p - x) = min y (p - y) := by
  rcases h.sq_same hx hy e with h1 | h1 | h1 <;> omega
theorem less_less {p : Nat} (h2 : 2 ≤ p) : (p - 1) * (p - 1) % p = 1 := by
  obtain ⟨k, rfl⟩ : ∃ k, p = k + 2 := ⟨p - 2, by omega⟩
  have : (k + 2 - 1) * (k + 2 - 1) = 1 + (k + 2) * k := by
    rw [show k + 2 - 1 = k + 1 by omega, Nat.add_mul, Nat.mul_add, Nat.add_mul]; omega
  rw [this, Nat.add_mul_mod_self_left, Nat.mod_eq_of_lt (by omega)]
theorem sq_pow {p g k : Nat} : (g * g % p) ^ 2 ^ k % p = g ^ 2 ^ (k + 1) % p := by
  rw [← Nat.pow_mod, ← Nat.pow_two, ← Nat.pow_mul, Nat.pow_succ, Nat.mul_comm 2]
theorem mul_pow_mod {p a b k : Nat} : (a * b % p) ^ k % p = (a ^ k % p) * (b ^ k % p) % p := by
  rw [← Nat.pow_mod, Nat.mul_pow, Nat.mul_mod]
theorem less_of_sq {p s : Nat} (h : PrimeN p) (hs : s < p) (h1 : s * s % p = 1) (hne : s ≠ 1) : s = p - 1 := by
  rcases h.sq_one hs h1 with h2 | h2
  · exact absurd h2 hne
  · exact h2
/-- Tonelli's way, the program's: a root that is wrong by w, an element g of the greatest order. -/
def PT (p a L r w g : Nat) : Prop := 1 ≤ L ∧ r < p ∧ w < p ∧ g < p ∧ r * r % p = a * w % p ∧ w ^ 2 ^ (L - 1) % p = 1 ∧ g ^ 2 ^ (L - 1) % p = p - 1
theorem PT.start {p a z o T : Nat} (h3 : 3 ≤ p) (hT : 1 ≤ T) (ho : p - 1 = o * 2 ^ T) (ho1 : o % 2 = 1) (ha : a ^ ((p - 1) / 2) % p = 1) (hz : z ^ ((p - 1) / 2) % p = p - 1) :
    PT p a T (a ^ (o / 2 + 1) % p) (a ^ o % p) (z ^ o % p) := by
  have e : (p - 1) / 2 = o * 2 ^ (T - 1) := by
    obtain ⟨t, rfl⟩ : ∃ t, T = t + 1 := ⟨T - 1, by omega⟩
    rw [ho, Nat.pow_succ, ← Nat.mul_assoc, Nat.mul_div_cancel _ (by omega), Nat.add_sub_cancel]
  rw [e, Nat.pow_mul] at ha hz
  refine ⟨hT, Nat.mod_lt _ (by omega), Nat.mod_lt _ (by omega), Nat.mod_lt _ (by omega), ?_, by rw [← Nat.pow_mod]; exact ha, by rw [← Nat.pow_mod]; exact hz⟩
  rw [← Nat.mul_mod, ← Nat.pow_add, Nat.mul_mod_mod, Nat.mul_comm a, ← Nat.pow_succ]
  congr 2
  omega
theorem PT.next {p a L r w g l g' : Nat} (h : PrimeN p) (hp : PT p a L r w g) (hw : w ≠ 1) (h1 : w ^ 2 ^ l % p = 1) (hmin : ∀ j, j < l → w ^ 2 ^ j % p ≠ 1) (hl : l ≤ L - 1) (hg : g' = g ^ 2 ^ (L - l - 1) % p) :
    1 ≤ l ∧ l < L ∧ PT p a l (r * g' % p) (w * (g' * g' % p) % p) (g' * g' % p) := by
  obtain ⟨hL, hr, hwp, hgp, e1, e2, e3⟩ := hp
  have h2 := h.1
  have hl1 : 1 ≤ l := by
    rcases Nat.eq_zero_or_pos l with h0 | h0
    · rw [h0, Nat.pow_zero, Nat.pow_one, Nat.mod_eq_of_lt hwp] at h1
      exact absurd h1 hw
    · exact h0
  have hg1 : g' ^ 2 ^ l % p = p - 1 := by
    rw [hg, ← Nat.pow_mod, ← Nat.pow_mul, ← Nat.pow_add, show L - l - 1 + l = L - 1 by omega]
    exact e3
  have hl2 : l - 1 + 1 = l := by omega
  have hg2 : (g' * g' % p) ^ 2 ^ (l - 1) % p = p - 1 := by rw [sq_pow, hl2]; exact hg1
  have hw2 : w ^ 2 ^ (l - 1) % p = p - 1 := by
    refine less_of_sq h (Nat.mod_lt _ (by omega)) ?_ (hmin _ (by omega))
    rw [← Nat.mul_mod, ← Nat.pow_add, ← Nat.mul_two, ← Nat.pow_succ, Nat.succ_eq_add_one, hl2]
    exact h1
  refine ⟨hl1, by omega, hl1, Nat.mod_lt _ (by omega), Nat.mod_lt _ (by omega), Nat.mod_lt _ (by omega), ?_, ?_, hg2⟩
  · rw [← Nat.mul_mod, Nat.mul_mod_mod, ← Nat.mul_assoc a w, Nat.mul_mod_mod (a * w)]
    rw [show r * g' * (r * g') = r * r * (g' * g') by simp only [Nat.mul_assoc, Nat.mul_left_comm]]
    rw [Nat.mul_mod (r * r), e1, ← Nat.mul_mod]
  · rw [mul_pow_mod, hw2, hg2]
    exact less_less h2
theorem PT.done {p a L r g : Nat} (ha : a < p) (h : PT p a L r 1 g) : r * r % p = a := by
  obtain ⟨_, _, _, _, e1, _⟩ := h
  rw [e1, Nat.mul_one, Nat.mod_eq_of_lt ha]
/-- Tonelli and Shanks, the document's. -/
def RT (p a k x t c : Nat) : Prop := x < p ∧ t < p ∧ c < p ∧ x * x % p = a * t % p ∧ t ^ 2 ^ k % p = 1 ∧ c ^ 2 ^ k % p = p - 1
theorem RT.same {p a k x t c : Nat} (h : PrimeN p) (hr : RT p a (k + 1) x t c) (h1 : t ^ 2 ^ k % p = 1) : RT p a k x t (c * c % p) := by
  obtain ⟨hx, ht, hc, e1, e2, e3⟩ := hr
  have h2 := h.1
  exact ⟨hx, ht, Nat.mod_lt _ (by omega), e1, h1, by rw [sq_pow]; exact e3⟩
theorem RT.turn {p a k x t c : Nat} (h : PrimeN p) (hr : RT p a (k + 1) x t c) (h1 : t ^ 2 ^ k % p ≠ 1) : RT p a k (x * c % p) (t * (c * c % p) % p) (c * c % p) := by
  obtain ⟨hx, ht, hc, e1, e2, e3⟩ := hr
  have h2 := h.1
  have hc2 : (c * c % p) ^ 2 ^ k % p = p - 1 := by rw [sq_pow]; exact e3
  have ht2 : t ^ 2 ^ k % p = p - 1 := by
    refine less_of_sq h (Nat.mod_lt _ (by omega)) ?_ h1
    rw [← Nat.mul_mod, ← Nat.pow_add, ← Nat.mul_two, ← Nat.pow_succ]
    exact e2
  refine ⟨Nat.mod_lt _ (by omega), Nat.mod_lt _ (by omega), Nat.mod_lt _ (by omega), ?_, ?_, hc2⟩
  · rw [← Nat.mul_mod, Nat.mul_mod_mod, ← Nat.mul_assoc a t, Nat.mul_mod_mod (a * t)]
    rw [show x * c * (x * c) = x * x * (c * c) by simp only [Nat.mul_assoc, Nat.mul_left_comm]]
    rw [Nat.mul_mod (x * x), e1, ← Nat.mul_mod]
  · rw [mul_pow_mod, ht2, hc2]
    exact less_less h2
theorem RT.done {p a x t c : Nat} (ha : a < p) (h : RT p a 0 x t c) : x * x % p = a := by
  obtain ⟨_, ht, _, e1, e2, _⟩ := h
  rw [Nat.pow_zero, Nat.pow_one, Nat.mod_eq_of_lt ht] at e2
  rw [e1, e2, Nat.mul_one, Nat.mod_eq_of_lt ha]
/-- Twos in a number. -/
theorem twos_of : ∀ (x : Nat), 0 < x → ∃ o t, x = o * 2 ^ t ∧ o % 2 = 1 := by
  intro x
  induction x using Nat.strongRecOn with
  | ind x ih =>
    intro hx
    rcases (show x % 2 = 1 ∨ x % 2 = 0 by omega) with h | h
    · exact ⟨x, 0, by rw [Nat.pow_zero, Nat.mul_one], h⟩
    · obtain ⟨o, t, h1, h2⟩ := ih (x / 2) (by omega) (by omega)
      exact ⟨o, t + 1, by rw [Nat.pow_succ, ← Nat.mul_assoc, ← h1]; omega, h2⟩
theorem odd_and {h h' n : Nat} (hh : h < 2 ^ n) (e : h' = 2 ^ n - (h + 1)) : (2 * h + 1) &&& (2 * h' + 1) = 1 := by
  apply Nat.eq_of_testBit_eq
  intro i
  rw [Nat.testBit_and]
  cases i with
  | zero => simp [Nat.testBit_zero]
  | succ i =>
    rw [Nat.testBit_succ, Nat.testBit_succ, Nat.testBit_succ, show (2 * h + 1) / 2 = h by omega, show (2 * h' + 1) / 2 = h' by omega, e, Nat.testBit_two_pow_sub_succ hh]
    simp
    intro a b
    simp [a]
/-- The lowest one of a number, by the way of the machine. -/
theorem low_one {x o t n : Nat} (hx : x = o * 2 ^ t) (ho : o % 2 = 1) (hl : x < 2 ^ n) : x &&& (2 ^ n - x) = 2 ^ t := by
  have htn : t < n := by
    rcases Nat.lt_or_ge t n with h | h
    · exact h
    · have h1 := Nat.pow_le_pow_right (show 0 < 2 by omega) h
      have h2 : 1 * 2 ^ t ≤ o * 2 ^ t := Nat.mul_le_mul_right _ (by omega)
      omega
  obtain ⟨m, rfl⟩ : ∃ m, n = m + 1 + t := ⟨n - t - 1, by omega⟩
  obtain ⟨h, rfl⟩ : ∃ h, o = 2 * h + 1 := ⟨o / 2, by omega⟩
  have hlt : 2 * h + 1 < 2 ^ (m + 1) := by
    rw [hx, Nat.pow_add] at hl
    exact Nat.lt_of_mul_lt_mul_right hl
  rw [Nat.pow_succ] at hlt
  have e2 : 2 ^ (m + 1 + t) - x = (2 * (2 ^ m - (h + 1)) + 1) * 2 ^ t := by
    rw [hx, Nat.pow_add, ← Nat.sub_mul, Nat.pow_succ]
    congr 1
    omega
  rw [e2, hx]
  have := Nat.shiftLeft_and_distrib (a := 2 * h + 1) (b := 2 * (2 ^ m - (h + 1)) + 1) (i := t)
  rw [odd_and (by omega) rfl] at this
  rw [Nat.shiftLeft_eq, Nat.shiftLeft_eq, Nat.shiftLeft_eq, Nat.one_mul] at this
  exact this.symm
end Go.Proofs.YtlndchmpnnlacaaDoor
