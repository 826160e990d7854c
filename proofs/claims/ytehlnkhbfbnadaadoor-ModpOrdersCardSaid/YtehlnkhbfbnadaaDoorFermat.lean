/- Primes: Euclid's lemma, Fermat's little theorem, Miller and Rabin's test passes a prime: no condition but that it is one. -/
import Derived.Test.YtehlnkhbfbnadaaDoorKit
namespace Go.Proofs.YtehlnkhbfbnadaaDoor
open Go.RowKit
/-- A prime. -/
def PrimeN (p : Nat) : Prop := 2 ≤ p ∧ ∀ d, d ∣ p → d = 1 ∨ d = p
theorem primeN_of_trial {p : Nat} (h2 : 2 ≤ p) (h : ∀ j, 2 ≤ j → j * j ≤ p → p % j ≠ 0) : PrimeN p := by
  refine ⟨h2, fun d hd => ?_⟩
  obtain ⟨e, he⟩ := hd
  rcases Nat.lt_or_ge d 2 with h1 | h1
  · rcases (show d = 0 ∨ d = 1 by omega) with rfl | rfl
    · omega
    · exact .inl rfl
  · rcases Nat.lt_or_ge e 2 with h3 | h3
    · rcases (show e = 0 ∨ e = 1 by omega) with rfl | rfl
      · omega
      · exact .inr (by omega)
    · exfalso
      rcases Nat.le_total d e with h4 | h4
      · exact h d h1 (by rw [he]; exact Nat.mul_le_mul_left d h4) (by rw [he]; exact Nat.mul_mod_right d e)
      · exact h e h3 (by rw [he]; exact Nat.mul_le_mul_right e h4) (by rw [he]; exact Nat.mul_mod_left d e)
theorem PrimeN.coprime {p a : Nat} (h : PrimeN p) (ha : a % p ≠ 0) : Nat.Coprime p a := by
  rcases h.2 (Nat.gcd p a) (Nat.gcd_dvd_left p a) with h1 | h1
  · exact h1
  · exfalso
    have := Nat.gcd_dvd_right p a
    rw [h1] at this
    exact ha (Nat.mod_eq_zero_of_dvd this)
theorem PrimeN.euclid {p a b : Nat} (h : PrimeN p) (hab : (a * b) % p = 0) : a % p = 0 ∨ b % p = 0 := by
  by_cases ha : a % p = 0
  · exact .inl ha
  · right
    have hd : p ∣ a * b := Nat.dvd_of_mod_eq_zero hab
    exact Nat.mod_eq_zero_of_dvd ((h.coprime ha).dvd_of_dvd_mul_left hd)
theorem sub_mod_zero {p x y : Nat} (hxy : y ≤ x) (h : (x - y) % p = 0) : x % p = y % p := by
  obtain ⟨e, he⟩ := Nat.dvd_of_mod_eq_zero h
  have : x = y + p * e := by omega
  rw [this, Nat.add_mul_mod_self_left]
theorem mod_sub_zero {p x y : Nat} (hxy : y ≤ x) (h : x % p = y % p) : (x - y) % p = 0 := by
  have h1 := Nat.div_add_mod x p
  have h2 := Nat.div_add_mod y p
  rw [← h] at h2
  have : x - y = p * (x / p - y / p) := by
    rw [Nat.mul_sub]; omega
  rw [this, Nat.mul_mod_right]
/-- What is coprime to p may be struck. -/
theorem PrimeN.cancel {p a x y : Nat} (h : PrimeN p) (ha : a % p ≠ 0) (he : (a * x) % p = (a * y) % p) : x % p = y % p := by
  rcases Nat.le_total y x with hxy | hxy
  · have h1 := mod_sub_zero (Nat.mul_le_mul_left a hxy) he
    rw [← Nat.mul_sub] at h1
    rcases h.euclid h1 with h2 | h2
    · exact absurd h2 ha
    · exact sub_mod_zero hxy h2
  · have h1 := mod_sub_zero (Nat.mul_le_mul_left a hxy) he.symm
    rw [← Nat.mul_sub] at h1
    rcases h.euclid h1 with h2 | h2
    · exact absurd h2 ha
    · exact (sub_mod_zero hxy h2).symm
/-- Two lists without repeats, one in the other, as long: one is the other in another order. -/
theorem perm_of_sub : ∀ (l m : List Nat), l.Nodup → (∀ x ∈ l, x ∈ m) → m.length ≤ l.length → l.Perm m
  | [], m, _, _, hl => by
    have : m = [] := List.eq_nil_of_length_eq_zero (by simpa using hl)
    subst this
    exact List.Perm.refl _
  | x :: t, m, hn, hs, hl => by
    have hx : x ∈ m := hs x (by simp)
    have hp := List.perm_cons_erase hx
    rw [List.nodup_cons] at hn
    refine (List.Perm.cons x (perm_of_sub t (m.erase x) hn.2 (fun y hy => ?_) ?_)).trans hp.symm
    · have hne : y ≠ x := fun e => hn.1 (e ▸ hy)
      exact (List.mem_erase_of_ne hne).2 (hs y (by simp [hy]))
    · rw [List.length_erase_of_mem hx]
      simp at hl
      omega
def prodL : List Nat → Nat
  | [] => 1
  | x :: t => x * prodL t
theorem prodL_perm {l m : List Nat} (h : l.Perm m) : prodL l = prodL m := by
  induction h with
  | nil => rfl
  | cons x _ ih => simp only [prodL, ih]
  | swap x y l => simp only [prodL]; rw [← Nat.mul_assoc, ← Nat.mul_assoc, Nat.mul_comm x y]
  | trans _ _ h1 h2 => exact h1.trans h2
theorem prodL_mul (a p : Nat) : ∀ l : List Nat, prodL (l.map fun x => a * x % p) % p = (a ^ l.length * prodL l) % p
  | [] => by simp [prodL]
  | x :: t => by
    have ih := prodL_mul a p t
    simp only [List.map_cons, prodL, List.length_cons]
    rw [Nat.mul_mod, ih, Nat.mod_mod, ← Nat.mul_mod]
    congr 1
    rw [Nat.pow_succ]
    simp only [Nat.mul_assoc, Nat.mul_left_comm, Nat.mul_comm]
theorem prodL_ne {p : Nat} (h : PrimeN p) : ∀ l : List Nat, (∀ x ∈ l, x % p ≠ 0) → prodL l % p ≠ 0
  | [], _ => by
    simp only [prodL]
    have := h.1
    rw [Nat.mod_eq_of_lt (by omega)]
    omega
  | x :: t, hx => fun e => by
    rcases h.euclid e with h1 | h1
    · exact hx x (by simp) h1
    · exact prodL_ne h t (fun y hy => hx y (by simp [hy])) h1
theorem PrimeN.fermat {p a : Nat} (h : PrimeN p) (ha : a % p ≠ 0) : a ^ (p - 1) % p = 1 := by
  have h2 := h.1
  have hmem : ∀ x, x ∈ List.range' 1 (p - 1) ↔ 1 ≤ x ∧ x < p := by
    intro x
    rw [List.mem_range'_1]
    omega
  have hnz : ∀ x ∈ List.range' 1 (p - 1), x % p ≠ 0 := by
    intro x hx
    have := (hmem x).1 hx
    rw [Nat.mod_eq_of_lt this.2]
    omega
  have hperm : ((List.range' 1 (p - 1)).map fun x => a * x % p).Perm (List.range' 1 (p - 1)) := by
    refine perm_of_sub _ _ ?_ (fun y hy => ?_) (by simp)
    · rw [List.nodup_iff_pairwise_ne, List.pairwise_map]
      have hnd := (List.nodup_range' (s := 1) (n := p - 1))
      rw [List.nodup_iff_pairwise_ne] at hnd
      refine List.Pairwise.imp_of_mem (fun {x y} hx hy hne e => hne ?_) hnd
      have := h.cancel ha e
      rw [Nat.mod_eq_of_lt ((hmem x).1 hx).2, Nat.mod_eq_of_lt ((hmem y).1 hy).2] at this
      exact this
    · rw [List.mem_map] at hy
      obtain ⟨x, hx, rfl⟩ := hy
      rw [hmem]
      refine ⟨?_, Nat.mod_lt _ (by omega)⟩
      have : a * x % p ≠ 0 := fun e => by
        rcases h.euclid e with h1 | h1
        · exact ha h1
        · exact hnz x hx h1
      omega
  have h3 := prodL_mul a p (List.range' 1 (p - 1))
  rw [prodL_perm hperm, List.length_range'] at h3
  have h4 : (prodL (List.range' 1 (p - 1)) * a ^ (p - 1)) % p = (prodL (List.range' 1 (p - 1)) * 1) % p := by
    rw [Nat.mul_one, Nat.mul_comm]; exact h3.symm
  have h5 := h.cancel (prodL_ne h _ hnz) h4
  rw [h5, Nat.mod_eq_of_lt (by omega)]
theorem PrimeN.fermat_all {p a : Nat} (h : PrimeN p) (ha : a < p) : a ^ p % p = a := by
  by_cases h0 : a = 0
  · subst h0
    rw [Nat.zero_pow (by omega), Nat.zero_mod]
  · have h1 := h.fermat (a := a) (by rw [Nat.mod_eq_of_lt ha]; exact h0)
    have h2 := h.1
    rw [show p = (p - 1) + 1 by omega, Nat.pow_succ, ← show p = (p - 1) + 1 by omega, Nat.mul_mod, h1, Nat.one_mul, Nat.mod_mod, Nat.mod_eq_of_lt ha]
theorem PrimeN.inv {p a : Nat} (h : PrimeN p) (ha : a % p ≠ 0) : a * (a ^ (p - 2) % p) % p = 1 := by
  have h2 := h.1
  rw [Nat.mul_mod_mod, Nat.mul_comm, ← Nat.pow_succ, show (p - 2).succ = p - 1 by omega]
  exact h.fermat ha
theorem PrimeN.inv_unique {p a x y : Nat} (h : PrimeN p) (hx : x < p) (hy : y < p) (h1 : a * x % p = 1) (h2 : a * y % p = 1) : x = y := by
  have ha : a % p ≠ 0 := fun e => by
    rw [Nat.mul_mod, e, Nat.zero_mul, Nat.zero_mod] at h1; omega
  have := h.cancel ha (h1.trans h2.symm)
  rwa [Nat.mod_eq_of_lt hx, Nat.mod_eq_of_lt hy] at this
/-- Of a square that is 1 modulo a prime the root is 1 or less one. -/
theorem PrimeN.sq_one {p x : Nat} (h : PrimeN p) (hx : x < p) (h1 : x * x % p = 1) : x = 1 ∨ x = p - 1 := by
  have h2 := h.1
  by_cases h0 : x = 0
  · subst h0; simp at h1
  · have h3 : ((x - 1) * (x + 1)) % p = 0 := by
      have : (x - 1) * (x + 1) = x * x - 1 := by
        obtain ⟨y, rfl⟩ : ∃ y, x = y + 1 := ⟨x - 1, by omega⟩
        rw [Nat.add_sub_cancel]
        have e1 : y * (y + 1 + 1) = y * y + y + y := by rw [Nat.mul_add, Nat.mul_add, Nat.mul_one]
        have e2 : (y + 1) * (y + 1) = y * y + y + y + 1 := by rw [Nat.mul_add, Nat.add_mul]; omega
        omega
      rw [this]
      exact mod_sub_zero (by have := Nat.mul_pos (show 0 < x by omega) (show 0 < x by omega); omega) (by rw [h1, Nat.mod_eq_of_lt (by omega)])
    rcases h.euclid h3 with h4 | h4
    · left
      rw [Nat.mod_eq_of_lt (by omega)] at h4; omega
    · right
      rcases Nat.lt_or_ge (x + 1) p with h5 | h5
      · rw [Nat.mod_eq_of_lt h5] at h4; omega
      · omega
/-- One base of Miller and Rabin's test passes: x, squared up to so many times, comes to less one. -/
def mrRow (n : Nat) : Nat → Nat → Bool
  | 0, _ => false
  | t + 1, x => if x = n - 1 then true else mrRow n t (x * x % n)
theorem PrimeN.mrRow_up {p : Nat} (h : PrimeN p) : ∀ (t x : Nat), x < p → x ≠ 1 → x ^ 2 ^ t % p = 1 → mrRow p t x = true
  | 0, x, hx, hne, h1 => by
    rw [Nat.pow_zero, Nat.pow_one, Nat.mod_eq_of_lt hx] at h1
    exact absurd h1 hne
  | t + 1, x, hx, hne, h1 => by
    unfold mrRow
    by_cases hm : x = p - 1
    · rw [if_pos hm]
    · rw [if_neg hm]
      have h2 := h.1
      refine h.mrRow_up t _ (Nat.mod_lt _ (by omega)) (fun e => ?_) ?_
      · rcases h.sq_one hx e with h3 | h3
        · exact hne h3
        · exact hm h3
      · rw [← Nat.pow_mod]
        have e : (x * x) ^ 2 ^ t = x ^ 2 ^ (t + 1) := by
          rw [← Nat.pow_two, ← Nat.pow_mul, Nat.pow_succ, Nat.mul_comm 2]
        rw [e]
        exact h1
theorem PrimeN.mr_passes {p b o t : Nat} (h : PrimeN p) (hb : b % p ≠ 0) (he : p - 1 = o * 2 ^ t) : b ^ o % p = 1 ∨ mrRow p t (b ^ o % p) = true := by
  have h2 := h.1
  by_cases h1 : b ^ o % p = 1
  · exact .inl h1
  · right
    refine h.mrRow_up t _ (Nat.mod_lt _ (by omega)) h1 ?_
    rw [← Nat.pow_mod, ← Nat.pow_mul, ← he]
    exact h.fermat hb
end Go.Proofs.YtehlnkhbfbnadaaDoor
