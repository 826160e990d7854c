/- A number below 2^32 that passes Miller and Rabin's test to the bases 2 to 37 is a prime: no other condition. -/
import Derived.Test.YtlndchmpnnlacaaDoorIsG
import Derived.Test.YtlndchmpnnlacaaDoorFermat
import Derived.Test.YtlndchmpnnlacaaDoorRkA
import Derived.Test.YtlndchmpnnlacaaDoorRkB
import Derived.Test.YtlndchmpnnlacaaDoorRkC
import Derived.Test.YtlndchmpnnlacaaDoorRkF
namespace Go.Proofs.YtlndchmpnnlacaaDoor
open Go.RowKit
theorem pm_eq (b n : Nat) : ∀ k e, pm b n k e = b ^ e % n
  | 0, e => rfl
  | k + 1, e => by
    show (((pm b n k (e / 64)) ^ 64) * (b ^ (e % 64))) % n = _
    rw [pm_eq b n k (e / 64), Nat.mul_mod, ← Nat.pow_mod, ← Nat.mul_mod, ← Nat.pow_mul, ← Nat.pow_add, Nat.mul_comm, Nat.div_add_mod]
theorem pm2_eq (n e : Nat) : pm2 n e = 2 ^ e % n := by
  rw [show pm2 n e = pm 2 n 5 e from rfl, pm_eq]
theorem PrimeN.pow_base {q x : Nat} (h : PrimeN q) : ∀ e, q ∣ x ^ e → q ∣ x
  | 0, hd => by
    have := Nat.le_of_dvd (by simp) hd
    have := h.1
    simp at *; omega
  | e + 1, hd => by
    rw [Nat.pow_succ] at hd
    rcases h.euclid (Nat.mod_eq_zero_of_dvd hd) with h1 | h1
    · exact h.pow_base e (Nat.dvd_of_mod_eq_zero h1)
    · exact Nat.dvd_of_mod_eq_zero h1
theorem PrimeN.in_prod {q : Nat} (h : PrimeN q) : ∀ l : List Nat, q ∣ prodL l → ∃ b ∈ l, q ∣ b
  | [], hd => by
    have := Nat.le_of_dvd (by simp [prodL]) hd
    have := h.1
    simp [prodL] at *; omega
  | x :: t, hd => by
    rcases h.euclid (a := x) (b := prodL t) (Nat.mod_eq_zero_of_dvd hd) with h1 | h1
    · exact ⟨x, by simp, Nat.dvd_of_mod_eq_zero h1⟩
    · obtain ⟨b, hb, hd⟩ := h.in_prod t (Nat.dvd_of_mod_eq_zero h1)
      exact ⟨b, by simp [hb], hd⟩
theorem mod8 {q P G : Nat} (hq : PrimeN q) (hG : q ∣ G) (h : Nat.beq (Nat.mod (Nat.pow (Nat.mod P G) 8) G) 0 = true) : q ∣ P := by
  have h1 : (P % G) ^ 8 % G = 0 := Nat.eq_of_beq_eq_true h
  have h2 := Nat.dvd_trans hG (Nat.dvd_of_mod_eq_zero h1)
  have h3 := hq.pow_base _ h2
  have h4 := Nat.div_add_mod P G
  rw [← h4]
  exact Nat.dvd_add (Nat.dvd_trans hG ⟨_, rfl⟩) h3
theorem goG_sound {P e q : Nat} (hq : PrimeN q) (hb : ∀ b ∈ bs12, q ∣ b ^ e - 1) : ∀ (l : List Nat) (G : Nat), (∀ b ∈ l, b ∈ bs12) → q ∣ G → goG P e l G = true → q ∣ P
  | [], G, _, hG, h => mod8 hq hG h
  | b :: bs, G, hl, hG, h => by
    unfold goG at h
    cases hc : Nat.beq (Nat.mod (Nat.pow (Nat.mod P G) 8) G) 0 with
    | true => exact mod8 hq hG hc
    | false =>
      rw [hc] at h
      simp only [] at h
      have hd : q ∣ Nat.gcd G (Nat.sub (Nat.pow b e) 1) := Nat.dvd_gcd hG (hb b (hl b (by simp)))
      cases hg : Nat.gcd G (Nat.sub (Nat.pow b e) 1) with
      | zero => rw [hg] at h; exact absurd h (by simp)
      | succ H =>
        rw [hg] at h hd
        exact goG_sound hq hb bs (H + 1) (fun x hx => hl x (by simp [hx])) hd h
theorem onA_prime {P p q : Nat} (h : onA P p = true) (hq : PrimeN q) (hb : ∀ b ∈ bs12, q ∣ b ^ (p - 1) - 1) : q ∣ P := by
  unfold onA at h
  have hd : q ∣ Nat.gcd (Nat.sub (Nat.pow 2 (Nat.sub p 1)) 1) (Nat.sub (Nat.pow 3 (Nat.sub p 1)) 1) := Nat.dvd_gcd (hb 2 (by decide)) (hb 3 (by decide))
  cases hg : Nat.gcd (Nat.sub (Nat.pow 2 (Nat.sub p 1)) 1) (Nat.sub (Nat.pow 3 (Nat.sub p 1)) 1) with
  | zero => rw [hg] at h; exact absurd h (by simp)
  | succ H =>
    rw [hg] at h hd
    simp only [] at h
    unfold atA at h
    cases hc : Nat.beq (Nat.mod (Nat.succ H) (Nat.mul p p)) 0 with
    | true => rw [hc] at h; exact absurd h (by simp)
    | false =>
      rw [hc] at h
      exact goG_sound hq hb others _ (by decide) hd h
theorem onA_square {P p : Nat} (h : onA P p = true) (h2 : p * p ∣ 2 ^ (p - 1) - 1) (h3 : p * p ∣ 3 ^ (p - 1) - 1) : False := by
  unfold onA at h
  have hd : p * p ∣ Nat.gcd (Nat.sub (Nat.pow 2 (Nat.sub p 1)) 1) (Nat.sub (Nat.pow 3 (Nat.sub p 1)) 1) := Nat.dvd_gcd h2 h3
  cases hg : Nat.gcd (Nat.sub (Nat.pow 2 (Nat.sub p 1)) 1) (Nat.sub (Nat.pow 3 (Nat.sub p 1)) 1) with
  | zero => rw [hg] at h; exact absurd h (by simp)
  | succ H =>
    rw [hg] at h hd
    simp only [] at h
    unfold atA at h
    have hc : Nat.beq (Nat.mod (Nat.succ H) (Nat.mul p p)) 0 = true := by
      rw [show Nat.mod (Nat.succ H) (Nat.mul p p) = (H + 1) % (p * p) from rfl, Nat.mod_eq_zero_of_dvd hd]; rfl
    rw [hc] at h
    exact absurd h (by simp)
theorem goA_sound {S x : Nat} (hx : Nat.gcd x S = 1) : ∀ (k p P : Nat), goA S k p P = true → x % 2 = p % 2 → p ≤ x → x < p + 2 * k →
    ∃ Q, onA Q x = true ∧ ∀ r, PrimeN r → r ∣ Q → r ∣ P ∨ r ≤ x
  | 0, p, P, _, _, h1, h2 => by omega
  | k + 1, p, P, h, hp, h1, h2 => by
    unfold goA at h
    rcases Nat.eq_or_lt_of_le h1 with he | hlt
    · subst he
      have hb : Nat.beq (Nat.gcd p S) 1 = true := by rw [hx]; rfl
      rw [hb] at h
      simp only [] at h
      cases hm : Nat.mul P p with
      | zero => rw [hm] at h; exact absurd h (by simp)
      | succ Q =>
        rw [hm] at h
        simp only [] at h
        refine ⟨Q + 1, ?_, fun r hr hd => ?_⟩
        · cases ho : onA (Nat.succ Q) p with
          | true => rfl
          | false => rw [ho] at h; exact absurd h (by simp)
        · rw [← hm] at hd
          rcases hr.euclid (a := P) (b := p) (Nat.mod_eq_zero_of_dvd hd) with h3 | h3
          · exact .inl (Nat.dvd_of_mod_eq_zero h3)
          · by_cases h0 : p = 0
            · subst h0
              rw [Nat.gcd_zero_left] at hx
              subst hx
              exact absurd hm (by simp)
            · exact .inr (Nat.le_of_dvd (by omega) (Nat.dvd_of_mod_eq_zero h3))
    · have hrec : ∀ P', goA S k (p + 2) P' = true → (∀ r, PrimeN r → r ∣ P' → r ∣ P ∨ r ≤ x) → ∃ Q, onA Q x = true ∧ ∀ r, PrimeN r → r ∣ Q → r ∣ P ∨ r ≤ x := by
        intro P' h' hP
        obtain ⟨Q, hQ, hr⟩ := goA_sound hx k (p + 2) P' h' (by omega) (by omega) (by omega)
        refine ⟨Q, hQ, fun r hp hd => ?_⟩
        rcases hr r hp hd with h3 | h3
        · exact hP r hp h3
        · exact .inr h3
      cases hb : Nat.beq (Nat.gcd p S) 1 with
      | false =>
        rw [hb] at h
        exact hrec P h fun r _ hd => .inl hd
      | true =>
        rw [hb] at h
        simp only [] at h
        cases hm : Nat.mul P p with
        | zero => rw [hm] at h; exact absurd h (by simp)
        | succ Q =>
          rw [hm] at h
          simp only [] at h
          cases ho : onA (Nat.succ Q) p with
          | false => rw [ho] at h; exact absurd h (by simp)
          | true =>
            rw [ho] at h
            refine hrec (Q + 1) h fun r hr hd => ?_
            rw [show Q + 1 = P * p from hm.symm] at hd
            rcases hr.euclid (a := P) (b := p) (Nat.mod_eq_zero_of_dvd hd) with h3 | h3
            · exact .inl (Nat.dvd_of_mod_eq_zero h3)
            · by_cases h0 : p = 0
              · subst h0; exact absurd hm (by simp)
              · have := Nat.le_of_dvd (by omega) (Nat.dvd_of_mod_eq_zero h3)
                exact .inr (by omega)
theorem anyB_some {q d : Nat} : ∀ l : List Nat, anyB q d l = true → ∃ b ∈ l, b ^ d % q ≠ 1
  | [], h => by simp [anyB] at h
  | b :: bs, h => by
    unfold anyB at h
    cases hc : Nat.beq (Nat.mod (Nat.pow b d) q) 1 with
    | false => exact ⟨b, by simp, fun e => absurd hc (by rw [show Nat.mod (Nat.pow b d) q = b ^ d % q from rfl, e]; decide)⟩
    | true =>
      rw [hc] at h
      obtain ⟨x, hx, hn⟩ := anyB_some bs h
      exact ⟨x, by simp [hx], hn⟩
theorem genD_sound {q d : Nat} (h1 : 1 ≤ d) (hd : (q - 1) % d = 0) : ∀ k, genD q k = true → d ≤ k → (d < q - 1 → anyB q d bs12 = true) ∧ (1 < d → anyB q ((q - 1) / d) bs12 = true)
  | 0, _, h => by omega
  | k + 1, h, hk => by
    unfold genD at h
    rcases Nat.eq_or_lt_of_le hk with he | hlt
    · subst he
      rw [show Nat.beq (Nat.mod (Nat.sub q 1) (Nat.succ k)) 0 = true by rw [show Nat.mod (Nat.sub q 1) (Nat.succ k) = (q - 1) % (k + 1) from rfl, hd]; rfl] at h
      simp only [] at h
      constructor
      · intro hlt
        have hb : Nat.ble (Nat.sub q 1) (Nat.succ k) = false := by
          cases hb : Nat.ble (Nat.sub q 1) (Nat.succ k) with
          | false => rfl
          | true =>
            have h3 : q - 1 ≤ k + 1 := Nat.le_of_ble_eq_true hb
            omega
        rw [hb] at h
        cases ha : anyB q (k + 1) bs12 with
        | true => rfl
        | false => rw [show anyB q (Nat.succ k) bs12 = false from ha] at h; exact absurd h (by simp)
      · intro hlt
        have hb : Nat.ble (Nat.succ k) 1 = false := by
          cases hb : Nat.ble (Nat.succ k) 1 with
          | false => rfl
          | true =>
            have h3 : k + 1 ≤ 1 := Nat.le_of_ble_eq_true hb
            omega
        rw [hb] at h
        cases ha : anyB q ((q - 1) / (k + 1)) bs12 with
        | true => rfl
        | false =>
          rw [show anyB q (Nat.div (Nat.sub q 1) (Nat.succ k)) bs12 = false from ha] at h
          simp only [] at h
          split at h <;> exact absurd h (by simp)
    · have hr : genD q k = true := by
        split at h
        · exact h
        · split at h
          · exact absurd h (by simp)
          · split at h
            · exact absurd h (by simp)
            · exact h
      exact genD_sound h1 hd k hr (by omega)
theorem goC_sound {x : Nat} (hm : may x = true) : ∀ k q, goC k q = true → x % 2 = q % 2 → q ≤ x → x < q + 2 * k → genD x 102 = true
  | 0, q, _, _, h1, h2 => by omega
  | k + 1, q, h, hp, h1, h2 => by
    unfold goC at h
    rcases Nat.eq_or_lt_of_le h1 with he | hlt
    · subst he
      rw [hm] at h
      cases hg : genD q 102 with
      | true => rfl
      | false => rw [hg] at h; exact absurd h (by simp)
    · split at h
      · exact absurd h (by simp)
      · exact goC_sound hm k (q + 2) h (by omega) (by omega) (by omega)
theorem goP_sound {x : Nat} (hm : may x = true) : ∀ k q, goP k q = true → x % 2 = q % 2 → q ≤ x → x < q + 2 * k → goQ x 6000 (x + 2) = true
  | 0, q, _, _, h1, h2 => by omega
  | k + 1, q, h, hp, h1, h2 => by
    unfold goP at h
    rcases Nat.eq_or_lt_of_le h1 with he | hlt
    · subst he
      rw [hm] at h
      cases hg : goQ q 6000 (q + 2) with
      | true => rfl
      | false => rw [show goQ q 6000 (Nat.add q 2) = false from hg] at h; exact absurd h (by simp)
    · split at h
      · exact absurd h (by simp)
      · exact goP_sound hm k (q + 2) h (by omega) (by omega) (by omega)
theorem goQ_sound {p x : Nat} (hm : may x = true) (hx : p * (x * x) ≤ 4294967295) : ∀ k q, goQ p k q = true → x % 2 = q % 2 → q ≤ x → onPQ p x = true
  | 0, q, h, _, _ => by simp [goQ] at h
  | k + 1, q, h, hp, h1 => by
    unfold goQ at h
    have hle : Nat.ble (Nat.mul p (Nat.mul q q)) 4294967295 = true :=
      Nat.ble_eq_true_of_le (Nat.le_trans (Nat.mul_le_mul_left p (Nat.mul_le_mul h1 h1)) hx)
    rw [hle] at h
    simp only [] at h
    rcases Nat.eq_or_lt_of_le h1 with he | hlt
    · subst he
      rw [hm] at h
      cases hg : onPQ p q with
      | true => rfl
      | false => rw [hg] at h; exact absurd h (by simp)
    · split at h
      · exact absurd h (by simp)
      · exact goQ_sound hm hx k (q + 2) h (by omega) (by omega)
theorem pow_gcd {b q : Nat} : ∀ m n : Nat, b ^ m % q = 1 → b ^ n % q = 1 → b ^ Nat.gcd m n % q = 1 := by
  intro m n
  induction m, n using Nat.gcd.induction with
  | H0 n => intro _ h; rwa [Nat.gcd_zero_left]
  | H1 m n hm ih =>
    intro h1 h2
    rw [Nat.gcd_rec]
    refine ih ?_ h1
    have e : b ^ n = (b ^ m) ^ (n / m) * b ^ (n % m) := by rw [← Nat.pow_mul, ← Nat.pow_add, Nat.div_add_mod]
    have hq : q ≠ 1 := fun e => by subst e; rw [Nat.mod_one] at h1; omega
    have hone : 1 % q = 1 := by
      rcases Nat.lt_or_ge 1 q with h | h
      · exact Nat.mod_eq_of_lt h
      · have : q = 0 := by omega
        subst this; rfl
    rw [e, Nat.mul_mod, Nat.pow_mod, h1, Nat.one_pow, hone, Nat.one_mul, Nat.mod_mod] at h2
    exact h2
theorem gen_dvd {q e : Nat} (hq : PrimeN q) (h41 : 41 ≤ q) (hq2 : q ≤ 10404) (hg : genD q 102 = true) (he : ∀ b ∈ bs12, b ^ e % q = 1) : (q - 1) ∣ e := by
  have hb : ∀ b ∈ bs12, b % q ≠ 0 := by
    intro b hb
    have : 1 ≤ b ∧ b ≤ 37 := (show ∀ b ∈ bs12, 1 ≤ b ∧ b ≤ 37 by decide) b hb
    rw [Nat.mod_eq_of_lt (by omega)]; omega
  obtain ⟨g, hgg⟩ : ∃ g, Nat.gcd e (q - 1) = g := ⟨_, rfl⟩
  have hge : g ∣ e := hgg ▸ Nat.gcd_dvd_left _ _
  have hgq : g ∣ q - 1 := hgg ▸ Nat.gcd_dvd_right _ _
  have hgb : ∀ b ∈ bs12, b ^ g % q = 1 := fun b h => hgg ▸ pow_gcd _ _ (he b h) (hq.fermat (hb b h))
  obtain ⟨f, hf⟩ := hgq
  have hg0 : 0 < g := Nat.pos_of_ne_zero fun h0 => by rw [h0, Nat.zero_mul] at hf; omega
  have hf0 : 0 < f := Nat.pos_of_ne_zero fun h0 => by rw [h0, Nat.mul_zero] at hf; omega
  have hlt : ¬ g < q - 1 := fun hlt => by
    have hf1 : 1 < f := by
      rcases Nat.lt_or_ge 1 f with h | h
      · exact h
      · have : f = 1 := by omega
        subst this; omega
    rcases Nat.lt_or_ge 102 g with h | h
    · have hf102 : f ≤ 102 := by
        rcases Nat.lt_or_ge 102 f with h' | h'
        · have := Nat.mul_le_mul h h'
          omega
        · exact h'
      have h1 := (genD_sound (d := f) (by omega) (by rw [hf]; exact Nat.mul_mod_left g f) 102 hg hf102).2 hf1
      rw [hf, Nat.mul_div_cancel _ hf0] at h1
      obtain ⟨b, hb1, hb2⟩ := anyB_some _ h1
      exact hb2 (hgb b hb1)
    · have h1 := (genD_sound (d := g) (by omega) (by rw [hf]; exact Nat.mul_mod_right g f) 102 hg h).1 hlt
      obtain ⟨b, hb1, hb2⟩ := anyB_some _ h1
      exact hb2 (hgb b hb1)
  have hle : g ≤ q - 1 := Nat.le_of_dvd (by omega) ⟨f, hf⟩
  rw [show q - 1 = g by omega]
  exact hge
/-- The strong condition up to j. -/
def SC (n o b j : Nat) : Prop := b ^ o % n = 1 ∨ ∃ i, i < j ∧ b ^ (o * 2 ^ i) % n = n - 1
theorem one_pow_mod {n x k : Nat} (hn : 2 ≤ n) (h : x % n = 1) : x ^ k % n = 1 := by
  rw [Nat.pow_mod, h, Nat.one_pow, Nat.mod_eq_of_lt (by omega)]
theorem less_sq {n x : Nat} (hn : 2 ≤ n) (h : x % n = n - 1) : x ^ 2 % n = 1 := by
  rw [Nat.pow_mod, h, Nat.pow_two]
  obtain ⟨m, hm⟩ : ∃ m, n = m + 2 := ⟨n - 2, by omega⟩
  subst hm
  rw [show (m + 2 - 1) * (m + 2 - 1) = 1 + (m + 2) * m by simp only [show m + 2 - 1 = m + 1 by omega]; rw [Nat.add_mul, Nat.mul_add, Nat.add_mul]; omega, Nat.add_mul_mod_self_left, Nat.mod_eq_of_lt (by omega)]
theorem SC.one {n o b j : Nat} (hn : 2 ≤ n) (h : SC n o b j) : b ^ (o * 2 ^ j) % n = 1 := by
  rcases h with h | ⟨i, hi, h⟩
  · rw [Nat.pow_mul]; exact one_pow_mod hn h
  · obtain ⟨d, rfl⟩ : ∃ d, j = i + 1 + d := ⟨j - (i + 1), by omega⟩
    rw [Nat.pow_add, Nat.pow_succ, ← Nat.mul_assoc, ← Nat.mul_assoc, Nat.pow_mul, Nat.pow_mul]
    exact one_pow_mod hn (less_sq hn h)
theorem SC.down_ok {n o b : Nat} (hn : 3 ≤ n) (ho : o % 2 = 1) : ∀ (k j : Nat), SC n o b j → down b n k (o * 2 ^ j) = true
  | 0, _, _ => rfl
  | k + 1, 0, _ => by
    unfold down
    rw [show Nat.beq (Nat.mod (o * 2 ^ 0) 2) 0 = false by rw [show Nat.mod (o * 2 ^ 0) 2 = (o * 1) % 2 from rfl, Nat.mul_one, ho]; rfl]
  | k + 1, j + 1, h => by
    unfold down
    have e2 : o * 2 ^ (j + 1) = o * 2 ^ j * 2 := by rw [Nat.pow_succ, Nat.mul_assoc]
    have e3 : Nat.div (o * 2 ^ (j + 1)) 2 = o * 2 ^ j := by
      rw [e2]; exact Nat.mul_div_cancel _ (by omega)
    rw [show Nat.beq (Nat.mod (o * 2 ^ (j + 1)) 2) 0 = true by rw [show Nat.mod (o * 2 ^ (j + 1)) 2 = (o * 2 ^ (j + 1)) % 2 from rfl, e2, Nat.mul_mod_left]; rfl]
    simp only []
    rw [e3, pm_eq]
    have hcase : (b ^ (o * 2 ^ j) % n = n - 1) ∨ SC n o b j := by
      rcases h with h | ⟨i, hi, h⟩
      · exact .inr (.inl h)
      · rcases Nat.eq_or_lt_of_le (Nat.le_of_lt_succ hi) with he | hlt
        · subst he; exact .inl h
        · exact .inr (.inr ⟨i, hlt, h⟩)
    rcases hcase with hx | hx
    · rw [hx, show Nat.beq (n - 1) 1 = false by rw [← Bool.not_eq_true]; intro e; have := Nat.eq_of_beq_eq_true e; omega]
      exact Nat.beq_refl _
    · rw [hx.one (by omega)]
      exact SC.down_ok hn ho k j hx
theorem mrRow_some {n : Nat} (b o : Nat) : ∀ (t s : Nat), mrRow n t (b ^ (o * 2 ^ s) % n) = true → ∃ i, i < s + t ∧ b ^ (o * 2 ^ i) % n = n - 1
  | 0, _, h => by simp [mrRow] at h
  | t + 1, s, h => by
    unfold mrRow at h
    by_cases hx : b ^ (o * 2 ^ s) % n = n - 1
    · exact ⟨s, by omega, hx⟩
    · rw [if_neg hx, ← Nat.mul_mod, ← Nat.pow_add, show o * 2 ^ s + o * 2 ^ s = o * 2 ^ (s + 1) by rw [Nat.pow_succ, ← Nat.mul_assoc]; omega] at h
      obtain ⟨i, hi, e⟩ := mrRow_some b o t (s + 1) h
      exact ⟨i, by omega, e⟩
theorem mrOne_SC {n o t b : Nat} (h : mrOne n o t b = true) : SC n o b t := by
  unfold mrOne at h
  rw [Bool.or_eq_true, decide_eq_true_eq] at h
  rcases h with h | h
  · exact .inl h
  · rw [show b ^ o % n = b ^ (o * 2 ^ 0) % n by rw [Nat.pow_zero, Nat.mul_one]] at h
    obtain ⟨i, hi, e⟩ := mrRow_some b o t 0 h
    exact .inr ⟨i, by omega, e⟩
theorem mrAll_mem {n o t : Nat} : ∀ l : List Nat, mrAll n o t l = true → ∀ b ∈ l, mrOne n o t b = true
  | [], _, b, hb => by cases hb
  | x :: l, h, b, hb => by
    unfold mrAll at h
    by_cases hx : mrOne n o t x = true
    · rw [if_pos hx] at h
      rcases List.mem_cons.1 hb with rfl | hb
      · exact hx
      · exact mrAll_mem l h b hb
    · rw [if_neg hx] at h; exact absurd h (by simp)
theorem strong_of {n o t b : Nat} (hn : 3 ≤ n) (he : n - 1 = o * 2 ^ t) (ho : o % 2 = 1) (h : SC n o b t) : strong b n = true := by
  unfold strong
  rw [pm_eq, show Nat.sub n 1 = o * 2 ^ t from he, h.one (by omega)]
  exact h.down_ok hn ho 40 t
theorem strongs_of {n : Nat} : ∀ l : List Nat, (∀ b ∈ l, strong b n = true) → strongs n l = true
  | [], _ => rfl
  | b :: l, h => by
    unfold strongs
    rw [h b (by simp)]
    exact strongs_of l fun x hx => h x (by simp [hx])
theorem goS_sound {pq q L M x : Nat} (h0 : 0 < pq) (hx1 : q < x) (hxM : x ≤ M) (hg : Nat.gcd x primA = 1) (h2 : 2 ^ (pq * x - 1) % (pq * x) = 1) (hs : strongs (pq * x) bs12 = true) : ∀ k s, goS pq q L M k s = true → ∀ j, x = s + j * L → False
  | 0, s, h, _, _ => by simp [goS] at h
  | k + 1, s, h, j, hj => by
    have hsx : s ≤ x := by omega
    unfold goS at h
    rw [Nat.ble_eq_true_of_le (Nat.le_trans hsx hxM)] at h
    simp only [] at h
    match j, hj with
    | 0, hj =>
      have hsx : s = x := by omega
      subst hsx
      have hb : Nat.ble s q = false := by
        cases hb : Nat.ble s q with
        | false => rfl
        | true => have := Nat.le_of_ble_eq_true hb; omega
      rw [hb, hg, show Nat.beq 1 1 = true from rfl] at h
      simp only [] at h
      cases hm : Nat.mul pq s with
      | zero =>
        have : pq * s = 0 := hm
        rcases Nat.mul_eq_zero.1 this with h3 | h3 <;> omega
      | succ n =>
        have hmm : pq * s = n + 1 := hm
        rw [hmm] at h2 hs
        rw [hm] at h
        simp only [] at h
        rw [show Nat.beq (pm2 (Nat.succ n) n) 1 = true by rw [pm2_eq]; rw [show n.succ = n + 1 from rfl]; rw [show n + 1 - 1 = n by omega] at h2; rw [h2]; rfl, show strongs (Nat.succ n) bs12 = true from hs] at h
        exact absurd h (by simp)
    | j + 1, hj =>
      split at h
      · exact absurd h (by simp)
      · have hj2 : x = s + L + j * L := by rw [Nat.add_mul] at hj; omega
        cases ha : Nat.add s L with
        | zero => rw [ha] at h; exact absurd h (by simp)
        | succ t =>
          rw [ha] at h
          have ht : s + L = t + 1 := ha
          exact goS_sound h0 hx1 hxM hg h2 hs k (t + 1) h j (by rw [← ht]; exact hj2)
theorem onPQ_sound {p q x : Nat} (hp : 41 ≤ p) (hq : 41 ≤ q) (hx1 : q < x) (hn : p * q * x < 4294967296) (hg : Nat.gcd x primA = 1) (h2 : 2 ^ (p * q * x - 1) % (p * q * x) = 1) (hs : strongs (p * q * x) bs12 = true)
    (dp : (p - 1) ∣ p * q * x - 1) (dq : (q - 1) ∣ p * q * x - 1) (h : onPQ p q = true) : False := by
  obtain ⟨u, hu⟩ : ∃ u, p * q = u := ⟨_, rfl⟩
  have hu1 : 41 * 41 ≤ u := hu ▸ Nat.mul_le_mul hp hq
  unfold onPQ at h
  rw [show Nat.mul p q = u from hu] at h
  rw [hu] at hn h2 hs dp dq
  have hL := Nat.lcm_dvd dp dq
  have hLe : Nat.div (Nat.mul (Nat.sub p 1) (Nat.sub q 1)) (Nat.gcd (Nat.sub p 1) (Nat.sub q 1)) = Nat.lcm (p - 1) (q - 1) := rfl
  rw [hLe] at h
  have hL40 : p - 1 ≤ Nat.lcm (p - 1) (q - 1) := Nat.le_of_dvd (Nat.lcm_pos (by omega) (by omega)) (Nat.dvd_lcm_left _ _)
  obtain ⟨L, hLL⟩ : ∃ L, Nat.lcm (p - 1) (q - 1) = L := ⟨_, rfl⟩
  rw [hLL] at h hL hL40
  have hx0 : 0 < x := by omega
  have hux : 1 ≤ u * x := Nat.mul_pos (by omega) hx0
  have hmod : u * x % L = 1 := by
    obtain ⟨c, hc⟩ := hL
    rw [show u * x = 1 + L * c by omega, Nat.add_mul_mod_self_left, Nat.mod_eq_of_lt (by omega)]
  obtain ⟨u', hu'⟩ : ∃ u', u = u' + 1 := ⟨u - 1, by omega⟩
  obtain ⟨L', hL'⟩ : ∃ L', L = L' + 1 := ⟨L - 1, by omega⟩
  rw [hu', hL'] at h
  simp only [] at h
  have h3 : Nat.mod (Nat.succ u') (Nat.succ L') = u % L := by rw [hu', hL']; rfl
  rw [h3, show Nat.succ u' = u from hu'.symm, show Nat.succ L' = L from hL'.symm] at h
  have hm1 : (u % L) * x % L = 1 := by rw [Nat.mod_mul_mod]; exact hmod
  cases hr : u % L with
  | zero => rw [hr, Nat.zero_mul, Nat.zero_mod] at hm1; omega
  | succ r =>
    rw [hr] at h hm1
    simp only [] at h
    unfold onS at h
    have hgc : Nat.gcd (Nat.succ r) L = 1 := by
      have h4 : Nat.gcd (r + 1) L ∣ 1 := by
        have h5 : Nat.gcd (r + 1) L ∣ (r + 1) * x := Nat.dvd_trans (Nat.gcd_dvd_left _ _) ⟨x, rfl⟩
        have h6 := (Nat.dvd_mod_iff (Nat.gcd_dvd_right (r + 1) L)).2 h5
        rwa [hm1] at h6
      exact Nat.dvd_one.1 h4
    rw [hgc, show Nat.beq 1 1 = true from rfl] at h
    simp only [] at h
    obtain ⟨z, hz⟩ : ∃ z, inv L 60 true L (Nat.succ r) 0 1 = z := ⟨_, rfl⟩
    rw [hz] at h
    cases hv : z % L with
    | zero => rw [show Nat.mod z L = 0 from hv] at h; exact absurd h (by simp)
    | succ v =>
      rw [show Nat.mod z L = v + 1 from hv] at h
      simp only [] at h
      cases hb : Nat.beq (Nat.mod (Nat.mul (Nat.succ r) (Nat.succ v)) L) 1 with
      | false => rw [hb] at h; exact absurd h (by simp)
      | true =>
        rw [hb] at h
        simp only [] at h
        have h7 : (r + 1) * (v + 1) % L = 1 := Nat.eq_of_beq_eq_true hb
        have hxv : x % L = v + 1 := by
          have e1 : (x * ((r + 1) * (v + 1))) % L = x % L := by rw [Nat.mul_mod, h7, Nat.mul_one, Nat.mod_mod]
          have e2 : (x * ((r + 1) * (v + 1))) % L = (v + 1) % L := by
            rw [← Nat.mul_assoc, Nat.mul_comm x, Nat.mul_mod, hm1, Nat.one_mul, Nat.mod_mod]
          have hvl : v + 1 < L := hv ▸ Nat.mod_lt z (by omega)
          rw [← e1, e2, Nat.mod_eq_of_lt hvl]
        have hxM : x ≤ 4294967295 / u := (Nat.le_div_iff_mul_le (by omega)).2 (by rw [Nat.mul_comm]; omega)
        have hdm := Nat.div_add_mod x L
        cases hM : Nat.div 4294967295 u with
        | zero => rw [show 4294967295 / u = 0 from hM] at hxM; omega
        | succ M =>
          rw [hM] at h
          rw [show 4294967295 / u = M + 1 from hM] at hxM
          exact goS_sound (by omega) hx1 hxM hg h2 hs 20000 (v + 1) h (x / L) (by rw [Nat.mul_comm]; omega)
def pr256 : List Nat := [2, 3, 5, 7, 11, 13, 17, 19, 23, 29, 31, 37, 41, 43, 47, 53, 59, 61, 67, 71, 73, 79, 83, 89, 97, 101, 103, 107, 109, 113, 127, 131, 137, 139, 149, 151, 157, 163, 167, 173, 179, 181, 191, 193, 197, 199, 211, 223, 227, 229, 233, 239, 241, 251]
def pr102 : List Nat := [2, 3, 5, 7, 11, 13, 17, 19, 23, 29, 31, 37, 41, 43, 47, 53, 59, 61, 67, 71, 73, 79, 83, 89, 97, 101]
theorem sieveA_prod : sieveA = prodL pr256 := by decide +kernel
theorem sieveB_prod : sieveB = prodL pr102 := by decide +kernel
theorem primA_prod : primA = prodL bs12 := by decide +kernel
theorem PrimeN.prod_one {p : Nat} (h : PrimeN p) (l : List Nat) (hl : ∀ b ∈ l, 0 < b ∧ b < p) : Nat.gcd p (prodL l) = 1 := by
  rcases h.2 _ (Nat.gcd_dvd_left p (prodL l)) with h1 | h1
  · exact h1
  · exfalso
    have h2 := Nat.gcd_dvd_right p (prodL l)
    rw [h1] at h2
    obtain ⟨b, hb, hd⟩ := h.in_prod l h2
    have := Nat.le_of_dvd (hl b hb).1 hd
    have := (hl b hb).2
    omega
theorem PrimeN.may {p : Nat} (h : PrimeN p) (h41 : 41 ≤ p) : Go.Proofs.YtlndchmpnnlacaaDoor.may p = true := by
  unfold Go.Proofs.YtlndchmpnnlacaaDoor.may
  cases hb : Nat.ble p 101 with
  | true =>
    simp only []
    rw [show (30030 : Nat) = prodL [2, 3, 5, 7, 11, 13] by decide, h.prod_one _ (fun b hb => by
      have := (show ∀ b ∈ [2, 3, 5, 7, 11, 13], 0 < b ∧ b < 41 by decide) b hb
      omega)]
    rfl
  | false =>
    have h101 : ¬ p ≤ 101 := fun hle => by rw [Nat.ble_eq_true_of_le hle] at hb; exact absurd hb (by simp)
    simp only []
    rw [sieveB_prod, h.prod_one _ (fun b hb => by
      have := (show ∀ b ∈ pr102, 0 < b ∧ b ≤ 101 by decide) b hb
      omega)]
    rfl
theorem PrimeN.odd41 {p : Nat} (h : PrimeN p) (h41 : 41 ≤ p) : p % 2 = 1 := by
  rcases Nat.mod_two_eq_zero_or_one p with h1 | h1
  · rcases h.2 2 (Nat.dvd_of_mod_eq_zero h1) with h2 | h2 <;> omega
  · exact h1
theorem caseA {p : Nat} (h : PrimeN p) (h41 : 41 ≤ p) (hp : p ≤ 65536) : ∃ Q, onA Q p = true ∧ ∀ r, PrimeN r → r ∣ Q → r ≤ p := by
  have hodd := h.odd41 h41
  rcases Nat.lt_or_ge p 257 with h1 | h1
  · have hg : Nat.gcd p 30030 = 1 := by
      rw [show (30030 : Nat) = prodL [2, 3, 5, 7, 11, 13] by decide]
      exact h.prod_one _ (fun b hb => by
        have := (show ∀ b ∈ [2, 3, 5, 7, 11, 13], 0 < b ∧ b < 41 by decide) b hb
        omega)
    obtain ⟨Q, hQ, hr⟩ := goA_sound hg 108 41 primA rkA0 (by omega) h41 (by omega)
    refine ⟨Q, hQ, fun r hp hd => ?_⟩
    rcases hr r hp hd with h3 | h3
    · rw [primA_prod] at h3
      obtain ⟨b, hb, hd⟩ := hp.in_prod _ h3
      have h4 := (show ∀ b ∈ bs12, 0 < b ∧ b ≤ 37 by decide) b hb
      have := Nat.le_of_dvd h4.1 hd
      omega
    · exact h3
  · have hg : Nat.gcd p sieveA = 1 := by
      rw [sieveA_prod]
      exact h.prod_one _ (fun b hb => by
        have := (show ∀ b ∈ pr256, 0 < b ∧ b < 257 by decide) b hb
        omega)
    obtain ⟨Q, hQ, hr⟩ := goA_sound hg 32640 257 sieveA rkA1 (by omega) h1 (by omega)
    refine ⟨Q, hQ, fun r hp hd => ?_⟩
    rcases hr r hp hd with h3 | h3
    · rw [sieveA_prod] at h3
      obtain ⟨b, hb, hd⟩ := hp.in_prod _ h3
      have h4 := (show ∀ b ∈ pr256, 0 < b ∧ b < 257 by decide) b hb
      have := Nat.le_of_dvd h4.1 hd
      omega
    · exact h3
theorem one_pj (p j : Nat) : ∀ k, ∃ c, (1 + p * j) ^ k = 1 + k * (p * j) + p * p * c
  | 0 => ⟨0, by simp⟩
  | k + 1 => by
    obtain ⟨c, hc⟩ := one_pj p j k
    refine ⟨k * j * j + c + c * (p * j), ?_⟩
    rw [Nat.pow_succ, hc]
    simp only [Nat.mul_add, Nat.mul_one, Nat.mul_left_comm, Nat.mul_comm, Nat.add_assoc, Nat.add_comm, Nat.add_left_comm]
theorem PrimeN.sq_one_mod {p b n : Nat} (h : PrimeN p) (hb : b % p ≠ 0) (hd : p * p ∣ n) (hn : 0 < n) (h1 : b ^ (n - 1) % (p * p) = 1) : b ^ (p - 1) % (p * p) = 1 := by
  have h2 := h.1
  have hpp : 4 ≤ p * p := Nat.mul_le_mul h2 h2
  obtain ⟨x, hx⟩ : ∃ x, b ^ (p - 1) = x := ⟨_, rfl⟩
  have hxp : x % p = 1 := hx ▸ h.fermat hb
  have hxj : x = 1 + p * (x / p) := by have := Nat.div_add_mod x p; omega
  have hpow : x ^ p % (p * p) = 1 := by
    obtain ⟨c, hc⟩ := one_pj p (x / p) p
    rw [← hxj] at hc
    rw [hc, Nat.add_mul_mod_self_left, ← Nat.mul_assoc, Nat.add_mul_mod_self_left, Nat.mod_eq_of_lt (by omega)]
  obtain ⟨e, he⟩ := hd
  have hn1 : x ^ n % (p * p) = 1 := by
    rw [he, Nat.mul_assoc, Nat.pow_mul]
    exact one_pow_mod (by omega) hpow
  have hn2 : x ^ (n - 1) % (p * p) = 1 := by
    rw [← hx, ← Nat.pow_mul, Nat.mul_comm, Nat.pow_mul]
    exact one_pow_mod (by omega) h1
  rw [hx]
  rw [show n = n - 1 + 1 by omega, Nat.pow_succ, Nat.mul_mod, hn2, Nat.one_mul, Nat.mod_mod] at hn1
  exact hn1
theorem dvd_less {x r : Nat} (h : x % r = 1) : r ∣ x - 1 := by
  have := Nat.div_add_mod x r
  exact ⟨x / r, by omega⟩
theorem PrimeN.fermat_rest {q b m n : Nat} (h : PrimeN q) (hb : b % q ≠ 0) (hm : 0 < m) (hn : n = q * m) (h1 : b ^ (n - 1) % q = 1) : b ^ (m - 1) % q = 1 := by
  have h2 := h.1
  have e : n - 1 = (q - 1) * m + (m - 1) := by
    rw [hn, Nat.sub_mul, Nat.one_mul]
    have : m ≤ q * m := Nat.le_mul_of_pos_left m (by omega)
    omega
  rw [e, Nat.pow_add, Nat.pow_mul, Nat.mul_mod, one_pow_mod h2 (h.fermat hb), Nat.one_mul, Nat.mod_mod] at h1
  exact h1
theorem minfac {n : Nat} (h2 : 2 ≤ n) : ∃ p, PrimeN p ∧ p ∣ n ∧ ∀ d, 2 ≤ d → d ∣ n → p ≤ d := by
  obtain ⟨p, ⟨hp2, hpn⟩, _, hmin⟩ := least_of (P := fun d => 2 ≤ d ∧ d ∣ n) n ⟨h2, Nat.dvd_refl n⟩
  have hm : ∀ d, 2 ≤ d → d ∣ n → p ≤ d := fun d hd hdn => by
    rcases Nat.lt_or_ge d p with h | h
    · exact absurd ⟨hd, hdn⟩ (hmin d h)
    · exact h
  refine ⟨p, ⟨hp2, fun d hd => ?_⟩, hpn, hm⟩
  have hle := Nat.le_of_dvd (by omega) hd
  have hd0 : d ≠ 0 := fun e => by subst e; have := Nat.eq_zero_of_zero_dvd hd; omega
  by_cases h1 : d = 1
  · exact .inl h1
  · have := hm d (by omega) (Nat.dvd_trans hd hpn)
    exact .inr (by omega)
theorem onPQ_all {p q : Nat} (hp : PrimeN p) (hq : PrimeN q) (h41 : 41 ≤ p) (hlt : p < q) (hp2 : p ≤ 1625) (hle : p * (q * q) ≤ 4294967295) : onPQ p q = true := by
  have ho := hp.odd41 h41
  have ho2 := hq.odd41 (by omega)
  have hQ : goQ p 6000 (p + 2) = true := by
    have hm := hp.may h41
    rcases Nat.lt_or_ge p 43 with h1 | h1
    · exact goP_sound hm 1 41 rk1 (by omega) (by omega) (by omega)
    rcases Nat.lt_or_ge p 63 with h2 | h2
    · exact goP_sound hm 10 43 rk2 (by omega) (by omega) (by omega)
    rcases Nat.lt_or_ge p 103 with h3 | h3
    · exact goP_sound hm 20 63 rk3 (by omega) (by omega) (by omega)
    rcases Nat.lt_or_ge p 203 with h4 | h4
    · exact goP_sound hm 50 103 rk4 (by omega) (by omega) (by omega)
    · exact goP_sound hm 712 203 rk5 (by omega) (by omega) (by omega)
  exact goQ_sound (hq.may (by omega)) hle 6000 (p + 2) hQ (by omega) (by omega)
theorem bs_prime : ∀ b ∈ bs12, PrimeN b := by
  intro b hb
  refine ⟨(show ∀ b ∈ bs12, 2 ≤ b by decide) b hb, fun d hd => ?_⟩
  have hle := Nat.le_of_dvd ((show ∀ b ∈ bs12, 0 < b by decide) b hb) hd
  have : ∀ b ∈ bs12, ∀ d, d ≤ b → b % d = 0 → d = 1 ∨ d = b := by decide
  exact this b hb d hle (Nat.mod_eq_zero_of_dvd hd)
theorem divB_some {n : Nat} : ∀ (l : List Nat), divB n l = some true → n ∈ l
  | [], h => by simp [divB] at h
  | b :: l, h => by
    unfold divB at h
    by_cases hd : n % b = 0
    · rw [if_pos hd] at h
      simp at h
      simp [h]
    · rw [if_neg hd] at h
      exact List.mem_cons_of_mem _ (divB_some l h)
theorem divB_none {n : Nat} : ∀ (l : List Nat), divB n l = none → ∀ b ∈ l, n % b ≠ 0
  | [], _, b, hb => by cases hb
  | x :: l, h, b, hb => by
    unfold divB at h
    by_cases hd : n % x = 0
    · rw [if_pos hd] at h; exact absurd h (by simp)
    · rw [if_neg hd] at h
      rcases List.mem_cons.1 hb with rfl | hb
      · exact hd
      · exact divB_none l h b hb
/-- What passes below 2^32 is a prime. -/
theorem sound32 {n o t : Nat} (hn : n < 4294967296) (he : n - 1 = o * 2 ^ t) (ho : o % 2 = 1) (h : isMR n o t = true) : PrimeN n := by
  unfold isMR at h
  by_cases hn2 : n < 2
  · rw [if_pos hn2] at h; exact absurd h (by simp)
  rw [if_neg hn2] at h
  cases hdiv : divB n bases with
  | some r =>
    rw [hdiv] at h
    have : r = true := h
    subst this
    exact bs_prime n (divB_some bases hdiv)
  | none =>
    rw [hdiv] at h
    have hall : mrAll n o t bases = true := h
    have hnd : ∀ b ∈ bs12, n % b ≠ 0 := divB_none bases hdiv
    have hbig : ∀ d, 2 ≤ d → d ∣ n → 41 ≤ d := by
      intro d hd hdn
      rcases Nat.lt_or_ge d 41 with hlt | hge
      · exfalso
        obtain ⟨b, hb, hbd⟩ := (show ∀ d, d < 41 → 2 ≤ d → ∃ b ∈ bs12, d % b = 0 by decide) d hlt hd
        exact hnd b hb (Nat.mod_eq_zero_of_dvd (Nat.dvd_trans (Nat.dvd_of_mod_eq_zero hbd) hdn))
      · exact hge
    have hn41 := hbig n (by omega) (Nat.dvd_refl n)
    have hSC : ∀ b ∈ bs12, SC n o b t := fun b hb => mrOne_SC (mrAll_mem bases hall b hb)
    have hF : ∀ b ∈ bs12, b ^ (n - 1) % n = 1 := fun b hb => by rw [he]; exact (hSC b hb).one (by omega)
    have hFd : ∀ b ∈ bs12, ∀ r, 2 ≤ r → r ∣ n → b ^ (n - 1) % r = 1 := fun b hb r hr hd => by
      rw [← Nat.mod_mod_of_dvd _ hd, hF b hb, Nat.mod_eq_of_lt (by omega)]
    have hstr : strongs n bs12 = true := strongs_of bs12 fun b hb => strong_of (by omega) he ho (hSC b hb)
    have hbq : ∀ q, 41 ≤ q → ∀ b ∈ bs12, b % q ≠ 0 := by
      intro q hq b hb
      have : 1 ≤ b ∧ b ≤ 37 := (show ∀ b ∈ bs12, 1 ≤ b ∧ b ≤ 37 by decide) b hb
      rw [Nat.mod_eq_of_lt (by omega)]; omega
    have hsq : ∀ q, PrimeN q → q ≤ 65536 → q * q ∣ n → False := by
      intro q hq hle hd
      have h41 := hbig q hq.1 (Nat.dvd_trans ⟨q, rfl⟩ hd)
      obtain ⟨Q, hQ, _⟩ := caseA hq h41 hle
      have h4 : 2 ≤ q * q := Nat.le_trans (show 2 ≤ 41 * 41 by omega) (Nat.mul_le_mul h41 h41)
      have hone : ∀ b ∈ bs12, q * q ∣ b ^ (q - 1) - 1 := fun b hb => dvd_less (hq.sq_one_mod (hbq q h41 b hb) hd (by omega) (hFd b hb _ h4 hd))
      exact onA_square hQ (hone 2 (by decide)) (hone 3 (by decide))
    refine Classical.byContradiction fun hnp => ?_
    obtain ⟨p, hp, ⟨m, hm⟩, hmin⟩ := minfac (n := n) (by omega)
    have hp41 := hbig p hp.1 ⟨m, hm⟩
    have hm0 : m ≠ 0 := fun e => by rw [e, Nat.mul_zero] at hm; omega
    have hm1 : m ≠ 1 := fun e => by rw [e, Nat.mul_one] at hm; exact hnp (hm ▸ hp)
    have hpm := hmin m (by omega) ⟨p, by rw [Nat.mul_comm]; exact hm⟩
    have hp16 : p ≤ 65536 := by
      rcases Nat.lt_or_ge 65536 p with hlt | hge
      · have := Nat.mul_le_mul hlt (Nat.le_trans hlt hpm)
        omega
      · exact hge
    obtain ⟨q, hq, ⟨s, hs⟩, hminq⟩ := minfac (n := m) (by omega)
    have hqn : q ∣ n := ⟨p * s, by rw [hm, hs]; simp only [Nat.mul_left_comm]⟩
    have hpq := hmin q hq.1 hqn
    have hne : q ≠ p := fun e => hsq p hp hp16 ⟨s, by rw [hm, hs, e, Nat.mul_assoc]⟩
    have hlt : p < q := by omega
    have hs0 : s ≠ 0 := fun e => by rw [e, Nat.mul_zero] at hs; omega
    by_cases hs1 : s = 1
    · subst hs1
      rw [Nat.mul_one] at hs
      subst hs
      obtain ⟨Q, hQ, hr⟩ := caseA hp hp41 hp16
      have hd := onA_prime hQ hq fun b hb => dvd_less (hq.fermat_rest (n := n) (hbq m (by omega) b hb) (by omega) (by rw [hm, Nat.mul_comm]) (hFd b hb m hq.1 hqn))
      have := hr m hq hd
      omega
    · have hsm : s ∣ m := ⟨q, by rw [hs, Nat.mul_comm]⟩
      have hsn : s ∣ n := Nat.dvd_trans hsm ⟨p, by rw [hm, Nat.mul_comm]⟩
      have hqs := hminq s (by omega) hsm
      have hpqq : p * (q * q) ≤ n := by rw [hm, hs]; exact Nat.mul_le_mul_left p (Nat.mul_le_mul_left q hqs)
      have hq10 : q ≤ 10404 := by
        rcases Nat.lt_or_ge 10404 q with h1 | h1
        · have := Nat.mul_le_mul hp41 (Nat.mul_le_mul h1 h1)
          omega
        · exact h1
      have hp1 : p ≤ 1625 := by
        rcases Nat.lt_or_ge 1625 p with h1 | h1
        · have h2 : 1626 ≤ q := by omega
          have := Nat.mul_le_mul (show 1626 ≤ p from h1) (Nat.mul_le_mul h2 h2)
          omega
        · exact h1
      have hnes : s ≠ q := fun e => hsq q hq (by omega) ⟨p, by rw [hm, hs, e]; simp only [Nat.mul_comm]⟩
      have hn3 : p * q * s = n := by rw [hm, hs, Nat.mul_assoc]
      have hq41 : 41 ≤ q := by omega
      have hgp := goC_sound (hp.may hp41) 5184 41 rkC (by have := hp.odd41 hp41; omega) hp41 (by omega)
      have hgq := goC_sound (hq.may hq41) 5184 41 rkC (by have := hq.odd41 hq41; omega) hq41 (by omega)
      have dp := gen_dvd hp hp41 (by omega) hgp fun b hb => hFd b hb p hp.1 ⟨m, hm⟩
      have dq := gen_dvd hq hq41 (by omega) hgq fun b hb => hFd b hb q hq.1 hqn
      have hgs : Nat.gcd s primA = 1 := by
        refine Classical.byContradiction fun hg => ?_
        have hg0 : Nat.gcd s primA ≠ 0 := fun e => by have := Nat.eq_zero_of_gcd_eq_zero_left e; omega
        obtain ⟨r, hr, hrd⟩ := prime_dvd (Nat.gcd s primA) (by omega)
        have h1 := hbig r hr.1 (Nat.dvd_trans (Nat.dvd_trans hrd (Nat.gcd_dvd_left _ _)) hsn)
        have h2 := Nat.dvd_trans hrd (Nat.gcd_dvd_right s primA)
        rw [primA_prod] at h2
        obtain ⟨b, hb, hbd⟩ := hr.in_prod _ h2
        have h4 := (show ∀ b ∈ bs12, 0 < b ∧ b ≤ 37 by decide) b hb
        have := Nat.le_of_dvd h4.1 hbd
        omega
      exact onPQ_sound hp41 hq41 (by omega) (by rw [hn3]; exact hn) hgs (by rw [hn3]; exact hF 2 (by decide)) (by rw [hn3]; exact hstr)
        (by rw [hn3]; exact dp) (by rw [hn3]; exact dq) (onPQ_all hp hq hp41 hlt hp1 (by omega))
end Go.Proofs.YtlndchmpnnlacaaDoor
