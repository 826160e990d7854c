/- The order of an element: plain mathematics; and what Factor hands back of a number below 2^31, when Is tells the primes. -/
import Derived.Test.YtehlnkhbfbnadaaDoorRkS
import Derived.Test.YtehlnkhbfbnadaaDoorOrd
namespace Go.Proofs.YtehlnkhbfbnadaaDoor
/-- n is a's order modulo p. -/
def IsOrd (p a n : Nat) : Prop := 0 < n ∧ a ^ n % p = 1 ∧ ∀ q, PrimeN q → q ∣ n → a ^ (n / q) % p ≠ 1
theorem pow_up {a p d n : Nat} (hp : 2 ≤ p) (h : a ^ d % p = 1) (hd : d ∣ n) : a ^ n % p = 1 := by
  obtain ⟨k, rfl⟩ := hd
  rw [Nat.pow_mul]
  exact one_pow_mod hp h
theorem IsOrd.dvd {p a n m : Nat} (hp : 2 ≤ p) (h : IsOrd p a n) (hm : a ^ m % p = 1) : n ∣ m := by
  have hg := pow_gcd n m h.2.1 hm
  obtain ⟨f, hf⟩ := Nat.gcd_dvd_left n m
  obtain ⟨d, hd⟩ : ∃ d, Nat.gcd n m = d := ⟨_, rfl⟩
  rw [hd] at hg hf
  have hdm : d ∣ m := hd ▸ Nat.gcd_dvd_right n m
  have hd0 : 0 < d := Nat.pos_of_ne_zero fun e => by rw [e, Nat.zero_mul] at hf; have := h.1; omega
  by_cases h1 : f = 1
  · rw [h1, Nat.mul_one] at hf
    rw [hf]; exact hdm
  · exfalso
    have hf0 : f ≠ 0 := fun e => by rw [e, Nat.mul_zero] at hf; have := h.1; omega
    obtain ⟨q, hq, ⟨g, hg2⟩⟩ := prime_dvd f (by omega)
    have hq2 := hq.1
    refine h.2.2 q hq ⟨d * g, by rw [hf, hg2]; simp only [Nat.mul_left_comm]⟩ ?_
    have : n / q = d * g := by
      rw [hf, hg2, show d * (q * g) = (d * g) * q by simp only [Nat.mul_comm, Nat.mul_left_comm]]
      exact Nat.mul_div_cancel _ (by omega)
    rw [this]
    exact pow_up hp hg ⟨g, rfl⟩
theorem IsOrd.unique {p a n m : Nat} (hp : 2 ≤ p) (h : IsOrd p a n) (k : IsOrd p a m) : n = m :=
  Nat.dvd_antisymm (h.dvd hp k.2.1) (k.dvd hp h.2.1)
/-- On the way to the order: what is left to try, and c, whose primes are all needed. -/
def OrdInv (p a n left : Nat) : Prop := 0 < n ∧ a ^ n % p = 1 ∧ ∃ c, n = left * c ∧ ∀ q, PrimeN q → q ∣ c → a ^ (n / q) % p ≠ 1
theorem OrdInv.start {p a n : Nat} (h0 : 0 < n) (h1 : a ^ n % p = 1) : OrdInv p a n n :=
  ⟨h0, h1, 1, by omega, fun q hq hd => by have := Nat.le_of_dvd (by omega) hd; have := hq.1; omega⟩
theorem OrdInv.done {p a n : Nat} (h : OrdInv p a n 1) : IsOrd p a n := by
  obtain ⟨h0, h1, c, hc, hq⟩ := h
  rw [Nat.one_mul] at hc
  subst hc
  exact ⟨h0, h1, hq⟩
theorem OrdInv.less {p a n left q : Nat} (hp : 2 ≤ p) (hq : PrimeN q) (h : OrdInv p a n (left * q)) (h1 : a ^ (n / q) % p = 1) : OrdInv p a (n / q) left := by
  obtain ⟨h0, _, c, hc, hr⟩ := h
  have hq2 := hq.1
  have e : n / q = left * c := by
    rw [hc, show left * q * c = (left * c) * q by simp only [Nat.mul_comm, Nat.mul_left_comm]]
    exact Nat.mul_div_cancel _ (by omega)
  have hn : n = n / q * q := by rw [e, hc]; simp only [Nat.mul_comm, Nat.mul_left_comm]
  refine ⟨Nat.pos_of_ne_zero fun e0 => by rw [e0, Nat.zero_mul] at hn; omega, h1, c, e, fun r hr1 hd h2 => hr r hr1 hd ?_⟩
  obtain ⟨f, hf⟩ := hd
  have hr2 := hr1.1
  have e2 : n / q / r = left * f := by
    rw [e, hf, show left * (r * f) = (left * f) * r by simp only [Nat.mul_comm, Nat.mul_left_comm]]
    exact Nat.mul_div_cancel _ (by omega)
  have e3 : n / r = left * f * q := by
    rw [hc, hf, show left * q * (r * f) = (left * f * q) * r by simp only [Nat.mul_comm, Nat.mul_left_comm]]
    exact Nat.mul_div_cancel _ (by omega)
  rw [e2] at h2
  rw [e3]
  exact pow_up hp h2 ⟨q, rfl⟩
theorem OrdInv.keep {p a n left q : Nat} (hq : PrimeN q) (h : OrdInv p a n (left * q)) (h1 : a ^ (n / q) % p ≠ 1) : OrdInv p a n left := by
  obtain ⟨h0, h2, c, hc, hr⟩ := h
  refine ⟨h0, h2, q * c, by rw [hc, Nat.mul_assoc], fun r hr1 hd => ?_⟩
  rcases hr1.euclid (Nat.mod_eq_zero_of_dvd hd) with h3 | h3
  · rcases hq.2 r (Nat.dvd_of_mod_eq_zero h3) with h4 | h4
    · have := hr1.1; omega
    · rw [h4]; exact h1
  · exact hr r hr1 (Nat.dvd_of_mod_eq_zero h3)
theorem OrdInv.keeps {p a n left q : Nat} (hq : PrimeN q) (h1 : a ^ (n / q) % p ≠ 1) : ∀ t, OrdInv p a n (left * q ^ t) → OrdInv p a n left
  | 0, h => by rwa [Nat.pow_zero, Nat.mul_one] at h
  | t + 1, h => by
    rw [Nat.pow_succ, ← Nat.mul_assoc] at h
    exact OrdInv.keeps hq h1 t (h.keep hq h1)
theorem redO_inv {p a q left : Nat} (hp : 2 ≤ p) (hq : PrimeN q) : ∀ (t o : Nat), OrdInv p a o (left * q ^ t) → OrdInv p a (redO p a q t o) left
  | 0, o, h => by rwa [Nat.pow_zero, Nat.mul_one] at h
  | t + 1, o, h => by
    unfold redO
    rw [Nat.pow_succ, ← Nat.mul_assoc] at h
    by_cases h1 : a ^ (o / q) % p = 1
    · rw [if_pos h1]
      exact redO_inv hp hq t _ (h.less hp hq h1)
    · rw [if_neg h1]
      exact OrdInv.keeps hq h1 t (h.keep hq h1)
/-- The product of the powers. -/
def prodP : List Int → List Int → Nat
  | q :: qs, t :: ts => prodP qs ts * q.toNat ^ t.toNat
  | _, _ => 1
theorem ordL_inv {p a : Nat} (hp : 2 ≤ p) : ∀ (qs ts : List Int) (o : Nat), (∀ q ∈ qs, PrimeN q.toNat) → OrdInv p a o (prodP qs ts) → IsOrd p a (ordL p a qs ts o)
  | [], ts, o, _, h => by
    have h' : OrdInv p a o 1 := by cases ts <;> exact h
    have : ordL p a [] ts o = o := by cases ts <;> rfl
    rw [this]; exact h'.done
  | q :: qs, [], o, _, h => by
    have h' : OrdInv p a o 1 := h
    exact h'.done
  | q :: qs, t :: ts, o, hq, h => by
    show IsOrd p a (ordL p a qs ts (redO p a q.toNat t.toNat o))
    exact ordL_inv hp qs ts _ (fun x hx => hq x (by simp [hx])) (redO_inv hp (hq q (by simp)) t.toNat o h)
theorem stripF_spec {p : Nat} (hp : 2 ≤ p) : ∀ f q, 0 < q → q < 2 ^ f → q = (stripF f p q).1 * p ^ (stripF f p q).2 ∧ (stripF f p q).1 % p ≠ 0 ∧ (stripF f p q).2 ≤ f
  | 0, q, h0, h1 => by rw [Nat.pow_zero] at h1; omega
  | f + 1, q, h0, h1 => by
    unfold stripF
    by_cases h : q % p = 0
    · rw [if_pos h]
      obtain ⟨d, hd⟩ := Nat.dvd_of_mod_eq_zero h
      have hdiv : q / p = d := by rw [hd]; exact Nat.mul_div_cancel_left _ (by omega)
      have hd0 : 0 < d := Nat.pos_of_ne_zero fun e => by rw [e, Nat.mul_zero] at hd; omega
      have hdl : d < 2 ^ f := by
        have h2 := Nat.mul_le_mul_right d hp
        rw [Nat.pow_succ] at h1
        omega
      obtain ⟨h3, h4, h5⟩ := stripF_spec hp f d hd0 hdl
      rw [hdiv]
      refine ⟨?_, h4, by omega⟩
      show q = (stripF f p d).1 * p ^ ((stripF f p d).2 + 1)
      rw [Nat.pow_succ, ← Nat.mul_assoc, ← h3, hd, Nat.mul_comm]
    · rw [if_neg h]
      exact ⟨by simp, h, by simp⟩
theorem prodP_append : ∀ (ps ts : List Int) (x t : Int), ps.length = ts.length → prodP (ps ++ [x]) (ts ++ [t]) = prodP ps ts * x.toNat ^ t.toNat
  | [], [], x, t, _ => by simp [prodP]
  | q :: qs, s :: ts, x, t, h => by
    show prodP (qs ++ [x]) (ts ++ [t]) * _ = prodP qs ts * _ * _
    rw [prodP_append qs ts x t (by simpa using h)]
    simp only [Nat.mul_comm, Nat.mul_left_comm]
  | [], _ :: _, _, _, h => by simp at h
  | _ :: _, [], _, _, h => by simp at h
/-- The lists so far: primes, and how often. -/
def FacOk (ps ts : List Int) : Prop := ps.length = ts.length ∧ (∀ x ∈ ps, PrimeN x.toNat ∧ 2 ≤ x ∧ x ≤ 1099511627776) ∧ ∀ x ∈ ts, (0 : Int) ≤ x ∧ x ≤ 64
theorem FacOk.add {ps ts : List Int} {q k : Nat} (h : FacOk ps ts) (hq : PrimeN q) (hl : q ≤ 1099511627776) (hk : k ≤ 64) : FacOk (ps ++ [(q : Int)]) (ts ++ [(k : Int)]) := by
  refine ⟨by simp [h.1], fun x hx => ?_, fun x hx => ?_⟩
  · rcases List.mem_append.1 hx with h1 | h1
    · exact h.2.1 x h1
    · simp at h1
      subst h1
      have := hq.1
      exact ⟨by simpa using hq, by omega, by omega⟩
  · rcases List.mem_append.1 hx with h1 | h1
    · exact h.2.2 x h1
    · simp at h1
      subst h1
      omega
theorem pow_len {l q : Nat} (hq : 0 < q) (h : 2 ^ l * q ≤ 2147483647) : l ≤ 30 := by
  rcases Nat.lt_or_ge 30 l with h1 | h1
  · have h2 := Nat.pow_le_pow_right (show 0 < 2 by omega) (show 31 ≤ l from h1)
    have h3 := Nat.mul_le_mul h2 hq
    omega
  · exact h1
theorem facRun_spec {isB : Nat → Option Bool} {V : Nat → Bool} (hB : ∀ q, q ≤ 2147483647 → isB q = some (V q)) (hV : ∀ q, q ≤ 2147483647 → (V q = true ↔ PrimeN q)) :
    ∀ (f p q : Nat) (ps ts : List Int), 0 < q → 3 ≤ p → p % 2 = 1 → q % 2 = 1 → (∀ d, 2 ≤ d → d ∣ q → p ≤ d) → 46345 ≤ p + 2 * f → p ≤ 46343 → FacOk ps ts → 2 ^ ps.length * q ≤ 2147483647 →
    ∃ r, facRun isB f p q ps ts = some r ∧ FacOk r.1 r.2 ∧ r.1.length ≤ 31 ∧ prodP r.1 r.2 = prodP ps ts * q
  | 0, p, q, ps, ts, _, _, _, _, _, hf, hp, _, _ => by omega
  | f + 1, p, q, ps, ts, h0, h3, hpo, hqo, hd, hf, hp, hok, hl => by
    have hq31 : q ≤ 2147483647 := Nat.le_trans (Nat.le_mul_of_pos_left q (Nat.pow_pos (by omega))) hl
    have hlen := pow_len h0 hl
    unfold facRun
    rw [hB q hq31]
    dsimp only
    by_cases hstop : q ≤ 1 ∨ V q = true
    · rw [if_pos hstop, if_pos ⟨by omega, by rw [← hok.1]; omega⟩]
      refine ⟨_, rfl, ?_⟩
      unfold finF
      by_cases h1 : q ≤ 1
      · rw [if_pos h1]
        exact ⟨hok, Nat.le_trans hlen (by omega), by rw [show q = 1 by omega, Nat.mul_one]⟩
      · rw [if_neg h1]
        have hqp := (hV q hq31).1 (hstop.resolve_left h1)
        refine ⟨hok.add (k := 1) hqp (by omega) (by omega), by simp; omega, ?_⟩
        rw [prodP_append _ _ _ _ hok.1]
        simp
    · rw [if_neg hstop]
      have hq2 : 2 ≤ q := by omega
      have hnp : ¬ PrimeN q := fun h => hstop (.inr ((hV q hq31).2 h))
      have hpp : p * p ≤ q := by
        obtain ⟨d, hdp, ⟨e, he⟩, hmin⟩ := minfac hq2
        have hd1 := hd d hdp.1 ⟨e, he⟩
        have he1 : e ≠ 1 := fun h => by rw [h, Nat.mul_one] at he; exact hnp (he ▸ hdp)
        have he0 : e ≠ 0 := fun h => by rw [h, Nat.mul_zero] at he; omega
        have he2 := hd e (by omega) ⟨d, by rw [Nat.mul_comm]; exact he⟩
        rw [he]; exact Nat.mul_le_mul hd1 he2
      have hp46 : p ≤ 46340 := by
        rcases Nat.lt_or_ge 46340 p with h | h
        · have := Nat.mul_le_mul h h; omega
        · exact h
      obtain ⟨h4, h5, h6⟩ := stripF_spec (p := p) (by omega) 64 q h0 (Nat.lt_of_le_of_lt hq31 (by decide))
      obtain ⟨m, hm⟩ : ∃ m, (stripF 64 p q).1 = m := ⟨_, rfl⟩
      obtain ⟨k, hk⟩ : ∃ k, (stripF 64 p q).2 = k := ⟨_, rfl⟩
      rw [hm, hk] at h4
      rw [hm] at h5
      rw [hk] at h6
      rw [hm, hk]
      have hokF : okF p q m k ps ts = true := by
        unfold okF
        simp only [Bool.and_eq_true, decide_eq_true_eq]
        exact ⟨⟨⟨⟨h5, h4⟩, h6⟩, by omega⟩, by rw [← hok.1]; omega⟩
      rw [if_pos hokF]
      have hnext : ∀ x, x ∣ q → x % p ≠ 0 → ∀ d, 2 ≤ d → d ∣ x → p + 2 ≤ d := by
        intro x hx hxp d hd2 hdx
        have h7 := hd d hd2 (Nat.dvd_trans hdx hx)
        have h8 : d ≠ p := fun e => hxp (Nat.mod_eq_zero_of_dvd (e ▸ hdx))
        have h9 : d ≠ p + 1 := fun e => by
          have h10 : 2 ∣ d := ⟨(p + 1) / 2, by omega⟩
          have h11 := Nat.mod_eq_zero_of_dvd (Nat.dvd_trans (Nat.dvd_trans h10 hdx) hx)
          omega
        omega
      by_cases hk0 : k = 0
      · rw [if_pos hk0]
        rw [hk0, Nat.pow_zero, Nat.mul_one] at h4
        exact facRun_spec hB hV f (p + 2) q ps ts h0 (by omega) (by omega) hqo (hnext q (Nat.dvd_refl q) (h4 ▸ h5)) (by omega) (by omega) hok hl
      · rw [if_neg hk0]
        have hm0 : 0 < m := Nat.pos_of_ne_zero fun e => by rw [e, Nat.zero_mod] at h5; exact h5 rfl
        have hmq : m ∣ q := ⟨p ^ k, h4⟩
        have hpq : p ∣ q := by
          obtain ⟨j, rfl⟩ : ∃ j, k = j + 1 := ⟨k - 1, by omega⟩
          exact ⟨m * p ^ j, by rw [h4, Nat.pow_succ]; simp only [Nat.mul_comm, Nat.mul_left_comm]⟩
        have hpr : PrimeN p := ⟨by omega, fun d hdp => by
          have hd0 : d ≠ 0 := fun e => by subst e; have := Nat.eq_zero_of_zero_dvd hdp; omega
          by_cases h1 : d = 1
          · exact .inl h1
          · have h7 := hd d (by omega) (Nat.dvd_trans hdp hpq)
            have h8 := Nat.le_of_dvd (by omega) hdp
            exact .inr (by omega)⟩
        have hpk : 2 ≤ p ^ k := by
          obtain ⟨j, rfl⟩ : ∃ j, k = j + 1 := ⟨k - 1, by omega⟩
          have := Nat.pow_le_pow_right (show 0 < p by omega) (show 1 ≤ j + 1 by omega)
          rw [Nat.pow_one] at this
          omega
        have hl2 : 2 ^ (ps ++ [(p : Int)]).length * m ≤ 2147483647 := by
          rw [List.length_append, List.length_singleton, Nat.pow_succ, Nat.mul_assoc]
          refine Nat.le_trans (Nat.mul_le_mul_left _ ?_) hl
          rw [h4, Nat.mul_comm]
          exact Nat.mul_le_mul_left m hpk
        have hmo : m % 2 = 1 := by
          rcases Nat.mod_two_eq_zero_or_one m with h | h
          · have := Nat.mod_eq_zero_of_dvd (Nat.dvd_trans (Nat.dvd_of_mod_eq_zero h) hmq); omega
          · exact h
        obtain ⟨r, h7, h8, h9, h10⟩ := facRun_spec hB hV f (p + 2) m (ps ++ [(p : Int)]) (ts ++ [(k : Int)]) hm0 (by omega) (by omega) hmo (hnext m hmq h5) (by omega) (by omega) (hok.add hpr (by omega) h6) hl2
        refine ⟨r, h7, h8, h9, ?_⟩
        rw [h10, prodP_append _ _ _ _ hok.1, h4]
        simp only [Int.toNat_natCast, Nat.mul_assoc, Nat.mul_comm]
theorem facOk_nil : FacOk [] [] := ⟨rfl, by simp, by simp⟩
theorem facTop_spec {isB : Nat → Option Bool} {V : Nat → Bool} (hB : ∀ q, q ≤ 2147483647 → isB q = some (V q)) (hV : ∀ q, q ≤ 2147483647 → (V q = true ↔ PrimeN q)) (n : Nat) (hn : 0 < n) (hl : n ≤ 2147483647) :
    ∃ r, facTop isB 23180 n = some r ∧ FacOk r.1 r.2 ∧ r.1.length ≤ 31 ∧ prodP r.1 r.2 = n := by
  obtain ⟨h4, h5, h6⟩ := stripF_spec (p := 2) (by omega) 64 n hn (Nat.lt_of_le_of_lt hl (by decide))
  unfold facTop
  obtain ⟨m, hm⟩ : ∃ m, (stripF 64 2 n).1 = m := ⟨_, rfl⟩
  obtain ⟨k, hk⟩ : ∃ k, (stripF 64 2 n).2 = k := ⟨_, rfl⟩
  rw [hm, hk] at h4
  rw [hm] at h5
  rw [hk] at h6
  rw [hm, hk]
  have hokF : okF 2 n m k [] [] = true := by
    unfold okF
    simp only [Bool.and_eq_true, decide_eq_true_eq]
    exact ⟨⟨⟨⟨h5, h4⟩, h6⟩, by simp⟩, by simp⟩
  rw [if_pos hokF]
  have hodd : ∀ x, x % 2 = 1 → ∀ d, 2 ≤ d → d ∣ x → 3 ≤ d := by
    intro x hx d hd hdx
    rcases Nat.lt_or_ge d 3 with h | h
    · have : d = 2 := by omega
      subst this
      have := Nat.mod_eq_zero_of_dvd hdx
      omega
    · exact h
  by_cases hk0 : k = 0
  · rw [if_pos hk0]
    rw [hk0, Nat.pow_zero, Nat.mul_one] at h4
    have h2 : n % 2 = 1 := by omega
    obtain ⟨r, h7, h8, h9, h10⟩ := facRun_spec hB hV 23180 3 n [] [] hn (by omega) (by omega) h2 (hodd n h2) (by omega) (by omega) facOk_nil (by simpa using hl)
    exact ⟨r, h7, h8, h9, by rw [h10]; simp [prodP]⟩
  · rw [if_neg hk0]
    have hm0 : 0 < m := by omega
    have hpk : 2 ≤ 2 ^ k := by
      have := Nat.pow_le_pow_right (show 0 < 2 by omega) (show 1 ≤ k by omega)
      rw [Nat.pow_one] at this
      omega
    have hl2 : 2 ^ ([2] : List Int).length * m ≤ 2147483647 := by
      refine Nat.le_trans ?_ hl
      rw [h4, Nat.mul_comm]
      exact Nat.mul_le_mul_left m (by simpa using hpk)
    obtain ⟨r, h7, h8, h9, h10⟩ := facRun_spec hB hV 23180 3 m [2] [(k : Int)] hm0 (by omega) (by omega) (by omega) (hodd m (by omega)) (by omega) (by omega)
      (FacOk.add (ps := []) (ts := []) (q := 2) facOk_nil (bs_prime 2 (by decide)) (by omega) h6) hl2
    refine ⟨r, h7, h8, h9, ?_⟩
    rw [h10, h4]
    simp [prodP, Nat.mul_comm]
theorem FacOk.good {r : List Int × List Int} (h : FacOk r.1 r.2) (hl : r.1.length ≤ 31) : goodR r = true := by
  unfold goodR
  simp only [Bool.and_eq_true, decide_eq_true_eq, List.all_eq_true]
  exact ⟨⟨⟨h.1, by omega⟩, fun x hx => (h.2.1 x hx).2⟩, fun x hx => h.2.2 x hx⟩
/-- What Is says of numbers below 2^31. -/
def isV (q : Nat) : Bool := if q < 2 then false else isMR q (stripF 64 2 (q - 1)).1 (stripF 64 2 (q - 1)).2
def isW (q : Nat) : Option Bool := if q ≤ 2147483647 then some (isV q) else none
theorem strip2 {q : Nat} (h2 : 2 ≤ q) (hl : q ≤ 2147483647) : q - 1 = (stripF 64 2 (q - 1)).1 * 2 ^ (stripF 64 2 (q - 1)).2 ∧ (stripF 64 2 (q - 1)).1 % 2 = 1 := by
  obtain ⟨h, k, _⟩ := stripF_spec (p := 2) (by omega) 64 (q - 1) (by omega) (Nat.lt_of_le_of_lt (Nat.sub_le q 1) (Nat.lt_of_le_of_lt hl (by decide)))
  exact ⟨h, by omega⟩
theorem isW_known : IsKnown TabG isW := fun q b W hg h => by
  unfold isW at h
  by_cases hl : q ≤ 2147483647
  · rw [if_pos hl] at h
    obtain rfl := Option.some.inj h
    unfold isV
    by_cases h2 : q < 2
    · rw [if_pos h2]
      exact is_low q h2 W
    · rw [if_neg h2]
      obtain ⟨h3, h4⟩ := strip2 (q := q) (by omega) hl
      exact is_gen q _ _ W hg (by omega) h3 h4 (by omega)
  · rw [if_neg hl] at h; cases h
theorem isW_some {q : Nat} (h : q ≤ 2147483647) : isW q = some (isV q) := if_pos h
theorem isV_prime {q : Nat} (hl : q ≤ 2147483647) : isV q = true ↔ PrimeN q := by
  unfold isV
  by_cases h2 : q < 2
  · rw [if_pos h2]
    exact ⟨fun h => (by cases h), fun h => by have := h.1; omega⟩
  · rw [if_neg h2]
    obtain ⟨h3, h4⟩ := strip2 (q := q) (by omega) hl
    exact ⟨fun h => sound32 (by omega) h3 h4 h, fun h => isMR_prime h h3⟩
theorem ord_start {p a : Nat} (hp : PrimeN p) (ha : a < p) (ha0 : 0 < a) : OrdInv p a (p - 1) (p - 1) :=
  OrdInv.start (by have := hp.1; omega) (hp.fermat (by rw [Nat.mod_eq_of_lt ha]; omega))
theorem order_facs {p a : Nat} (hp : PrimeN p) (hpl : p ≤ 2147483647) (ha : a < p) (ha0 : 0 < a) :
    ∃ r, facTop isW 23180 (p - 1) = some r ∧ goodR r = true ∧ IsOrd p a (ordL p a r.1 r.2 (p - 1)) := by
  have hp2 := hp.1
  obtain ⟨r, h1, h2, h3, h4⟩ := facTop_spec (isB := isW) (V := isV) (fun q hq => isW_some hq) (fun q hq => isV_prime hq) (p - 1) (by omega) (by omega)
  refine ⟨r, h1, h2.good h3, ordL_inv hp2 _ _ _ (fun q hq => (h2.2.1 q hq).1) ?_⟩
  rw [h4]
  exact ord_start hp ha ha0
theorem IsOrd.le {p a n : Nat} (hp : PrimeN p) (ha : a < p) (ha0 : 0 < a) (h : IsOrd p a n) : n ∣ p - 1 ∧ n ≤ p - 1 := by
  have hp2 := hp.1
  have := h.dvd hp2 (hp.fermat (by rw [Nat.mod_eq_of_lt ha]; omega))
  exact ⟨this, Nat.le_of_dvd (by omega) this⟩
end Go.Proofs.YtehlnkhbfbnadaaDoor
