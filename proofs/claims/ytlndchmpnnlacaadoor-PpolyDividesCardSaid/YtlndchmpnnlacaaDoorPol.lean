/- Sums of integers, and the product of series: plain mathematics. Polynomials over a prime as lists: plain mathematics. Division of polynomials over a prime: plain mathematics. Gcds of polynomials over a prime: plain mathematics. Remainders and powers of polynomials over a prime: plain mathematics. The power to the prime, and values: plain mathematics. -/
import Derived.Test.YtlndchmpnnlacaaDoorRows
import Derived.Test.YtlndchmpnnlacaaDoorKit
import Derived.Test.YtlndchmpnnlacaaDoorFermat
namespace Go.Proofs.YtlndchmpnnlacaaDoor
/-- A sum. -/
def sumZ : Nat → (Nat → Int) → Int
  | 0, _ => 0
  | n + 1, f => sumZ n f + f n
theorem sumZ_zero (f : Nat → Int) : sumZ 0 f = 0 := rfl
theorem sumZ_succ (n : Nat) (f : Nat → Int) : sumZ (n + 1) f = sumZ n f + f n := rfl
theorem sumZ_congr {n : Nat} {f g : Nat → Int} (h : ∀ i, i < n → f i = g i) : sumZ n f = sumZ n g := by
  induction n with
  | zero => rfl
  | succ n ih => rw [sumZ_succ, sumZ_succ, ih fun i hi => h i (by omega), h n (by omega)]
theorem sumZ_add (n : Nat) (f g : Nat → Int) : sumZ n (fun i => f i + g i) = sumZ n f + sumZ n g := by
  induction n with
  | zero => rfl
  | succ n ih => rw [sumZ_succ, sumZ_succ, sumZ_succ, ih]; omega
theorem sumZ_sub (n : Nat) (f g : Nat → Int) : sumZ n (fun i => f i - g i) = sumZ n f - sumZ n g := by
  induction n with
  | zero => rfl
  | succ n ih => rw [sumZ_succ, sumZ_succ, sumZ_succ, ih]; omega
theorem sumZ_mul (n : Nat) (c : Int) (f : Nat → Int) : sumZ n (fun i => c * f i) = c * sumZ n f := by
  induction n with
  | zero => simp [sumZ_zero]
  | succ n ih => rw [sumZ_succ, sumZ_succ, ih, Int.mul_add]
theorem sumZ_mul_right (n : Nat) (c : Int) (f : Nat → Int) : sumZ n (fun i => f i * c) = sumZ n f * c := by
  rw [Int.mul_comm, ← sumZ_mul]
  exact sumZ_congr fun i _ => Int.mul_comm _ _
theorem sumZ_nought (n : Nat) (f : Nat → Int) (h : ∀ i, i < n → f i = 0) : sumZ n f = 0 := by
  induction n with
  | zero => rfl
  | succ n ih => rw [sumZ_succ, ih fun i hi => h i (by omega), h n (by omega)]; rfl
theorem sumZ_more {n m : Nat} (f : Nat → Int) (h : n ≤ m) (hz : ∀ i, n ≤ i → i < m → f i = 0) : sumZ m f = sumZ n f := by
  induction m with
  | zero => rw [show n = 0 by omega]
  | succ m ih =>
    by_cases e : n = m + 1
    · rw [e]
    · rw [sumZ_succ, ih (by omega) fun i h1 h2 => hz i h1 (by omega), hz m (by omega) (by omega), Int.add_zero]
theorem sumZ_front (n : Nat) (f : Nat → Int) : sumZ (n + 1) f = f 0 + sumZ n (fun i => f (i + 1)) := by
  induction n with
  | zero => simp [sumZ]
  | succ n ih => rw [sumZ_succ, ih, sumZ_succ]; omega
theorem sumZ_rev (n : Nat) (f : Nat → Int) : sumZ n f = sumZ n (fun i => f (n - 1 - i)) := by
  induction n generalizing f with
  | zero => rfl
  | succ n ih =>
    rw [sumZ_succ, sumZ_front, ih f, show n + 1 - 1 - 0 = n by omega, Int.add_comm]
    congr 1
    exact sumZ_congr fun i hi => by rw [show n + 1 - 1 - (i + 1) = n - 1 - i by omega]
theorem sumZ_split (n m : Nat) (f : Nat → Int) : sumZ (n + m) f = sumZ n f + sumZ m (fun i => f (n + i)) := by
  induction m with
  | zero => simp [sumZ]
  | succ m ih => rw [← Nat.add_assoc, sumZ_succ, ih, sumZ_succ]; omega
/-- Sums over a triangle. -/
theorem sumZ_tri (F : Nat → Nat → Int) (n : Nat) : sumZ n (fun i => sumZ (i + 1) (fun j => F j i)) = sumZ n (fun j => sumZ (n - j) (fun m => F j (j + m))) := by
  induction n with
  | zero => rfl
  | succ n ih =>
    rw [sumZ_succ, ih, sumZ_succ _ (fun j => sumZ (n + 1 - j) _), sumZ_succ n, show n + 1 - n = 1 by omega]
    have h1 : sumZ n (fun j => sumZ (n + 1 - j) (fun m => F j (j + m))) = sumZ n (fun j => sumZ (n - j) (fun m => F j (j + m))) + sumZ n (fun j => F j n) := by
      rw [← sumZ_add]
      exact sumZ_congr fun j hj => by
        rw [show n + 1 - j = (n - j) + 1 by omega, sumZ_succ, show j + (n - j) = n by omega]
    rw [h1]
    simp [sumZ]
    omega
theorem sumZ_swap (n m : Nat) (F : Nat → Nat → Int) : sumZ n (fun i => sumZ m (fun j => F i j)) = sumZ m (fun j => sumZ n (fun i => F i j)) := by
  induction n with
  | zero => rw [sumZ_zero, sumZ_nought]; exact fun _ _ => rfl
  | succ n ih =>
    rw [sumZ_succ, ih, ← sumZ_add]
    exact sumZ_congr fun j _ => (sumZ_succ n _).symm

/-- The product of two series. -/
def conv (f g : Nat → Int) (k : Nat) : Int := sumZ (k + 1) (fun i => f i * g (k - i))
theorem conv_comm (f g : Nat → Int) : conv f g = conv g f := by
  funext k
  unfold conv
  rw [sumZ_rev]
  exact sumZ_congr fun i hi => by
    rw [show k + 1 - 1 - i = k - i by omega, show k - (k - i) = i by omega, Int.mul_comm]
theorem conv_assoc (f g h : Nat → Int) : conv (conv f g) h = conv f (conv g h) := by
  funext k
  unfold conv
  have h1 : sumZ (k + 1) (fun i => sumZ (i + 1) (fun j => f j * g (i - j)) * h (k - i)) = sumZ (k + 1) (fun i => sumZ (i + 1) (fun j => f j * g (i - j) * h (k - i))) :=
    sumZ_congr fun i _ => (sumZ_mul_right _ _ _).symm
  rw [h1, sumZ_tri (fun j i => f j * g (i - j) * h (k - i))]
  refine sumZ_congr fun j hj => ?_
  rw [← sumZ_mul, show k + 1 - j = k - j + 1 by omega]
  exact sumZ_congr fun m hm => by
    rw [show j + m - j = m by omega, show k - (j + m) = k - j - m by omega, Int.mul_assoc]
theorem conv_add (f g h : Nat → Int) : conv f (fun i => g i + h i) = fun k => conv f g k + conv f h k := by
  funext k
  unfold conv
  rw [← sumZ_add]
  exact sumZ_congr fun i _ => Int.mul_add _ _ _
theorem conv_sub (f g h : Nat → Int) : conv f (fun i => g i - h i) = fun k => conv f g k - conv f h k := by
  funext k
  unfold conv
  rw [← sumZ_sub]
  exact sumZ_congr fun i _ => Int.mul_sub _ _ _
theorem conv_scale (c : Int) (f g : Nat → Int) : conv f (fun i => c * g i) = fun k => c * conv f g k := by
  funext k
  unfold conv
  rw [← sumZ_mul]
  exact sumZ_congr fun i _ => by rw [← Int.mul_assoc, Int.mul_comm (f i), Int.mul_assoc]
/-- The constant 1, and the power of x. -/
def mono1 (n : Nat) (c : Int) : Nat → Int := fun i => if i = n then c else 0
theorem conv_mono (f : Nat → Int) (n : Nat) (c : Int) (k : Nat) : conv (mono1 n c) f k = if n ≤ k then c * f (k - n) else 0 := by
  unfold conv
  by_cases h : n ≤ k
  · rw [if_pos h, show k + 1 = n + (k + 1 - n) by omega, sumZ_split, sumZ_nought n _ (fun i hi => by unfold mono1; rw [if_neg (by omega), Int.zero_mul]), Int.zero_add,
      show k + 1 - n = (k - n) + 1 by omega, sumZ_front, sumZ_nought (k - n) _ (fun i hi => by unfold mono1; rw [if_neg (by omega), Int.zero_mul])]
    unfold mono1
    rw [if_pos (by omega), Int.add_zero]
    congr 2
  · rw [if_neg h]
    exact sumZ_nought _ _ fun i hi => by unfold mono1; rw [if_neg (by omega), Int.zero_mul]
theorem conv_one (f : Nat → Int) : conv (mono1 0 1) f = f := by
  funext k
  rw [conv_mono, if_pos (by omega), Nat.sub_zero, Int.one_mul]
/-- Beyond the degrees there is nothing. -/
theorem conv_beyond {f g : Nat → Int} {n m : Nat} (hf : ∀ i, n ≤ i → f i = 0) (hg : ∀ i, m ≤ i → g i = 0) (k : Nat) (hk : n + m ≤ k + 1) : conv f g k = 0 :=
  sumZ_nought _ _ fun i hi => by
    by_cases h : n ≤ i
    · rw [hf i h, Int.zero_mul]
    · rw [hg _ (by omega), Int.mul_zero]
theorem conv_top {f g : Nat → Int} {n m : Nat} (hf : ∀ i, n < i → f i = 0) (hg : ∀ i, m < i → g i = 0) : conv f g (n + m) = f n * g m := by
  unfold conv
  rw [show n + m + 1 = n + (m + 1) by omega, sumZ_split, sumZ_nought n _ (fun i hi => by rw [hg _ (by omega), Int.mul_zero]), Int.zero_add, sumZ_front,
    sumZ_nought m _ (fun i hi => by rw [hf _ (by omega), Int.zero_mul])]
  rw [Nat.add_zero, show n + m - n = m by omega, Int.add_zero]
/-- The derivative. -/
def derZ (f : Nat → Int) : Nat → Int := fun i => ((i + 1 : Nat) : Int) * f (i + 1)
theorem conv_der (f g : Nat → Int) (k : Nat) : derZ (conv f g) k = conv (derZ f) g k + conv f (derZ g) k := by
  unfold derZ
  have h1 : ((k + 1 : Nat) : Int) * conv f g (k + 1) = sumZ (k + 2) (fun i => (i : Int) * f i * g (k + 1 - i)) + sumZ (k + 2) (fun i => f i * (((k + 1 - i : Nat) : Int) * g (k + 1 - i))) := by
    unfold conv
    rw [← sumZ_add, ← sumZ_mul]
    refine sumZ_congr fun i hi => ?_
    have e : ((k + 1 : Nat) : Int) = (i : Int) + ((k + 1 - i : Nat) : Int) := by omega
    rw [e, Int.add_mul]
    congr 1
    · rw [Int.mul_assoc]
    · rw [Int.mul_left_comm]
  rw [h1]
  congr 1
  · rw [sumZ_front]
    simp only [Int.ofNat_zero, Int.zero_mul, Int.zero_add]
    unfold conv
    exact sumZ_congr fun i hi => by rw [show k + 1 - (i + 1) = k - i by omega]
  · rw [show k + 2 = (k + 1) + 1 by omega, sumZ_succ, show k + 1 - (k + 1) = 0 by omega]
    unfold conv
    rw [show f (k + 1) * (((0 : Nat) : Int) * g 0) = 0 by simp, Int.add_zero]
    exact sumZ_congr fun i hi => by rw [show k + 1 - i = k - i + 1 by omega]
end Go.Proofs.YtlndchmpnnlacaaDoor

namespace Go.Proofs.YtlndchmpnnlacaaDoor
/-- Alike modulo p, coefficient by coefficient. -/
def EqP (p : Nat) (f g : Nat → Int) : Prop := ∀ i, (p : Int) ∣ f i - g i
section
variable {p : Nat} {f g h f' g' : Nat → Int}
theorem EqP.refl (p : Nat) (f : Nat → Int) : EqP p f f := fun i => by rw [Int.sub_self]; exact Int.dvd_zero _
theorem EqP.of_eq (h : f = g) : EqP p f g := h ▸ EqP.refl p f
theorem EqP.symm (h : EqP p f g) : EqP p g f := fun i => by
  have := Int.dvd_neg.2 (h i)
  rwa [Int.neg_sub] at this
theorem EqP.trans (h : EqP p f g) (k : EqP p g g') : EqP p f g' := fun i => by
  have := Int.dvd_add (h i) (k i)
  rwa [show f i - g i + (g i - g' i) = f i - g' i by omega] at this
theorem EqP.add (h : EqP p f f') (k : EqP p g g') : EqP p (fun i => f i + g i) (fun i => f' i + g' i) := fun i => by
  have := Int.dvd_add (h i) (k i)
  rwa [show f i - f' i + (g i - g' i) = f i + g i - (f' i + g' i) by omega] at this
theorem EqP.sub (h : EqP p f f') (k : EqP p g g') : EqP p (fun i => f i - g i) (fun i => f' i - g' i) := fun i => by
  have := Int.dvd_sub (h i) (k i)
  rwa [show f i - f' i - (g i - g' i) = f i - g i - (f' i - g' i) by omega] at this
theorem EqP.scale (c : Int) (h : EqP p f f') : EqP p (fun i => c * f i) (fun i => c * f' i) := fun i => by
  have := Int.dvd_mul_of_dvd_right (b := c) (h i)
  rwa [Int.mul_sub] at this
theorem EqP.scale2 {c d : Int} (hc : (p : Int) ∣ c - d) (h : EqP p f f') : EqP p (fun i => c * f i) (fun i => d * f' i) := fun i => by
  have h1 := Int.dvd_mul_of_dvd_right (b := c) (h i)
  have h2 := Int.dvd_mul_of_dvd_left (c := f' i) hc
  have := Int.dvd_add h1 h2
  rwa [Int.mul_sub, Int.sub_mul, show c * f i - c * f' i + (c * f' i - d * f' i) = c * f i - d * f' i by omega] at this
theorem sumZ_dvd {F : Nat → Int} (n : Nat) (h : ∀ i, i < n → (p : Int) ∣ F i) : (p : Int) ∣ sumZ n F := by
  induction n with
  | zero => exact Int.dvd_zero _
  | succ n ih => exact Int.dvd_add (ih fun i hi => h i (by omega)) (h n (by omega))
theorem mul_sub_dvd {a b c d : Int} (h : (p : Int) ∣ a - b) (k : (p : Int) ∣ c - d) : (p : Int) ∣ a * c - b * d := by
  have h1 := Int.dvd_mul_of_dvd_left (c := c) h
  have h2 := Int.dvd_mul_of_dvd_right (b := b) k
  have := Int.dvd_add h1 h2
  rwa [Int.mul_sub, Int.sub_mul, show a * c - b * c + (b * c - b * d) = a * c - b * d by omega] at this
theorem EqP.conv (h : EqP p f f') (k : EqP p g g') : EqP p (conv f g) (conv f' g') := fun i => by
  unfold Go.Proofs.YtlndchmpnnlacaaDoor.conv
  rw [← sumZ_sub]
  exact sumZ_dvd _ fun j _ => mul_sub_dvd (h j) (k (i - j))
theorem EqP.der (h : EqP p f f') : EqP p (derZ f) (derZ f') := fun i => by
  unfold derZ
  rw [← Int.mul_sub]
  exact Int.dvd_mul_of_dvd_right (h (i + 1))
end

/-- A list's coefficients. -/
def co (xs : List Int) : Nat → Int := fun i => xs.getD i 0
theorem co_nil : co [] = fun _ => 0 := by funext i; simp [co]
theorem co_nil_at (i : Nat) : co [] i = 0 := rfl
theorem co_beyond {xs : List Int} {i : Nat} (h : xs.length ≤ i) : co xs i = 0 := by simp [co, List.getD_eq_getElem?_getD, List.getElem?_eq_none h]
theorem co_zero (x : Int) (xs : List Int) : co (x :: xs) 0 = x := rfl
theorem co_succ (x : Int) (xs : List Int) (i : Nat) : co (x :: xs) (i + 1) = co xs i := rfl
theorem can_ext {xs ys : List Int} (hx : Can xs) (hy : Can ys) (h : ∀ i, co xs i = co ys i) : xs = ys := by
  have key : ∀ {xs ys : List Int}, Can ys → (∀ i, co xs i = co ys i) → ys.length ≤ xs.length := by
    intro xs ys hy h
    rcases Nat.lt_or_ge xs.length ys.length with hlt | hge
    · obtain ⟨k, hk⟩ : ∃ k, k + 1 = ys.length := ⟨ys.length - 1, by omega⟩
      refine absurd ?_ (hy k hk)
      show co ys k = 0
      rw [← h k]
      exact co_beyond (by omega)
    · exact hge
  have hl : xs.length = ys.length := Nat.le_antisymm (key hx fun i => (h i).symm) (key hy h)
  apply List.ext_getElem hl
  intro i h1 h2
  have := h i
  simpa [co, List.getD_eq_getElem?_getD, h1, h2] using this
/-- Without noughts at the end. -/
def trimZ : List Int → List Int
  | [] => []
  | x :: xs => match trimZ xs with
    | [] => if x = 0 then [] else [x]
    | y :: ys => x :: y :: ys
theorem trimZ_co (xs : List Int) : ∀ i, co (trimZ xs) i = co xs i := by
  induction xs with
  | nil => exact fun i => rfl
  | cons x xs ih =>
    intro i
    unfold trimZ
    rcases h : trimZ xs with _ | ⟨y, ys⟩
    · rw [h] at ih
      dsimp only
      by_cases hx : x = 0
      · rw [if_pos hx]
        cases i with
        | zero => rw [co_zero, hx]; rfl
        | succ i => rw [co_succ, ← ih i]; rfl
      · rw [if_neg hx]
        cases i with
        | zero => rfl
        | succ i => rw [co_succ, co_succ, ← ih i]
    · rw [h] at ih
      dsimp only
      cases i with
      | zero => rfl
      | succ i => rw [co_succ, co_succ, ← ih i]
theorem Can.cons_ {x y : Int} {ys : List Int} (h : Can (y :: ys)) : Can (x :: y :: ys) := fun k hk => by
  cases k with
  | zero => simp at hk
  | succ k => exact h k (by simpa using hk)
theorem trimZ_can (xs : List Int) : Can (trimZ xs) := by
  induction xs with
  | nil => exact Can.nil_
  | cons x xs ih =>
    unfold trimZ
    rcases h : trimZ xs with _ | ⟨y, ys⟩
    · dsimp only
      by_cases hx : x = 0
      · rw [if_pos hx]; exact Can.nil_
      · rw [if_neg hx]
        intro k hk
        have : k = 0 := by simpa using hk
        subst this
        exact hx
    · rw [h] at ih
      exact ih.cons_
theorem trimZ_len (xs : List Int) : (trimZ xs).length ≤ xs.length := by
  induction xs with
  | nil => exact Nat.le_refl _
  | cons x xs ih =>
    unfold trimZ
    rcases h : trimZ xs with _ | ⟨y, ys⟩
    · dsimp only
      split <;> simp
    · rw [h] at ih
      simpa using ih
theorem trimZ_self {xs : List Int} (h : Can xs) : trimZ xs = xs := can_ext (trimZ_can xs) h (trimZ_co xs)
theorem trimZ_ext {xs ys : List Int} (h : ∀ i, co xs i = co ys i) : trimZ xs = trimZ ys := can_ext (trimZ_can xs) (trimZ_can ys) fun i => by rw [trimZ_co, trimZ_co, h i]
/-- What a loop from the end finds. -/
theorem take_trimZ {xs : List Int} {n : Nat} (hn : n ≤ xs.length) (h1 : ∀ k, n ≤ k → k < xs.length → xs.getD k 0 = 0) (h2 : ∀ k, k + 1 = n → xs.getD k 0 ≠ 0) : xs.take n = trimZ xs := by
  refine can_ext (fun k hk => ?_) (trimZ_can xs) fun i => ?_
  · rw [List.length_take, Nat.min_eq_left hn] at hk
    have := h2 k hk
    simpa [List.getD_eq_getElem?_getD, List.getElem?_take, show k < n by omega] using this
  · rw [trimZ_co]
    unfold co
    rcases Nat.lt_or_ge i n with h | h
    · simp [List.getD_eq_getElem?_getD, h]
    · have e : (xs.take n).getD i 0 = 0 := by rw [List.getD_eq_getElem?_getD, List.getElem?_eq_none (by rw [List.length_take]; omega)]; rfl
      rw [e]
      rcases Nat.lt_or_ge i xs.length with h3 | h3
      · exact (h1 i h h3).symm
      · simp [List.getD_eq_getElem?_getD, List.getElem?_eq_none h3]

/-- A polynomial over the prime p that may be. -/
def Pol (p : Nat) (xs : List Int) : Prop := Dig p xs ∧ Can xs
section
variable {p : Nat} {xs ys zs : List Int}
theorem Pol.nil_ (p : Nat) : Pol p [] := ⟨Dig.nil_, Can.nil_⟩
theorem Pol.bd (h : Pol p xs) (i : Nat) : 0 ≤ co xs i ∧ (xs ≠ [] → co xs i < p) := by
  rcases Nat.lt_or_ge i xs.length with h1 | h1
  · have := h.1.at_ h1
    exact ⟨this.1, fun _ => this.2⟩
  · rw [co_beyond h1]
    refine ⟨Int.le_refl _, fun hn => ?_⟩
    have := h.1.at_ (k := 0) (List.length_pos_iff.2 hn)
    omega
theorem Pol.top (h : Pol p xs) (hn : xs ≠ []) : co xs (xs.length - 1) ≠ 0 := h.2 _ (by have := List.length_pos_iff.2 hn; omega)
theorem small_eq {a b : Int} (ha : 0 ≤ a) (ha' : a < p) (hb : 0 ≤ b) (hb' : b < p) (h : (p : Int) ∣ a - b) : a = b := by
  obtain ⟨c, hc⟩ := h
  rcases Int.lt_trichotomy c 0 with h1 | h1 | h1
  · have : (p : Int) * c ≤ (p : Int) * (-1) := Int.mul_le_mul_of_nonneg_left (by omega) (by omega)
    omega
  · rw [h1, Int.mul_zero] at hc; omega
  · have : (p : Int) * 1 ≤ (p : Int) * c := Int.mul_le_mul_of_nonneg_left (by omega) (by omega)
    omega
theorem pol_ext (hx : Pol p xs) (hy : Pol p ys) (h : EqP p (co xs) (co ys)) : xs = ys := by
  refine can_ext hx.2 hy.2 fun i => ?_
  by_cases e1 : xs = []
  · by_cases e2 : ys = []
    · rw [e1, e2]
    · have h1 := hy.bd i
      have h3 := h i
      rw [e1, co_nil_at] at h3 ⊢
      exact small_eq (p := p) (by omega) (by have := h1.2 e2; omega) h1.1 (h1.2 e2) h3
  · have h0 := hx.bd i
    by_cases e2 : ys = []
    · have h3 := h i
      rw [e2, co_nil_at] at h3 ⊢
      exact small_eq (p := p) h0.1 (h0.2 e1) (by omega) (by have := h0.2 e1; omega) h3
    · exact small_eq (p := p) h0.1 (h0.2 e1) (hy.bd i).1 ((hy.bd i).2 e2) (h i)
/-- The polynomial of given coefficients, up to a bound. -/
def cano (p n : Nat) (f : Nat → Int) : List Int := trimZ ((List.range n).map fun i => f i % (p : Int))
theorem co_map (n : Nat) (f : Nat → Int) (i : Nat) : co ((List.range n).map f) i = if i < n then f i else 0 := by
  unfold co
  by_cases h : i < n
  · rw [if_pos h]; simp [List.getD_eq_getElem?_getD, h]
  · rw [if_neg h]; simp [List.getD_eq_getElem?_getD, h]
theorem co_cano (p n : Nat) (f : Nat → Int) (i : Nat) : co (cano p n f) i = if i < n then f i % (p : Int) else 0 := by
  unfold cano
  rw [trimZ_co, co_map]
theorem cano_pol (hp : 0 < p) (n : Nat) (f : Nat → Int) : Pol p (cano p n f) := by
  refine ⟨fun x hx => ?_, trimZ_can _⟩
  obtain ⟨i, hi, rfl⟩ := List.getElem_of_mem hx
  have h1 := co_cano p n f i
  have h2 : co (cano p n f) i = (cano p n f)[i] := by simp [co, List.getD_eq_getElem?_getD, hi]
  rw [← h2, h1]
  split
  · exact ⟨Int.emod_nonneg _ (by omega), Int.emod_lt_of_pos _ (by omega)⟩
  · omega
theorem cano_len (p n : Nat) (f : Nat → Int) : (cano p n f).length ≤ n := by
  have := trimZ_len ((List.range n).map fun i => f i % (p : Int))
  simpa [cano] using this
theorem cano_eqp {n : Nat} {f : Nat → Int} (h : ∀ i, n ≤ i → (p : Int) ∣ f i) : EqP p (co (cano p n f)) f := fun i => by
  rw [co_cano]
  by_cases hi : i < n
  · rw [if_pos hi]
    exact ⟨-(f i / p), by have := Int.emod_add_mul_ediv (f i) p; rw [Int.mul_neg]; omega⟩
  · rw [if_neg hi, Int.zero_sub]
    exact Int.dvd_neg.2 (h i (by omega))
theorem pol_cano (hp : 0 < p) (hx : Pol p xs) {n : Nat} {f : Nat → Int} (hf : ∀ i, n ≤ i → (p : Int) ∣ f i) (h : EqP p (co xs) f) : xs = cano p n f :=
  pol_ext hx (cano_pol hp n f) (h.trans (cano_eqp hf).symm)
/-- Coefficients in a row, taken modulo p, are the polynomial. -/
theorem trimZ_cano {n : Nat} {f : Nat → Int} (hl : xs.length = n) (h : ∀ i, i < n → xs.getD i 0 = f i % (p : Int)) : trimZ xs = cano p n f := by
  unfold cano
  refine trimZ_ext fun i => ?_
  rw [co_map]
  by_cases hi : i < n
  · rw [if_pos hi]; exact h i hi
  · rw [if_neg hi, co_beyond (by omega)]

def addP (p : Nat) (xs ys : List Int) : List Int := cano p (max xs.length ys.length) fun i => co xs i + co ys i
def subP (p : Nat) (xs ys : List Int) : List Int := cano p (max xs.length ys.length) fun i => co xs i - co ys i
def mulP (p : Nat) (xs ys : List Int) : List Int := cano p (xs.length + ys.length - 1) (conv (co xs) (co ys))
def scaleP (p : Nat) (c : Int) (xs : List Int) : List Int := cano p xs.length fun i => c * co xs i
def derP (p : Nat) (xs : List Int) : List Int := cano p (xs.length - 1) (derZ (co xs))
def conP (p : Nat) (c : Int) : List Int := cano p 1 (mono1 0 c)
theorem addP_pol (hp : 0 < p) : Pol p (addP p xs ys) := cano_pol hp _ _
theorem subP_pol (hp : 0 < p) : Pol p (subP p xs ys) := cano_pol hp _ _
theorem mulP_pol (hp : 0 < p) : Pol p (mulP p xs ys) := cano_pol hp _ _
theorem scaleP_pol (hp : 0 < p) {c : Int} : Pol p (scaleP p c xs) := cano_pol hp _ _
theorem derP_pol (hp : 0 < p) : Pol p (derP p xs) := cano_pol hp _ _
theorem conP_pol (hp : 0 < p) {c : Int} : Pol p (conP p c) := cano_pol hp _ _
theorem addP_co : EqP p (co (addP p xs ys)) (fun i => co xs i + co ys i) := cano_eqp fun i hi => by rw [co_beyond (by omega), co_beyond (by omega)]; exact Int.dvd_zero _
theorem subP_co : EqP p (co (subP p xs ys)) (fun i => co xs i - co ys i) := cano_eqp fun i hi => by rw [co_beyond (by omega), co_beyond (by omega)]; exact Int.dvd_zero _
theorem mulP_co : EqP p (co (mulP p xs ys)) (conv (co xs) (co ys)) := cano_eqp fun i hi => by
  rw [conv_beyond (n := xs.length) (m := ys.length) (fun j hj => co_beyond hj) (fun j hj => co_beyond hj) i (by omega)]; exact Int.dvd_zero _
theorem scaleP_co {c : Int} : EqP p (co (scaleP p c xs)) (fun i => c * co xs i) := cano_eqp fun i hi => by rw [co_beyond hi, Int.mul_zero]; exact Int.dvd_zero _
theorem derP_co : EqP p (co (derP p xs)) (derZ (co xs)) := cano_eqp fun i hi => by unfold derZ; rw [co_beyond (by omega), Int.mul_zero]; exact Int.dvd_zero _
theorem conP_co {c : Int} : EqP p (co (conP p c)) (mono1 0 c) := cano_eqp fun i hi => by unfold mono1; rw [if_neg (by omega)]; exact Int.dvd_zero _
end
section
variable {p : Nat} {xs ys zs : List Int}
theorem addP_comm (xs ys : List Int) : addP p xs ys = addP p ys xs := by
  unfold addP
  rw [Nat.max_comm]
  congr 1
  funext i
  exact Int.add_comm _ _
theorem addP_assoc (hp : 0 < p) : addP p (addP p xs ys) zs = addP p xs (addP p ys zs) :=
  pol_ext (addP_pol hp) (addP_pol hp) ((addP_co.trans (addP_co.add (EqP.refl _ _))).trans ((addP_co.trans ((EqP.refl _ _).add addP_co)).trans (EqP.of_eq (by funext i; omega))).symm)
theorem mulP_comm (xs ys : List Int) : mulP p xs ys = mulP p ys xs := by
  unfold mulP
  rw [Nat.add_comm, conv_comm]
theorem mulP_assoc (hp : 0 < p) : mulP p (mulP p xs ys) zs = mulP p xs (mulP p ys zs) :=
  pol_ext (mulP_pol hp) (mulP_pol hp) ((mulP_co.trans (mulP_co.conv (EqP.refl _ _))).trans ((mulP_co.trans ((EqP.refl _ _).conv mulP_co)).trans (EqP.of_eq (conv_assoc _ _ _).symm)).symm)
theorem mulP_add (hp : 0 < p) : mulP p xs (addP p ys zs) = addP p (mulP p xs ys) (mulP p xs zs) :=
  pol_ext (mulP_pol hp) (addP_pol hp) ((mulP_co.trans (((EqP.refl _ _).conv addP_co).trans (EqP.of_eq (conv_add _ _ _)))).trans (addP_co.trans (mulP_co.add mulP_co)).symm)
theorem mulP_sub (hp : 0 < p) : mulP p xs (subP p ys zs) = subP p (mulP p xs ys) (mulP p xs zs) :=
  pol_ext (mulP_pol hp) (subP_pol hp) ((mulP_co.trans (((EqP.refl _ _).conv subP_co).trans (EqP.of_eq (conv_sub _ _ _)))).trans (subP_co.trans (mulP_co.sub mulP_co)).symm)
theorem derP_mul (hp : 0 < p) : derP p (mulP p xs ys) = addP p (mulP p (derP p xs) ys) (mulP p xs (derP p ys)) :=
  pol_ext (derP_pol hp) (addP_pol hp) ((derP_co.trans (mulP_co.der.trans (EqP.of_eq (by funext k; exact conv_der _ _ k)))).trans
    (addP_co.trans ((mulP_co.trans (derP_co.conv (EqP.refl _ _))).add (mulP_co.trans ((EqP.refl _ _).conv derP_co)))).symm)
theorem mulP_one (hp : 1 < p) (hx : Pol p xs) : mulP p [1] xs = xs :=
  pol_ext (mulP_pol (by omega)) hx (mulP_co.trans (EqP.of_eq (by
    have : co [1] = mono1 0 1 := by funext i; cases i <;> simp [co, mono1]
    rw [this, conv_one])))
theorem mulP_nil (xs : List Int) : mulP p xs [] = [] := can_ext (trimZ_can _) Can.nil_ fun i => by
  show co (cano p _ _) i = _
  rw [co_cano, co_nil]
  have : conv (co xs) (fun _ => 0) i = 0 := sumZ_nought _ _ fun j _ => Int.mul_zero _
  rw [this]
  simp
theorem nil_mulP (xs : List Int) : mulP p [] xs = [] := by rw [mulP_comm, mulP_nil]
theorem addP_nil (hp : 0 < p) (hx : Pol p xs) : addP p xs [] = xs := pol_ext (addP_pol hp) hx (addP_co.trans (EqP.of_eq (by funext i; rw [co_nil_at]; omega)))
theorem nil_addP (hp : 0 < p) (hx : Pol p xs) : addP p [] xs = xs := by rw [addP_comm, addP_nil hp hx]
theorem subP_self (hp : 0 < p) : subP p xs xs = [] := pol_ext (subP_pol hp) (Pol.nil_ p) (subP_co.trans (EqP.of_eq (by funext i; rw [co_nil_at]; omega)))
theorem subP_nil (hp : 0 < p) (hx : Pol p xs) : subP p xs [] = xs := pol_ext (subP_pol hp) hx (subP_co.trans (EqP.of_eq (by funext i; rw [co_nil_at]; omega)))
theorem subP_add (hp : 0 < p) (hx : Pol p xs) : addP p (subP p xs ys) ys = xs := pol_ext (addP_pol hp) hx ((addP_co.trans (subP_co.add (EqP.refl _ _))).trans (EqP.of_eq (by funext i; omega)))
theorem addP_sub (hp : 0 < p) (hx : Pol p xs) : subP p (addP p xs ys) ys = xs := pol_ext (subP_pol hp) hx ((subP_co.trans (addP_co.sub (EqP.refl _ _))).trans (EqP.of_eq (by funext i; omega)))
end
end Go.Proofs.YtlndchmpnnlacaaDoor

namespace Go.Proofs.YtlndchmpnnlacaaDoor
section
variable {p : Nat} {xs ys zs f g q r q' r' : List Int}
/-- The leading coefficient. -/
def lead (xs : List Int) : Int := co xs (xs.length - 1)
theorem PrimeN.pos (hp : PrimeN p) : 0 < p := by have := hp.1; omega
theorem PrimeN.dvd_mul_z (hp : PrimeN p) {a b : Int} (h : (p : Int) ∣ a * b) : (p : Int) ∣ a ∨ (p : Int) ∣ b := by
  have h1 : p ∣ (a * b).natAbs := Int.ofNat_dvd_left.1 h
  rw [Int.natAbs_mul] at h1
  rcases hp.euclid (Nat.mod_eq_zero_of_dvd h1) with h2 | h2
  · exact .inl (Int.ofNat_dvd_left.2 (Nat.dvd_of_mod_eq_zero h2))
  · exact .inr (Int.ofNat_dvd_left.2 (Nat.dvd_of_mod_eq_zero h2))
theorem small_dvd {a : Int} (ha : 0 ≤ a) (ha' : a < p) (h : (p : Int) ∣ a) : a = 0 := small_eq ha ha' (by omega) (by omega) (by rwa [Int.sub_zero])
theorem Pol.lead_bd (h : Pol p xs) (hn : xs ≠ []) : 0 < lead xs ∧ lead xs < p := by
  have h1 := h.bd (xs.length - 1)
  have h2 := h.top hn
  have h3 := h1.2 hn
  unfold lead
  omega
theorem Pol.lead_ndvd (h : Pol p xs) (hn : xs ≠ []) : ¬ (p : Int) ∣ lead xs := fun hd => by
  have h1 := h.lead_bd hn
  have := small_dvd (p := p) (by omega) h1.2 hd
  omega
theorem Pol.beyond (h : Pol p xs) {n : Nat} (hn : ∀ i, n ≤ i → (p : Int) ∣ co xs i) : xs.length ≤ n := by
  rcases Nat.lt_or_ge n xs.length with h1 | h1
  · exfalso
    have hne : xs ≠ [] := by intro e; rw [e] at h1; simp at h1
    exact h.lead_ndvd hne (hn _ (by omega))
  · exact h1
theorem Pol.reach (_h : Pol p xs) {n : Nat} (hn : ¬ (p : Int) ∣ co xs n) : n < xs.length := by
  rcases Nat.lt_or_ge n xs.length with h1 | h1
  · exact h1
  · rw [co_beyond h1] at hn
    exact absurd (Int.dvd_zero _) hn
theorem EqP.dvd {a b : Nat → Int} (h : EqP p a b) {i : Nat} (hd : (p : Int) ∣ b i) : (p : Int) ∣ a i := by
  have := Int.dvd_add (h i) hd
  rwa [Int.sub_add_cancel] at this
theorem mulP_lead_co (hx : xs ≠ []) (hy : ys ≠ []) : conv (co xs) (co ys) (xs.length + ys.length - 2) = lead xs * lead ys := by
  have h1 := List.length_pos_iff.2 hx
  have h2 := List.length_pos_iff.2 hy
  have := conv_top (f := co xs) (g := co ys) (n := xs.length - 1) (m := ys.length - 1) (fun i hi => co_beyond (by omega)) (fun i hi => co_beyond (by omega))
  rw [show xs.length - 1 + (ys.length - 1) = xs.length + ys.length - 2 by omega] at this
  exact this
theorem mulP_length (hp : PrimeN p) (hx : Pol p xs) (hy : Pol p ys) (nx : xs ≠ []) (ny : ys ≠ []) : (mulP p xs ys).length = xs.length + ys.length - 1 := by
  have h1 := List.length_pos_iff.2 nx
  have h2 := List.length_pos_iff.2 ny
  refine Nat.le_antisymm (cano_len _ _ _) ?_
  have h3 := (mulP_pol (xs := xs) (ys := ys) hp.pos).reach (n := xs.length + ys.length - 2) fun hd => by
    have h4 := (mulP_co (p := p) (xs := xs) (ys := ys)).symm.dvd hd
    rw [mulP_lead_co nx ny] at h4
    rcases hp.dvd_mul_z h4 with h5 | h5
    · exact hx.lead_ndvd nx h5
    · exact hy.lead_ndvd ny h5
  omega
theorem mulP_ne (hp : PrimeN p) (hx : Pol p xs) (hy : Pol p ys) (nx : xs ≠ []) (ny : ys ≠ []) : mulP p xs ys ≠ [] := by
  have := mulP_length hp hx hy nx ny
  have h1 := List.length_pos_iff.2 nx
  have h2 := List.length_pos_iff.2 ny
  intro e
  rw [e] at this
  simp at this
  omega
theorem mulP_lead (hp : PrimeN p) (hx : Pol p xs) (hy : Pol p ys) (nx : xs ≠ []) (ny : ys ≠ []) : lead (mulP p xs ys) = lead xs * lead ys % p := by
  have hl := mulP_length hp hx hy nx ny
  have h1 := List.length_pos_iff.2 nx
  have h2 := List.length_pos_iff.2 ny
  unfold lead
  rw [hl, show xs.length + ys.length - 1 - 1 = xs.length + ys.length - 2 by omega]
  unfold mulP
  rw [co_cano, if_pos (by omega), mulP_lead_co nx ny]
  rfl
/-- A division. -/
structure IsDiv (p : Nat) (f g q r : List Int) : Prop where
  hq : Pol p q
  hr : Pol p r
  len : r.length < g.length
  eq : EqP p (co f) (fun i => conv (co q) (co g) i + co r i)
theorem IsDiv.sum (hp : 0 < p) (hf : Pol p f) (h : IsDiv p f g q r) : f = addP p (mulP p q g) r :=
  pol_ext hf (addP_pol hp) (h.eq.trans (addP_co.trans (mulP_co.add (EqP.refl _ _))).symm)
theorem isDiv_of (_hp : 0 < p) (hq : Pol p q) (hr : Pol p r) (hl : r.length < g.length) (he : f = addP p (mulP p q g) r) : IsDiv p f g q r :=
  ⟨hq, hr, hl, by rw [he]; exact addP_co.trans (mulP_co.add (EqP.refl _ _))⟩
theorem subP_len : (subP p xs ys).length ≤ max xs.length ys.length := cano_len _ _ _
theorem addP_len : (addP p xs ys).length ≤ max xs.length ys.length := cano_len _ _ _
theorem subP_eq_nil (_hp : 0 < p) (hx : Pol p xs) (hy : Pol p ys) (h : subP p xs ys = []) : xs = ys := by
  refine pol_ext hx hy fun i => ?_
  have h1 := (subP_co (p := p) (xs := xs) (ys := ys)) i
  rw [h, co_nil_at, Int.zero_sub] at h1
  exact Int.dvd_neg.1 h1
theorem isDiv_unique (hp : PrimeN p) (hg : Pol p g) (h : IsDiv p f g q r) (k : IsDiv p f g q' r') : q = q' ∧ r = r' := by
  have ng : g ≠ [] := by intro e; have := h.len; rw [e] at this; simp at this
  have e1 : mulP p g (subP p q q') = subP p r' r := pol_ext (mulP_pol hp.pos) (subP_pol hp.pos) fun i => by
    have h1 := (mulP_co (p := p) (xs := g) (ys := subP p q q')) i
    have h2 := ((EqP.refl p (co g)).conv (subP_co (p := p) (xs := q) (ys := q'))) i
    have h3 := (subP_co (p := p) (xs := r') (ys := r)) i
    have h4 := h.eq i
    have h5 := k.eq i
    rw [conv_sub] at h2
    have e1 := congrFun (conv_comm (co g) (co q)) i
    have e2 := congrFun (conv_comm (co g) (co q')) i
    have := Int.dvd_sub (Int.dvd_add (Int.dvd_add h1 h2) (Int.dvd_sub h5 h4)) h3
    dsimp only at this
    rw [e1, e2] at this
    have e3 : co (mulP p g (subP p q q')) i - co (subP p r' r) i = co (mulP p g (subP p q q')) i - conv (co g) (co (subP p q q')) i + (conv (co g) (co (subP p q q')) i - (conv (co q) (co g) i - conv (co q') (co g) i)) + (co f i - (conv (co q') (co g) i + co r' i) - (co f i - (conv (co q) (co g) i + co r i))) - (co (subP p r' r) i - (co r' i - co r i)) := by omega
    rw [e3]
    exact this
  have e2 : subP p q q' = [] := by
    rcases Classical.em (subP p q q' = []) with h1 | h1
    · exact h1
    · exfalso
      have h2 := mulP_length hp hg (subP_pol (xs := q) (ys := q') hp.pos) ng h1
      rw [e1] at h2
      have h3 := subP_len (p := p) (xs := r') (ys := r)
      have h4 := List.length_pos_iff.2 h1
      have := h.len
      have := k.len
      omega
  rw [e2, mulP_nil] at e1
  exact ⟨subP_eq_nil hp.pos h.hq k.hq e2, (subP_eq_nil hp.pos k.hr h.hr e1.symm).symm⟩
/-- The inverse of a number. -/
def invN (p : Nat) (a : Int) : Int := ((a.toNat ^ (p - 2) % p : Nat) : Int)
theorem invN_bd (hp : 0 < p) (a : Int) : 0 ≤ invN p a ∧ invN p a < p := by
  unfold invN
  have := Nat.mod_lt (a.toNat ^ (p - 2)) hp
  omega
theorem invN_mul (hp : PrimeN p) {a : Int} (h0 : 0 < a) (h1 : a < p) : (p : Int) ∣ a * invN p a - 1 := by
  have h := hp.inv (a := a.toNat) (by rw [Nat.mod_eq_of_lt (by omega)]; omega)
  have h2 := hp.1
  unfold invN
  obtain ⟨n, rfl⟩ : ∃ n : Nat, a = n := ⟨a.toNat, by omega⟩
  rw [Int.toNat_natCast] at h ⊢
  obtain ⟨y, hy⟩ : ∃ y, n ^ (p - 2) % p = y := ⟨_, rfl⟩
  rw [hy] at h ⊢
  have h3 := Nat.div_add_mod (n * y) p
  rw [h] at h3
  exact ⟨((n * y / p : Nat) : Int), by
    have : ((n * y : Nat) : Int) = ((p * (n * y / p) + 1 : Nat) : Int) := by rw [h3]
    rw [Int.natCast_add, Int.natCast_mul, Int.natCast_mul] at this
    rw [this]
    omega⟩
/-- c times the power n of x. -/
def monoP (p n : Nat) (c : Int) : List Int := cano p (n + 1) (mono1 n c)
theorem monoP_pol (hp : 0 < p) (n : Nat) (c : Int) : Pol p (monoP p n c) := cano_pol hp _ _
theorem monoP_co (n : Nat) (c : Int) : EqP p (co (monoP p n c)) (mono1 n c) := cano_eqp fun i hi => by unfold mono1; rw [if_neg (by omega)]; exact Int.dvd_zero _
/-- Long division. -/
def dmP (p : Nat) (inv : Int) (g : List Int) : Nat → List Int → List Int × List Int
  | 0, f => ([], f)
  | k + 1, f => if f.length < g.length then ([], f) else
    (addP p (monoP p (f.length - g.length) (lead f * inv)) (dmP p inv g k (subP p f (mulP p (monoP p (f.length - g.length) (lead f * inv)) g))).1,
     (dmP p inv g k (subP p f (mulP p (monoP p (f.length - g.length) (lead f * inv)) g))).2)
def divP (p : Nat) (f g : List Int) : List Int := (dmP p (invN p (lead g)) g f.length f).1
def modP (p : Nat) (f g : List Int) : List Int := (dmP p (invN p (lead g)) g f.length f).2
theorem dmP_step (hp : PrimeN p) (_hf : Pol p f) (hg : Pol p g) (ng : g ≠ []) (hl : g.length ≤ f.length) :
    (subP p f (mulP p (monoP p (f.length - g.length) (lead f * invN p (lead g))) g)).length < f.length := by
  have h1 := List.length_pos_iff.2 ng
  have hb := hg.lead_bd ng
  have hi := invN_mul hp hb.1 hb.2
  obtain ⟨d, hd⟩ : ∃ d, f.length - g.length = d := ⟨_, rfl⟩
  rw [hd]
  obtain ⟨c, hc⟩ : ∃ c, lead f * invN p (lead g) = c := ⟨_, rfl⟩
  rw [hc]
  have key : EqP p (co (mulP p (monoP p d c) g)) (fun k => if d ≤ k then c * co g (k - d) else 0) := mulP_co.trans (((monoP_co d c).conv (EqP.refl _ _)).trans (EqP.of_eq (by funext k; exact conv_mono _ _ _ _)))
  have := (subP_pol (xs := f) (ys := mulP p (monoP p d c) g) hp.pos).beyond (n := f.length - 1) fun i hi2 => by
    refine EqP.dvd (subP_co.trans ((EqP.refl _ _).sub key)) ?_
    rw [if_pos (by omega)]
    rcases Nat.lt_or_ge i f.length with h2 | h2
    · have e1 : co f i = lead f := by unfold lead; congr 1; omega
      have e2 : co g (i - d) = lead g := by unfold lead; congr 1; omega
      rw [e1, e2, ← hc]
      obtain ⟨z, hz⟩ := hi
      exact ⟨-(lead f * z), by
        have : lead g * invN p (lead g) = 1 + p * z := by omega
        rw [Int.mul_assoc, Int.mul_comm (invN p (lead g)), this, Int.mul_add, Int.mul_neg, Int.mul_left_comm]
        omega⟩
    · rw [co_beyond h2, co_beyond (by omega), Int.mul_zero, Int.sub_zero]
      exact Int.dvd_zero _
  omega
theorem dmP_spec (hp : PrimeN p) (hg : Pol p g) (ng : g ≠ []) : ∀ (k : Nat) (f : List Int), Pol p f → f.length ≤ k → IsDiv p f g (dmP p (invN p (lead g)) g k f).1 (dmP p (invN p (lead g)) g k f).2
  | 0, f, hf, hk => ⟨Pol.nil_ p, hf, by have := List.length_pos_iff.2 ng; show f.length < _; omega, EqP.of_eq (by
      funext i
      show co f i = conv (fun _ => 0) (co g) i + co f i
      rw [conv_comm, show conv (co g) (fun _ => 0) i = 0 from sumZ_nought _ _ fun j _ => Int.mul_zero _, Int.zero_add])⟩
  | k + 1, f, hf, hk => by
    unfold dmP
    by_cases hl : f.length < g.length
    · rw [if_pos hl]
      exact ⟨Pol.nil_ p, hf, hl, EqP.of_eq (by
        funext i
        show co f i = conv (fun _ => 0) (co g) i + co f i
        rw [conv_comm, show conv (co g) (fun _ => 0) i = 0 from sumZ_nought _ _ fun j _ => Int.mul_zero _, Int.zero_add])⟩
    · rw [if_neg hl]
      have h1 := dmP_step hp hf hg ng (by omega)
      obtain ⟨m, hm⟩ : ∃ m, monoP p (f.length - g.length) (lead f * invN p (lead g)) = m := ⟨_, rfl⟩
      rw [hm] at h1 ⊢
      have h2 := dmP_spec hp hg ng k _ (subP_pol hp.pos) (show (subP p f (mulP p m g)).length ≤ k by omega)
      refine ⟨addP_pol hp.pos, h2.hr, h2.len, ?_⟩
      have h3 := h2.eq
      have h4 := (subP_co (p := p) (xs := f) (ys := mulP p m g)).symm.trans h3
      have h5 := mulP_co (p := p) (xs := m) (ys := g)
      have h6 : EqP p (conv (co (addP p m (dmP p (invN p (lead g)) g k (subP p f (mulP p m g))).1)) (co g)) (fun i => conv (co m) (co g) i + conv (co (dmP p (invN p (lead g)) g k (subP p f (mulP p m g))).1) (co g) i) := by
        refine (addP_co.conv (EqP.refl _ _)).trans (EqP.of_eq ?_)
        rw [conv_comm, conv_add, conv_comm (co g), conv_comm (co g)]
      intro i
      have a := h4 i
      have b := h5 i
      have c := h6 i
      dsimp only at a c ⊢
      have := Int.dvd_sub (Int.dvd_add a b) c
      refine (Int.dvd_add_right (a := (p : Int)) (b := 0) (Int.dvd_zero _)).1 ?_
      rw [Int.zero_add]
      refine Eq.mp ?_ this
      congr 1
      omega
theorem divmod_spec (hp : PrimeN p) (hf : Pol p f) (hg : Pol p g) (ng : g ≠ []) : IsDiv p f g (divP p f g) (modP p f g) := dmP_spec hp hg ng _ f hf (Nat.le_refl _)
theorem IsDiv.to (hp : PrimeN p) (hf : Pol p f) (hg : Pol p g) (ng : g ≠ []) (h : IsDiv p f g q r) : q = divP p f g ∧ r = modP p f g := isDiv_unique hp hg h (divmod_spec hp hf hg ng)
end
end Go.Proofs.YtlndchmpnnlacaaDoor

namespace Go.Proofs.YtlndchmpnnlacaaDoor
section
variable {p : Nat} {a b c d f g h m q r u v xs ys zs G U V G' U' V' : List Int}
theorem add_mulP (hp : 0 < p) : mulP p (addP p ys zs) xs = addP p (mulP p ys xs) (mulP p zs xs) := by rw [mulP_comm, mulP_add hp, mulP_comm xs, mulP_comm xs]
theorem sub_mulP (hp : 0 < p) : mulP p (subP p ys zs) xs = subP p (mulP p ys xs) (mulP p zs xs) := by rw [mulP_comm, mulP_sub hp, mulP_comm xs, mulP_comm xs]
theorem addP_co4 : EqP p (co (addP p (addP p a b) (addP p c d))) (fun i => (co a i + co b i) + (co c i + co d i)) := addP_co.trans (addP_co.add addP_co)
theorem addP_add (hp : 0 < p) : addP p (addP p a b) (addP p c d) = addP p (addP p a c) (addP p b d) :=
  pol_ext (addP_pol hp) (addP_pol hp) (addP_co4.trans ((EqP.of_eq (by funext i; omega)).trans addP_co4.symm))
theorem addP_subs (hp : 0 < p) : addP p (subP p a b) (subP p c d) = subP p (addP p a c) (addP p b d) :=
  pol_ext (addP_pol hp) (subP_pol hp) ((addP_co.trans (subP_co.add subP_co)).trans ((EqP.of_eq (by funext i; omega)).trans (subP_co.trans (addP_co.sub addP_co)).symm))
theorem subP_subs (hp : 0 < p) : subP p (subP p a b) (subP p c d) = subP p (subP p a c) (subP p b d) :=
  pol_ext (subP_pol hp) (subP_pol hp) ((subP_co.trans (subP_co.sub subP_co)).trans ((EqP.of_eq (by funext i; omega)).trans (subP_co.trans (subP_co.sub subP_co)).symm))
theorem subP_addP (hp : 0 < p) : subP p (addP p a b) c = addP p a (subP p b c) :=
  pol_ext (subP_pol hp) (addP_pol hp) ((subP_co.trans (addP_co.sub (EqP.refl _ _))).trans ((EqP.of_eq (by funext i; omega)).trans (addP_co.trans ((EqP.refl _ _).add subP_co)).symm))
theorem subP_of_add (hp : 0 < p) (hb : Pol p b) (h : addP p a b = c) : b = subP p c a := by
  rw [← h]
  exact pol_ext hb (subP_pol hp) ((EqP.of_eq (by funext i; omega)).trans (subP_co.trans (addP_co.sub (EqP.refl _ _))).symm)
theorem mulP_one' (hp : 1 < p) (hx : Pol p xs) : mulP p xs [1] = xs := by rw [mulP_comm, mulP_one hp hx]
theorem pol_one (hp : 1 < p) : Pol p [1] := ⟨fun x hx => by simp at hx; subst hx; omega, fun k hk => by simp at hk; subst hk; decide⟩
/-- Division without a rest. -/
def DvdP (p : Nat) (d f : List Int) : Prop := ∃ q, Pol p q ∧ f = mulP p q d
theorem DvdP.self (hp : 1 < p) (hx : Pol p xs) : DvdP p xs xs := ⟨[1], pol_one hp, (mulP_one hp hx).symm⟩
theorem DvdP.nil_ (p : Nat) (xs : List Int) : DvdP p xs [] := ⟨[], Pol.nil_ p, (nil_mulP _).symm⟩
theorem DvdP.of_nil (h : DvdP p [] f) : f = [] := by obtain ⟨q, _, e⟩ := h; rw [e, mulP_nil]
theorem DvdP.trans (hp : 0 < p) (h : DvdP p d f) (k : DvdP p f g) : DvdP p d g := by
  obtain ⟨q, h1, rfl⟩ := h
  obtain ⟨r, h2, rfl⟩ := k
  exact ⟨mulP p r q, mulP_pol hp, (mulP_assoc hp).symm⟩
theorem DvdP.add (hp : 0 < p) (h : DvdP p d f) (k : DvdP p d g) : DvdP p d (addP p f g) := by
  obtain ⟨q, h1, rfl⟩ := h
  obtain ⟨r, h2, rfl⟩ := k
  exact ⟨addP p q r, addP_pol hp, (add_mulP hp).symm⟩
theorem DvdP.sub (hp : 0 < p) (h : DvdP p d f) (k : DvdP p d g) : DvdP p d (subP p f g) := by
  obtain ⟨q, h1, rfl⟩ := h
  obtain ⟨r, h2, rfl⟩ := k
  exact ⟨subP p q r, subP_pol hp, (sub_mulP hp).symm⟩
theorem DvdP.mul (hp : 0 < p) (c : List Int) (h : DvdP p d f) : DvdP p d (mulP p c f) := by
  obtain ⟨q, h1, rfl⟩ := h
  exact ⟨mulP p c q, mulP_pol hp, (mulP_assoc hp).symm⟩
theorem DvdP.mul_right (hp : 0 < p) (c : List Int) (h : DvdP p d f) : DvdP p d (mulP p f c) := by rw [mulP_comm]; exact h.mul hp c
theorem DvdP.times (hp : 0 < p) (c : List Int) (h : DvdP p d f) : DvdP p (mulP p d c) (mulP p f c) := by
  obtain ⟨q, h1, rfl⟩ := h
  exact ⟨q, h1, mulP_assoc hp⟩
theorem DvdP.len (hp : PrimeN p) (hd : Pol p d) (h : DvdP p d f) (nf : f ≠ []) : d.length ≤ f.length := by
  obtain ⟨q, h1, rfl⟩ := h
  have nd : d ≠ [] := fun e => nf (by rw [e, mulP_nil])
  have nq : q ≠ [] := fun e => nf (by rw [e, nil_mulP])
  rw [mulP_length hp h1 hd nq nd]
  have := List.length_pos_iff.2 nq
  omega
/-- d divides f just if nothing is left. -/
theorem dvdP_iff (hp : PrimeN p) (hf : Pol p f) (hg : Pol p g) (ng : g ≠ []) : DvdP p g f ↔ modP p f g = [] := by
  have h := divmod_spec hp hf hg ng
  constructor
  · intro ⟨q, h1, h2⟩
    have k : IsDiv p f g q [] := isDiv_of hp.pos h1 (Pol.nil_ p) (by have := List.length_pos_iff.2 ng; simpa using this) (by rw [addP_nil hp.pos (mulP_pol hp.pos), h2])
    exact (isDiv_unique hp hg h k).2
  · intro e
    refine ⟨divP p f g, h.hq, ?_⟩
    have := h.sum hp.pos hf
    rw [e, addP_nil hp.pos (mulP_pol hp.pos)] at this
    exact this
def Monic (xs : List Int) : Prop := xs ≠ [] ∧ lead xs = 1
theorem lead_single (c : Int) : lead [c] = c := rfl
/-- Two that divide each other, and are monic, or 0, are one. -/
theorem dvdP_antisymm (hp : PrimeN p) (hx : Pol p xs) (hy : Pol p ys) (h : DvdP p xs ys) (k : DvdP p ys xs) (mx : xs = [] ∨ Monic xs) (my : ys = [] ∨ Monic ys) : xs = ys := by
  rcases mx with rfl | ⟨nx, lx⟩
  · exact h.of_nil.symm
  · rcases my with rfl | ⟨ny, ly⟩
    · exact absurd k.of_nil nx
    · have l1 := h.len hp hx ny
      have l2 := k.len hp hy nx
      obtain ⟨q, hq, e⟩ := h
      have nq : q ≠ [] := fun e2 => ny (by rw [e, e2, nil_mulP])
      have l3 := mulP_length hp hq hx nq nx
      have l4 := mulP_lead hp hq hx nq nx
      rw [← e] at l3 l4
      have l5 := List.length_pos_iff.2 nq
      have l6 := List.length_pos_iff.2 nx
      have l7 : q.length = 1 := by omega
      obtain ⟨c, rfl⟩ : ∃ c, q = [c] := List.length_eq_one_iff.1 l7
      rw [ly, lx, lead_single, Int.mul_one] at l4
      have := hq.1 c (by simp)
      rw [Int.emod_eq_of_lt this.1 this.2] at l4
      rw [e, ← l4, mulP_one hp.1 hx]
/-- A gcd with its cofactors. -/
structure IsGcd (p : Nat) (f g G U V : List Int) : Prop where
  hG : Pol p G
  hU : Pol p U
  hV : Pol p V
  left : DvdP p G f
  right : DvdP p G g
  sum : G = addP p (mulP p U f) (mulP p V g)
  monic : G = [] ∨ Monic G
theorem IsGcd.unique (hp : PrimeN p) (h : IsGcd p f g G U V) (k : IsGcd p f g G' U' V') : G = G' :=
  dvdP_antisymm hp h.hG k.hG (by rw [k.sum]; exact (h.left.mul hp.pos _).add hp.pos (h.right.mul hp.pos _)) (by rw [h.sum]; exact (k.left.mul hp.pos _).add hp.pos (k.right.mul hp.pos _)) h.monic k.monic
theorem IsGcd.greatest (hp : 0 < p) (h : IsGcd p f g G U V) (h1 : DvdP p d f) (h2 : DvdP p d g) : DvdP p d G := by
  rw [h.sum]; exact (h1.mul hp _).add hp (h2.mul hp _)
/-- What is monic. -/
def monP (p : Nat) (xs : List Int) : List Int := scaleP p (invN p (lead xs)) xs
theorem scaleP_mul (hp : 0 < p) (c : Int) : mulP p (conP p c) xs = scaleP p c xs :=
  pol_ext (mulP_pol hp) (scaleP_pol hp) ((mulP_co.trans (conP_co.conv (EqP.refl _ _))).trans ((EqP.of_eq (by funext i; rw [conv_mono, if_pos (by omega), Nat.sub_zero])).trans scaleP_co.symm))
theorem scaleP_nil (p : Nat) (c : Int) : scaleP p c [] = [] := rfl
theorem monP_nil (p : Nat) : monP p [] = [] := rfl
theorem monP_spec (hp : PrimeN p) (hx : Pol p xs) (nx : xs ≠ []) : Monic (monP p xs) ∧ DvdP p (monP p xs) xs ∧ DvdP p xs (monP p xs) ∧ (monP p xs).length = xs.length := by
  have hb := hx.lead_bd nx
  have hi := invN_mul hp hb.1 hb.2
  have l1 := List.length_pos_iff.2 nx
  have e1 := scaleP_mul (xs := xs) hp.pos (invN p (lead xs))
  have hm : (monP p xs).length = xs.length := by
    refine Nat.le_antisymm (cano_len _ _ _) ?_
    have h3 := (scaleP_pol (xs := xs) (c := invN p (lead xs)) hp.pos).reach (n := xs.length - 1) fun hd => by
      have h4 := (scaleP_co (p := p) (xs := xs) (c := invN p (lead xs))).symm.dvd hd
      have h5 : (p : Int) ∣ lead xs * invN p (lead xs) := by rw [Int.mul_comm]; exact h4
      have h6 := Int.dvd_sub h5 hi
      rw [show lead xs * invN p (lead xs) - (lead xs * invN p (lead xs) - 1) = 1 by omega] at h6
      have := hp.1
      have h7 := Int.le_of_dvd (by omega) h6
      omega
    show xs.length ≤ (scaleP p (invN p (lead xs)) xs).length
    omega
  have hl : lead (monP p xs) = 1 := by
    unfold lead
    rw [hm]
    show co (cano p xs.length fun i => invN p (lead xs) * co xs i) (xs.length - 1) = 1
    rw [co_cano, if_pos (by omega)]
    obtain ⟨z, hz⟩ := hi
    have : invN p (lead xs) * co xs (xs.length - 1) = 1 + p * z := by rw [Int.mul_comm]; show lead xs * _ = _; omega
    rw [this, Int.add_mul_emod_self_left]
    have := hp.1
    exact Int.emod_eq_of_lt (by omega) (by omega)
  have nm : monP p xs ≠ [] := by intro e; rw [e] at hm; simp at hm; omega
  refine ⟨⟨nm, hl⟩, ⟨conP p (lead xs), conP_pol hp.pos, ?_⟩, ⟨conP p (invN p (lead xs)), conP_pol hp.pos, e1.symm⟩, hm⟩
  unfold monP
  rw [scaleP_mul hp.pos]
  refine pol_ext hx (scaleP_pol hp.pos) ?_
  refine EqP.symm ((scaleP_co.trans (scaleP_co.scale _)).trans fun i => ?_)
  obtain ⟨z, hz⟩ := hi
  exact ⟨z * co xs i, by
    dsimp only
    rw [← Int.mul_assoc, show lead xs * invN p (lead xs) = 1 + p * z by omega, Int.add_mul, Int.mul_assoc]
    omega⟩
/-- Euclid's way. -/
theorem mod_dvd (hp : PrimeN p) (ha : Pol p a) (hb : Pol p b) (nb : b ≠ []) : (DvdP p c a ∧ DvdP p c b) ↔ (DvdP p c b ∧ DvdP p c (modP p a b)) := by
  have h := divmod_spec hp ha hb nb
  have e := h.sum hp.pos ha
  constructor
  · intro ⟨h1, h2⟩
    refine ⟨h2, ?_⟩
    rw [subP_of_add hp.pos h.hr e.symm]
    exact h1.sub hp.pos (h2.mul hp.pos _)
  · intro ⟨h1, h2⟩
    refine ⟨?_, h1⟩
    rw [e]
    exact (h1.mul hp.pos _).add hp.pos h2
/-- How a pair with its cofactors goes on. -/
theorem euclid_next (hp : PrimeN p) (ha : Pol p a) (hb : Pol p b) (nb : b ≠ []) (h1 : a = addP p (mulP p u f) (mulP p v g)) (h2 : b = addP p (mulP p U f) (mulP p V g)) :
    modP p a b = addP p (mulP p (subP p u (mulP p (divP p a b) U)) f) (mulP p (subP p v (mulP p (divP p a b) V)) g) := by
  have h := divmod_spec hp ha hb nb
  have e := h.sum hp.pos ha
  have e2 := subP_of_add hp.pos h.hr e.symm
  rw [sub_mulP hp.pos, sub_mulP hp.pos, addP_subs hp.pos, ← h1, mulP_assoc hp.pos, mulP_assoc hp.pos, ← mulP_add hp.pos, ← h2]
  exact e2
end
end Go.Proofs.YtlndchmpnnlacaaDoor

namespace Go.Proofs.YtlndchmpnnlacaaDoor
section
variable {p : Nat} {a b c d f g h m q r u v xs ys zs : List Int}
theorem modP_pol (hp : PrimeN p) (ha : Pol p a) (hm : Pol p m) (nm : m ≠ []) : Pol p (modP p a m) := (divmod_spec hp ha hm nm).hr
theorem divP_pol (hp : PrimeN p) (ha : Pol p a) (hm : Pol p m) (nm : m ≠ []) : Pol p (divP p a m) := (divmod_spec hp ha hm nm).hq
theorem modP_len (hp : PrimeN p) (ha : Pol p a) (hm : Pol p m) (nm : m ≠ []) : (modP p a m).length < m.length := (divmod_spec hp ha hm nm).len
theorem modP_of (hp : PrimeN p) (ha : Pol p a) (hm : Pol p m) (nm : m ≠ []) (hq : Pol p q) (hr : Pol p r) (hl : r.length < m.length) (e : a = addP p (mulP p q m) r) : modP p a m = r :=
  ((isDiv_of hp.pos hq hr hl e).to hp ha hm nm).2.symm
theorem modP_small (hp : PrimeN p) (ha : Pol p a) (hm : Pol p m) (nm : m ≠ []) (hl : a.length < m.length) : modP p a m = a :=
  modP_of hp ha hm nm (Pol.nil_ p) ha hl (by rw [nil_mulP, nil_addP hp.pos ha])
/-- Two leave the same just if m divides their difference. -/
theorem modP_eq_iff (hp : PrimeN p) (ha : Pol p a) (hb : Pol p b) (hm : Pol p m) (nm : m ≠ []) : modP p a m = modP p b m ↔ DvdP p m (subP p a b) := by
  have h1 := divmod_spec hp ha hm nm
  have h2 := divmod_spec hp hb hm nm
  have e1 := h1.sum hp.pos ha
  have e2 := h2.sum hp.pos hb
  constructor
  · intro e
    refine ⟨subP p (divP p a m) (divP p b m), subP_pol hp.pos, ?_⟩
    rw [sub_mulP hp.pos]
    refine pol_ext (subP_pol hp.pos) (subP_pol hp.pos) ?_
    refine (subP_co.trans ((EqP.of_eq (congrArg co e1)).sub (EqP.of_eq (congrArg co e2)))).trans ?_
    refine ((addP_co.sub addP_co).trans ?_).trans subP_co.symm
    rw [e]
    exact EqP.of_eq (by funext i; omega)
  · intro ⟨q, hq, e⟩
    refine modP_of hp ha hm nm (q := addP p q (divP p b m)) (addP_pol hp.pos) h2.hr h2.len ?_
    rw [add_mulP hp.pos, ← e, addP_assoc hp.pos, ← e2, subP_add hp.pos ha]
theorem dvd_sub_mod (hp : PrimeN p) (ha : Pol p a) (hm : Pol p m) (nm : m ≠ []) : DvdP p m (subP p a (modP p a m)) := by
  have h1 := divmod_spec hp ha hm nm
  refine ⟨divP p a m, h1.hq, ?_⟩
  have e := h1.sum hp.pos ha
  have := addP_sub (ys := modP p a m) hp.pos (mulP_pol (p := p) (xs := divP p a m) (ys := m) hp.pos)
  rw [← e] at this
  exact this
theorem modP_mod (hp : PrimeN p) (ha : Pol p a) (hm : Pol p m) (nm : m ≠ []) : modP p (modP p a m) m = modP p a m := modP_small hp (modP_pol hp ha hm nm) hm nm (modP_len hp ha hm nm)
theorem modP_add (hp : PrimeN p) (ha : Pol p a) (hb : Pol p b) (hm : Pol p m) (nm : m ≠ []) : modP p (addP p a b) m = addP p (modP p a m) (modP p b m) := by
  have h1 := divmod_spec hp ha hm nm
  have h2 := divmod_spec hp hb hm nm
  refine modP_of hp (addP_pol hp.pos) hm nm (q := addP p (divP p a m) (divP p b m)) (addP_pol hp.pos) (addP_pol hp.pos) (Nat.lt_of_le_of_lt addP_len (by have := h1.len; have := h2.len; omega)) ?_
  rw [add_mulP hp.pos, addP_add hp.pos, ← h1.sum hp.pos ha, ← h2.sum hp.pos hb]
theorem modP_sub (hp : PrimeN p) (ha : Pol p a) (hb : Pol p b) (hm : Pol p m) (nm : m ≠ []) : modP p (subP p a b) m = subP p (modP p a m) (modP p b m) := by
  have h1 := divmod_spec hp ha hm nm
  have h2 := divmod_spec hp hb hm nm
  refine modP_of hp (subP_pol hp.pos) hm nm (q := subP p (divP p a m) (divP p b m)) (subP_pol hp.pos) (subP_pol hp.pos) (Nat.lt_of_le_of_lt subP_len (by have := h1.len; have := h2.len; omega)) ?_
  rw [sub_mulP hp.pos, addP_subs hp.pos, ← h1.sum hp.pos ha, ← h2.sum hp.pos hb]
theorem modP_mul_left (hp : PrimeN p) (ha : Pol p a) (hm : Pol p m) (nm : m ≠ []) : modP p (mulP p (modP p a m) b) m = modP p (mulP p a b) m := by
  refine ((modP_eq_iff hp (mulP_pol hp.pos) (mulP_pol hp.pos) hm nm).2 ?_).symm
  rw [← sub_mulP hp.pos]
  exact (dvd_sub_mod hp ha hm nm).mul_right hp.pos _
theorem modP_mul_right (hp : PrimeN p) (hb : Pol p b) (hm : Pol p m) (nm : m ≠ []) : modP p (mulP p a (modP p b m)) m = modP p (mulP p a b) m := by
  rw [mulP_comm, modP_mul_left hp hb hm nm, mulP_comm]
theorem modP_mul_both (hp : PrimeN p) (ha : Pol p a) (hb : Pol p b) (hm : Pol p m) (nm : m ≠ []) : modP p (mulP p (modP p a m) (modP p b m)) m = modP p (mulP p a b) m := by
  rw [modP_mul_left hp ha hm nm, modP_mul_right hp hb hm nm]
/-- Powers. -/
def powP (p : Nat) (f : List Int) : Nat → List Int
  | 0 => conP p 1
  | n + 1 => mulP p (powP p f n) f
theorem conP_one (hp : 1 < p) : conP p 1 = [1] := pol_ext (conP_pol (by omega)) (pol_one hp) (conP_co.trans (EqP.of_eq (by funext i; cases i <;> simp [co, mono1])))
theorem powP_pol (hp : 0 < p) (f : List Int) : ∀ n, Pol p (powP p f n)
  | 0 => conP_pol hp
  | _n + 1 => mulP_pol hp
theorem powP_one (hp : 1 < p) (hf : Pol p f) : powP p f 1 = f := by
  show mulP p (conP p 1) f = f
  rw [conP_one hp, mulP_one hp hf]
theorem powP_add (hp : 1 < p) (n k : Nat) : powP p f (n + k) = mulP p (powP p f n) (powP p f k) := by
  induction k with
  | zero => show _ = mulP p _ (conP p 1); rw [conP_one hp, mulP_one' hp (powP_pol (by omega) _ _)]; rfl
  | succ k ih => rw [← Nat.add_assoc]; show mulP p _ f = mulP p _ (mulP p _ f); rw [ih, mulP_assoc (by omega)]
theorem powP_mul (hp : 1 < p) (n k : Nat) : powP p f (n * k) = powP p (powP p f n) k := by
  induction k with
  | zero => rfl
  | succ k ih => rw [Nat.mul_succ, powP_add hp, ih]; rfl
theorem powP_times (hp : 1 < p) (n : Nat) : powP p (mulP p f g) n = mulP p (powP p f n) (powP p g n) := by
  induction n with
  | zero => show conP p 1 = mulP p (conP p 1) (conP p 1); rw [conP_one hp, mulP_one hp (pol_one hp)]
  | succ n ih =>
    show mulP p _ _ = mulP p (mulP p _ _) (mulP p _ _)
    rw [ih, mulP_assoc (by omega), mulP_assoc (by omega), ← mulP_assoc (xs := powP p g n) (by omega), mulP_comm (powP p g n) f, mulP_assoc (by omega)]
theorem modP_pow (hp : PrimeN p) (hf : Pol p f) (hm : Pol p m) (nm : m ≠ []) (n : Nat) : modP p (powP p (modP p f m) n) m = modP p (powP p f n) m := by
  induction n with
  | zero => rfl
  | succ n ih =>
    show modP p (mulP p _ _) m = modP p (mulP p _ _) m
    rw [← modP_mul_left hp (powP_pol hp.pos _ _) hm nm, ih, modP_mul_left hp (powP_pol hp.pos _ _) hm nm, modP_mul_right hp hf hm nm]
end
/-- Binomial coefficients. -/
def binom : Nat → Nat → Nat
  | _, 0 => 1
  | 0, _ + 1 => 0
  | n + 1, k + 1 => binom n k + binom n (k + 1)
theorem binom_zero (n : Nat) : binom n 0 = 1 := by cases n <;> rfl
theorem binom_over : ∀ n k, n < k → binom n k = 0
  | 0, 0, h => by omega
  | 0, _ + 1, _ => rfl
  | n + 1, 0, h => by omega
  | n + 1, k + 1, h => by show binom n k + binom n (k + 1) = 0; rw [binom_over n k (by omega), binom_over n (k + 1) (by omega)]
theorem binom_self : ∀ n, binom n n = 1
  | 0 => rfl
  | n + 1 => by show binom n n + binom n (n + 1) = 1; rw [binom_self n, binom_over n (n + 1) (by omega)]
theorem binom_mul : ∀ n k, (k + 1) * binom (n + 1) (k + 1) = (n + 1) * binom n k
  | 0, 0 => rfl
  | 0, k + 1 => by rw [binom_over 1 (k + 1 + 1) (by omega), binom_over 0 (k + 1) (by omega)]; simp
  | n + 1, 0 => by
    have h := binom_mul n 0
    have e : binom (n + 1 + 1) (0 + 1) = binom (n + 1) 0 + binom (n + 1) (0 + 1) := rfl
    rw [e, binom_zero]
    rw [binom_zero] at h
    omega
  | n + 1, k + 1 => by
    have h1 := binom_mul n k
    have h2 := binom_mul n (k + 1)
    have e : binom (n + 1 + 1) (k + 1 + 1) = binom (n + 1) (k + 1) + binom (n + 1) (k + 1 + 1) := rfl
    have e2 : binom (n + 1) (k + 1) = binom n k + binom n (k + 1) := rfl
    rw [e, Nat.mul_add, h2]
    have h3 : (k + 1 + 1) * binom (n + 1) (k + 1) = (n + 1) * binom n k + binom (n + 1) (k + 1) := by rw [Nat.add_mul (k + 1) 1, h1, Nat.one_mul]
    rw [h3, Nat.add_mul (n + 1) 1, Nat.one_mul, e2, Nat.mul_add]
    omega
theorem PrimeN.binom {p k : Nat} (hp : PrimeN p) (h0 : 0 < k) (h1 : k < p) : p ∣ Go.Proofs.YtlndchmpnnlacaaDoor.binom p k := by
  obtain ⟨j, rfl⟩ : ∃ j, k = j + 1 := ⟨k - 1, by omega⟩
  obtain ⟨n, rfl⟩ : ∃ n, p = n + 1 := ⟨p - 1, by omega⟩
  have h := binom_mul n j
  rcases hp.euclid (a := j + 1) (b := Go.Proofs.YtlndchmpnnlacaaDoor.binom (n + 1) (j + 1)) (by rw [h]; exact Nat.mul_mod_right _ _) with h2 | h2
  · rw [Nat.mod_eq_of_lt h1] at h2; omega
  · exact Nat.dvd_of_mod_eq_zero h2
/-- Powers of series. -/
def powS (f : Nat → Int) : Nat → Nat → Int
  | 0 => mono1 0 1
  | n + 1 => conv (powS f n) f
theorem conv_sum (F : Nat → Nat → Int) (g : Nat → Int) (n : Nat) : conv (fun k => sumZ n (fun i => F i k)) g = fun k => sumZ n (fun i => conv (F i) g k) := by
  funext k
  unfold conv
  rw [sumZ_swap]
  refine sumZ_congr fun i _ => ?_
  rw [← sumZ_mul_right]
theorem scale_conv (c : Int) (f g : Nat → Int) : conv (fun i => c * f i) g = fun k => c * conv f g k := by rw [conv_comm, conv_scale, conv_comm]
theorem binom_thm (f g : Nat → Int) (n : Nat) : powS (fun i => f i + g i) n = fun k => sumZ (n + 1) (fun i => (binom n i : Int) * conv (powS f i) (powS g (n - i)) k) := by
  induction n with
  | zero =>
    funext k
    show mono1 0 1 k = 0 + ((1 : Nat) : Int) * conv (mono1 0 1) (mono1 0 1) k
    rw [conv_one]; omega
  | succ n ih =>
    have e1 : powS (fun i => f i + g i) (n + 1) = fun k => conv (powS (fun i => f i + g i) n) f k + conv (powS (fun i => f i + g i) n) g k := conv_add _ _ _
    rw [e1, ih, conv_sum, conv_sum]
    funext k
    have hf : ∀ i, conv (fun k => (binom n i : Int) * conv (powS f i) (powS g (n - i)) k) f k = (binom n i : Int) * conv (powS f (i + 1)) (powS g (n - i)) k := fun i => by
      rw [scale_conv]
      dsimp only
      congr 1
      rw [conv_assoc, conv_comm (powS g (n - i)) f, ← conv_assoc]
      rfl
    have hg : ∀ i, i < n + 1 → conv (fun k => (binom n i : Int) * conv (powS f i) (powS g (n - i)) k) g k = (binom n i : Int) * conv (powS f i) (powS g (n + 1 - i)) k := fun i hi => by
      rw [scale_conv]
      dsimp only
      congr 1
      rw [conv_assoc, show n + 1 - i = (n - i) + 1 by omega]
      rfl
    have e2 : sumZ (n + 1) (fun i => conv (fun k => (binom n i : Int) * conv (powS f i) (powS g (n - i)) k) f k) = sumZ (n + 1) (fun i => (binom n i : Int) * conv (powS f (i + 1)) (powS g (n - i)) k) := sumZ_congr fun i _ => hf i
    have e3 : sumZ (n + 1) (fun i => conv (fun k => (binom n i : Int) * conv (powS f i) (powS g (n - i)) k) g k) = sumZ (n + 1) (fun i => (binom n i : Int) * conv (powS f i) (powS g (n + 1 - i)) k) := sumZ_congr fun i hi => hg i hi
    dsimp only
    rw [e2, e3]
    have e4 : sumZ (n + 1) (fun i => (binom n i : Int) * conv (powS f i) (powS g (n + 1 - i)) k) = sumZ (n + 1 + 1) (fun i => (binom n i : Int) * conv (powS f i) (powS g (n + 1 - i)) k) := by
      rw [sumZ_succ (n + 1), binom_over n (n + 1) (by omega)]
      simp
    have e5 := sumZ_front (n + 1) (fun i => (binom n i : Int) * conv (powS f i) (powS g (n + 1 - i)) k)
    have e6 := sumZ_front (n + 1) (fun i => (binom (n + 1) i : Int) * conv (powS f i) (powS g (n + 1 - i)) k)
    rw [e4, e5, e6, ← Int.add_assoc, Int.add_comm (sumZ (n + 1) _), Int.add_assoc, ← sumZ_add]
    congr 1
    · rw [binom_zero, binom_zero]
    · refine sumZ_congr fun i hi => ?_
      have : binom (n + 1) (i + 1) = binom n i + binom n (i + 1) := rfl
      rw [this, Int.natCast_add, Int.add_mul, show n + 1 - (i + 1) = n - i by omega]
section
variable {p : Nat} {a b c d f g h m q r u v xs ys zs : List Int}
theorem powP_co (n : Nat) : EqP p (co (powP p f n)) (powS (co f) n) := by
  induction n with
  | zero => exact conP_co
  | succ n ih => exact mulP_co.trans (ih.conv (EqP.refl _ _))
theorem EqP.pow {F G : Nat → Int} (h : EqP p F G) (n : Nat) : EqP p (powS F n) (powS G n) := by
  induction n with
  | zero => exact EqP.refl _ _
  | succ n ih => exact ih.conv h
/-- The power to the prime of a sum. -/
theorem frob_add (hp : PrimeN p) : powP p (addP p f g) p = addP p (powP p f p) (powP p g p) := by
  refine pol_ext (powP_pol hp.pos _ _) (addP_pol hp.pos) ((powP_co _).trans ((addP_co.pow p).trans (EqP.symm (addP_co.trans (((powP_co p).add (powP_co p)).trans ?_)))))
  rw [binom_thm]
  intro k
  obtain ⟨n, hn⟩ : ∃ n, p = n + 1 := ⟨p - 1, by have := hp.1; omega⟩
  have e : ∀ F : Nat → Int, sumZ (p + 1) F = F 0 + sumZ n (fun i => F (i + 1)) + F p := fun F => by rw [sumZ_succ, hn, sumZ_front]
  dsimp only
  rw [e, binom_zero, binom_self, Nat.sub_zero, Nat.sub_self]
  have h0 : conv (powS (co f) 0) (powS (co g) p) k = powS (co g) p k := congrFun (conv_one _) k
  have h1 : conv (powS (co f) p) (powS (co g) 0) k = powS (co f) p k := by rw [conv_comm]; exact congrFun (conv_one _) k
  rw [h0, h1]
  have h2 : (p : Int) ∣ sumZ n (fun i => (binom p (i + 1) : Int) * conv (powS (co f) (i + 1)) (powS (co g) (p - (i + 1))) k) := sumZ_dvd n fun i hi =>
    Int.dvd_mul_of_dvd_left (Int.natCast_dvd_natCast.2 (hp.binom (by omega) (by omega)))
  have := Int.dvd_neg.2 h2
  refine Eq.mp ?_ this
  congr 1
  omega
theorem frob_adds (hp : PrimeN p) (k : Nat) : powP p (addP p f g) (p ^ k) = addP p (powP p f (p ^ k)) (powP p g (p ^ k)) := by
  induction k with
  | zero =>
    rw [Nat.pow_zero]
    show mulP p (conP p 1) _ = addP p (mulP p (conP p 1) _) (mulP p (conP p 1) _)
    rw [mulP_add hp.pos]
  | succ k ih => rw [Nat.pow_succ, powP_mul hp.1, ih, frob_add hp, ← powP_mul hp.1, ← powP_mul hp.1]
end
end Go.Proofs.YtlndchmpnnlacaaDoor

namespace Go.Proofs.YtlndchmpnnlacaaDoor
section
variable {p : Nat} {a b c d f g h m q r u v xs ys zs : List Int}
/-- One put into another one. -/
def horP (p : Nat) : List Int → List Int → List Int
  | [], _ => []
  | c :: cs, g => addP p (mulP p (horP p cs g) g) (conP p c)
theorem horP_pol (hp : 0 < p) (f g : List Int) : Pol p (horP p f g) := by
  cases f with
  | nil => exact Pol.nil_ p
  | cons c cs => exact addP_pol hp
def varP : List Int := [0, 1]
theorem varP_pol (hp : 1 < p) : Pol p varP := ⟨fun x hx => by
  rcases List.mem_cons.1 hx with rfl | hx
  · omega
  · simp at hx; subst hx; omega, fun k hk => by
    have : k = 1 := by simpa [varP] using hk
    subst this; decide⟩
theorem Pol.tail_ {c : Int} {cs : List Int} (h : Pol p (c :: cs)) : Pol p cs := ⟨h.1.tail_, fun k hk => by
  have := h.2 (k + 1) (by simpa using hk)
  simpa [List.getD_eq_getElem?_getD] using this⟩
theorem cons_split (hp : 1 < p) {c : Int} {cs : List Int} (h : Pol p (c :: cs)) : c :: cs = addP p (mulP p cs varP) (conP p c) := by
  refine pol_ext h (addP_pol (by omega)) (EqP.symm (addP_co.trans ((mulP_co.add conP_co).trans (EqP.of_eq ?_))))
  funext i
  have e : co varP = mono1 1 1 := by funext i; rcases i with _ | _ | i <;> simp [co, varP, mono1]
  rw [conv_comm, e, conv_mono]
  cases i with
  | zero => rw [if_neg (by omega), co_zero]; simp [mono1]
  | succ i => rw [if_pos (by omega), co_succ]; simp [mono1]
theorem conP_mul (hp : 0 < p) (c d : Int) : mulP p (conP p c) (conP p d) = conP p (c * d) := by
  rw [scaleP_mul hp]
  refine pol_ext (scaleP_pol hp) (conP_pol hp) ((scaleP_co.trans (conP_co.scale c)).trans (EqP.symm (conP_co.trans (EqP.of_eq ?_))))
  funext i
  unfold mono1
  by_cases h : i = 0 <;> simp [h]
theorem conP_pow (hp : 0 < p) (c n : Nat) : powP p (conP p (c : Int)) n = conP p ((c ^ n : Nat) : Int) := by
  induction n with
  | zero => rfl
  | succ n ih =>
    show mulP p _ _ = _
    rw [ih, conP_mul hp, Nat.pow_succ, Int.natCast_mul]
theorem conP_mod (hp : 0 < p) (c : Int) : conP p (c % p) = conP p c := by
  refine pol_ext (conP_pol hp) (conP_pol hp) (conP_co.trans (EqP.trans ?_ conP_co.symm))
  intro i
  unfold mono1
  by_cases h : i = 0
  · rw [if_pos h, if_pos h]
    exact ⟨-(c / p), by have := Int.emod_add_mul_ediv c p; rw [Int.mul_neg]; omega⟩
  · rw [if_neg h, if_neg h]; exact Int.dvd_zero _
theorem pow_frob (hp : PrimeN p) {c : Nat} (hc : c < p) : ∀ k, c ^ p ^ k % p = c
  | 0 => by rw [Nat.pow_zero, Nat.pow_one, Nat.mod_eq_of_lt hc]
  | k + 1 => by rw [Nat.pow_succ, Nat.pow_mul, Nat.pow_mod, pow_frob hp hc k, hp.fermat_all hc]
theorem conP_frob (hp : PrimeN p) {c : Int} (h0 : 0 ≤ c) (h1 : c < p) (k : Nat) : powP p (conP p c) (p ^ k) = conP p c := by
  obtain ⟨n, rfl⟩ : ∃ n : Nat, c = n := ⟨c.toNat, by omega⟩
  rw [conP_pow hp.pos, ← conP_mod hp.pos, show (((n ^ p ^ k : Nat) : Int) % (p : Int)) = ((n ^ p ^ k % p : Nat) : Int) from (Int.natCast_emod _ _).symm, pow_frob hp (by omega)]
theorem powP_nil {n : Nat} (hn : 0 < n) : powP p [] n = [] := by
  obtain ⟨k, rfl⟩ : ∃ k, n = k + 1 := ⟨n - 1, by omega⟩
  exact mulP_nil _
/-- The power to a power of the prime: x is put to that power. -/
theorem horP_frob (hp : PrimeN p) (k : Nat) : ∀ (f : List Int), Pol p f → horP p f (powP p varP (p ^ k)) = powP p f (p ^ k)
  | [], _ => by rw [powP_nil (Nat.pow_pos hp.pos)]; rfl
  | c :: cs, h => by
    have hc := h.1.head_
    show addP p (mulP p (horP p cs _) _) (conP p c) = _
    rw [horP_frob hp k cs h.tail_]
    have e := cons_split hp.1 h
    have e2 : powP p (c :: cs) (p ^ k) = addP p (powP p (mulP p cs varP) (p ^ k)) (powP p (conP p c) (p ^ k)) := by
      rw [← frob_adds hp, ← e]
    rw [e2, conP_frob hp hc.1 hc.2, powP_times hp.1]
theorem horP_mod (hp : PrimeN p) (hm : Pol p m) (nm : m ≠ []) (hg : Pol p g) : ∀ (f : List Int), modP p (horP p f (modP p g m)) m = modP p (horP p f g) m
  | [] => rfl
  | c :: cs => by
    show modP p (addP p _ _) m = modP p (addP p _ _) m
    have hG := modP_pol hp hg hm nm
    rw [modP_add hp (mulP_pol hp.pos) (conP_pol hp.pos) hm nm, modP_add hp (mulP_pol hp.pos) (conP_pol hp.pos) hm nm,
      ← modP_mul_left (b := modP p g m) hp (horP_pol hp.pos _ _) hm nm, horP_mod hp hm nm hg cs, modP_mul_both hp (horP_pol hp.pos _ _) hg hm nm]
theorem compose_frob (hp : PrimeN p) (hm : Pol p m) (nm : m ≠ []) (hu : Pol p u) (k : Nat) (hg : g = modP p (powP p varP (p ^ k)) m) : modP p (horP p u g) m = modP p (powP p u (p ^ k)) m := by
  rw [hg, horP_mod hp hm nm (powP_pol hp.pos _ _), horP_frob hp k u hu]
/-- One step of the program's way of putting one into another one. -/
theorem horP_step (hp : PrimeN p) (hm : Pol p m) (nm : m ≠ []) (_hg : Pol p g) (hv : Pol p v) {cs : List Int} (h : modP p v m = modP p (horP p cs g) m) (c : Int) :
    modP p (addP p (modP p (mulP p v g) m) (conP p c)) m = modP p (horP p (c :: cs) g) m := by
  show _ = modP p (addP p _ _) m
  rw [modP_add hp (modP_pol hp (mulP_pol hp.pos) hm nm) (conP_pol hp.pos) hm nm, modP_add hp (mulP_pol hp.pos) (conP_pol hp.pos) hm nm, modP_mod hp (mulP_pol hp.pos) hm nm,
    ← modP_mul_left (a := v) hp hv hm nm, h, modP_mul_left hp (horP_pol hp.pos _ _) hm nm]
/-- Values. -/
def valZ : List Int → Int → Int
  | [], _ => 0
  | c :: cs, a => c + a * valZ cs a
theorem valZ_sum (a : Int) : ∀ (xs : List Int) (n : Nat), xs.length ≤ n → valZ xs a = sumZ n (fun i => co xs i * a ^ i)
  | [], n, _ => (sumZ_nought n _ fun i _ => by rw [co_nil_at, Int.zero_mul]).symm
  | c :: cs, 0, h => by simp at h
  | c :: cs, n + 1, h => by
    rw [sumZ_front, co_zero, Int.pow_zero, Int.mul_one]
    show c + a * valZ cs a = _
    rw [valZ_sum a cs n (by simpa using h), ← sumZ_mul]
    congr 1
    exact sumZ_congr fun i _ => by rw [co_succ, Int.pow_succ, Int.mul_left_comm, Int.mul_comm a]
theorem valZ_eqp {n : Nat} (a : Int) {F : Nat → Int} (hl : xs.length ≤ n) (h : EqP p (co xs) F) : (p : Int) ∣ valZ xs a - sumZ n (fun i => F i * a ^ i) := by
  rw [valZ_sum a xs n hl, ← sumZ_sub]
  refine sumZ_dvd n fun i _ => ?_
  rw [← Int.sub_mul]
  exact Int.dvd_mul_of_dvd_left (h i)
theorem sum_conv (f g : Nat → Int) (n m : Nat) (hf : ∀ i, n ≤ i → f i = 0) (hg : ∀ i, m ≤ i → g i = 0) (a : Int) : sumZ (n + m) (fun k => conv f g k * a ^ k) = sumZ n (fun i => f i * a ^ i) * sumZ m (fun i => g i * a ^ i) := by
  have e1 : sumZ (n + m) (fun k => conv f g k * a ^ k) = sumZ (n + m) (fun k => sumZ (k + 1) (fun j => f j * g (k - j) * a ^ k)) := sumZ_congr fun k _ => by
    unfold conv
    rw [sumZ_mul_right]
  rw [e1, sumZ_tri (fun j k => f j * g (k - j) * a ^ k), sumZ_split n m, sumZ_nought m _ (fun i _ => sumZ_nought _ _ fun j _ => by rw [hf _ (by omega), Int.zero_mul, Int.zero_mul]), Int.add_zero, ← sumZ_mul_right]
  refine sumZ_congr fun j hj => ?_
  rw [← sumZ_mul, sumZ_more (n := m) (m := n + m - j) _ (by omega) (fun i h1 _ => by rw [hg _ (by omega), Int.mul_zero, Int.zero_mul])]
  exact sumZ_congr fun i _ => by
    rw [show j + i - j = i by omega, Int.pow_add]
    simp only [Int.mul_assoc, Int.mul_left_comm]
theorem valZ_mul (a : Int) : (p : Int) ∣ valZ (mulP p xs ys) a - valZ xs a * valZ ys a := by
  rw [valZ_sum a xs _ (Nat.le_refl _), valZ_sum a ys _ (Nat.le_refl _), ← sum_conv _ _ _ _ (fun i hi => co_beyond hi) (fun i hi => co_beyond hi)]
  exact valZ_eqp a (Nat.le_trans (cano_len _ _ _) (by omega)) mulP_co
theorem valZ_add (a : Int) : (p : Int) ∣ valZ (addP p xs ys) a - (valZ xs a + valZ ys a) := by
  rw [valZ_sum a xs _ (Nat.le_max_left xs.length ys.length), valZ_sum a ys _ (Nat.le_max_right xs.length ys.length), ← sumZ_add]
  have := valZ_eqp (p := p) a (cano_len _ _ _) (addP_co (p := p) (xs := xs) (ys := ys))
  have e : (fun i => (co xs i + co ys i) * a ^ i) = fun i => co xs i * a ^ i + co ys i * a ^ i := by funext i; rw [Int.add_mul]
  rw [e] at this
  exact this
end
end Go.Proofs.YtlndchmpnnlacaaDoor
