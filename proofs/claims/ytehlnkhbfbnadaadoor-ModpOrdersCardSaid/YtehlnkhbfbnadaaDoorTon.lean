/- Square roots modulo a prime: one that has none, and what a root is unique by; no condition but a prime's. -/
import Derived.Test.YtehlnkhbfbnadaaDoorFermat
namespace Go.Proofs.YtehlnkhbfbnadaaDoor
open Go.RowKit
def evL : List Int → Int → Int
  | [], _ => 0
  | c :: cs, x => c + x * evL cs x
def quoL : List Int → Int → List Int
  | [], _ => []
  | [_], _ => []
  | _ :: c :: cs, r => evL (c :: cs) r :: quoL (c :: cs) r
theorem quoL_ev : ∀ (cs : List Int) (r x : Int), evL cs x = evL cs r + (x - r) * evL (quoL cs r) x
  | [], r, x => by simp [evL, quoL]
  | [c], r, x => by simp [evL, quoL]
  | c :: d :: cs, r, x => by
    have ih := quoL_ev (d :: cs) r x
    show c + x * evL (d :: cs) x = c + r * evL (d :: cs) r + (x - r) * (evL (d :: cs) r + x * evL (quoL (d :: cs) r) x)
    rw [ih, Int.mul_add x, Int.mul_add (x - r), Int.mul_left_comm x (x - r), Int.sub_mul x r (evL (d :: cs) r)]
    omega
theorem quoL_len : ∀ (c : Int) (cs : List Int) (r : Int), (quoL (c :: cs) r).length = cs.length
  | _, [], _ => rfl
  | _, d :: cs, r => by
    show (quoL (d :: cs) r).length + 1 = cs.length + 1
    rw [quoL_len d cs r]
theorem quoL_last : ∀ (c d : Int) (cs : List Int) (r : Int), (quoL (c :: d :: cs) r).getLast? = (d :: cs).getLast?
  | c, d, [], r => by simp [quoL, evL]
  | c, d, e :: cs, r => by
    have ih := quoL_last d e cs r
    show (evL (d :: e :: cs) r :: quoL (d :: e :: cs) r).getLast? = _
    rw [List.getLast?_cons_cons]
    rw [← ih]
    rcases hq : quoL (d :: e :: cs) r with _ | ⟨y, ys⟩
    · have := quoL_len d (e :: cs) r
      rw [hq] at this
      simp at this
    · rw [List.getLast?_cons_cons]
theorem PrimeN.euclidZ {p : Nat} (h : PrimeN p) {a b : Int} (hd : (p : Int) ∣ a * b) : (p : Int) ∣ a ∨ (p : Int) ∣ b := by
  have h1 : p ∣ a.natAbs * b.natAbs := by
    have := Int.natAbs_dvd_natAbs.2 hd
    rwa [Int.natAbs_mul, Int.natAbs_natCast] at this
  rcases h.euclid (Nat.mod_eq_zero_of_dvd h1) with h2 | h2
  · exact .inl (Int.ofNat_dvd_left.2 (Nat.dvd_of_mod_eq_zero h2))
  · exact .inr (Int.ofNat_dvd_left.2 (Nat.dvd_of_mod_eq_zero h2))
/-- A polynomial whose leading coefficient is 1 has at most as many roots as its degree. -/
theorem PrimeN.roots {p : Nat} (h : PrimeN p) : ∀ (n : Nat) (cs : List Int), cs.length = n + 1 → cs.getLast? = some 1 → ∀ l : List Int, l.Pairwise (fun x y => ¬ (p : Int) ∣ y - x) → (∀ x ∈ l, (p : Int) ∣ evL cs x) → l.length ≤ n
  | n, cs, hl, hlast, [], _, _ => Nat.zero_le _
  | 0, [c], _, hlast, r :: t, _, hz => by
    exfalso
    have hc : c = 1 := by simpa using hlast
    have := hz r (by simp)
    subst hc
    simp only [evL, Int.mul_zero, Int.add_zero] at this
    have h2 := h.1
    have := Int.le_of_dvd (by omega) this
    omega
  | n + 1, c :: d :: cs, hl, hlast, r :: t, hp, hz => by
    rw [List.pairwise_cons] at hp
    have := h.roots n (quoL (c :: d :: cs) r) (by rw [quoL_len]; simpa using hl) (by rw [quoL_last]; simpa [List.getLast?_cons_cons] using hlast) t hp.2 (fun x hx => by
      have h1 := hz x (by simp [hx])
      have h2 := hz r (by simp)
      rw [quoL_ev (c :: d :: cs) r x] at h1
      have h3 : (p : Int) ∣ (x - r) * evL (quoL (c :: d :: cs) r) x := by
        have := Int.dvd_sub h1 h2
        rwa [Int.add_comm, Int.add_sub_cancel] at this
      rcases h.euclidZ h3 with h4 | h4
      · exact absurd h4 (hp.1 x hx)
      · exact h4)
    simp
    omega
  | 0, c :: d :: cs, hl, _, _ :: _, _, _ => by simp at hl
  | n + 1, [c], hl, _, _ :: _, _, _ => by simp at hl
  | 0, [], hl, _, _ :: _, _, _ => by simp at hl
  | n + 1, [], hl, _, _ :: _, _, _ => by simp at hl
def xkL (k : Nat) : List Int := List.replicate k 0 ++ [1]
theorem xkL_ev : ∀ (k : Nat) (x : Int), evL (xkL k) x = x ^ k
  | 0, x => by simp [xkL, evL]
  | k + 1, x => by
    have ih := xkL_ev k x
    unfold xkL at ih ⊢
    rw [List.replicate_succ, List.cons_append]
    simp only [evL]
    rw [ih, Int.pow_succ, Int.mul_comm]
    omega
/-- An element that is no square, by Euler's criterion. -/
theorem PrimeN.nonres {p : Nat} (h : PrimeN p) (h3 : 3 ≤ p) : ∃ z, 2 ≤ z ∧ z < p ∧ z ^ ((p - 1) / 2) % p ≠ 1 := by
  by_cases hex : ∃ z, 2 ≤ z ∧ z < p ∧ z ^ ((p - 1) / 2) % p ≠ 1
  · exact hex
  · exfalso
    obtain ⟨k, hk⟩ : ∃ k, (p - 1) / 2 = k + 1 := ⟨(p - 1) / 2 - 1, by omega⟩
    rw [hk] at hex
    have hall : ∀ z, 1 ≤ z → z < p → z ^ (k + 1) % p = 1 := fun z h1 h2 => by
      by_cases hz : z = 1
      · rw [hz, Nat.one_pow, Nat.mod_eq_of_lt (by omega)]
      · by_cases he : z ^ (k + 1) % p = 1
        · exact he
        · exact absurd ⟨z, by omega, h2, he⟩ hex
    have := h.roots (k + 1) (-1 :: xkL k) (by simp [xkL]) (by simp [xkL, List.getLast?_cons]) ((List.range' 1 (p - 1)).map fun z : Nat => (z : Int)) (by
      rw [List.pairwise_map]
      have hnd := (List.pairwise_lt_range' (s := 1) (n := p - 1))
      refine List.Pairwise.imp_of_mem (fun {x y} hx hy hlt hd => ?_) hnd
      rw [List.mem_range'_1] at hx hy
      have := Int.le_of_dvd (by omega) hd
      omega) (fun x hx => by
      rw [List.mem_map] at hx
      obtain ⟨z, hz, rfl⟩ := hx
      rw [List.mem_range'_1] at hz
      have := hall z (by omega) (by omega)
      simp only [evL]
      rw [xkL_ev]
      have e : -1 + (z : Int) * (z : Int) ^ k = ((z ^ (k + 1) : Nat) : Int) - 1 := by
        rw [Nat.pow_succ, Int.natCast_mul, Int.natCast_pow, Int.mul_comm]; omega
      rw [e]
      have hdm := Nat.div_add_mod (z ^ (k + 1)) p
      rw [this] at hdm
      obtain ⟨N, hN⟩ : ∃ N, z ^ (k + 1) = N := ⟨_, rfl⟩
      obtain ⟨q, hq⟩ : ∃ q, N / p = q := ⟨_, rfl⟩
      rw [hN, hq] at hdm
      rw [hN]
      exact ⟨(q : Int), by rw [← hdm, Int.natCast_add, Int.natCast_mul]; simp⟩)
    rw [List.length_map, List.length_range'] at this
    omega
theorem PrimeN.odd {p : Nat} (h : PrimeN p) (h3 : 3 ≤ p) : p % 2 = 1 := by
  rcases (show p % 2 = 0 ∨ p % 2 = 1 by omega) with h0 | h1
  · rcases h.2 2 (Nat.dvd_of_mod_eq_zero h0) with h2 | h2 <;> omega
  · exact h1
/-- Euler: of what is not 0 the power by half of p - 1 is 1 or less one. -/
theorem PrimeN.euler {p a : Nat} (h : PrimeN p) (h3 : 3 ≤ p) (ha : a % p ≠ 0) : a ^ ((p - 1) / 2) % p = 1 ∨ a ^ ((p - 1) / 2) % p = p - 1 := by
  have ho := h.odd h3
  refine h.sq_one (Nat.mod_lt _ (by omega)) ?_
  rw [← Nat.mul_mod, ← Nat.pow_add, show (p - 1) / 2 + (p - 1) / 2 = p - 1 by omega]
  exact h.fermat ha
theorem PrimeN.sq_same {p x y : Nat} (h : PrimeN p) (hx : x < p) (hy : y < p) (e : x * x % p = y * y % p) : x = y ∨ x + y = p ∨ (x = 0 ∧ y = 0) := by
  have hd : (p : Int) ∣ ((x : Int) - y) * ((x : Int) + y) := by
    have e1 : ((x : Int) - y) * ((x : Int) + y) = (x : Int) * x - (y : Int) * y := by
      rw [Int.sub_mul, Int.mul_add, Int.mul_add, Int.mul_comm (y : Int) x]; omega
    rw [e1, ← Int.natCast_mul, ← Int.natCast_mul]
    have h1 := Nat.div_add_mod (x * x) p
    have h2 := Nat.div_add_mod (y * y) p
    rw [← e] at h2
    exact ⟨((x * x / p : Nat) : Int) - ((y * y / p : Nat) : Int), by
      rw [← h1, ← h2, Int.mul_sub, Int.natCast_add, Int.natCast_add, Int.natCast_mul, Int.natCast_mul]
      rw [h1, h2]
      omega⟩
  rcases h.euclidZ hd with h1 | h1
  · left
    by_cases hxy : x = y
    · exact hxy
    · exfalso
      rcases Nat.lt_or_ge x y with hl | hl
      · have := Int.le_of_dvd (by omega) ((Int.dvd_neg).2 h1)
        omega
      · have := Int.le_of_dvd (by omega) h1
        omega
  · right
    by_cases h0 : x + y = 0
    · right; omega
    · left
      obtain ⟨c, hc⟩ := h1
      have h2 : (p : Int) ≤ (x : Int) + y := Int.le_of_dvd (by omega) ⟨c, hc⟩
      have h3 : c = 1 := by
        rcases (show c ≤ 0 ∨ c = 1 ∨ 2 ≤ c by omega) with h4 | h4 | h4
        · have : (p : Int) * c ≤ 0 := Int.mul_nonpos_of_nonneg_of_nonpos (by omega) h4
          omega
        · exact h4
        · have : (p : Int) * 2 ≤ p * c := Int.mul_le_mul_of_nonneg_left h4 (by omega)
          omega
      rw [h3] at hc
      omega
theorem PrimeN.root_unique {p x y : Nat} (h : PrimeN p) (hx : x < p) (hy : y < p) (e : x * x % p = y * y % p) (hx0 : 0 < x) (_hy0 : 0 < y) : min x (p - x) = min y (p - y) := by
  rcases h.sq_same hx hy e with h1 | h1 | h1 <;> omega
theorem less_less {p : Nat} (h2 : 2 ≤ p) : (p - 1) * (p - 1) % p = 1 := by
  obtain ⟨k, rfl⟩ : ∃ k, p = k + 2 := ⟨p - 2, by omega⟩
  have : (k + 2 - 1) * (k + 2 - 1) = 1 + (k + 2) * k := by
    rw [show k + 2 - 1 = k + 1 by omega, Nat.add_mul, Nat.mul_add, Nat.add_mul]; omega
  rw [this, Nat.add_mul_mod_self_left, Nat.mod_eq_of_lt (by omega)]
theorem sq_pow {p g k : Nat} : (g * g % p) ^ 2 ^ k % p = g ^ 2 ^ (k + 1) % p := by
  rw [← Nat.pow_mod, ← Nat.pow_two, ← Nat.pow_mul, Nat.pow_succ, Nat.mul_comm 2]
theorem mul_pow_mod {p a b k : Nat} : (a * b % p) ^ k % p = (a ^ k % p) * (b ^ k % p) % p := by
  rw [← Nat.pow_mod, Nat.mul_pow, Nat.mul_mod]
theorem less_of_sq {p s : Nat} (h : PrimeN p) (hs : s < p) (h1 : s * s % p = 1) (hne : s ≠ 1) : s = p - 1 := by
  rcases h.sq_one hs h1 with h2 | h2
  · exact absurd h2 hne
  · exact h2
/-- Tonelli's way, the program's: a root that is wrong by w, an element g of the greatest order. -/
def PT (p a L r w g : Nat) : Prop := 1 ≤ L ∧ r < p ∧ w < p ∧ g < p ∧ r * r % p = a * w % p ∧ w ^ 2 ^ (L - 1) % p = 1 ∧ g ^ 2 ^ (L - 1) % p = p - 1
theorem PT.start {p a z o T : Nat} (h3 : 3 ≤ p) (hT : 1 ≤ T) (ho : p - 1 = o * 2 ^ T) (ho1 : o % 2 = 1) (ha : a ^ ((p - 1) / 2) % p = 1) (hz : z ^ ((p - 1) / 2) % p = p - 1) :
    PT p a T (a ^ (o / 2 + 1) % p) (a ^ o % p) (z ^ o % p) := by
  have e : (p - 1) / 2 = o * 2 ^ (T - 1) := by
    obtain ⟨t, rfl⟩ : ∃ t, T = t + 1 := ⟨T - 1, by omega⟩
    rw [ho, Nat.pow_succ, ← Nat.mul_assoc, Nat.mul_div_cancel _ (by omega), Nat.add_sub_cancel]
  rw [e, Nat.pow_mul] at ha hz
  refine ⟨hT, Nat.mod_lt _ (by omega), Nat.mod_lt _ (by omega), Nat.mod_lt _ (by omega), ?_, by rw [← Nat.pow_mod]; exact ha, by rw [← Nat.pow_mod]; exact hz⟩
  rw [← Nat.mul_mod, ← Nat.pow_add, Nat.mul_mod_mod, Nat.mul_comm a, ← Nat.pow_succ]
  congr 2
  omega
theorem PT.next {p a L r w g l g' : Nat} (h : PrimeN p) (hp : PT p a L r w g) (hw : w ≠ 1) (h1 : w ^ 2 ^ l % p = 1) (hmin : ∀ j, j < l → w ^ 2 ^ j % p ≠ 1) (hl : l ≤ L - 1) (hg : g' = g ^ 2 ^ (L - l - 1) % p) :
    1 ≤ l ∧ l < L ∧ PT p a l (r * g' % p) (w * (g' * g' % p) % p) (g' * g' % p) := by
  obtain ⟨hL, hr, hwp, hgp, e1, e2, e3⟩ := hp
  have h2 := h.1
  have hl1 : 1 ≤ l := by
    rcases Nat.eq_zero_or_pos l with h0 | h0
    · rw [h0, Nat.pow_zero, Nat.pow_one, Nat.mod_eq_of_lt hwp] at h1
      exact absurd h1 hw
    · exact h0
  have hg1 : g' ^ 2 ^ l % p = p - 1 := by
    rw [hg, ← Nat.pow_mod, ← Nat.pow_mul, ← Nat.pow_add, show L - l - 1 + l = L - 1 by omega]
    exact e3
  have hl2 : l - 1 + 1 = l := by omega
  have hg2 : (g' * g' % p) ^ 2 ^ (l - 1) % p = p - 1 := by rw [sq_pow, hl2]; exact hg1
  have hw2 : w ^ 2 ^ (l - 1) % p = p - 1 := by
    refine less_of_sq h (Nat.mod_lt _ (by omega)) ?_ (hmin _ (by omega))
    rw [← Nat.mul_mod, ← Nat.pow_add, ← Nat.mul_two, ← Nat.pow_succ, Nat.succ_eq_add_one, hl2]
    exact h1
  refine ⟨hl1, by omega, hl1, Nat.mod_lt _ (by omega), Nat.mod_lt _ (by omega), Nat.mod_lt _ (by omega), ?_, ?_, hg2⟩
  · rw [← Nat.mul_mod, Nat.mul_mod_mod, ← Nat.mul_assoc a w, Nat.mul_mod_mod (a * w)]
    rw [show r * g' * (r * g') = r * r * (g' * g') by simp only [Nat.mul_assoc, Nat.mul_left_comm]]
    rw [Nat.mul_mod (r * r), e1, ← Nat.mul_mod]
  · rw [mul_pow_mod, hw2, hg2]
    exact less_less h2
theorem PT.done {p a L r g : Nat} (ha : a < p) (h : PT p a L r 1 g) : r * r % p = a := by
  obtain ⟨_, _, _, _, e1, _⟩ := h
  rw [e1, Nat.mul_one, Nat.mod_eq_of_lt ha]
/-- Tonelli and Shanks, the document's. -/
def RT (p a k x t c : Nat) : Prop := x < p ∧ t < p ∧ c < p ∧ x * x % p = a * t % p ∧ t ^ 2 ^ k % p = 1 ∧ c ^ 2 ^ k % p = p - 1
theorem RT.same {p a k x t c : Nat} (h : PrimeN p) (hr : RT p a (k + 1) x t c) (h1 : t ^ 2 ^ k % p = 1) : RT p a k x t (c * c % p) := by
  obtain ⟨hx, ht, hc, e1, e2, e3⟩ := hr
  have h2 := h.1
  exact ⟨hx, ht, Nat.mod_lt _ (by omega), e1, h1, by rw [sq_pow]; exact e3⟩
theorem RT.turn {p a k x t c : Nat} (h : PrimeN p) (hr : RT p a (k + 1) x t c) (h1 : t ^ 2 ^ k % p ≠ 1) : RT p a k (x * c % p) (t * (c * c % p) % p) (c * c % p) := by
  obtain ⟨hx, ht, hc, e1, e2, e3⟩ := hr
  have h2 := h.1
  have hc2 : (c * c % p) ^ 2 ^ k % p = p - 1 := by rw [sq_pow]; exact e3
  have ht2 : t ^ 2 ^ k % p = p - 1 := by
    refine less_of_sq h (Nat.mod_lt _ (by omega)) ?_ h1
    rw [← Nat.mul_mod, ← Nat.pow_add, ← Nat.mul_two, ← Nat.pow_succ]
    exact e2
  refine ⟨Nat.mod_lt _ (by omega), Nat.mod_lt _ (by omega), Nat.mod_lt _ (by omega), ?_, ?_, hc2⟩
  · rw [← Nat.mul_mod, Nat.mul_mod_mod, ← Nat.mul_assoc a t, Nat.mul_mod_mod (a * t)]
    rw [show x * c * (x * c) = x * x * (c * c) by simp only [Nat.mul_assoc, Nat.mul_left_comm]]
    rw [Nat.mul_mod (x * x), e1, ← Nat.mul_mod]
  · rw [mul_pow_mod, ht2, hc2]
    exact less_less h2
theorem RT.done {p a x t c : Nat} (ha : a < p) (h : RT p a 0 x t c) : x * x % p = a := by
  obtain ⟨_, ht, _, e1, e2, _⟩ := h
  rw [Nat.pow_zero, Nat.pow_one, Nat.mod_eq_of_lt ht] at e2
  rw [e1, e2, Nat.mul_one, Nat.mod_eq_of_lt ha]
/-- Twos in a number. -/
theorem twos_of : ∀ (x : Nat), 0 < x → ∃ o t, x = o * 2 ^ t ∧ o % 2 = 1 := by
  intro x
  induction x using Nat.strongRecOn with
  | ind x ih =>
    intro hx
    rcases (show x % 2 = 1 ∨ x % 2 = 0 by omega) with h | h
    · exact ⟨x, 0, by rw [Nat.pow_zero, Nat.mul_one], h⟩
    · obtain ⟨o, t, h1, h2⟩ := ih (x / 2) (by omega) (by omega)
      exact ⟨o, t + 1, by rw [Nat.pow_succ, ← Nat.mul_assoc, ← h1]; omega, h2⟩
theorem odd_and {h h' n : Nat} (hh : h < 2 ^ n) (e : h' = 2 ^ n - (h + 1)) : (2 * h + 1) &&& (2 * h' + 1) = 1 := by
  apply Nat.eq_of_testBit_eq
  intro i
  rw [Nat.testBit_and]
  cases i with
  | zero => simp [Nat.testBit_zero]
  | succ i =>
    rw [Nat.testBit_succ, Nat.testBit_succ, Nat.testBit_succ, show (2 * h + 1) / 2 = h by omega, show (2 * h' + 1) / 2 = h' by omega, e, Nat.testBit_two_pow_sub_succ hh]
    simp
    intro a b
    simp [a]
/-- The lowest one of a number, by the way of the machine. -/
theorem low_one {x o t n : Nat} (hx : x = o * 2 ^ t) (ho : o % 2 = 1) (hl : x < 2 ^ n) : x &&& (2 ^ n - x) = 2 ^ t := by
  have htn : t < n := by
    rcases Nat.lt_or_ge t n with h | h
    · exact h
    · have h1 := Nat.pow_le_pow_right (show 0 < 2 by omega) h
      have h2 : 1 * 2 ^ t ≤ o * 2 ^ t := Nat.mul_le_mul_right _ (by omega)
      omega
  obtain ⟨m, rfl⟩ : ∃ m, n = m + 1 + t := ⟨n - t - 1, by omega⟩
  obtain ⟨h, rfl⟩ : ∃ h, o = 2 * h + 1 := ⟨o / 2, by omega⟩
  have hlt : 2 * h + 1 < 2 ^ (m + 1) := by
    rw [hx, Nat.pow_add] at hl
    exact Nat.lt_of_mul_lt_mul_right hl
  rw [Nat.pow_succ] at hlt
  have e2 : 2 ^ (m + 1 + t) - x = (2 * (2 ^ m - (h + 1)) + 1) * 2 ^ t := by
    rw [hx, Nat.pow_add, ← Nat.sub_mul, Nat.pow_succ]
    congr 1
    omega
  rw [e2, hx]
  have := Nat.shiftLeft_and_distrib (a := 2 * h + 1) (b := 2 * (2 ^ m - (h + 1)) + 1) (i := t)
  rw [odd_and (by omega) rfl] at this
  rw [Nat.shiftLeft_eq, Nat.shiftLeft_eq, Nat.shiftLeft_eq, Nat.one_mul] at this
  exact this.symm
end Go.Proofs.YtehlnkhbfbnadaaDoor
