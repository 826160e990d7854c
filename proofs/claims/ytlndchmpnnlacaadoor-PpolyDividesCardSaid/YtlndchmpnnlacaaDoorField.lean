/- Contracts: sums and products of a field's elements, the program's and the document's. Contracts: the document's Field; which elements may be. Inverses modulo p, the program's by Euclid: no condition but a prime's. -/
import Derived.Test.YtlndchmpnnlacaaDoorKit
import Derived.Test.YtlndchmpnnlacaaDoorRkS
import Derived.Test.YtlndchmpnnlacaaDoorFermat
namespace Go.Proofs.YtlndchmpnnlacaaDoor
open Go.RowKit

theorem mod_parts {m p t : Nat} (h : m % p = t) : (m : Int) % (p : Int) = (t : Int) ∧ (m : Int).tmod (p : Int) = (t : Int) := by
  have h1 : (m : Int) % (p : Int) = (t : Int) := by rw [← h, Int.natCast_emod]
  exact ⟨h1, by rw [Int.tmod_eq_emod_of_nonneg (by omega)]; exact h1⟩
theorem mul_room {a b : Nat} (ha : a ≤ 4294967295) (hb : b ≤ 4294967295) : a * b ≤ 18446744065119617025 := Nat.mul_le_mul ha hb

set_option maxHeartbeats 400000 in
theorem madd_any (p a b : Nat) (w : World) (hp : p ≤ 2147483647) (ha : a < p) (hb : b < p) :
    Calls Tryd.prog 60 #[.int .u32 (p : Int), .int .u32 (a : Int), .int .u32 (b : Int)] w fun e w' => e = .returned (.int .u32 (((a + b) % p : Nat) : Int)) ∧ w = w' := by
  by_cases h : p ≤ a + b
  · rw [Nat.mod_eq_sub_mod h, Nat.mod_eq_of_lt (by omega)]
    have h1 : (p : Int) ≤ (a : Int) + (b : Int) := by omega
    go_enter Tryd.func60, Tryd.ntmps60
    go_wp2
    go_ret
    exact ⟨ret_int (by omega), rfl⟩
  · rw [Nat.mod_eq_of_lt (by omega)]
    have h1 : ¬ (p : Int) ≤ (a : Int) + (b : Int) := by omega
    go_enter Tryd.func60, Tryd.ntmps60
    go_wp2
    go_ret
    exact ⟨ret_int (by omega), rfl⟩
set_option maxHeartbeats 400000 in
theorem msub_any (p a b : Nat) (w : World) (hp : p ≤ 2147483647) (ha : a < p) (hb : b < p) :
    Calls Tryd.prog 68 #[.int .u32 (p : Int), .int .u32 (a : Int), .int .u32 (b : Int)] w fun e w' => e = .returned (.int .u32 (((a + p - b) % p : Nat) : Int)) ∧ w = w' := by
  by_cases h : a < b
  · rw [Nat.mod_eq_of_lt (by omega)]
    go_enter Tryd.func68, Tryd.ntmps68
    go_wp2
    go_ret
    exact ⟨ret_int (by omega), rfl⟩
  · rw [Nat.mod_eq_sub_mod (by omega), Nat.mod_eq_of_lt (by omega)]
    go_enter Tryd.func68, Tryd.ntmps68
    go_wp2
    go_ret
    exact ⟨ret_int (by omega), rfl⟩
set_option maxHeartbeats 400000 in
theorem mneg_any (p a : Nat) (w : World) (hp : p ≤ 2147483647) (ha : a < p) :
    Calls Tryd.prog 88 #[.int .u32 (p : Int), .int .u32 (a : Int)] w fun e w' => e = .returned (.int .u32 (((p - a) % p : Nat) : Int)) ∧ w = w' := by
  by_cases h : a = 0
  · subst h
    rw [Nat.sub_zero, Nat.mod_self]
    go_enter Tryd.func88, Tryd.ntmps88
    go_wp2
    go_ret
    exact ⟨rfl, rfl⟩
  · rw [Nat.mod_eq_of_lt (by omega)]
    have hb : ((a : Int) == 0) = false := by rw [beq_eq_false_iff_ne]; omega
    go_enter Tryd.func88, Tryd.ntmps88
    go_wp2
    go_ret
    exact ⟨ret_int (by omega), rfl⟩
set_option maxHeartbeats 400000 in
theorem mmul_any (p a b : Nat) (w : World) (hp : p ≤ 2147483647) (hp0 : 0 < p) (ha : a < p) (hb : b < p) :
    Calls Tryd.prog 61 #[.int .u32 (p : Int), .int .u32 (a : Int), .int .u32 (b : Int)] w fun e w' => e = .returned (.int .u32 (((a * b) % p : Nat) : Int)) ∧ w = w' := by
  have hr := mul_room (a := a) (b := b) (by omega) (by omega)
  obtain ⟨m, hm⟩ : ∃ m, a * b = m := ⟨_, rfl⟩
  obtain ⟨t, ht⟩ : ∃ t, m % p = t := ⟨_, rfl⟩
  have htl : t < p := by rw [← ht]; exact Nat.mod_lt _ hp0
  have hm' : (a : Int) * (b : Int) = (m : Int) := by rw [← hm, Int.natCast_mul]
  obtain ⟨ht1, ht2⟩ := mod_parts ht
  rw [hm] at hr ⊢
  rw [ht]
  have hm64 : (m : Int) ≤ 18446744073709551615 := by omega
  have hp1 : ((p : Int) == 0) = false := by rw [beq_eq_false_iff_ne]; omega
  have hp2 : p ≠ 0 := by omega
  clear hm hr ht
  go_enter Tryd.func61, Tryd.ntmps61
  go_wp2
  go_ret
  exact ⟨ret_int (by omega), rfl⟩
end Go.Proofs.YtlndchmpnnlacaaDoor

namespace Go.Proofs.YtlndchmpnnlacaaDoor
open Go.RowKit

/-- A prime of a field, by trial. -/
def FieldP (p : Nat) : Prop := 2 ≤ p ∧ p ≤ 2147483647 ∧ ∀ j, 2 ≤ j → j * j ≤ p → p % j ≠ 0

set_option maxHeartbeats 1000000 in
theorem rfield_any (p : Nat) (w : World) (hp : p ≤ 4294967295) :
    Calls Tryd.prog 36 #[.int .u32 (p : Int)] w fun e w' => (∃ k : Int, e = .returned (.int .i64 k) ∧ ((k = 0 ∧ FieldP p) ∨ (k = 6 ∧ ¬ FieldP p))) ∧ w = w' := by
  by_cases h2 : p < 2
  · go_enter Tryd.func36, Tryd.ntmps36
    go_wp2
    go_ret
    exact ⟨⟨6, rfl, .inr ⟨rfl, fun h => by have := h.1; omega⟩⟩, rfl⟩
  · by_cases hm : 2147483647 < p
    · go_enter Tryd.func36, Tryd.ntmps36
      go_wp2
      go_ret
      exact ⟨⟨6, rfl, .inr ⟨rfl, fun h => by have := h.2.1; omega⟩⟩, rfl⟩
    · go_enter Tryd.func36, Tryd.ntmps36
      go_wp2
      go_loop [3] (fun i => ∃ d : Nat, 2 ≤ d ∧ d ≤ 46342 ∧ i = .int .u32 d ∧ Hid (∀ j, 2 ≤ j → j < d → p % j ≠ 0)) (fun i => 46342 - (intOf i).toNat)
      case atStart => exact ⟨2, by omega, by omega, rfl, Lib.hid fun j h1 h2 => by omega⟩
      case round =>
        obtain ⟨d, hd2, hdl, rfl, HJ⟩ := hrel
        by_cases hd : d ≤ 46341
        · obtain ⟨m, hmm⟩ : ∃ m, d * d = m := ⟨_, rfl⟩
          have hml : m ≤ 2147488281 := by rw [← hmm]; exact Nat.mul_le_mul hd hd
          have hm' : (d : Int) * (d : Int) = (m : Int) := by rw [← hmm, Int.natCast_mul]
          by_cases hle : m ≤ p
          · obtain ⟨t, ht⟩ : ∃ t, p % d = t := ⟨_, rfl⟩
            obtain ⟨ht1, ht2⟩ := mod_parts ht
            have htl : t < d := by rw [← ht]; exact Nat.mod_lt _ (by omega)
            have hd1 : ((d : Int) == 0) = false := by rw [beq_eq_false_iff_ne]; omega
            have hd3 : d ≠ 0 := by omega
            by_cases ht0 : t = 0
            · have hb : ((t : Int) == 0) = true := by simp [ht0]
              have HNF : Hid (¬ FieldP p) := Lib.hid fun h => h.2.2 d hd2 (by rw [hmm]; exact hle) (by rw [ht, ht0])
              clear hmm ht ht0
              go_wp2
              go_ret
              exact ⟨⟨6, rfl, .inr ⟨rfl, HNF.out⟩⟩, rfl⟩
            · have hb : ((t : Int) == 0) = false := by rw [beq_eq_false_iff_ne]; omega
              have HT : Hid (p % d ≠ 0) := Lib.hid (by rw [ht]; exact ht0)
              clear hmm ht ht0
              go_wp2
              go_round
              case rel => exact ⟨d + 1, by omega, by omega, by go_num, Lib.hid fun j h1 h2 => by
                rcases Nat.lt_or_ge j d with h3 | h3
                · exact HJ.out j h1 h3
                · obtain rfl : j = d := by omega
                  exact HT.out⟩
              case measure => simp [intOf] <;> omega
          · have HF : Hid (FieldP p) := Lib.hid ⟨by omega, by omega, fun j h1 h2 => HJ.out j h1 (by
              rcases Nat.lt_or_ge j d with h3 | h3
              · exact h3
              · have := Nat.mul_le_mul h3 h3; omega)⟩
            clear hmm
            go_wp2
            go_ret
            exact ⟨⟨0, rfl, .inl ⟨rfl, HF.out⟩⟩, rfl⟩
        · have HF : Hid (FieldP p) := Lib.hid ⟨by omega, by omega, fun j h1 h2 => HJ.out j h1 (by
            rcases Nat.lt_or_ge j d with h3 | h3
            · exact h3
            · have := Nat.mul_le_mul h3 h3
              have h5 : 46342 * 46342 ≤ d * d := Nat.mul_le_mul (by omega) (by omega)
              omega)⟩
          go_wp2
          go_ret
          exact ⟨⟨0, rfl, .inl ⟨rfl, HF.out⟩⟩, rfl⟩

theorem FieldP.prime {p : Nat} (h : FieldP p) : PrimeN p := primeN_of_trial h.1 h.2.2
theorem fieldP_of {p : Nat} (h : PrimeN p) (hp : p ≤ 2147483647) : FieldP p := ⟨h.1, hp, fun j h1 h2 h3 => by
  rcases h.2 j (Nat.dvd_of_mod_eq_zero h3) with h4 | h4
  · omega
  · subst h4
    have := Nat.mul_le_mul_right j h1
    omega⟩
theorem odd_part : ∀ (k n : Nat), 0 < n → n ≤ k → ∃ o t, n = o * 2 ^ t ∧ o % 2 = 1
  | 0, n, h, hk => by omega
  | k + 1, n, h, hk => by
    by_cases h2 : n % 2 = 1
    · exact ⟨n, 0, by rw [Nat.pow_zero, Nat.mul_one], h2⟩
    · obtain ⟨o, t, h3, h4⟩ := odd_part k (n / 2) (by omega) (by omega)
      exact ⟨o, t + 1, by rw [Nat.pow_succ, ← Nat.mul_assoc, ← h3]; omega, h4⟩
theorem mfield_any (p : Nat) (w : World) (hg : TabG w) (hp : p ≤ 4294967295) :
    Calls Tryd.prog 55 #[.int .u32 (p : Int)] w fun e w' => (∃ k : Int, e = .returned (.int .i64 k) ∧ ((k = 0 ∧ FieldP p) ∨ (k = 6 ∧ ¬ FieldP p))) ∧ Below w.heap.size w w' := by
  by_cases hm : 2147483647 < p
  · have hm' : 2147483647 < (p : Int) := by omega
    have hd : decide (2147483647 < (p : Int)) = true := by simpa using hm'
    clear hg
    go_enter Tryd.func55, Tryd.ntmps55
    go_wp2
    go_ret
    exact ⟨⟨6, rfl, .inr ⟨rfl, fun h => by have := h.2.1; omega⟩⟩, Below.refl _ _⟩
  · have hm' : ¬ 2147483647 < (p : Int) := by omega
    have hd : decide (2147483647 < (p : Int)) = false := by simpa using hm'
    obtain ⟨b, hb, hbp⟩ : ∃ b : Bool, (∀ W : World, TabG W → Calls Tryd.prog 86 #[.int .u64 (p : Int)] W fun e w' => e = .returned (.bool b) ∧ Below W.heap.size W w') ∧ (b = true ↔ FieldP p) := by
      by_cases h2 : p < 2
      · exact ⟨false, fun W _ => is_low p h2 W, by constructor; intro h; cases h; intro h; have := h.1; omega⟩
      · obtain ⟨o, t, h3, h4⟩ := odd_part (p - 1) (p - 1) (by omega) (Nat.le_refl _)
        refine ⟨isMR p o t, fun W hW => is_gen p o t W hW (by omega) h3 h4 (by omega), fun h => fieldP_of (sound32 (by omega) h3 h4 h) (by omega), fun h => isMR_prime h.prime h3⟩
    have HIS := Lib.hid (hb w hg)
    have HBP := Lib.hid hbp
    clear hg hb hbp
    cases b with
    | true =>
      have HP : Hid (FieldP p) := Lib.hid (HBP.out.1 rfl)
      clear HBP
      go_enter Tryd.func55, Tryd.ntmps55
      go_wp2_with (go_at_call 86; (with_reducible refine HIS.out.mono ?_); rintro e w1 ⟨rfl, hb⟩; have HB := Lib.hid hb; clear hb)
      go_ret
      exact ⟨⟨0, rfl, .inl ⟨rfl, HP.out⟩⟩, HB.out⟩
    | false =>
      have HP : Hid (¬ FieldP p) := Lib.hid (fun h => by have := HBP.out.2 h; cases this)
      clear HBP
      go_enter Tryd.func55, Tryd.ntmps55
      go_wp2_with (go_at_call 86; (with_reducible refine HIS.out.mono ?_); rintro e w1 ⟨rfl, hb⟩; have HB := Lib.hid hb; clear hb)
      go_ret
      exact ⟨⟨6, rfl, .inr ⟨rfl, HP.out⟩⟩, HB.out⟩
end Go.Proofs.YtlndchmpnnlacaaDoor

namespace Go.Proofs.YtlndchmpnnlacaaDoor
open Go.RowKit
/-- Euclid's rounds: the two rests X and Y, the two factors' sizes U and V, and which of them is below nought. -/
def EucI (p a : Nat) (s : Bool) (X Y U V : Nat) : Prop :=
  X * V + Y * U = p ∧ Y < X ∧ U ≤ p ∧ V ≤ p ∧ Nat.gcd X Y = 1 ∧
    (if s then (∃ k : Int, (a : Int) * (U : Int) = (X : Int) + p * k) ∧ ∃ k : Int, (a : Int) * (-(V : Int)) = (Y : Int) + p * k
     else (∃ k : Int, (a : Int) * (-(U : Int)) = (X : Int) + p * k) ∧ ∃ k : Int, (a : Int) * (V : Int) = (Y : Int) + p * k)
theorem eucI_start {p a : Nat} (h : PrimeN p) (ha : a < p) (ha0 : 0 < a) : EucI p a false p a 0 1 := by
  refine ⟨by omega, ha, Nat.zero_le _, by omega, h.coprime (by rw [Nat.mod_eq_of_lt ha]; omega), ?_⟩
  rw [if_neg (by decide)]
  exact ⟨⟨-1, by simp; omega⟩, ⟨0, by simp⟩⟩
theorem eucI_next {p a X Y U V : Nat} {s : Bool} (h : EucI p a s X Y U V) (hY : 0 < Y) : EucI p a (!s) Y (X % Y) V (U + X / Y * V) ∧ U + X / Y * V ≤ p := by
  obtain ⟨h1, h2, h3, h4, h5, h6⟩ := h
  have hd := Nat.div_add_mod X Y
  have e1 : Y * (U + X / Y * V) + X % Y * V = p := by
    have : X * V = Y * (X / Y) * V + X % Y * V := by rw [← Nat.add_mul, hd]
    rw [Nat.mul_add, ← Nat.mul_assoc]
    omega
  have hb : U + X / Y * V ≤ p := by
    have := Nat.le_mul_of_pos_left (U + X / Y * V) hY
    omega
  refine ⟨⟨e1, Nat.mod_lt _ hY, h4, hb, by rw [Nat.gcd_comm, ← Nat.gcd_rec, Nat.gcd_comm]; exact h5, ?_⟩, hb⟩
  have hdi : (X : Int) = (Y : Int) * ((X / Y : Nat) : Int) + ((X % Y : Nat) : Int) := by rw [← Int.natCast_mul, ← Int.natCast_add, hd]
  obtain ⟨q, hq⟩ : ∃ q, X / Y = q := ⟨_, rfl⟩
  obtain ⟨m, hm⟩ : ∃ m, X % Y = m := ⟨_, rfl⟩
  rw [hq, hm] at hdi
  rw [hq, hm]
  cases s with
  | true =>
    rw [if_pos rfl] at h6
    obtain ⟨⟨k, hk⟩, j, hj⟩ := h6
    rw [if_neg (by decide)]
    refine ⟨⟨j, hj⟩, k - q * j, ?_⟩
    have : (a : Int) * ((U + q * V : Nat) : Int) = a * U - q * (a * (-(V : Int))) := by
      rw [Int.natCast_add, Int.natCast_mul, Int.mul_add, Int.mul_neg, Int.mul_neg, Int.sub_neg, Int.mul_left_comm]
    rw [this, hk, hj, hdi, Int.mul_sub, Int.mul_add, Int.mul_left_comm (q : Int) (p : Int) j, Int.mul_comm (Y : Int)]
    omega
  | false =>
    rw [if_neg (by decide)] at h6
    obtain ⟨⟨k, hk⟩, j, hj⟩ := h6
    rw [if_pos (by decide)]
    refine ⟨⟨j, hj⟩, k - q * j, ?_⟩
    have : (a : Int) * (-((U + q * V : Nat) : Int)) = a * (-(U : Int)) - q * (a * (V : Int)) := by
      rw [Int.natCast_add, Int.natCast_mul, Int.mul_neg, Int.mul_add, Int.mul_neg, Int.mul_left_comm]; omega
    rw [this, hk, hj, hdi, Int.mul_sub, Int.mul_add, Int.mul_left_comm (q : Int) (p : Int) j, Int.mul_comm (Y : Int)]
    omega
theorem inv_of_int {p a : Nat} {u k : Int} (hp : PrimeN p) (h : (a : Int) * u = 1 + p * k) (h1 : -(p : Int) ≤ u) (h2 : u ≤ p) :
    (if u < 0 then u + p else u) = ((a ^ (p - 2) % p : Nat) : Int) := by
  have hp2 := hp.1
  have hne : ∀ t : Int, (p : Int) * t ≠ 1 := fun t ht => by
    have : (p : Int) ∣ 1 := ⟨t, ht.symm⟩
    have := Int.le_of_dvd (by omega) this
    omega
  have g1 : u ≠ p := fun e => by
    subst e
    exact hne (a - k) (by rw [Int.mul_sub, Int.mul_comm (p : Int) a]; omega)
  have g2 : u ≠ -p := fun e => by
    subst e
    exact hne (-a - k) (by rw [Int.mul_sub, Int.mul_neg, Int.mul_comm (p : Int) a, ← Int.mul_neg]; omega)
  have g0 : u ≠ 0 := fun e => by
    subst e
    exact hne (-k) (by rw [Int.mul_neg]; omega)
  have key : ∀ r : Nat, r < p → (∃ j : Int, (a : Int) * (r : Int) = 1 + p * j) → r = a ^ (p - 2) % p := by
    intro r hr ⟨j, hj⟩
    have e1 : a * r % p = 1 := by
      have : ((a * r % p : Nat) : Int) = 1 := by
        rw [Int.natCast_emod, Int.natCast_mul, hj, Int.add_mul_emod_self_left]
        exact Int.emod_eq_of_lt (by omega) (by omega)
      omega
    have ha : a % p ≠ 0 := fun e => by rw [Nat.mul_mod, e, Nat.zero_mul, Nat.zero_mod] at e1; omega
    exact hp.inv_unique hr (Nat.mod_lt _ (by omega)) e1 (hp.inv ha)
  by_cases hu : u < 0
  · rw [if_pos hu]
    obtain ⟨r, hr⟩ : ∃ r : Nat, (r : Int) = u + p := ⟨(u + p).toNat, by omega⟩
    rw [← hr, key r (by omega) ⟨k + a, by rw [hr, Int.mul_add, h, Int.mul_add, Int.mul_comm (a : Int) p]; omega⟩]
  · rw [if_neg hu]
    obtain ⟨r, hr⟩ : ∃ r : Nat, (r : Int) = u := ⟨u.toNat, by omega⟩
    rw [← hr, key r (by omega) ⟨k, by rw [hr]; exact h⟩]
theorem eucI_end {p a X U V : Nat} {s : Bool} (hp : PrimeN p) (h : EucI p a s X 0 U V) (u : Int) (hu : u = if s then (U : Int) else -(U : Int)) : (if u < 0 then u + p else u) = ((a ^ (p - 2) % p : Nat) : Int) := by
  obtain ⟨h1, h2, h3, h4, h5, h6⟩ := h
  rw [Nat.gcd_zero_right] at h5
  subst h5
  cases s with
  | true =>
    rw [if_pos rfl] at h6 hu
    obtain ⟨⟨k, hk⟩, _⟩ := h6
    subst hu
    exact inv_of_int hp hk (by omega) (by omega)
  | false =>
    rw [if_neg (by decide)] at h6 hu
    obtain ⟨⟨k, hk⟩, _⟩ := h6
    subst hu
    exact inv_of_int hp hk (by omega) (by omega)
theorem eucI_endT {p a X U V : Nat} (hp : PrimeN p) (h : EucI p a true X 0 U V) : (U : Int) = ((a ^ (p - 2) % p : Nat) : Int) := by
  have := eucI_end hp h (U : Int) (by rw [if_pos rfl])
  rwa [if_neg (by omega)] at this
theorem eucI_endF {p a X U V : Nat} (hp : PrimeN p) (h : EucI p a false X 0 U V) : 0 < U ∧ -(U : Int) + (p : Int) = ((a ^ (p - 2) % p : Nat) : Int) := by
  have := eucI_end hp h (-(U : Int)) (by rw [if_neg (by decide)])
  by_cases hu : U = 0
  · subst hu
    exfalso
    obtain ⟨h1, h2, h3, h4, h5, h6⟩ := h
    rw [if_neg (by decide)] at h6
    obtain ⟨⟨k, hk⟩, _⟩ := h6
    rw [Nat.gcd_zero_right] at h5
    subst h5
    have hd : (p : Int) ∣ 1 := ⟨-k, by rw [Int.mul_neg]; simp at hk; omega⟩
    have := Int.le_of_dvd (by omega) hd
    have := hp.1
    omega
  · rw [if_pos (by omega)] at this
    exact ⟨by omega, this⟩
theorem minv_nought (p : Nat) (w : World) (_hpl : p ≤ 2147483647) :
    Calls Tryd.prog 57 #[.int .u32 (p : Int), .int .u32 0] w fun e w' => e = .returned (.tuple #[.int .u32 0, .int .i64 3]) ∧ w = w' := by
  go_enter Tryd.func57, Tryd.ntmps57
  go_wp2
  go_ret2
  exact ⟨rfl, rfl⟩
def InvL (p a : Nat) (x y u v : Value) : Prop :=
  ∃ (s : Bool) (X Y U V : Nat), x = .int .i64 X ∧ y = .int .i64 Y ∧ u = .int .i64 (if s then (U : Int) else -(U : Int)) ∧ v = .int .i64 (if s then -(V : Int) else (V : Int)) ∧ Hid (EucI p a s X Y U V) ∧ X ≤ p ∧ Y ≤ p ∧ U ≤ p ∧ V ≤ p
set_option maxHeartbeats 4000000 in
theorem minv_any (p a : Nat) (w : World) (hp : PrimeN p) (hpl : p ≤ 2147483647) (ha : a < p) (ha0 : 0 < a) :
    Calls Tryd.prog 57 #[.int .u32 (p : Int), .int .u32 (a : Int)] w fun e w' => e = .returned (.tuple #[.int .u32 ((a ^ (p - 2) % p : Nat) : Int), .int .i64 0]) ∧ w = w' := by
  obtain ⟨z, hz⟩ : ∃ z, a ^ (p - 2) % p = z := ⟨_, rfl⟩
  have hzl : z < p := by rw [← hz]; exact Nat.mod_lt _ (by omega)
  have hS : InvL p a (.int .i64 p) (.int .i64 a) (.int .i64 0) (.int .i64 1) := ⟨false, p, a, 0, 1, rfl, rfl, rfl, rfl, Lib.hid (eucI_start hp ha ha0), Nat.le_refl _, by omega, by omega, by omega⟩
  have HS := Lib.hid hS
  have HP := Lib.hid hp
  rw [hz]
  have HZ := Lib.hid hz
  have ha1 : ((a : Int) == 0) = false := by rw [beq_eq_false_iff_ne]; omega
  clear hS hp hz
  go_enter Tryd.func57, Tryd.ntmps57
  go_wp2
  go_loop [6, 7, 8, 9] (fun x y u v => InvL p a x y u v) (fun _ y _ _ => (intOf y).toNat)
  case atStart => exact HS.out
  case round =>
    clear HS
    obtain ⟨s, X, Y, U, V, rfl, rfl, rfl, rfl, HE, hX, hY, hU, hV⟩ := hrel
    by_cases h0 : Y = 0
    · subst h0
      have h00 : ((0 : Int) == 0) = true := rfl
      cases s with
      | true =>
        have hE := eucI_endT HP.out HE.out
        rw [HZ.out] at hE
        have hlt : ¬ (U : Int) < 0 := by omega
        have HQ := Lib.hid hE
        clear hE HE h00
        go_wp2
        go_ret2
        exact ⟨ret_pair (by rw [← HQ.out]) rfl, rfl⟩
      | false =>
        obtain ⟨hU0, hE⟩ := eucI_endF HP.out HE.out
        rw [HZ.out] at hE
        have hlt : -(U : Int) < 0 := by omega
        clear HE h00
        go_wp2
        go_ret2
        exact ⟨ret_pair (by first | rfl | (simp; done)) rfl, rfl⟩
    · obtain ⟨hN, hbd⟩ := eucI_next HE.out (by omega)
      obtain ⟨q, hq⟩ : ∃ q, X / Y = q := ⟨_, rfl⟩
      obtain ⟨r, hr⟩ : ∃ r, X % Y = r := ⟨_, rfl⟩
      have hdm := Nat.div_add_mod X Y
      rw [hq, hr] at hdm
      rw [hq] at hbd
      rw [hq, hr] at hN
      obtain ⟨m1, hm1⟩ : ∃ m, Y * q = m := ⟨_, rfl⟩
      obtain ⟨m2, hm2⟩ : ∃ m, q * V = m := ⟨_, rfl⟩
      rw [hm1] at hdm
      rw [hm2] at hbd hN
      have hqX : q ≤ X := by rw [← hq]; exact Nat.div_le_self _ _
      have hrY : r < Y := by rw [← hr]; exact Nat.mod_lt _ (by omega)
      have HN := Lib.hid hN
      have hY0 : ((Y : Int) == 0) = false := by rw [beq_eq_false_iff_ne]; omega
      have hY1 : ((Y : Int) != 0) = true := by rw [bne_iff_ne]; omega
      have hdv : (X : Int) / (Y : Int) = (q : Int) := by rw [← hq, Int.natCast_ediv]
      have hp1 : (q : Int) * (Y : Int) = (m1 : Int) := by rw [← hm1, Int.natCast_mul, Int.mul_comm]
      have hsub : (X : Int) - (m1 : Int) = (r : Int) := by omega
      have hX0 : (0 : Int) ≤ (X : Int) := by omega
      have hYp : (0 : Int) < (Y : Int) := by omega
      cases s with
      | true =>
        have hp2 : (q : Int) * (-(V : Int)) = -(m2 : Int) := by rw [← hm2, Int.natCast_mul, Int.mul_neg]
        have hs2 : (U : Int) - (-(m2 : Int)) = ((U + m2 : Nat) : Int) := by omega
        obtain ⟨n2, hn2⟩ : ∃ n, U + m2 = n := ⟨_, rfl⟩
        rw [hn2] at hs2 hbd HN
        clear HE hN hq hr hdm hm1 hm2 hn2
        go_wp2
        go_round
        case rel => exact ⟨false, Y, r, V, n2, rfl, rfl, rfl, rfl, HN, hY, by omega, hV, hbd⟩
        case measure => simp [intOf]; omega
      | false =>
        have hp2 : (q : Int) * (V : Int) = (m2 : Int) := by rw [← hm2, Int.natCast_mul]
        have hs2 : -(U : Int) - (m2 : Int) = -((U + m2 : Nat) : Int) := by omega
        obtain ⟨n2, hn2⟩ : ∃ n, U + m2 = n := ⟨_, rfl⟩
        rw [hn2] at hs2 hbd HN
        clear HE hN hq hr hdm hm1 hm2 hn2
        go_wp2
        go_round
        case rel => exact ⟨true, Y, r, V, n2, rfl, rfl, rfl, rfl, HN, hY, by omega, hV, hbd⟩
        case measure => simp [intOf]; omega
end Go.Proofs.YtlndchmpnnlacaaDoor
