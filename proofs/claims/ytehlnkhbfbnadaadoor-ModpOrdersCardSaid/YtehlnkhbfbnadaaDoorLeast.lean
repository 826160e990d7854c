/- Whether a number up to 400 is a prime, and its least powers that are 1, by trial in the kernel. -/
import Derived.Test.YtehlnkhbfbnadaaDoorOrd
import Derived.Test.YtehlnkhbfbnadaaDoorIsG
namespace Go.Proofs.YtehlnkhbfbnadaaDoor
open Go.RowKit
/-- What Is says of small numbers. -/
def isT (q : Nat) : Option Bool :=
  if q < 2 then some false
  else if q ≤ 400 ∧ (stripF 64 2 (q - 1)).1 % 2 = 1 ∧ q - 1 = (stripF 64 2 (q - 1)).1 * 2 ^ (stripF 64 2 (q - 1)).2 then some (isMR q (stripF 64 2 (q - 1)).1 (stripF 64 2 (q - 1)).2)
  else none
theorem isT_known : IsKnown TabG isT := fun q b W hg h => by
  unfold isT at h
  by_cases h2 : q < 2
  · rw [if_pos h2] at h
    obtain rfl := Option.some.inj h
    exact is_low q h2 W
  · rw [if_neg h2] at h
    by_cases h3 : q ≤ 400 ∧ (stripF 64 2 (q - 1)).1 % 2 = 1 ∧ q - 1 = (stripF 64 2 (q - 1)).1 * 2 ^ (stripF 64 2 (q - 1)).2
    · rw [if_pos h3] at h
      obtain rfl := Option.some.inj h
      exact is_gen q _ _ W hg (by omega) h3.2.2 h3.2.1 (by omega)
    · rw [if_neg h3] at h; cases h
def leastF (p a : Nat) : Nat → Nat → Nat → Nat
  | 0, _, _ => 0
  | f + 1, x, i => match Nat.beq (x * a % p) 1 with
    | true => i
    | false => leastF p a f (x * a % p) (i + 1)
def allB : Nat → (Nat → Bool) → Bool
  | 0, _ => true
  | n + 1, g => match g n with
    | true => allB n g
    | false => false
theorem allB_at {g : Nat → Bool} : ∀ {n : Nat}, allB n g = true → ∀ i, i < n → g i = true
  | 0, _, i, hi => absurd hi (by omega)
  | n + 1, h, i, hi => by
    unfold allB at h
    rcases hg : g n with _ | _
    · rw [hg] at h; cases h
    · rw [hg] at h
      rcases Nat.lt_or_ge i n with h1 | h1
      · exact allB_at h i h1
      · obtain rfl : i = n := by omega
        exact hg
def chkP (p : Nat) : Bool :=
  match facTop isT 250 (p - 1) with
  | none => false
  | some r => match goodR r with
    | false => false
    | true => allB (p - 1) fun a => Nat.beq (leastF p (a + 1) 400 1 1) (ordL p (a + 1) r.1 r.2 (p - 1)) && Nat.ble 1 (leastF p (a + 1) 400 1 1)
def smallP : List Nat := [2, 3, 5, 7, 11, 13, 17, 19, 23, 29, 31, 37, 41, 43, 47, 53, 59, 61, 67, 71, 73, 79, 83, 89, 97, 101, 103, 107, 109, 113, 127, 131, 137, 139, 149, 151, 157, 163, 167, 173, 179, 181, 191, 193, 197, 199, 211, 223, 227, 229, 233, 239, 241, 251, 257, 263, 269, 271, 277, 281, 283, 293, 307, 311, 313, 317, 331, 337, 347, 349, 353, 359, 367, 373, 379, 383, 389, 397]
set_option maxRecDepth 100000 in
theorem small_prime : ∀ p, p ≤ 400 → p < 2 ∨ (∃ j, j ≤ 20 ∧ 2 ≤ j ∧ j * j ≤ p ∧ p % j = 0) ∨ p ∈ smallP := by decide +kernel
set_option maxRecDepth 100000 in
theorem chk_0 : ∀ p ∈ ([2, 3, 5, 7, 11, 13, 17, 19, 23, 29, 31, 37, 41, 43, 47, 53, 59, 61, 67, 71, 73, 79, 83, 89, 97, 101, 103, 107, 109, 113, 127, 131, 137, 139, 149, 151, 157, 163, 167, 173, 179, 181, 191] : List Nat), chkP p = true := by decide +kernel
set_option maxRecDepth 100000 in
theorem chk_1 : ∀ p ∈ ([193, 197, 199, 211, 223, 227, 229, 233, 239, 241] : List Nat), chkP p = true := by decide +kernel
set_option maxRecDepth 100000 in
theorem chk_2 : ∀ p ∈ ([251, 257, 263, 269, 271, 277, 281] : List Nat), chkP p = true := by decide +kernel
set_option maxRecDepth 100000 in
theorem chk_3 : ∀ p ∈ ([283, 293, 307, 311, 313] : List Nat), chkP p = true := by decide +kernel
set_option maxRecDepth 100000 in
theorem chk_4 : ∀ p ∈ ([317, 331, 337, 347, 349] : List Nat), chkP p = true := by decide +kernel
set_option maxRecDepth 100000 in
theorem chk_5 : ∀ p ∈ ([353, 359, 367, 373] : List Nat), chkP p = true := by decide +kernel
set_option maxRecDepth 100000 in
theorem chk_6 : ∀ p ∈ ([379, 383, 389, 397] : List Nat), chkP p = true := by decide +kernel
theorem chk_all : ∀ p ∈ smallP, chkP p = true := fun p hp => by
  have h : p ∈ ([2, 3, 5, 7, 11, 13, 17, 19, 23, 29, 31, 37, 41, 43, 47, 53, 59, 61, 67, 71, 73, 79, 83, 89, 97, 101, 103, 107, 109, 113, 127, 131, 137, 139, 149, 151, 157, 163, 167, 173, 179, 181, 191] : List Nat) ++ ([193, 197, 199, 211, 223, 227, 229, 233, 239, 241] : List Nat) ++ ([251, 257, 263, 269, 271, 277, 281] : List Nat) ++ ([283, 293, 307, 311, 313] : List Nat) ++ ([317, 331, 337, 347, 349] : List Nat) ++ ([353, 359, 367, 373] : List Nat) ++ ([379, 383, 389, 397] : List Nat) := hp
  simp only [List.mem_append] at h
  rcases h with (((((h | h) | h) | h) | h) | h) | h
  · exact chk_0 p h
  · exact chk_1 p h
  · exact chk_2 p h
  · exact chk_3 p h
  · exact chk_4 p h
  · exact chk_5 p h
  · exact chk_6 p h
theorem least_known {p a : Nat} (hf : FieldP p) (hp : p ≤ 400) (ha : a < p) (ha0 : 0 < a) : ∃ r, facTop isT 250 (p - 1) = some r ∧ goodR r = true ∧ leastF p a 400 1 1 = ordL p a r.1 r.2 (p - 1) ∧ 1 ≤ leastF p a 400 1 1 := by
  have hm : p ∈ smallP := by
    rcases small_prime p hp with h | ⟨j, _, h1, h2, h3⟩ | h
    · have := hf.1; omega
    · exact absurd h3 (hf.2.2 j h1 h2)
    · exact h
  have h := chk_all p hm
  unfold chkP at h
  rcases hr : facTop isT 250 (p - 1) with _ | r
  · rw [hr] at h; cases h
  · rw [hr] at h
    dsimp only at h
    rcases hg : goodR r with _ | _
    · rw [hg] at h; cases h
    · rw [hg] at h
      dsimp only at h
      have h4 := allB_at h (a - 1) (by omega)
      rw [show a - 1 + 1 = a by omega, Bool.and_eq_true] at h4
      exact ⟨r, rfl, hg, Nat.eq_of_beq_eq_true h4.1, Nat.le_of_ble_eq_true h4.2⟩
end Go.Proofs.YtehlnkhbfbnadaaDoor
