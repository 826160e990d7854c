/- Small lemmas on bits and powers. -/
import Derived.Test.YtehlnkhbfbnadaaDoorKit
import Derived.Test.YtehlnkhbfbnadaaDoorShelf
namespace Go.Proofs.YtehlnkhbfbnadaaDoor
open Go.RowKit
theorem bitLenAux_le : ∀ (f x k : Nat), x < 2 ^ k → Lib.bitLenAux f x ≤ k
  | 0, _, _, _ => Nat.zero_le _
  | f + 1, x, k, h => by
    unfold Lib.bitLenAux
    split
    · omega
    · cases k with
      | zero => rw [Nat.pow_zero] at h; omega
      | succ k =>
        have := bitLenAux_le f (x / 2) k (by rw [Nat.pow_succ] at h; omega)
        omega
theorem bitLenAux_lt : ∀ (f x : Nat), x < 2 ^ f → x < 2 ^ Lib.bitLenAux f x
  | 0, x, h => h
  | f + 1, x, h => by
    unfold Lib.bitLenAux
    split
    · rename_i h0; rw [h0]; decide
    · have := bitLenAux_lt f (x / 2) (by rw [Nat.pow_succ] at h; omega)
      rw [Nat.add_comm, Nat.pow_succ]
      omega
theorem and_one64 (q : Nat) (h : q ≤ 18446744073709551615) : bits .and .u64 (q : Int) 1 = ((q % 2 : Nat) : Int) := by
  show IntKind.u64.wrap ((BitVec.ofInt 64 (q : Int) &&& BitVec.ofInt 64 1).toNat : Int) = _
  have e : (BitVec.ofInt 64 (q : Int) &&& BitVec.ofInt 64 1).toNat = q % 2 := by
    rw [BitVec.toNat_and, BitVec.ofInt_natCast, BitVec.toNat_ofNat, Nat.mod_eq_of_lt (by omega)]
    exact Nat.and_one_is_mod q
  rw [e, IntKind.wrap_u64]
  omega
theorem pow_half {p x b k r : Nat} (h : x * b ^ k % p = r) : (k % 2 = 1 → (x * b % p) * (b * b % p) ^ (k / 2) % p = r) ∧ (k % 2 = 0 → x * (b * b % p) ^ (k / 2) % p = r) := by
  have e : b ^ k = (if k % 2 = 1 then b else 1) * (b * b) ^ (k / 2) := by
    rw [← Nat.pow_two, ← Nat.pow_mul]
    split
    · rename_i h1
      rw [Nat.mul_comm b, ← Nat.pow_succ]; congr 1; omega
    · rw [Nat.one_mul]; congr 1; omega
  constructor
  · intro h1
    rw [if_pos h1] at e
    rw [← h, e, ← Nat.mul_assoc, Nat.mul_mod, Nat.mod_mod, ← Nat.pow_mod, ← Nat.mul_mod]
  · intro h0
    rw [if_neg (by omega), Nat.one_mul] at e
    rw [← h, e, Nat.mul_mod x, ← Nat.pow_mod, ← Nat.mul_mod]
end Go.Proofs.YtehlnkhbfbnadaaDoor
