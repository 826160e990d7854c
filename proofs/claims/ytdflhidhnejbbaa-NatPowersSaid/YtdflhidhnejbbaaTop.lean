/- The digits at the top. -/
import Derived.Test.YtdflhidhnejbbaaDivs
namespace Go.Proofs.Ytdflhidhnejbbaa
open Go.RowKit

theorem top_low {b : Nat} {xs : List Int} {L : Nat} (hl : xs.length = L + 1) {x : Nat} (hx : xs.getD L 0 = x) : val b xs = val b (xs.take L) + b ^ L * x := by
  have h := val_take_succ (b := b) (xs := xs) L (by omega)
  rw [List.take_of_length_le (by omega), hx, Int.toNat_natCast] at h
  exact h
theorem top_above {b : Nat} {xs : List Int} (hd : Dig b xs) {L : Nat} (hl : xs.length = L + 1) {x : Nat} (hx : xs.getD L 0 = x) : val b xs ≤ b ^ L * (x + 1) := by
  have h := top_low (b := b) hl hx
  have h2 := val_lt (hd.take_ L)
  rw [List.length_take, Nat.min_eq_left (by omega)] at h2
  rw [Nat.mul_add, Nat.mul_one]
  omega
theorem top_two {b : Nat} {xs : List Int} {L : Nat} (hl : xs.length = L + 2) {x y : Nat} (hx : xs.getD (L + 1) 0 = x) (hy : xs.getD L 0 = y) : b ^ L * (x * b + y) ≤ val b xs := by
  have h := top_low (b := b) (L := L + 1) hl hx
  have h2 := val_take_succ (b := b) (xs := xs) L (by omega)
  rw [hy, Int.toNat_natCast] at h2
  rw [h, h2, Nat.pow_succ, Nat.mul_add, Nat.mul_assoc, Nat.mul_comm x b]
  omega

end Go.Proofs.Ytdflhidhnejbbaa
