/- Contracts of the reference: Len. -/
import Derived.Test.YtdflhidhnejbbaaRefD
namespace Go.Proofs.Ytdflhidhnejbbaa
open Go.RowKit

theorem bitLenAux_more : ∀ (f x : Nat), x < 2 ^ f → Lib.bitLenAux (f + 1) x = Lib.bitLenAux f x
  | 0, x, h => by
    obtain rfl : x = 0 := by rw [Nat.pow_zero] at h; omega
    rfl
  | f + 1, x, h => by
    have ih := bitLenAux_more f (x / 2) (by rw [Nat.pow_succ] at h; omega)
    unfold Lib.bitLenAux
    rw [ih]
theorem bitLen_half {m : Nat} (h0 : m ≠ 0) (h : m < 4294967296) : Lib.bitLen m = 1 + Lib.bitLen (m / 2) := by
  have e := bitLenAux_more 63 (m / 2) (Nat.lt_of_lt_of_le (by omega : m / 2 < 2 ^ 32) (Nat.pow_le_pow_right (by omega) (by omega)))
  unfold Lib.bitLen
  rw [e]
  conv => lhs; unfold Lib.bitLenAux
  rw [if_neg h0]
theorem bitLen_zero : Lib.bitLen 0 = 0 := by decide

set_option maxHeartbeats 1000000 in
theorem reflen_any (A : Option Addr) (xs : List Int) (c : Nat) (w : World) (h : KL .u32 w w.heap.size A xs) (hd : D32 xs) (hxl : xs.length ≤ 1099511627776) :
    Calls Try.prog 29 #[.slice A xs.length c] w fun e w' => e = .returned (.int .i64 (lenV xs : Nat)) ∧ w = w' := by
  by_cases h0 : xs.length = 0
  · have e : lenV xs = 0 := by unfold lenV; rw [if_pos h0]
    rw [e]
    have hb1 : ((xs.length : Int) == 0) = true := by rw [beq_iff_eq]; omega
    clear h
    go_enter Try.func29, Try.ntmps29
    go_wp2
    go_ret
    exact ⟨rfl, rfl⟩
  · have hb1 : ((xs.length : Int) == 0) = false := by rw [beq_eq_false_iff_ne]; omega
    obtain ⟨ad, rfl, hab, hcc⟩ := h (by omega)
    have hcell := hcc (xs.length - 1) (by omega)
    have hx1 := word_range hd (k := xs.length - 1) (by omega)
    obtain ⟨L, hL⟩ : ∃ L, xs.length = L + 1 := ⟨xs.length - 1, by omega⟩
    have e : lenV xs = 32 * L + Lib.bitLen (xs.getD L 0).toNat := by unfold lenV; rw [if_neg h0, hL]; rfl
    rw [hL, Nat.add_sub_cancel] at hcell hx1
    rw [hL] at hxl hb1 ⊢
    obtain ⟨x, hx⟩ : ∃ x : Nat, xs.getD L 0 = x := ⟨(xs.getD L 0).toNat, by omega⟩
    rw [hx] at hcell hx1 e
    rw [Int.toNat_natCast] at e
    have HE := Lib.hid e
    have HX := Lib.hid hx1
    clear e hcc h0 hx hL hd
    go_enter Try.func29, Try.ntmps29
    go_wp2
    go_loop [3, 4] (fun n i => ∃ m t : Nat, i = .int .u32 m ∧ n = .int .i64 ((32 * L + t : Nat) : Int) ∧ m < 4294967296 ∧ t ≤ 32 ∧ t + Lib.bitLen m = Lib.bitLen x) (fun _ i => (intOf i).toNat)
    case atStart => exact ⟨x, 0, rfl, by congr 1, by have := HX.out; omega, by omega, by omega⟩
    case round =>
      obtain ⟨m, t, rfl, rfl, hm, ht, hb⟩ := hrel
      by_cases hm0 : m = 0
      · subst hm0
        rw [bitLen_zero, Nat.add_zero] at hb
        have HB := Lib.hid hb
        clear hb
        go_wp2
        go_ret
        exact ⟨by rw [HE.out, ← HB.out]; rfl, rfl⟩
      · have hh := bitLen_half hm0 hm
        have hx32 := bitLen_32 (n := x) (by have := HX.out; omega)
        have HB : Hid (t + 1 + Lib.bitLen (m / 2) = Lib.bitLen x) := Lib.hid (by omega)
        have ht32 : t + 1 ≤ 32 := by omega
        have hm2 : 0 < m := by omega
        clear hb hh hx32
        go_wp2
        go_round
        case rel => exact ⟨m / 2, t + 1, by go_num, by first | rfl | (congr 1 <;> omega), by omega, by omega, HB.out⟩
        case measure => simp [intOf] <;> omega
end Go.Proofs.Ytdflhidhnejbbaa
