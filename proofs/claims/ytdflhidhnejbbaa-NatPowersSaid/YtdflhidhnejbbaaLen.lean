/- Contracts: Shr of any number, Len, a short DivMod. -/
import Derived.Test.YtdflhidhnejbbaaShr
namespace Go.Proofs.Ytdflhidhnejbbaa
open Go.RowKit

theorem shr_none (A : Option Addr) (xs : List Int) (c : Nat) (n : Int) (w : World) (_hxl : xs.length ≤ 1099511627776) (h : n < 0 ∨ 100000 < n ∨ (xs.length : Int) ≤ n / 32) :
    Calls Try.prog 26 #[.slice A xs.length c, .int .i64 n] w fun e w' => MadeN 0 w e w' := by
  by_cases h0 : n < 0
  · go_enter Try.func26, Try.ntmps26
    go_wp2
    go_ret
    exact made_nil _ w
  · by_cases h1 : 100000 < n
    · go_enter Try.func26, Try.ntmps26
      go_wp2
      go_ret
      exact made_nil _ w
    · have hl : (xs.length : Int) ≤ n / 32 := by omega
      clear h
      go_enter Try.func26, Try.ntmps26
      go_wp2
      go_ret
      exact made_nil _ w

/-- A shift to the right, of any number of places. -/
def shrN (m : Nat) (n : Int) : Nat := if 0 ≤ n ∧ n ≤ 100000 then m / 2 ^ n.toNat else 0
theorem shr_any (m : Nat) (A : Option Addr) (c : Nat) (n : Int) (w : World) (h : KL .u32 w w.heap.size A (limbs m)) (hxl : (limbs m).length ≤ 1099511627776) :
    Calls Try.prog 26 #[.slice A (limbs m).length c, .int .i64 n] w fun e w' => MadeN (shrN m n) w e w' := by
  by_cases hn : n < 0 ∨ 100000 < n ∨ ((limbs m).length : Int) ≤ n / 32
  · have e : shrN m n = 0 := by
      unfold shrN
      split
      · rename_i h1
        obtain ⟨k, rfl⟩ : ∃ k : Nat, n = k := ⟨n.toNat, by omega⟩
        rw [Int.toNat_natCast]
        apply Nat.div_eq_of_lt
        refine Nat.lt_of_lt_of_le (limbs_lt m) ?_
        rw [show (4294967296 : Nat) = 2 ^ 32 by rfl, ← Nat.pow_mul]
        exact Nat.pow_le_pow_right (by omega) (by omega)
      · rfl
    rw [e]
    exact shr_none A (limbs m) c n w hxl hn
  · obtain ⟨k, rfl⟩ : ∃ k : Nat, n = k := ⟨n.toNat, by omega⟩
    have := shr_lists A (limbs m) c k ((limbs m).length - k / 32) w h (limbs_dig m) hxl (by omega) (by omega) (by omega)
    rw [nv_limbs] at this
    unfold shrN
    rw [if_pos (by omega), Int.toNat_natCast]
    exact this

/-- How many bits. -/
def lenV (xs : List Int) : Nat := if xs.length = 0 then 0 else 32 * (xs.length - 1) + Lib.bitLen (xs.getD (xs.length - 1) 0).toNat
theorem bitLenAux_le : ∀ (f x k : Nat), x < 2 ^ k → Lib.bitLenAux f x ≤ k
  | 0, _, _, _ => Nat.zero_le _
  | f + 1, x, k, h => by
    unfold Lib.bitLenAux
    split
    · omega
    · cases k with
      | zero => rw [Nat.pow_zero] at h; omega
      | succ k =>
        have := bitLenAux_le f (x / 2) k (by rw [Nat.pow_succ] at h; omega)
        omega
theorem bitLenAux_lt : ∀ (f x : Nat), x < 2 ^ f → x < 2 ^ Lib.bitLenAux f x
  | 0, x, h => h
  | f + 1, x, h => by
    unfold Lib.bitLenAux
    split
    · rename_i h0; rw [h0]; decide
    · have := bitLenAux_lt f (x / 2) (by rw [Nat.pow_succ] at h; omega)
      rw [Nat.add_comm, Nat.pow_succ]
      omega
theorem bitLen_32 {n : Nat} (h : n < 4294967296) : Lib.bitLen n ≤ 32 := bitLenAux_le 64 n 32 h
theorem len_any (A : Option Addr) (xs : List Int) (c : Nat) (w : World) (h : KL .u32 w w.heap.size A xs) (hd : D32 xs) (hxl : xs.length ≤ 1099511627776) :
    Calls Try.prog 28 #[.slice A xs.length c] w fun e w' => e = .returned (.int .i64 (lenV xs : Nat)) ∧ w = w' := by
  by_cases h0 : xs.length = 0
  · have e : lenV xs = 0 := by unfold lenV; rw [if_pos h0]
    rw [e]
    have hb1 : ((xs.length : Int) == 0) = true := by rw [beq_iff_eq]; omega
    clear h
    go_enter Try.func28, Try.ntmps28
    go_wp2
    go_ret
    exact ⟨rfl, rfl⟩
  · have hb1 : ((xs.length : Int) == 0) = false := by rw [beq_eq_false_iff_ne]; omega
    obtain ⟨ad, rfl, hab, hcc⟩ := h (by omega)
    have hcell := hcc (xs.length - 1) (by omega)
    have hx1 := word_range hd (k := xs.length - 1) (by omega)
    obtain ⟨L, hL⟩ : ∃ L, xs.length = L + 1 := ⟨xs.length - 1, by omega⟩
    have e : lenV xs = 32 * L + Lib.bitLen (xs.getD L 0).toNat := by unfold lenV; rw [if_neg h0, hL]; rfl
    rw [hL, Nat.add_sub_cancel] at hcell hx1
    rw [hL] at hxl hb1 ⊢
    obtain ⟨x, hx⟩ : ∃ x : Nat, xs.getD L 0 = x := ⟨(xs.getD L 0).toNat, by omega⟩
    rw [hx] at hcell hx1 e
    rw [Int.toNat_natCast] at e
    have HB : Hid (∀ W : World, Calls Try.prog 48 #[.int .u32 (x : Int)] W fun e w' => e = .returned (.int .i64 (Lib.bitLen x : Nat)) ∧ W = w') :=
      Lib.hid fun W => ((Try.bits_Len32 x W (by omega) (by omega)).mono fun _ _ h => ⟨by rw [h.1, Int.toNat_natCast], h.2.symm⟩)
    obtain ⟨b, hb⟩ : ∃ b, Lib.bitLen x = b := ⟨_, rfl⟩
    have hb32 : b ≤ 32 := by rw [← hb]; exact bitLen_32 (by omega)
    rw [hb] at HB e
    have HE := Lib.hid e
    clear e hb hcc h0 hx hL hd
    go_enter Try.func28, Try.ntmps28
    go_wp2_with (go_at_call 48; (with_reducible refine (HB.out _).mono ?_); rintro e w' ⟨rfl, rfl⟩)
    go_ret
    exact ⟨ret_int (by rw [HE.out]; omega), rfl⟩
end Go.Proofs.Ytdflhidhnejbbaa
