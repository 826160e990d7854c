/- Contracts: Pow, with its nothings; the reference's Pow. -/
import Derived.Test.YtdflhidhnejbbaaKarE
import Derived.Test.YtdflhidhnejbbaaRefM
import Derived.Test.YtdflhidhnejbbaaRefB
namespace Go.Proofs.Ytdflhidhnejbbaa
open Go.RowKit

/-- The power that the document names; nothing where there is none. -/
def powN (m : Nat) (n : Int) : Nat := if 0 ≤ n ∧ n ≤ 1000 then m ^ n.toNat else 0

theorem pow_none (m : Nat) (n : Int) (A : Option Addr) (c : Nat) (w : World) (h : n < 0 ∨ 1000 < n) :
    Calls Try.prog 31 #[.slice A (limbs m).length c, .int .i64 n] w fun e w' => MadeN 0 w e w' := by
  by_cases h0 : n < 0
  · go_enter Try.func31, Try.ntmps31
    go_wp2
    go_ret
    exact made_nil _ w
  · have h1 : 1000 < n := by omega
    go_enter Try.func31, Try.ntmps31
    go_wp2
    go_ret
    exact made_nil _ w
theorem pow_any (m : Nat) (n : Int) (A : Option Addr) (c : Nat) (w : World) (h : KL .u32 w w.heap.size A (limbs m)) (hm : (limbs m).length ≤ 2) :
    Calls Try.prog 31 #[.slice A (limbs m).length c, .int .i64 n] w fun e w' => MadeN (powN m n) w e w' := by
  unfold powN
  by_cases hn : 0 ≤ n ∧ n ≤ 1000
  · rw [if_pos hn]
    obtain ⟨k, rfl⟩ : ∃ k : Nat, n = k := ⟨n.toNat, by omega⟩
    rw [Int.toNat_natCast]
    exact pow_full m k A c w h (by omega) hm
  · rw [if_neg hn]
    exact pow_none m n A c w (by omega)

theorem refpow_none (m : Nat) (n : Int) (A : Option Addr) (c : Nat) (w : World) (h : n < 0 ∨ 1000 < n) :
    Calls Try.prog 32 #[.slice A (limbs m).length c, .int .i64 n] w fun e w' => MadeN 0 w e w' := by
  by_cases h0 : n < 0
  · go_enter Try.func32, Try.ntmps32
    go_wp2
    go_ret
    exact made_nil _ w
  · have h1 : 1000 < n := by omega
    go_enter Try.func32, Try.ntmps32
    go_wp2
    go_ret
    exact made_nil _ w
set_option maxHeartbeats 1000000 in
theorem refpow_lists (m n : Nat) (A : Option Addr) (c : Nat) (w : World) (h : KL .u32 w w.heap.size A (limbs m)) (hm : (limbs m).length ≤ 2) (hn : n ≤ 60) :
    Calls Try.prog 32 #[.slice A (limbs m).length c, .int .i64 (n : Int)] w fun e w' => MadeN (m ^ n) w e w' := by
  have HOF : Hid (∀ W : World, Calls Try.prog 35 #[.int .u64 1] W fun e w' => MadeN 1 W e w') := Lib.hid fun W => refof_any 1 (by omega) W
  have HM : Hid (∀ (j : Nat) (W : World) (A' : Option Addr) (c' : Nat), j ≤ 60 → KL .u32 W W.heap.size A' (limbs (m ^ j)) → KL .u32 W W.heap.size A (limbs m) → Calls Try.prog 23 #[.slice A' (limbs (m ^ j)).length c', .slice A (limbs m).length c] W fun e w' => MadeN (m ^ (j + 1)) W e w') :=
    Lib.hid fun j W A' c' hj h1 h2 => by
      rw [Nat.pow_succ]
      exact refmul_any (m ^ j) m A' A c' c W h1 h2 (Nat.le_trans (pow_lens hm) (by omega)) (by omega)
  have H := Lib.hid h
  clear h
  go_enter Try.func32, Try.ntmps32
  go_wp2_with (go_at_call 35; (with_reducible refine (HOF.out _).mono ?_); rintro e w1 ⟨A1, c1, rfl, hA, hcap, hb⟩; have HA1 := Lib.hid hA; have HB1 := Lib.hid hb; clear hA hb)
  go_loopw [5, 6] (fun out i wr => ∃ (j : Nat) (A' : Option Addr) (c' : Nat), i = .int .i64 j ∧ j ≤ n ∧ out = .slice A' (limbs (m ^ j)).length c' ∧ KL .u32 wr wr.heap.size A' (limbs (m ^ j)) ∧ (limbs (m ^ j)).length ≤ c' ∧ Below w.heap.size w wr) (fun _ i _ => n - (intOf i).toNat)
  case atStart => exact ⟨0, A1, c1, rfl, Nat.zero_le _, by rw [Nat.pow_zero], by rw [Nat.pow_zero]; exact HA1.out, by rw [Nat.pow_zero]; exact hcap, HB1.out⟩
  case round =>
    obtain ⟨j, A', c', rfl, hj, rfl, hA', hc', hbw⟩ := hrel
    have HA' := Lib.hid hA'
    have HB' := Lib.hid hbw
    clear hA' hbw
    by_cases hlt : j < n
    · go_wp2_with (go_at_call 23; (with_reducible refine (HM.out j _ A' c' (by omega) HA'.out (H.out.up HB'.out)).mono ?_); rintro e w2 ⟨A2, c2, rfl, hA, hcap2, hb⟩; have HA2 := Lib.hid hA; have HB2 := Lib.hid (below_chain HB'.out hb); clear hA hb)
      go_roundw
      case rel => exact ⟨j + 1, A2, c2, by go_num, by omega, rfl, HA2.out, hcap2, HB2.out⟩
      case measure => simp [intOf] <;> omega
    · obtain rfl : j = n := by omega
      go_wp2
      go_ret
      exact ⟨A', c', rfl, HA'.out, hc', HB'.out⟩
theorem refpow_any (m : Nat) (n : Int) (A : Option Addr) (c : Nat) (w : World) (h : KL .u32 w w.heap.size A (limbs m)) (hm : (limbs m).length ≤ 2) (hn : n ≤ 60 ∨ 1000 < n) :
    Calls Try.prog 32 #[.slice A (limbs m).length c, .int .i64 n] w fun e w' => MadeN (powN m n) w e w' := by
  unfold powN
  by_cases h0 : 0 ≤ n ∧ n ≤ 1000
  · rw [if_pos h0]
    obtain ⟨k, rfl⟩ : ∃ k : Nat, n = k := ⟨n.toNat, by omega⟩
    rw [Int.toNat_natCast]
    exact refpow_lists m k A c w h hm (by omega)
  · rw [if_neg h0]
    exact refpow_none m n A c w (by omega)
end Go.Proofs.Ytdflhidhnejbbaa
