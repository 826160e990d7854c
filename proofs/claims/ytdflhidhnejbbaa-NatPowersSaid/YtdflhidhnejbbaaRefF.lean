/- Contracts of the reference: guess. -/
import Derived.Test.YtdflhidhnejbbaaRefM
import Derived.Test.YtdflhidhnejbbaaTop
namespace Go.Proofs.Ytdflhidhnejbbaa
open Go.RowKit

/-- A number that was guessed, and how many limbs it is to be shifted. -/
def Guessed (r b L : Nat) (w : World) (e : Ending) (w' : World) : Prop :=
  ∃ g k : Nat, e = .returned (.tuple #[.int .u64 (g : Int), .int .i64 (k : Int)]) ∧ 1 ≤ g ∧ g ≤ 4294967295 ∧ k < L ∧ 4294967296 ^ k * g * b ≤ r ∧ ∃ n, w' = w.drewN n

theorem guess_le {B r b T V M N g : Nat} (hr : B ^ M * T ≤ r) (hb : b ≤ B ^ N * (V + 1)) (hNM : N ≤ M) (hg : g * (V + 1) ≤ T) : B ^ (M - N) * g * b ≤ r := by
  have h1 : B ^ (M - N) * g * b ≤ B ^ (M - N) * g * (B ^ N * (V + 1)) := Nat.mul_le_mul_left _ hb
  have h2 : B ^ (M - N) * g * (B ^ N * (V + 1)) = B ^ M * (g * (V + 1)) := by
    rw [show B ^ M = B ^ (M - N) * B ^ N by rw [← Nat.pow_add, Nat.sub_add_cancel hNM]]
    simp only [Nat.mul_assoc, Nat.mul_left_comm]
  have h3 : B ^ M * (g * (V + 1)) ≤ B ^ M * T := Nat.mul_le_mul_left _ hg
  omega
set_option maxHeartbeats 1000000 in
theorem guess_lists (A B : Option Addr) (xs ys : List Int) (c d M N T V : Nat) (w : World) (h : KL .u32 w w.heap.size A xs) (h' : KL .u32 w w.heap.size B ys) (hd : D32 xs) (hd' : D32 ys)
    (hM : xs.length = M + 1) (hN : ys.length = N + 1) (hMl : M ≤ 1099511627776) (hNM : N ≤ M) (hT : xs.getD M 0 = T) (hV : ys.getD N 0 = V) (hT1 : 1 ≤ T) (hle : nv ys ≤ nv xs) :
    Calls Try.prog 45 #[.slice A (M + 1 : Nat) c, .slice B (N + 1 : Nat) d] w fun e w' => Guessed (nv xs) (nv ys) (M + 1) w e w' := by
  have hT2 := word_range hd (k := M) (by omega)
  have hV2 := word_range hd' (k := N) (by omega)
  rw [hT] at hT2
  rw [hV] at hV2
  obtain ⟨ad, rfl, _, hca⟩ := h (by omega)
  obtain ⟨bd, rfl, _, hcb⟩ := h' (by omega)
  have hcx := hca M (by omega)
  have hcy := hcb N (by omega)
  rw [hT] at hcx
  rw [hV] at hcy
  have hlow : 4294967296 ^ M * T ≤ nv xs := by rw [show nv xs = _ from top_low (b := 4294967296) hM hT]; omega
  have habove : nv ys ≤ 4294967296 ^ N * (V + 1) := top_above hd' hN hV
  by_cases h1 : V + 1 ≤ T
  · obtain ⟨g, hg⟩ : ∃ g, T / (V + 1) = g := ⟨_, rfl⟩
    have hg' : (T : Int) / ((V : Int) + 1) = (g : Int) := by rw [← hg, Int.natCast_ediv]; rfl
    have hg1 : 1 ≤ g := by rw [← hg]; exact (Nat.le_div_iff_mul_le (by omega)).2 (by omega)
    have hg2 : g ≤ T := by rw [← hg]; exact Nat.div_le_self _ _
    have hg3 : g * (V + 1) ≤ T := by rw [← hg]; exact Nat.div_mul_le_self _ _
    have HR : Hid (4294967296 ^ (M - N) * g * nv ys ≤ nv xs) := Lib.hid (guess_le hlow habove hNM hg3)
    have hgw : IntKind.u64.wrap ((T : Int) / ((V : Int) + 1)) = (g : Int) := by rw [hg', IntKind.wrap_u64]; omega
    clear hca hcb hT hV hlow habove hg hg3 hd hd' h h' hM hN
    go_enter Try.func45, Try.ntmps45
    go_wp2
    go_quiet (fail)
    go_wp2
    go_ret2
    exact ⟨g, M - N, ret_pair rfl (by omega), hg1, by omega, by omega, HR.out, _, rfl⟩
  · by_cases h2 : N < M
    · obtain ⟨L, hL⟩ : ∃ L, M = L + 1 := ⟨M - 1, by omega⟩
      have hS2 := word_range hd (k := L) (by omega)
      obtain ⟨S, hS⟩ : ∃ S : Nat, xs.getD L 0 = S := ⟨(xs.getD L 0).toNat, by omega⟩
      rw [hS] at hS2
      have hcz := hca L (by omega)
      rw [hS] at hcz
      obtain ⟨g, hg⟩ : ∃ g, (T * 4294967296 + S) / (V + 1) = g := ⟨_, rfl⟩
      have hg' : ((T : Int) * 4294967296 + S) / ((V : Int) + 1) = (g : Int) := by rw [← hg, Int.natCast_ediv]; rfl
      have hg1 : 1 ≤ g := by rw [← hg]; exact (Nat.le_div_iff_mul_le (by omega)).2 (by omega)
      have hg2 : g ≤ 4294967295 := by rw [← hg]; exact Nat.le_of_lt_succ ((Nat.div_lt_iff_lt_mul (by omega)).2 (by omega))
      have hg3 : g * (V + 1) ≤ T * 4294967296 + S := by rw [← hg]; exact Nat.div_mul_le_self _ _
      have htwo : 4294967296 ^ L * (T * 4294967296 + S) ≤ nv xs := top_two (by omega) (by rw [← hL]; exact hT) hS
      have HR : Hid (4294967296 ^ (L - N) * g * nv ys ≤ nv xs) := Lib.hid (guess_le htwo habove (by omega) hg3)
      have hgw : IntKind.u64.wrap (((T : Int) * 4294967296 + S) / ((V : Int) + 1)) = (g : Int) := by rw [hg', IntKind.wrap_u64]; omega
      have hgm : min (g : Int) 4294967295 = (g : Int) := by omega
      have hi1 : (M : Int) + 1 - 2 = (L : Int) := by omega
      have hi2 : L < M := by omega
      have HL := Lib.hid hL
      clear hca hcb hT hV hlow habove hg hg3 hd hd' h h' hM hN hS htwo hL
      go_enter Try.func45, Try.ntmps45
      go_wp2
      go_quiet (fail)
      go_wp2
      go_ret2
      exact ⟨g, L - N, ret_pair rfl (by have := HL.out; omega), hg1, by omega, by omega, HR.out, _, rfl⟩
    · obtain rfl : M = N := by omega
      have HR : Hid (4294967296 ^ 0 * 1 * nv ys ≤ nv xs) := Lib.hid (by simpa using hle)
      clear hca hcb hT hV hlow habove hd hd' h h' hM hN hle
      go_enter Try.func45, Try.ntmps45
      go_wp2
      go_quiet (fail)
      go_wp2
      go_ret2
      exact ⟨1, 0, ret_pair rfl rfl, by omega, by omega, by omega, HR.out, _, rfl⟩
theorem guess_any (r b : Nat) (A B : Option Addr) (c d : Nat) (w : World) (h : KL .u32 w w.heap.size A (limbs r)) (h' : KL .u32 w w.heap.size B (limbs b)) (hxl : (limbs r).length ≤ 1000) (hb0 : 0 < b) (hle : b ≤ r) :
    Calls Try.prog 45 #[.slice A (limbs r).length c, .slice B (limbs b).length d] w fun e w' => Guessed r b (limbs r).length w e w' := by
  have h1 := limbs_len_pos.2 hb0
  have h2 := lens_of_le hle
  obtain ⟨M, hM⟩ : ∃ M, (limbs r).length = M + 1 := ⟨(limbs r).length - 1, by omega⟩
  obtain ⟨N, hN⟩ : ∃ N, (limbs b).length = N + 1 := ⟨(limbs b).length - 1, by omega⟩
  have hT2 := word_range (limbs_dig r) (k := M) (by omega)
  have hV2 := word_range (limbs_dig b) (k := N) (by omega)
  have hcan := limbs_can r M hM.symm
  have := guess_lists A B (limbs r) (limbs b) c d M N _ _ w h h' (limbs_dig r) (limbs_dig b) hM hN (by omega) (by omega) (show (limbs r).getD M 0 = (((limbs r).getD M 0).toNat : Int) by omega) (show (limbs b).getD N 0 = (((limbs b).getD N 0).toNat : Int) by omega) (by omega) (by rw [nv_limbs, nv_limbs]; exact hle)
  rw [nv_limbs, nv_limbs] at this
  rw [hM, hN]
  exact this
end Go.Proofs.Ytdflhidhnejbbaa
