/- Contracts: trim, Right, Cmp. -/
import Derived.Test.YtdflhidhnejbbaaKit
namespace Go.Proofs.Ytdflhidhnejbbaa
open Go.RowKit

theorem word_range {xs : List Int} (h : D32 xs) {k : Nat} (hk : k < xs.length) : 0 ≤ xs.getD k 0 ∧ xs.getD k 0 < 4294967296 := by
  have := h.at_ hk
  omega

set_option maxHeartbeats 400000 in
theorem trim_any (A : Option Addr) (xs : List Int) (c : Nat) (w : World) (h : KL .u32 w w.heap.size A xs) (hd : D32 xs) (hc : xs.length ≤ c) (hl : c ≤ 4611686018427387904) :
    Calls Try.prog 38 #[.slice A xs.length c] w fun e w' => e = .returned (.slice A (limbs (nv xs)).length (limbs (nv xs)).length) ∧ w = w' := by
  have H := Lib.hid h; clear h
  have HD := Lib.hid hd; clear hd
  go_enter Try.func38, Try.ntmps38
  go_wp2
  go_loop [3] (fun i => ∃ k : Nat, k ≤ xs.length ∧ i = .int .i64 k ∧ ∀ j, k ≤ j → j < xs.length → xs.getD j 0 = 0) (fun i => (intOf i).toNat)
  case atStart => exact ⟨xs.length, Nat.le_refl _, rfl, fun j hj hjl => by omega⟩
  case round =>
    obtain ⟨k, hk, rfl, hall⟩ := hrel
    have HA := Lib.hid hall; clear hall
    by_cases hk0 : 0 < k
    · obtain ⟨j, hj⟩ : ∃ j, k = j + 1 := ⟨k - 1, by omega⟩
      subst hj
      obtain ⟨ad, rfl, _, hcc⟩ := H.out (by omega)
      have hcell := hcc j (by omega)
      have hr := word_range HD.out (k := j) (by omega)
      obtain ⟨x, hx⟩ : ∃ x, xs.getD j 0 = x := ⟨_, rfl⟩
      rw [hx] at hcell hr
      have HX := Lib.hid hx
      have e1 : (((j + 1 : Nat) : Int)) - 1 = (j : Int) := by omega
      clear hcc hx
      by_cases hx0 : x = 0
      · have hb : (x == 0) = true := by simp [hx0]
        have HX0 := Lib.hid hx0; clear hx0
        go_wp2
        go_round
        case rel => exact ⟨j, by omega, by simp, fun i hi hil => by
          by_cases e : i = j
          · rw [e, HX.out]; exact HX0.out
          · exact HA.out i (by omega) hil⟩
        case measure => simp [intOf] <;> omega
      · have hb : (x == 0) = false := by simp [hx0]
        have HX0 := Lib.hid hx0; clear hx0
        go_wp2
        go_ret
        have ht := trim_limbs HD.out hk (fun i hi hil => HA.out i hi hil) (fun i hi => by rw [show i = j by omega, HX.out]; exact HX0.out)
        have hlen : (limbs (nv xs)).length = j + 1 := by rw [← ht, List.length_take]; omega
        exact ⟨by rw [hlen]; first | rfl | simp, rfl⟩
    · obtain rfl : k = 0 := by omega
      go_wp2
      go_ret
      have ht := trim_limbs HD.out hk (fun i hi hil => HA.out i hi hil) (fun i hi => by omega)
      have hlen : (limbs (nv xs)).length = 0 := by rw [← ht]; simp
      exact ⟨by rw [hlen]; first | rfl | simp, rfl⟩
theorem trim_KL {w : World} {B : Nat} {A : Option Addr} {xs : List Int} (h : KL .u32 w B A xs) (hd : D32 xs) : KL .u32 w B A (limbs (nv xs)) := by
  obtain ⟨n, hn, h1, h2⟩ := trim_exists xs
  rw [← trim_limbs hd hn h1 h2]
  exact h.head hn
end Go.Proofs.Ytdflhidhnejbbaa
