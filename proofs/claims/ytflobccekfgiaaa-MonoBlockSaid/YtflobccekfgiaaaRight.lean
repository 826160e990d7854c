/- The contracts of the two Rights. -/
import Derived.Test.YtflobccekfgiaaaKit
namespace Go.Proofs.Ytflobccekfgiaaa
open Go.RowKit

def rightB (n : Int) (xs : List Int) : Bool := decide (n = xs.length ∧ xs.length ≤ 6 ∧ ∀ k, k < xs.length → 0 ≤ xs.getD k 0 ∧ xs.getD k 0 ≤ 60)
theorem rightB_no {n : Int} {xs : List Int} (h : ¬ (n = xs.length ∧ xs.length ≤ 6)) : false = rightB n xs := by
  symm; unfold rightB; exact decide_eq_false fun ⟨h1, h2, _⟩ => h ⟨h1, h2⟩
theorem rightB_out {n : Int} {xs : List Int} (k : Nat) (hk : k < xs.length) (h : xs.getD k 0 < 0 ∨ 60 < xs.getD k 0) : false = rightB n xs := by
  symm; unfold rightB; exact decide_eq_false fun ⟨_, _, h2⟩ => by have := h2 k hk; omega
theorem rightB_yes {n : Int} {xs : List Int} (h : n = xs.length ∧ xs.length ≤ 6) (h2 : ∀ k, k < xs.length → 0 ≤ xs.getD k 0 ∧ xs.getD k 0 ≤ 60) : true = rightB n xs := by
  symm; unfold rightB; exact decide_eq_true ⟨h.1, h.2, h2⟩

set_option maxHeartbeats 400000 in
theorem right_any (n : Int) (A : Option Addr) (xs : List Int) (c : Nat) (w : World) (h : IL w w.heap.size A xs) (hl : xs.length ≤ 9223372036854775807) :
    Calls Try.prog 11 #[.int .i64 n, .slice A xs.length c] w fun e w' => e = .returned (.bool (rightB n xs)) ∧ w = w' := by
  have H := Lib.hid h; clear h
  by_cases hg : n = xs.length ∧ xs.length ≤ 6
  · have h0 : 0 ≤ n := by omega
    have h6 : n ≤ 6 := by omega
    have HN := Lib.hid hg
    have hn' : (xs.length : Int) = n := by omega
    clear hg hl
    go_enter Try.func11, Try.ntmps11
    go_wp2
    go_loop [21] (fun i => ∃ k : Nat, k ≤ xs.length ∧ i = .int .i64 k ∧ ∀ j, j < k → 0 ≤ xs.getD j 0 ∧ xs.getD j 0 ≤ 60) (fun i => xs.length - (intOf i).toNat)
    case atStart => exact ⟨0, Nat.zero_le _, rfl, fun j hj => absurd hj (by omega)⟩
    case round =>
      obtain ⟨k, hk, rfl, hall⟩ := hrel
      have HA := Lib.hid hall; clear hall
      by_cases hlt : k < xs.length
      · obtain ⟨ad, rfl, _, hc⟩ := H.out (by omega)
        have hcell := hc k hlt
        have hkn : (k : Int) < n := by omega
        obtain ⟨x, hx⟩ : ∃ x, xs.getD k 0 = x := ⟨_, rfl⟩
        rw [hx] at hcell
        have HX := Lib.hid hx
        clear hc hx
        go_wp2
        · go_ret
          exact ⟨ret_bool (rightB_out k hlt (by rw [HX.out]; omega)), rfl⟩
        · go_round
          case rel => exact ⟨k + 1, by omega, by go_num, fun j hj => by
            by_cases e : j = k
            · rw [e, HX.out]; omega
            · exact HA.out j (by omega)⟩
          case measure => simp [intOf]; omega
        · go_ret
          exact ⟨ret_bool (rightB_out k hlt (by rw [HX.out]; omega)), rfl⟩
      · have hkn : ¬ (k : Int) < n := by omega
        go_wp2
        go_ret
        exact ⟨ret_bool (rightB_yes HN.out fun j hj => HA.out j (by omega)), rfl⟩
  · have HN := Lib.hid hg; clear hg
    go_enter Try.func11, Try.ntmps11
    go_wp2
    · go_ret
      exact ⟨ret_bool (rightB_no HN.out), rfl⟩
    · exfalso; apply HN.out; simp at *; omega
    · go_ret
      exact ⟨ret_bool (rightB_no HN.out), rfl⟩
    · go_ret
      exact ⟨ret_bool (rightB_no HN.out), rfl⟩
end Go.Proofs.Ytflobccekfgiaaa
