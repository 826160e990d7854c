/- Contracts: the document's Field; which elements may be. -/
import Derived.Test.YtehlnkhbfbnadaaDoorArith
namespace Go.Proofs.YtehlnkhbfbnadaaDoor
open Go.RowKit

/-- A prime of a field, by trial. -/
def FieldP (p : Nat) : Prop := 2 ≤ p ∧ p ≤ 2147483647 ∧ ∀ j, 2 ≤ j → j * j ≤ p → p % j ≠ 0

set_option maxHeartbeats 1000000 in
theorem rfield_any (p : Nat) (w : World) (hp : p ≤ 4294967295) :
    Calls Tryd.prog 29 #[.int .u32 (p : Int)] w fun e w' => (∃ k : Int, e = .returned (.int .i64 k) ∧ ((k = 0 ∧ FieldP p) ∨ k = 6)) ∧ w = w' := by
  by_cases h2 : p < 2
  · go_enter Tryd.func29, Tryd.ntmps29
    go_wp2
    go_ret
    exact ⟨⟨6, rfl, .inr rfl⟩, rfl⟩
  · by_cases hm : 2147483647 < p
    · go_enter Tryd.func29, Tryd.ntmps29
      go_wp2
      go_ret
      exact ⟨⟨6, rfl, .inr rfl⟩, rfl⟩
    · go_enter Tryd.func29, Tryd.ntmps29
      go_wp2
      go_loop [3] (fun i => ∃ d : Nat, 2 ≤ d ∧ d ≤ 46342 ∧ i = .int .u32 d ∧ Hid (∀ j, 2 ≤ j → j < d → p % j ≠ 0)) (fun i => 46342 - (intOf i).toNat)
      case atStart => exact ⟨2, by omega, by omega, rfl, Lib.hid fun j h1 h2 => by omega⟩
      case round =>
        obtain ⟨d, hd2, hdl, rfl, HJ⟩ := hrel
        by_cases hd : d ≤ 46341
        · obtain ⟨m, hmm⟩ : ∃ m, d * d = m := ⟨_, rfl⟩
          have hml : m ≤ 2147488281 := by rw [← hmm]; exact Nat.mul_le_mul hd hd
          have hm' : (d : Int) * (d : Int) = (m : Int) := by rw [← hmm, Int.natCast_mul]
          by_cases hle : m ≤ p
          · obtain ⟨t, ht⟩ : ∃ t, p % d = t := ⟨_, rfl⟩
            obtain ⟨ht1, ht2⟩ := mod_parts ht
            have htl : t < d := by rw [← ht]; exact Nat.mod_lt _ (by omega)
            have hd1 : ((d : Int) == 0) = false := by rw [beq_eq_false_iff_ne]; omega
            have hd3 : d ≠ 0 := by omega
            by_cases ht0 : t = 0
            · have hb : ((t : Int) == 0) = true := by simp [ht0]
              clear hmm ht ht0
              go_wp2
              go_ret
              exact ⟨⟨6, rfl, .inr rfl⟩, rfl⟩
            · have hb : ((t : Int) == 0) = false := by rw [beq_eq_false_iff_ne]; omega
              have HT : Hid (p % d ≠ 0) := Lib.hid (by rw [ht]; exact ht0)
              clear hmm ht ht0
              go_wp2
              go_round
              case rel => exact ⟨d + 1, by omega, by omega, by go_num, Lib.hid fun j h1 h2 => by
                rcases Nat.lt_or_ge j d with h3 | h3
                · exact HJ.out j h1 h3
                · obtain rfl : j = d := by omega
                  exact HT.out⟩
              case measure => simp [intOf] <;> omega
          · have HF : Hid (FieldP p) := Lib.hid ⟨by omega, by omega, fun j h1 h2 => HJ.out j h1 (by
              rcases Nat.lt_or_ge j d with h3 | h3
              · exact h3
              · have := Nat.mul_le_mul h3 h3; omega)⟩
            clear hmm
            go_wp2
            go_ret
            exact ⟨⟨0, rfl, .inl ⟨rfl, HF.out⟩⟩, rfl⟩
        · have HF : Hid (FieldP p) := Lib.hid ⟨by omega, by omega, fun j h1 h2 => HJ.out j h1 (by
            rcases Nat.lt_or_ge j d with h3 | h3
            · exact h3
            · have := Nat.mul_le_mul h3 h3
              have h5 : 46342 * 46342 ≤ d * d := Nat.mul_le_mul (by omega) (by omega)
              omega)⟩
          go_wp2
          go_ret
          exact ⟨⟨0, rfl, .inl ⟨rfl, HF.out⟩⟩, rfl⟩

set_option maxHeartbeats 400000 in
theorem may_any (p a b : Nat) (w : World) (hp : p ≤ 4294967295) (ha : a ≤ 4294967295) (hb : b ≤ 4294967295) :
    Calls Tryd.prog 11 #[.int .u32 (p : Int), .int .u32 (a : Int), .int .u32 (b : Int)] w fun e w' => (∃ r : Bool, e = .returned (.bool r) ∧ (r = true → FieldP p ∧ a < p ∧ b < p)) ∧ w = w' := by
  have HF := Lib.hid (rfield_any p w hp)
  by_cases h1 : a < p
  · by_cases h2 : b < p
    · go_enter Tryd.func11, Tryd.ntmps11
      go_wp2_with (go_at_call 29; (with_reducible refine HF.out.mono ?_); rintro e w' ⟨⟨k, rfl, ⟨rfl, hf⟩ | rfl⟩, rfl⟩)
      · go_ret
        exact ⟨⟨_, rfl, fun _ => ⟨hf, h1, h2⟩⟩, rfl⟩
      · go_ret
        exact ⟨⟨_, rfl, fun h => by simp at h⟩, rfl⟩
    · go_enter Tryd.func11, Tryd.ntmps11
      go_wp2_with (go_at_call 29; (with_reducible refine HF.out.mono ?_); rintro e w' ⟨⟨k, rfl, ⟨rfl, hf⟩ | rfl⟩, rfl⟩)
      all_goals
        go_ret
        exact ⟨⟨_, rfl, fun h => by first | (simp at h; done) | (simp at h; omega)⟩, rfl⟩
  · go_enter Tryd.func11, Tryd.ntmps11
    go_wp2_with (go_at_call 29; (with_reducible refine HF.out.mono ?_); rintro e w' ⟨⟨k, rfl, ⟨rfl, hf⟩ | rfl⟩, rfl⟩)
    all_goals
      go_ret
      exact ⟨⟨_, rfl, fun h => by first | (simp at h; done) | (simp at h; omega)⟩, rfl⟩
end Go.Proofs.YtehlnkhbfbnadaaDoor
