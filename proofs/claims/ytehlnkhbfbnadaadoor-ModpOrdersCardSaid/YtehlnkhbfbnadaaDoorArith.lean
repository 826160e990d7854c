/- Contracts: sums and products of a field's elements, the program's and the document's. -/
import Derived.Test.YtehlnkhbfbnadaaDoorKit
namespace Go.Proofs.YtehlnkhbfbnadaaDoor
open Go.RowKit

theorem mod_parts {m p t : Nat} (h : m % p = t) : (m : Int) % (p : Int) = (t : Int) ∧ (m : Int).tmod (p : Int) = (t : Int) := by
  have h1 : (m : Int) % (p : Int) = (t : Int) := by rw [← h, Int.natCast_emod]
  exact ⟨h1, by rw [Int.tmod_eq_emod_of_nonneg (by omega)]; exact h1⟩
theorem mul_room {a b : Nat} (ha : a ≤ 4294967295) (hb : b ≤ 4294967295) : a * b ≤ 18446744065119617025 := Nat.mul_le_mul ha hb

set_option maxHeartbeats 400000 in
theorem madd_any (p a b : Nat) (w : World) (hp : p ≤ 2147483647) (ha : a < p) (hb : b < p) :
    Calls Tryd.prog 13 #[.int .u32 (p : Int), .int .u32 (a : Int), .int .u32 (b : Int)] w fun e w' => e = .returned (.int .u32 (((a + b) % p : Nat) : Int)) ∧ w = w' := by
  by_cases h : p ≤ a + b
  · rw [Nat.mod_eq_sub_mod h, Nat.mod_eq_of_lt (by omega)]
    have h1 : (p : Int) ≤ (a : Int) + (b : Int) := by omega
    go_enter Tryd.func13, Tryd.ntmps13
    go_wp2
    go_ret
    exact ⟨ret_int (by omega), rfl⟩
  · rw [Nat.mod_eq_of_lt (by omega)]
    have h1 : ¬ (p : Int) ≤ (a : Int) + (b : Int) := by omega
    go_enter Tryd.func13, Tryd.ntmps13
    go_wp2
    go_ret
    exact ⟨ret_int (by omega), rfl⟩
set_option maxHeartbeats 400000 in
theorem msub_any (p a b : Nat) (w : World) (hp : p ≤ 2147483647) (ha : a < p) (hb : b < p) :
    Calls Tryd.prog 15 #[.int .u32 (p : Int), .int .u32 (a : Int), .int .u32 (b : Int)] w fun e w' => e = .returned (.int .u32 (((a + p - b) % p : Nat) : Int)) ∧ w = w' := by
  by_cases h : a < b
  · rw [Nat.mod_eq_of_lt (by omega)]
    go_enter Tryd.func15, Tryd.ntmps15
    go_wp2
    go_ret
    exact ⟨ret_int (by omega), rfl⟩
  · rw [Nat.mod_eq_sub_mod (by omega), Nat.mod_eq_of_lt (by omega)]
    go_enter Tryd.func15, Tryd.ntmps15
    go_wp2
    go_ret
    exact ⟨ret_int (by omega), rfl⟩
set_option maxHeartbeats 400000 in
theorem mneg_any (p a : Nat) (w : World) (hp : p ≤ 2147483647) (ha : a < p) :
    Calls Tryd.prog 19 #[.int .u32 (p : Int), .int .u32 (a : Int)] w fun e w' => e = .returned (.int .u32 (((p - a) % p : Nat) : Int)) ∧ w = w' := by
  by_cases h : a = 0
  · subst h
    rw [Nat.sub_zero, Nat.mod_self]
    go_enter Tryd.func19, Tryd.ntmps19
    go_wp2
    go_ret
    exact ⟨rfl, rfl⟩
  · rw [Nat.mod_eq_of_lt (by omega)]
    have hb : ((a : Int) == 0) = false := by rw [beq_eq_false_iff_ne]; omega
    go_enter Tryd.func19, Tryd.ntmps19
    go_wp2
    go_ret
    exact ⟨ret_int (by omega), rfl⟩
set_option maxHeartbeats 400000 in
theorem mmul_any (p a b : Nat) (w : World) (hp : p ≤ 2147483647) (hp0 : 0 < p) (ha : a < p) (hb : b < p) :
    Calls Tryd.prog 17 #[.int .u32 (p : Int), .int .u32 (a : Int), .int .u32 (b : Int)] w fun e w' => e = .returned (.int .u32 (((a * b) % p : Nat) : Int)) ∧ w = w' := by
  have hr := mul_room (a := a) (b := b) (by omega) (by omega)
  obtain ⟨m, hm⟩ : ∃ m, a * b = m := ⟨_, rfl⟩
  obtain ⟨t, ht⟩ : ∃ t, m % p = t := ⟨_, rfl⟩
  have htl : t < p := by rw [← ht]; exact Nat.mod_lt _ hp0
  have hm' : (a : Int) * (b : Int) = (m : Int) := by rw [← hm, Int.natCast_mul]
  obtain ⟨ht1, ht2⟩ := mod_parts ht
  rw [hm] at hr ⊢
  rw [ht]
  have hm64 : (m : Int) ≤ 18446744073709551615 := by omega
  have hp1 : ((p : Int) == 0) = false := by rw [beq_eq_false_iff_ne]; omega
  have hp2 : p ≠ 0 := by omega
  clear hm hr ht
  go_enter Tryd.func17, Tryd.ntmps17
  go_wp2
  go_ret
  exact ⟨ret_int (by omega), rfl⟩
set_option maxHeartbeats 400000 in
theorem rmul_any (p a b : Nat) (w : World) (hp : p ≤ 2147483647) (hp0 : 0 < p) (ha : a < p) (hb : b < p) :
    Calls Tryd.prog 18 #[.int .u32 (p : Int), .int .u32 (a : Int), .int .u32 (b : Int)] w fun e w' => e = .returned (.int .u32 (((a * b) % p : Nat) : Int)) ∧ w = w' := by
  have hr := mul_room (a := a) (b := b) (by omega) (by omega)
  obtain ⟨m, hm⟩ : ∃ m, a * b = m := ⟨_, rfl⟩
  obtain ⟨t, ht⟩ : ∃ t, m % p = t := ⟨_, rfl⟩
  have htl : t < p := by rw [← ht]; exact Nat.mod_lt _ hp0
  have hm' : (a : Int) * (b : Int) = (m : Int) := by rw [← hm, Int.natCast_mul]
  obtain ⟨ht1, ht2⟩ := mod_parts ht
  rw [hm] at hr ⊢
  rw [ht]
  have hm64 : (m : Int) ≤ 18446744073709551615 := by omega
  have hp1 : ((p : Int) == 0) = false := by rw [beq_eq_false_iff_ne]; omega
  have hp2 : p ≠ 0 := by omega
  clear hm hr ht
  go_enter Tryd.func18, Tryd.ntmps18
  go_wp2
  go_ret
  exact ⟨ret_int (by omega), rfl⟩
set_option maxHeartbeats 400000 in
theorem radd_any (p a b : Nat) (w : World) (hp : p ≤ 2147483647) (hp0 : 0 < p) (ha : a < p) (hb : b < p) :
    Calls Tryd.prog 14 #[.int .u32 (p : Int), .int .u32 (a : Int), .int .u32 (b : Int)] w fun e w' => e = .returned (.int .u32 (((a + b) % p : Nat) : Int)) ∧ w = w' := by
  obtain ⟨m, hm⟩ : ∃ m, a + b = m := ⟨_, rfl⟩
  obtain ⟨t, ht⟩ : ∃ t, m % p = t := ⟨_, rfl⟩
  have htl : t < p := by rw [← ht]; exact Nat.mod_lt _ hp0
  have hm' : (a : Int) + (b : Int) = (m : Int) := by omega
  have hml : m ≤ 4294967295 := by omega
  obtain ⟨ht1, ht2⟩ := mod_parts ht
  rw [hm, ht]
  have hp1 : ((p : Int) == 0) = false := by rw [beq_eq_false_iff_ne]; omega
  have hp2 : p ≠ 0 := by omega
  clear hm ht
  go_enter Tryd.func14, Tryd.ntmps14
  go_wp2
  go_ret
  exact ⟨ret_int (by omega), rfl⟩
set_option maxHeartbeats 400000 in
theorem rneg_any (p a : Nat) (w : World) (hp : p ≤ 2147483647) (hp0 : 0 < p) (ha : a < p) :
    Calls Tryd.prog 20 #[.int .u32 (p : Int), .int .u32 (a : Int)] w fun e w' => e = .returned (.int .u32 (((p - a) % p : Nat) : Int)) ∧ w = w' := by
  obtain ⟨m, hm⟩ : ∃ m, p - a = m := ⟨_, rfl⟩
  obtain ⟨t, ht⟩ : ∃ t, m % p = t := ⟨_, rfl⟩
  have htl : t < p := by rw [← ht]; exact Nat.mod_lt _ hp0
  have hm' : (p : Int) - (a : Int) = (m : Int) := by omega
  have hml : m ≤ 4294967295 := by omega
  obtain ⟨ht1, ht2⟩ := mod_parts ht
  rw [hm, ht]
  have hp1 : ((p : Int) == 0) = false := by rw [beq_eq_false_iff_ne]; omega
  have hp2 : p ≠ 0 := by omega
  clear hm ht
  go_enter Tryd.func20, Tryd.ntmps20
  go_wp2
  go_ret
  exact ⟨ret_int (by omega), rfl⟩
set_option maxHeartbeats 400000 in
theorem rsub_any (p a b : Nat) (w : World) (hp : p ≤ 2147483647) (hp0 : 0 < p) (ha : a < p) (hb : b < p) :
    Calls Tryd.prog 16 #[.int .u32 (p : Int), .int .u32 (a : Int), .int .u32 (b : Int)] w fun e w' => e = .returned (.int .u32 (((a + p - b) % p : Nat) : Int)) ∧ w = w' := by
  obtain ⟨n, hn⟩ : ∃ n, (p - b) % p = n := ⟨_, rfl⟩
  have hnl : n < p := by rw [← hn]; exact Nat.mod_lt _ hp0
  have e : (a + p - b) % p = (a + n) % p := by rw [← hn, Nat.add_mod_mod, show a + p - b = a + (p - b) by omega]
  have HN : Hid (Calls Tryd.prog 20 #[.int .u32 (p : Int), .int .u32 (b : Int)] w fun e w' => e = .returned (.int .u32 (n : Int)) ∧ w = w') := Lib.hid (by rw [← hn]; exact rneg_any p b w hp hp0 hb)
  have HA : Hid (Calls Tryd.prog 14 #[.int .u32 (p : Int), .int .u32 (a : Int), .int .u32 (n : Int)] w fun e w' => e = .returned (.int .u32 (((a + n) % p : Nat) : Int)) ∧ w = w') := Lib.hid (radd_any p a n w hp hp0 ha hnl)
  rw [e]
  clear hn e
  go_enter Tryd.func16, Tryd.ntmps16
  go_wp2_with (first
    | (go_at_call 20; (with_reducible refine HN.out.mono ?_); rintro e w' ⟨rfl, rfl⟩)
    | (go_at_call 14; (with_reducible refine HA.out.mono ?_); rintro e w' ⟨rfl, rfl⟩))
  go_ret
  exact ⟨rfl, rfl⟩
end Go.Proofs.YtehlnkhbfbnadaaDoor
