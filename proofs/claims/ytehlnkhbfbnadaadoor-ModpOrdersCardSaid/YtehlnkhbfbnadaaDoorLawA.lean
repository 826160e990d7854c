/- The walks of ModpSums and ModpLaws. -/
import Derived.Test.YtehlnkhbfbnadaaDoorAwake
namespace Go.Proofs.YtehlnkhbfbnadaaDoor
open Go.RowKit

set_option maxHeartbeats 4000000 in
theorem law_sums_yes (p a b : Nat) (w : World) (hg : w.cell? ⟨0, 1, none⟩ = some (.int .u8 1)) (hp : p ≤ 2147483647) (hp2 : 2 ≤ p) (ha : a < p) (hb : b < p) :
    Calls Tryd.prog 3 #[.int .u32 (p : Int), .int .u32 (a : Int), .int .u32 (b : Int)] w fun e w' => e = .returned (.bool true) ∧ Below w.heap.size w w' := by
  obtain ⟨s, hse⟩ : ∃ s, (a + b) % p = s := ⟨_, rfl⟩
  obtain ⟨d, hde⟩ : ∃ d, (a + p - b) % p = d := ⟨_, rfl⟩
  obtain ⟨t, hte⟩ : ∃ t, a * b % p = t := ⟨_, rfl⟩
  obtain ⟨n, hne⟩ : ∃ n, (p - a) % p = n := ⟨_, rfl⟩
  have HAWK : Hid (Calls Tryd.prog 12 #[] w fun e w' => e = .returned (.bool true) ∧ Below w.heap.size w w') := Lib.hid (awake_any w hg)
  have HMAY : Hid (Calls Tryd.prog 11 #[.int .u32 (p : Int), .int .u32 (a : Int), .int .u32 (b : Int)] w fun e w' => (∃ r : Bool, e = .returned (.bool r) ∧ (r = true → FieldP p ∧ a < p ∧ b < p)) ∧ w = w') := Lib.hid (may_any p a b w (by omega) (by omega) (by omega))
  have F1 : Hid (∀ W : World, Calls Tryd.prog 13 #[.int .u32 (p : Int), .int .u32 (a : Int), .int .u32 (b : Int)] W fun e w' => e = .returned (.int .u32 (s : Int)) ∧ W = w') := Lib.hid fun W => by rw [← hse]; exact madd_any p a b W hp ha hb
  have F2 : Hid (∀ W : World, Calls Tryd.prog 14 #[.int .u32 (p : Int), .int .u32 (a : Int), .int .u32 (b : Int)] W fun e w' => e = .returned (.int .u32 (s : Int)) ∧ W = w') := Lib.hid fun W => by rw [← hse]; exact radd_any p a b W hp (by omega) ha hb
  have F3 : Hid (∀ W : World, Calls Tryd.prog 15 #[.int .u32 (p : Int), .int .u32 (a : Int), .int .u32 (b : Int)] W fun e w' => e = .returned (.int .u32 (d : Int)) ∧ W = w') := Lib.hid fun W => by rw [← hde]; exact msub_any p a b W hp ha hb
  have F4 : Hid (∀ W : World, Calls Tryd.prog 16 #[.int .u32 (p : Int), .int .u32 (a : Int), .int .u32 (b : Int)] W fun e w' => e = .returned (.int .u32 (d : Int)) ∧ W = w') := Lib.hid fun W => by rw [← hde]; exact rsub_any p a b W hp (by omega) ha hb
  have F5 : Hid (∀ W : World, Calls Tryd.prog 17 #[.int .u32 (p : Int), .int .u32 (a : Int), .int .u32 (b : Int)] W fun e w' => e = .returned (.int .u32 (t : Int)) ∧ W = w') := Lib.hid fun W => by rw [← hte]; exact mmul_any p a b W hp (by omega) ha hb
  have F6 : Hid (∀ W : World, Calls Tryd.prog 18 #[.int .u32 (p : Int), .int .u32 (a : Int), .int .u32 (b : Int)] W fun e w' => e = .returned (.int .u32 (t : Int)) ∧ W = w') := Lib.hid fun W => by rw [← hte]; exact rmul_any p a b W hp (by omega) ha hb
  have F7 : Hid (∀ W : World, Calls Tryd.prog 19 #[.int .u32 (p : Int), .int .u32 (a : Int)] W fun e w' => e = .returned (.int .u32 (n : Int)) ∧ W = w') := Lib.hid fun W => by rw [← hne]; exact mneg_any p a W hp ha
  have F8 : Hid (∀ W : World, Calls Tryd.prog 20 #[.int .u32 (p : Int), .int .u32 (a : Int)] W fun e w' => e = .returned (.int .u32 (n : Int)) ∧ W = w') := Lib.hid fun W => by rw [← hne]; exact rneg_any p a W hp (by omega) ha
  clear hg hse hde hte hne ha hb hp hp2
  go_enter Tryd.func3, Tryd.ntmps3
  go_wp2_with (first
    | (go_at_call 11; (with_reducible refine HMAY.out.mono ?_); rintro e w' ⟨⟨r, rfl, hr⟩, rfl⟩)
    | (go_at_call 12; (with_reducible refine HAWK.out.mono ?_); rintro e w1 ⟨rfl, hb⟩; have HB := Lib.hid hb; clear hb)
    | (go_at_call 13; (with_reducible refine (F1.out _).mono ?_); rintro e w' ⟨rfl, rfl⟩)
    | (go_at_call 14; (with_reducible refine (F2.out _).mono ?_); rintro e w' ⟨rfl, rfl⟩)
    | (go_at_call 15; (with_reducible refine (F3.out _).mono ?_); rintro e w' ⟨rfl, rfl⟩)
    | (go_at_call 16; (with_reducible refine (F4.out _).mono ?_); rintro e w' ⟨rfl, rfl⟩)
    | (go_at_call 17; (with_reducible refine (F5.out _).mono ?_); rintro e w' ⟨rfl, rfl⟩)
    | (go_at_call 18; (with_reducible refine (F6.out _).mono ?_); rintro e w' ⟨rfl, rfl⟩)
    | (go_at_call 19; (with_reducible refine (F7.out _).mono ?_); rintro e w' ⟨rfl, rfl⟩)
    | (go_at_call 20; (with_reducible refine (F8.out _).mono ?_); rintro e w' ⟨rfl, rfl⟩))
  all_goals
    go_ret
    exact ⟨ret_bool (by first | rfl | (simp; done)), HB.out⟩
set_option maxHeartbeats 1000000 in
theorem law_sums (p a b : Nat) (w : World) (hg : w.cell? ⟨0, 1, none⟩ = some (.int .u8 1)) (hp : p ≤ 4294967295) (ha : a ≤ 4294967295) (hb : b ≤ 4294967295) :
    Calls Tryd.prog 3 #[.int .u32 (p : Int), .int .u32 (a : Int), .int .u32 (b : Int)] w fun e w' => e = .returned (.bool true) ∧ Below w.heap.size w w' := by
  by_cases hc : (p ≤ 2147483647 ∧ 2 ≤ p) ∧ a < p ∧ b < p
  · exact law_sums_yes p a b w hg hc.1.1 hc.1.2 hc.2.1 hc.2.2
  · have HC := Lib.hid hc
    have HAWK : Hid (Calls Tryd.prog 12 #[] w fun e w' => e = .returned (.bool true) ∧ Below w.heap.size w w') := Lib.hid (awake_any w hg)
    have HMAY : Hid (Calls Tryd.prog 11 #[.int .u32 (p : Int), .int .u32 (a : Int), .int .u32 (b : Int)] w fun e w' => e = .returned (.bool false) ∧ w = w') := Lib.hid ((may_any p a b w hp ha hb).mono fun e w' ⟨⟨r, he, hr⟩, hw⟩ => by
      cases r with
      | false => exact ⟨he, hw⟩
      | true => exact absurd ⟨⟨(hr rfl).1.2.1, (hr rfl).1.1⟩, (hr rfl).2⟩ hc)
    clear hc hg
    go_enter Tryd.func3, Tryd.ntmps3
    go_wp2_with (first
      | (go_at_call 11; (with_reducible refine HMAY.out.mono ?_); rintro e w' ⟨rfl, rfl⟩)
      | (go_at_call 12; (with_reducible refine HAWK.out.mono ?_); rintro e w1 ⟨rfl, hb⟩; have HB := Lib.hid hb; clear hb))
    go_ret
    exact ⟨rfl, HB.out⟩

end Go.Proofs.YtehlnkhbfbnadaaDoor
