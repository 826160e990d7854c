/- The walks of ModpLaws, ModpPowers, ModpInverses. -/
import Derived.Test.YtehlnkhbfbnadaaDoorLawA
import Derived.Test.YtehlnkhbfbnadaaDoorRPow
namespace Go.Proofs.YtehlnkhbfbnadaaDoor
open Go.RowKit

theorem add_assoc_mod (a b c p : Nat) : ((a + b) % p + c) % p = (a + (b + c) % p) % p := by rw [Nat.mod_add_mod, Nat.add_mod_mod, Nat.add_assoc]
theorem mul_assoc_mod (a b c p : Nat) : (a * b % p * c) % p = (a * (b * c % p)) % p := by rw [Nat.mod_mul_mod, Nat.mul_mod_mod, Nat.mul_assoc]
theorem distr_mod (a b c p : Nat) : ((a + b) % p * c) % p = (a * c % p + b * c % p) % p := by rw [Nat.mod_mul_mod, Nat.add_mul, ← Nat.add_mod]
theorem neg_mod {a p : Nat} (h : a < p) : (a + (p - a) % p) % p = 0 := by rw [Nat.add_mod_mod, show a + (p - a) = p by omega, Nat.mod_self]
theorem back_mod {a b p : Nat} (ha : a < p) (hb : b < p) : ((a + b) % p + p - b) % p = a := by
  rcases Nat.lt_or_ge (a + b) p with h | h
  · rw [Nat.mod_eq_of_lt h, show a + b + p - b = a + p by omega, Nat.add_mod_right, Nat.mod_eq_of_lt ha]
  · have e : (a + b) % p = a + b - p := by rw [Nat.mod_eq_sub_mod h, Nat.mod_eq_of_lt (by omega)]
    rw [e, show a + b - p + p - b = a by omega, Nat.mod_eq_of_lt ha]
theorem pow_add_mod (a n m p : Nat) : (a ^ n % p * (a ^ m % p)) % p = a ^ (n + m) % p := by rw [← Nat.mul_mod, ← Nat.pow_add]

set_option maxHeartbeats 4000000 in
theorem law_laws_yes (p a b c : Nat) (w : World) (hg : w.cell? ⟨0, 1, none⟩ = some (.int .u8 1)) (hf : FieldP p) (ha : a < p) (hb : b < p) (hc : c < p) :
    Calls Tryd.prog 10 #[.int .u32 (p : Int), .agg #[.int .u32 (a : Int), .int .u32 (b : Int), .int .u32 (c : Int)]] w fun e w' => e = .returned (.bool true) ∧ Below w.heap.size w w' := by
  have hp := hf.2.1
  have hp2 := hf.1
  obtain ⟨s, hse⟩ : ∃ s, (a + b) % p = s := ⟨_, rfl⟩
  obtain ⟨t, hte⟩ : ∃ t, a * b % p = t := ⟨_, rfl⟩
  obtain ⟨u, hue⟩ : ∃ u, (s + c) % p = u := ⟨_, rfl⟩
  obtain ⟨v, hve⟩ : ∃ v, (b + c) % p = v := ⟨_, rfl⟩
  obtain ⟨x, hxe⟩ : ∃ x, t * c % p = x := ⟨_, rfl⟩
  obtain ⟨y, hye⟩ : ∃ y, b * c % p = y := ⟨_, rfl⟩
  obtain ⟨z, hze⟩ : ∃ z, s * c % p = z := ⟨_, rfl⟩
  obtain ⟨g, hge⟩ : ∃ g, a * c % p = g := ⟨_, rfl⟩
  obtain ⟨n, hne⟩ : ∃ n, (p - a) % p = n := ⟨_, rfl⟩
  have HAWK : Hid (∀ W : World, Below w.heap.size w W → Calls Tryd.prog 12 #[] W fun e w' => e = .returned (.bool true) ∧ Below w.heap.size w w') := Lib.hid fun W hb => (awake_any W ((hb.cell (World.block_lt_of_cell? w _ hg)).trans hg)).mono fun e w' ⟨h1, h2⟩ => ⟨h1, below_chain hb h2⟩
  have HMAY : Hid (∀ W : World, Calls Tryd.prog 11 #[.int .u32 (p : Int), .int .u32 (a : Int), .int .u32 (b : Int)] W fun e w' => (∃ r : Bool, e = .returned (.bool r) ∧ True) ∧ W = w') := Lib.hid fun W => (may_any p a b W (by omega) (by omega) (by omega)).mono fun e w' ⟨⟨r, h1, _⟩, h2⟩ => ⟨⟨r, h1, trivial⟩, h2⟩
  have sl : s < p := by rw [← hse]; exact Nat.mod_lt _ (by omega)
  have tl : t < p := by rw [← hte]; exact Nat.mod_lt _ (by omega)
  have ul : u < p := by rw [← hue]; exact Nat.mod_lt _ (by omega)
  have vl : v < p := by rw [← hve]; exact Nat.mod_lt _ (by omega)
  have xl : x < p := by rw [← hxe]; exact Nat.mod_lt _ (by omega)
  have yl : y < p := by rw [← hye]; exact Nat.mod_lt _ (by omega)
  have zl : z < p := by rw [← hze]; exact Nat.mod_lt _ (by omega)
  have gl : g < p := by rw [← hge]; exact Nat.mod_lt _ (by omega)
  have nl : n < p := by rw [← hne]; exact Nat.mod_lt _ (by omega)
  have sli : (s : Int) < (p : Int) := by omega
  have tli : (t : Int) < (p : Int) := by omega
  have cli : ¬ (p : Int) ≤ (c : Int) := by omega
  have F1 : Hid (∀ W : World, Calls Tryd.prog 13 #[.int .u32 (p : Int), .int .u32 (a : Int), .int .u32 (b : Int)] W fun e w' => e = .returned (.int .u32 (s : Int)) ∧ W = w') := Lib.hid fun W => by have e : (a + b) % p = s := (hse); rw [← e]; exact madd_any p a b W hp (by omega) (by omega)
  have F2 : Hid (∀ W : World, Calls Tryd.prog 17 #[.int .u32 (p : Int), .int .u32 (a : Int), .int .u32 (b : Int)] W fun e w' => e = .returned (.int .u32 (t : Int)) ∧ W = w') := Lib.hid fun W => by have e : a * b % p = t := (hte); rw [← e]; exact mmul_any p a b W hp (by omega) (by omega) (by omega)
  have F3 : Hid (∀ W : World, Calls Tryd.prog 13 #[.int .u32 (p : Int), .int .u32 (b : Int), .int .u32 (a : Int)] W fun e w' => e = .returned (.int .u32 (s : Int)) ∧ W = w') := Lib.hid fun W => by have e : (b + a) % p = s := (by rw [Nat.add_comm]; exact hse); rw [← e]; exact madd_any p b a W hp (by omega) (by omega)
  have F4 : Hid (∀ W : World, Calls Tryd.prog 17 #[.int .u32 (p : Int), .int .u32 (b : Int), .int .u32 (a : Int)] W fun e w' => e = .returned (.int .u32 (t : Int)) ∧ W = w') := Lib.hid fun W => by have e : b * a % p = t := (by rw [Nat.mul_comm]; exact hte); rw [← e]; exact mmul_any p b a W hp (by omega) (by omega) (by omega)
  have F5 : Hid (∀ W : World, Calls Tryd.prog 13 #[.int .u32 (p : Int), .int .u32 (s : Int), .int .u32 (c : Int)] W fun e w' => e = .returned (.int .u32 (u : Int)) ∧ W = w') := Lib.hid fun W => by have e : (s + c) % p = u := (hue); rw [← e]; exact madd_any p s c W hp (by omega) (by omega)
  have F6 : Hid (∀ W : World, Calls Tryd.prog 13 #[.int .u32 (p : Int), .int .u32 (b : Int), .int .u32 (c : Int)] W fun e w' => e = .returned (.int .u32 (v : Int)) ∧ W = w') := Lib.hid fun W => by have e : (b + c) % p = v := (hve); rw [← e]; exact madd_any p b c W hp (by omega) (by omega)
  have F7 : Hid (∀ W : World, Calls Tryd.prog 13 #[.int .u32 (p : Int), .int .u32 (a : Int), .int .u32 (v : Int)] W fun e w' => e = .returned (.int .u32 (u : Int)) ∧ W = w') := Lib.hid fun W => by have e : (a + v) % p = u := (by rw [← hve, ← add_assoc_mod, hse, hue]); rw [← e]; exact madd_any p a v W hp (by omega) (by omega)
  have F8 : Hid (∀ W : World, Calls Tryd.prog 17 #[.int .u32 (p : Int), .int .u32 (t : Int), .int .u32 (c : Int)] W fun e w' => e = .returned (.int .u32 (x : Int)) ∧ W = w') := Lib.hid fun W => by have e : t * c % p = x := (hxe); rw [← e]; exact mmul_any p t c W hp (by omega) (by omega) (by omega)
  have F9 : Hid (∀ W : World, Calls Tryd.prog 17 #[.int .u32 (p : Int), .int .u32 (b : Int), .int .u32 (c : Int)] W fun e w' => e = .returned (.int .u32 (y : Int)) ∧ W = w') := Lib.hid fun W => by have e : b * c % p = y := (hye); rw [← e]; exact mmul_any p b c W hp (by omega) (by omega) (by omega)
  have F10 : Hid (∀ W : World, Calls Tryd.prog 17 #[.int .u32 (p : Int), .int .u32 (a : Int), .int .u32 (y : Int)] W fun e w' => e = .returned (.int .u32 (x : Int)) ∧ W = w') := Lib.hid fun W => by have e : a * y % p = x := (by rw [← hye, ← mul_assoc_mod, hte, hxe]); rw [← e]; exact mmul_any p a y W hp (by omega) (by omega) (by omega)
  have F11 : Hid (∀ W : World, Calls Tryd.prog 17 #[.int .u32 (p : Int), .int .u32 (s : Int), .int .u32 (c : Int)] W fun e w' => e = .returned (.int .u32 (z : Int)) ∧ W = w') := Lib.hid fun W => by have e : s * c % p = z := (hze); rw [← e]; exact mmul_any p s c W hp (by omega) (by omega) (by omega)
  have F12 : Hid (∀ W : World, Calls Tryd.prog 17 #[.int .u32 (p : Int), .int .u32 (a : Int), .int .u32 (c : Int)] W fun e w' => e = .returned (.int .u32 (g : Int)) ∧ W = w') := Lib.hid fun W => by have e : a * c % p = g := (hge); rw [← e]; exact mmul_any p a c W hp (by omega) (by omega) (by omega)
  have F13 : Hid (∀ W : World, Calls Tryd.prog 13 #[.int .u32 (p : Int), .int .u32 (g : Int), .int .u32 (y : Int)] W fun e w' => e = .returned (.int .u32 (z : Int)) ∧ W = w') := Lib.hid fun W => by have e : (g + y) % p = z := (by rw [← hge, ← hye, ← distr_mod, hse, hze]); rw [← e]; exact madd_any p g y W hp (by omega) (by omega)
  have F14 : Hid (∀ W : World, Calls Tryd.prog 19 #[.int .u32 (p : Int), .int .u32 (a : Int)] W fun e w' => e = .returned (.int .u32 (n : Int)) ∧ W = w') := Lib.hid fun W => by rw [← hne]; exact mneg_any p a W hp ha
  have F15 : Hid (∀ W : World, Calls Tryd.prog 13 #[.int .u32 (p : Int), .int .u32 (a : Int), .int .u32 (n : Int)] W fun e w' => e = .returned (.int .u32 0) ∧ W = w') := Lib.hid fun W => by have e : (a + n) % p = 0 := (by rw [← hne]; exact neg_mod ha); have := madd_any p a n W hp (by omega) (by omega); rw [e] at this; exact this
  have F16 : Hid (∀ W : World, Calls Tryd.prog 15 #[.int .u32 (p : Int), .int .u32 (s : Int), .int .u32 (b : Int)] W fun e w' => e = .returned (.int .u32 (a : Int)) ∧ W = w') := Lib.hid fun W => by have e : (s + p - b) % p = a := (by rw [← hse]; exact back_mod ha hb); have := msub_any p s b W hp (by omega) (by omega); rw [e] at this; exact this
  have F17 : Hid (∀ W : World, Calls Tryd.prog 13 #[.int .u32 (p : Int), .int .u32 (a : Int), .int .u32 0] W fun e w' => e = .returned (.int .u32 (a : Int)) ∧ W = w') := Lib.hid fun W => by have e : (a + 0) % p = a := (by rw [Nat.add_zero, Nat.mod_eq_of_lt ha]); have := madd_any p a 0 W hp (by omega) (by omega); rw [e] at this; exact this
  have F18 : Hid (∀ W : World, Calls Tryd.prog 17 #[.int .u32 (p : Int), .int .u32 (a : Int), .int .u32 1] W fun e w' => e = .returned (.int .u32 (a : Int)) ∧ W = w') := Lib.hid fun W => by have e : a * 1 % p = a := (by rw [Nat.mul_one, Nat.mod_eq_of_lt ha]); have := mmul_any p a 1 W hp (by omega) (by omega) (by omega); rw [e] at this; exact this
  clear hg hf hp hp2 ha hb hc hue ul hve vl hxe xl hye yl hze zl hge gl hne nl hse hte sl tl
  go_enter Tryd.func10, Tryd.ntmps10
  go_wp2
  go_quiet (fail)
  go_wp2_with (first
    | (go_at_call 11; (with_reducible refine (HMAY.out _).mono ?_); rintro e w' ⟨⟨r, rfl, _⟩, rfl⟩)
    | (go_at_call 12; (with_reducible refine (HAWK.out _ (by first | (go_grown; done) | exact below_drewN (by go_grown) _)).mono ?_); rintro e w1 ⟨rfl, hb⟩; have HB := Lib.hid hb; clear hb)
    | (go_at_call 13; (with_reducible refine (F1.out _).mono ?_); rintro e w' ⟨rfl, rfl⟩)
    | (go_at_call 17; (with_reducible refine (F2.out _).mono ?_); rintro e w' ⟨rfl, rfl⟩)
    | (go_at_call 13; (with_reducible refine (F3.out _).mono ?_); rintro e w' ⟨rfl, rfl⟩)
    | (go_at_call 17; (with_reducible refine (F4.out _).mono ?_); rintro e w' ⟨rfl, rfl⟩)
    | (go_at_call 13; (with_reducible refine (F5.out _).mono ?_); rintro e w' ⟨rfl, rfl⟩)
    | (go_at_call 13; (with_reducible refine (F6.out _).mono ?_); rintro e w' ⟨rfl, rfl⟩)
    | (go_at_call 13; (with_reducible refine (F7.out _).mono ?_); rintro e w' ⟨rfl, rfl⟩)
    | (go_at_call 17; (with_reducible refine (F8.out _).mono ?_); rintro e w' ⟨rfl, rfl⟩)
    | (go_at_call 17; (with_reducible refine (F9.out _).mono ?_); rintro e w' ⟨rfl, rfl⟩)
    | (go_at_call 17; (with_reducible refine (F10.out _).mono ?_); rintro e w' ⟨rfl, rfl⟩)
    | (go_at_call 17; (with_reducible refine (F11.out _).mono ?_); rintro e w' ⟨rfl, rfl⟩)
    | (go_at_call 17; (with_reducible refine (F12.out _).mono ?_); rintro e w' ⟨rfl, rfl⟩)
    | (go_at_call 13; (with_reducible refine (F13.out _).mono ?_); rintro e w' ⟨rfl, rfl⟩)
    | (go_at_call 19; (with_reducible refine (F14.out _).mono ?_); rintro e w' ⟨rfl, rfl⟩)
    | (go_at_call 13; (with_reducible refine (F15.out _).mono ?_); rintro e w' ⟨rfl, rfl⟩)
    | (go_at_call 15; (with_reducible refine (F16.out _).mono ?_); rintro e w' ⟨rfl, rfl⟩)
    | (go_at_call 13; (with_reducible refine (F17.out _).mono ?_); rintro e w' ⟨rfl, rfl⟩)
    | (go_at_call 17; (with_reducible refine (F18.out _).mono ?_); rintro e w' ⟨rfl, rfl⟩))
  all_goals
    go_ret
    exact ⟨ret_bool (by first | rfl | (simp; done)), HB.out⟩
set_option maxHeartbeats 2000000 in
theorem law_laws (p a b c : Nat) (w : World) (hg : w.cell? ⟨0, 1, none⟩ = some (.int .u8 1)) (hp : p ≤ 4294967295) (ha : a ≤ 4294967295) (hb : b ≤ 4294967295) (hc : c ≤ 4294967295) :
    Calls Tryd.prog 10 #[.int .u32 (p : Int), .agg #[.int .u32 (a : Int), .int .u32 (b : Int), .int .u32 (c : Int)]] w fun e w' => e = .returned (.bool true) ∧ Below w.heap.size w w' := by
  by_cases hc0 : FieldP p ∧ a < p ∧ b < p ∧ c < p
  · exact law_laws_yes p a b c w hg hc0.1 hc0.2.1 hc0.2.2.1 hc0.2.2.2

  · have HAWK : Hid (∀ W : World, Below w.heap.size w W → Calls Tryd.prog 12 #[] W fun e w' => e = .returned (.bool true) ∧ Below w.heap.size w w') := Lib.hid fun W hb => (awake_any W ((hb.cell (World.block_lt_of_cell? w _ hg)).trans hg)).mono fun e w' ⟨h1, h2⟩ => ⟨h1, below_chain hb h2⟩
    by_cases hcp : c < p
    · have cli : ¬ (p : Int) ≤ (c : Int) := by omega
      have HMAY : Hid (∀ W : World, Calls Tryd.prog 11 #[.int .u32 (p : Int), .int .u32 (a : Int), .int .u32 (b : Int)] W fun e w' => e = .returned (.bool false) ∧ W = w') := Lib.hid fun W => (may_any p a b W (by omega) (by omega) (by omega)).mono fun e w' ⟨⟨r, h1, h2⟩, h3⟩ => ⟨by
        cases r with
        | false => exact h1
        | true => exact absurd ⟨(h2 rfl).1, (h2 rfl).2.1, (h2 rfl).2.2, hcp⟩ hc0, h3⟩
      clear hc0 hg
      go_enter Tryd.func10, Tryd.ntmps10
      go_wp2
      go_quiet (fail)
      go_wp2_with (first
        | (go_at_call 11; (with_reducible refine (HMAY.out _).mono ?_); rintro e w' ⟨rfl, rfl⟩)
        | (go_at_call 12; (with_reducible refine (HAWK.out _ (by first | (go_grown; done) | exact below_drewN (by go_grown) _)).mono ?_); rintro e w1 ⟨rfl, hb⟩; have HB := Lib.hid hb; clear hb))
      all_goals
        go_ret
        exact ⟨ret_bool (by first | rfl | (simp; done)), HB.out⟩
    · have cli : (p : Int) ≤ (c : Int) := by omega
      have HMAY : Hid (∀ W : World, Calls Tryd.prog 11 #[.int .u32 (p : Int), .int .u32 (a : Int), .int .u32 (b : Int)] W fun e w' => (∃ r : Bool, e = .returned (.bool r) ∧ True) ∧ W = w') := Lib.hid fun W => (may_any p a b W (by omega) (by omega) (by omega)).mono fun e w' ⟨⟨r, h1, h2⟩, h3⟩ => ⟨⟨r, h1, trivial⟩, h3⟩
      clear hc0 hg
      go_enter Tryd.func10, Tryd.ntmps10
      go_wp2
      go_quiet (fail)
      go_wp2_with (first
        | (go_at_call 11; (with_reducible refine (HMAY.out _).mono ?_); rintro e w' ⟨⟨r, rfl, _⟩, rfl⟩)
        | (go_at_call 12; (with_reducible refine (HAWK.out _ (by first | (go_grown; done) | exact below_drewN (by go_grown) _)).mono ?_); rintro e w1 ⟨rfl, hb⟩; have HB := Lib.hid hb; clear hb))
      all_goals
        go_ret
        exact ⟨ret_bool (by first | rfl | (simp; done)), HB.out⟩
set_option maxHeartbeats 4000000 in
theorem law_inv_yes (p a b : Nat) (w : World) (hg : w.cell? ⟨0, 1, none⟩ = some (.int .u8 1)) (hf : FieldP p) (ha : a < p) (hb : b < p) (ha0 : 0 < a) :
    Calls Tryd.prog 5 #[.int .u32 (p : Int), .int .u32 (a : Int), .int .u32 (b : Int)] w fun e w' => e = .returned (.bool true) ∧ Below w.heap.size w w' := by
  have hp := hf.2.1
  have hp2 := hf.1
  obtain ⟨x, hxe⟩ : ∃ x, a ^ (p - 2) % p = x := ⟨_, rfl⟩
  obtain ⟨y, hye⟩ : ∃ y, b * a % p = y := ⟨_, rfl⟩
  have HAWK : Hid (∀ W : World, Below w.heap.size w W → Calls Tryd.prog 12 #[] W fun e w' => e = .returned (.bool true) ∧ Below w.heap.size w w') := Lib.hid fun W hb => (awake_any W ((hb.cell (World.block_lt_of_cell? w _ hg)).trans hg)).mono fun e w' ⟨h1, h2⟩ => ⟨h1, below_chain hb h2⟩
  have HMAY : Hid (∀ W : World, Calls Tryd.prog 11 #[.int .u32 (p : Int), .int .u32 (a : Int), .int .u32 (b : Int)] W fun e w' => (∃ r : Bool, e = .returned (.bool r) ∧ True) ∧ W = w') := Lib.hid fun W => (may_any p a b W (by omega) (by omega) (by omega)).mono fun e w' ⟨⟨r, h1, _⟩, h2⟩ => ⟨⟨r, h1, trivial⟩, h2⟩
  have xl : x < p := by rw [← hxe]; exact Nat.mod_lt _ (by omega)
  have yl : y < p := by rw [← hye]; exact Nat.mod_lt _ (by omega)
  have xli : (x : Int) < (p : Int) := by omega
  have ha1 : ((a : Int) == 0) = false := by rw [beq_eq_false_iff_ne]; omega
  have F1 : Hid (∀ W : World, Calls Tryd.prog 23 #[.int .u32 (p : Int), .int .u32 (a : Int)] W fun e w' => e = .returned (.tuple #[.int .u32 (x : Int), .int .i64 0]) ∧ W = w') := Lib.hid fun W => by rw [← hxe]; exact minv_any p a W hf.prime hp ha ha0
  have F2 : Hid (∀ W : World, Calls Tryd.prog 24 #[.int .u32 (p : Int), .int .u32 (a : Int)] W fun e w' => e = .returned (.tuple #[.int .u32 (x : Int), .int .i64 0]) ∧ W = w') := Lib.hid fun W => by rw [← hxe]; exact rinv_any p a W hp hp2 ha ha0
  have F3 : Hid (∀ W : World, Calls Tryd.prog 17 #[.int .u32 (p : Int), .int .u32 (a : Int), .int .u32 (x : Int)] W fun e w' => e = .returned (.int .u32 1) ∧ W = w') := Lib.hid fun W => by have e : a * x % p = 1 := (by rw [← hxe]; exact hf.prime.inv (by rw [Nat.mod_eq_of_lt ha]; omega)); have := mmul_any p a x W hp (by omega) (by omega) (by omega); rw [e] at this; exact this
  have F4 : Hid (∀ W : World, Calls Tryd.prog 17 #[.int .u32 (p : Int), .int .u32 (b : Int), .int .u32 (a : Int)] W fun e w' => e = .returned (.int .u32 (y : Int)) ∧ W = w') := Lib.hid fun W => by have e : b * a % p = y := (hye); rw [← e]; exact mmul_any p b a W hp (by omega) (by omega) (by omega)
  have F5 : Hid (∀ W : World, Calls Tryd.prog 17 #[.int .u32 (p : Int), .int .u32 (y : Int), .int .u32 (x : Int)] W fun e w' => e = .returned (.int .u32 (b : Int)) ∧ W = w') := Lib.hid fun W => by have e : y * x % p = b := (by rw [← hye, Nat.mod_mul_mod, Nat.mul_assoc, ← Nat.mul_mod_mod, ← hxe, hf.prime.inv (by rw [Nat.mod_eq_of_lt ha]; omega), Nat.mul_one, Nat.mod_eq_of_lt hb]); rw [← e]; exact mmul_any p y x W hp (by omega) (by omega) (by omega)
  clear hg hf hp hp2 ha hb ha0 hxe hye xl yl
  go_enter Tryd.func5, Tryd.ntmps5
  go_wp2_with (first
    | (go_at_call 11; (with_reducible refine (HMAY.out _).mono ?_); rintro e w' ⟨⟨r, rfl, _⟩, rfl⟩)
    | (go_at_call 12; (with_reducible refine (HAWK.out _ (by first | (go_grown; done) | exact below_drewN (by go_grown) _)).mono ?_); rintro e w1 ⟨rfl, hb⟩; have HB := Lib.hid hb; clear hb)
    | (go_at_call 23; (with_reducible refine (F1.out _).mono ?_); rintro e w' ⟨rfl, rfl⟩)
    | (go_at_call 24; (with_reducible refine (F2.out _).mono ?_); rintro e w' ⟨rfl, rfl⟩)
    | (go_at_call 17; (with_reducible refine (F3.out _).mono ?_); rintro e w' ⟨rfl, rfl⟩)
    | (go_at_call 17; (with_reducible refine (F4.out _).mono ?_); rintro e w' ⟨rfl, rfl⟩)
    | (go_at_call 17; (with_reducible refine (F5.out _).mono ?_); rintro e w' ⟨rfl, rfl⟩))
  all_goals
    go_ret
    exact ⟨ret_bool (by first | rfl | (simp; done)), HB.out⟩
set_option maxHeartbeats 4000000 in
theorem law_inv_nought_yes (p b : Nat) (w : World) (hg : w.cell? ⟨0, 1, none⟩ = some (.int .u8 1)) (hf : FieldP p) (hb : b < p) :
    Calls Tryd.prog 5 #[.int .u32 (p : Int), .int .u32 0, .int .u32 (b : Int)] w fun e w' => e = .returned (.bool true) ∧ Below w.heap.size w w' := by
  have hp := hf.2.1
  have hp2 := hf.1
  have HAWK : Hid (∀ W : World, Below w.heap.size w W → Calls Tryd.prog 12 #[] W fun e w' => e = .returned (.bool true) ∧ Below w.heap.size w w') := Lib.hid fun W hb => (awake_any W ((hb.cell (World.block_lt_of_cell? w _ hg)).trans hg)).mono fun e w' ⟨h1, h2⟩ => ⟨h1, below_chain hb h2⟩
  have HMAY : Hid (∀ W : World, Calls Tryd.prog 11 #[.int .u32 (p : Int), .int .u32 0, .int .u32 (b : Int)] W fun e w' => (∃ r : Bool, e = .returned (.bool r) ∧ True) ∧ W = w') := Lib.hid fun W => (may_any p 0 b W (by omega) (by omega) (by omega)).mono fun e w' ⟨⟨r, h1, _⟩, h2⟩ => ⟨⟨r, h1, trivial⟩, h2⟩
  have F1 : Hid (∀ W : World, Calls Tryd.prog 23 #[.int .u32 (p : Int), .int .u32 0] W fun e w' => e = .returned (.tuple #[.int .u32 0, .int .i64 3]) ∧ W = w') := Lib.hid fun W => by exact minv_nought p W hp
  have F2 : Hid (∀ W : World, Calls Tryd.prog 24 #[.int .u32 (p : Int), .int .u32 0] W fun e w' => e = .returned (.tuple #[.int .u32 0, .int .i64 3]) ∧ W = w') := Lib.hid fun W => by exact rinv_nought p W
  clear hg hf hp hp2 hb
  go_enter Tryd.func5, Tryd.ntmps5
  go_wp2_with (first
    | (go_at_call 11; (with_reducible refine (HMAY.out _).mono ?_); rintro e w' ⟨⟨r, rfl, _⟩, rfl⟩)
    | (go_at_call 12; (with_reducible refine (HAWK.out _ (by first | (go_grown; done) | exact below_drewN (by go_grown) _)).mono ?_); rintro e w1 ⟨rfl, hb⟩; have HB := Lib.hid hb; clear hb)
    | (go_at_call 23; (with_reducible refine (F1.out _).mono ?_); rintro e w' ⟨rfl, rfl⟩)
    | (go_at_call 24; (with_reducible refine (F2.out _).mono ?_); rintro e w' ⟨rfl, rfl⟩))
  all_goals
    go_ret
    exact ⟨ret_bool (by first | rfl | (simp; done)), HB.out⟩
set_option maxHeartbeats 2000000 in
theorem law_inverses (p a b : Nat) (w : World) (hg : w.cell? ⟨0, 1, none⟩ = some (.int .u8 1)) (hp : p ≤ 4294967295) (ha : a ≤ 4294967295) (hb : b ≤ 4294967295) :
    Calls Tryd.prog 5 #[.int .u32 (p : Int), .int .u32 (a : Int), .int .u32 (b : Int)] w fun e w' => e = .returned (.bool true) ∧ Below w.heap.size w w' := by
  by_cases hc0 : FieldP p ∧ a < p ∧ b < p
  · by_cases ha0 : a = 0
    · subst ha0
      exact law_inv_nought_yes p b w hg hc0.1 hc0.2.2
    · exact law_inv_yes p a b w hg hc0.1 hc0.2.1 hc0.2.2 (by omega)
  · have HAWK : Hid (∀ W : World, Below w.heap.size w W → Calls Tryd.prog 12 #[] W fun e w' => e = .returned (.bool true) ∧ Below w.heap.size w w') := Lib.hid fun W hb => (awake_any W ((hb.cell (World.block_lt_of_cell? w _ hg)).trans hg)).mono fun e w' ⟨h1, h2⟩ => ⟨h1, below_chain hb h2⟩
    have HMAY : Hid (∀ W : World, Calls Tryd.prog 11 #[.int .u32 (p : Int), .int .u32 (a : Int), .int .u32 (b : Int)] W fun e w' => e = .returned (.bool false) ∧ W = w') := Lib.hid fun W => (may_any p a b W (by omega) (by omega) (by omega)).mono fun e w' ⟨⟨r, h1, h2⟩, h3⟩ => ⟨by
        cases r with
        | false => exact h1
        | true => exact absurd ⟨(h2 rfl).1, (h2 rfl).2⟩ hc0, h3⟩
    clear hc0 hg 
    go_enter Tryd.func5, Tryd.ntmps5
    go_wp2_with (first
      | (go_at_call 11; (with_reducible refine (HMAY.out _).mono ?_); rintro e w' ⟨rfl, rfl⟩)
      | (go_at_call 12; (with_reducible refine (HAWK.out _ (by first | (go_grown; done) | exact below_drewN (by go_grown) _)).mono ?_); rintro e w1 ⟨rfl, hb⟩; have HB := Lib.hid hb; clear hb))
    all_goals
      go_ret
      exact ⟨ret_bool (by first | rfl | (simp; done)), HB.out⟩
set_option maxHeartbeats 4000000 in
theorem law_pow_yes (p a n m : Nat) (w : World) (hg : w.cell? ⟨0, 1, none⟩ = some (.int .u8 1)) (hf : FieldP p) (ha : a < p) (hn : n ≤ 18446744073709551615) (hm : m ≤ 18446744073709551615) (hn2 : n ≤ 4611686018427387904) (hm2 : m ≤ 4611686018427387904) :
    Calls Tryd.prog 4 #[.int .u32 (p : Int), .int .u32 (a : Int), .agg #[.int .u64 (n : Int), .int .u64 (m : Int)]] w fun e w' => e = .returned (.bool true) ∧ Below w.heap.size w w' := by
  have hp := hf.2.1
  have hp2 := hf.1
  obtain ⟨x, hxe⟩ : ∃ x, a ^ n % p = x := ⟨_, rfl⟩
  obtain ⟨y, hye⟩ : ∃ y, a ^ m % p = y := ⟨_, rfl⟩
  obtain ⟨k, hke⟩ : ∃ k, n + m = k := ⟨_, rfl⟩
  obtain ⟨z, hze⟩ : ∃ z, a ^ k % p = z := ⟨_, rfl⟩
  have HAWK : Hid (∀ W : World, Below w.heap.size w W → Calls Tryd.prog 12 #[] W fun e w' => e = .returned (.bool true) ∧ Below w.heap.size w w') := Lib.hid fun W hb => (awake_any W ((hb.cell (World.block_lt_of_cell? w _ hg)).trans hg)).mono fun e w' ⟨h1, h2⟩ => ⟨h1, below_chain hb h2⟩
  have HMAY : Hid (∀ W : World, Calls Tryd.prog 11 #[.int .u32 (p : Int), .int .u32 (a : Int), .int .u32 0] W fun e w' => (∃ r : Bool, e = .returned (.bool r) ∧ True) ∧ W = w') := Lib.hid fun W => (may_any p a 0 W (by omega) (by omega) (by omega)).mono fun e w' ⟨⟨r, h1, _⟩, h2⟩ => ⟨⟨r, h1, trivial⟩, h2⟩
  have xl : x < p := by rw [← hxe]; exact Nat.mod_lt _ (by omega)
  have yl : y < p := by rw [← hye]; exact Nat.mod_lt _ (by omega)
  have hk : (n : Int) + (m : Int) = (k : Int) := by omega
  have hn3 : ¬ 4611686018427387904 < (n : Int) := by omega
  have hm3 : ¬ 4611686018427387904 < (m : Int) := by omega
  have hkl : (k : Int) ≤ 9223372036854775808 := by omega
  have hpu : (p : Int) ≤ 2147483647 := by omega
  have F1 : Hid (∀ W : World, Calls Tryd.prog 21 #[.int .u32 (p : Int), .int .u32 (a : Int), .int .u64 (n : Int)] W fun e w' => e = .returned (.int .u32 (x : Int)) ∧ W = w') := Lib.hid fun W => by rw [← hxe]; exact mpow_any p a n W hp hp2 ha hn
  have F2 : Hid (∀ W : World, Calls Tryd.prog 22 #[.int .u32 (p : Int), .int .u32 (a : Int), .int .u64 (n : Int)] W fun e w' => e = .returned (.int .u32 (x : Int)) ∧ W = w') := Lib.hid fun W => by rw [← hxe]; exact rpow_any p a n W hp hp2 ha hn
  have F3 : Hid (∀ W : World, Calls Tryd.prog 21 #[.int .u32 (p : Int), .int .u32 (a : Int), .int .u64 (p : Int)] W fun e w' => e = .returned (.int .u32 (a : Int)) ∧ W = w') := Lib.hid fun W => by have e : a ^ p % p = a := (hf.prime.fermat_all ha); have := mpow_any p a p W hp hp2 ha (by omega); rw [e] at this; exact this
  have F4 : Hid (∀ W : World, Calls Tryd.prog 21 #[.int .u32 (p : Int), .int .u32 (a : Int), .int .u64 (m : Int)] W fun e w' => e = .returned (.int .u32 (y : Int)) ∧ W = w') := Lib.hid fun W => by rw [← hye]; exact mpow_any p a m W hp hp2 ha hm
  have F5 : Hid (∀ W : World, Calls Tryd.prog 21 #[.int .u32 (p : Int), .int .u32 (a : Int), .int .u64 (k : Int)] W fun e w' => e = .returned (.int .u32 (z : Int)) ∧ W = w') := Lib.hid fun W => by rw [← hze]; exact mpow_any p a k W hp hp2 ha (by omega)
  have F6 : Hid (∀ W : World, Calls Tryd.prog 17 #[.int .u32 (p : Int), .int .u32 (x : Int), .int .u32 (y : Int)] W fun e w' => e = .returned (.int .u32 (z : Int)) ∧ W = w') := Lib.hid fun W => by have e : x * y % p = z := (by rw [← hxe, ← hye, pow_add_mod, hke, hze]); rw [← e]; exact mmul_any p x y W hp (by omega) (by omega) (by omega)
  clear hg hf hp hp2 ha hxe hye hze hke xl yl
  go_enter Tryd.func4, Tryd.ntmps4
  go_wp2_with (first
    | (go_at_call 11; (with_reducible refine (HMAY.out _).mono ?_); rintro e w' ⟨⟨r, rfl, _⟩, rfl⟩)
    | (go_at_call 12; (with_reducible refine (HAWK.out _ (by first | (go_grown; done) | exact below_drewN (by go_grown) _)).mono ?_); rintro e w1 ⟨rfl, hb⟩; have HB := Lib.hid hb; clear hb)
    | (go_at_call 21; (with_reducible refine (F1.out _).mono ?_); rintro e w' ⟨rfl, rfl⟩)
    | (go_at_call 22; (with_reducible refine (F2.out _).mono ?_); rintro e w' ⟨rfl, rfl⟩)
    | (go_at_call 21; (with_reducible refine (F3.out _).mono ?_); rintro e w' ⟨rfl, rfl⟩)
    | (go_at_call 21; (with_reducible refine (F4.out _).mono ?_); rintro e w' ⟨rfl, rfl⟩)
    | (go_at_call 21; (with_reducible refine (F5.out _).mono ?_); rintro e w' ⟨rfl, rfl⟩)
    | (go_at_call 17; (with_reducible refine (F6.out _).mono ?_); rintro e w' ⟨rfl, rfl⟩))
  · go_ret
    exact ⟨ret_bool (by first | rfl | (simp; done)), HB.out⟩
  go_quiet (fail)
  go_wp2_with (first
    | (go_at_call 11; (with_reducible refine (HMAY.out _).mono ?_); rintro e w' ⟨⟨r, rfl, _⟩, rfl⟩)
    | (go_at_call 12; (with_reducible refine (HAWK.out _ (by first | (go_grown; done) | exact below_drewN (by go_grown) _)).mono ?_); rintro e w1 ⟨rfl, hb⟩; have HB := Lib.hid hb; clear hb)
    | (go_at_call 21; (with_reducible refine (F1.out _).mono ?_); rintro e w' ⟨rfl, rfl⟩)
    | (go_at_call 22; (with_reducible refine (F2.out _).mono ?_); rintro e w' ⟨rfl, rfl⟩)
    | (go_at_call 21; (with_reducible refine (F3.out _).mono ?_); rintro e w' ⟨rfl, rfl⟩)
    | (go_at_call 21; (with_reducible refine (F4.out _).mono ?_); rintro e w' ⟨rfl, rfl⟩)
    | (go_at_call 21; (with_reducible refine (F5.out _).mono ?_); rintro e w' ⟨rfl, rfl⟩)
    | (go_at_call 17; (with_reducible refine (F6.out _).mono ?_); rintro e w' ⟨rfl, rfl⟩))
  all_goals
    go_ret
    exact ⟨ret_bool (by first | rfl | (simp; done)), HB.out⟩
set_option maxHeartbeats 4000000 in
theorem law_pow_far_yes (p a n m : Nat) (w : World) (hg : w.cell? ⟨0, 1, none⟩ = some (.int .u8 1)) (hf : FieldP p) (ha : a < p) (hn : n ≤ 18446744073709551615) (hm : m ≤ 18446744073709551615) (hf2 : 4611686018427387904 < n ∨ 4611686018427387904 < m) :
    Calls Tryd.prog 4 #[.int .u32 (p : Int), .int .u32 (a : Int), .agg #[.int .u64 (n : Int), .int .u64 (m : Int)]] w fun e w' => e = .returned (.bool true) ∧ Below w.heap.size w w' := by
  have hp := hf.2.1
  have hp2 := hf.1
  obtain ⟨x, hxe⟩ : ∃ x, a ^ n % p = x := ⟨_, rfl⟩
  have HAWK : Hid (∀ W : World, Below w.heap.size w W → Calls Tryd.prog 12 #[] W fun e w' => e = .returned (.bool true) ∧ Below w.heap.size w w') := Lib.hid fun W hb => (awake_any W ((hb.cell (World.block_lt_of_cell? w _ hg)).trans hg)).mono fun e w' ⟨h1, h2⟩ => ⟨h1, below_chain hb h2⟩
  have HMAY : Hid (∀ W : World, Calls Tryd.prog 11 #[.int .u32 (p : Int), .int .u32 (a : Int), .int .u32 0] W fun e w' => (∃ r : Bool, e = .returned (.bool r) ∧ True) ∧ W = w') := Lib.hid fun W => (may_any p a 0 W (by omega) (by omega) (by omega)).mono fun e w' ⟨⟨r, h1, _⟩, h2⟩ => ⟨⟨r, h1, trivial⟩, h2⟩
  have hfi : (decide (4611686018427387904 < (n : Int)) || decide (4611686018427387904 < (m : Int))) = true := by
    rw [Bool.or_eq_true, decide_eq_true_iff, decide_eq_true_iff]; omega
  have hpu : (p : Int) ≤ 2147483647 := by omega
  have F1 : Hid (∀ W : World, Calls Tryd.prog 21 #[.int .u32 (p : Int), .int .u32 (a : Int), .int .u64 (n : Int)] W fun e w' => e = .returned (.int .u32 (x : Int)) ∧ W = w') := Lib.hid fun W => by rw [← hxe]; exact mpow_any p a n W hp hp2 ha hn
  have F2 : Hid (∀ W : World, Calls Tryd.prog 22 #[.int .u32 (p : Int), .int .u32 (a : Int), .int .u64 (n : Int)] W fun e w' => e = .returned (.int .u32 (x : Int)) ∧ W = w') := Lib.hid fun W => by rw [← hxe]; exact rpow_any p a n W hp hp2 ha hn
  have F3 : Hid (∀ W : World, Calls Tryd.prog 21 #[.int .u32 (p : Int), .int .u32 (a : Int), .int .u64 (p : Int)] W fun e w' => e = .returned (.int .u32 (a : Int)) ∧ W = w') := Lib.hid fun W => by have e : a ^ p % p = a := (hf.prime.fermat_all ha); have := mpow_any p a p W hp hp2 ha (by omega); rw [e] at this; exact this
  clear hg hf hp hp2 ha hxe
  go_enter Tryd.func4, Tryd.ntmps4
  go_wp2_with (first
    | (go_at_call 11; (with_reducible refine (HMAY.out _).mono ?_); rintro e w' ⟨⟨r, rfl, _⟩, rfl⟩)
    | (go_at_call 12; (with_reducible refine (HAWK.out _ (by first | (go_grown; done) | exact below_drewN (by go_grown) _)).mono ?_); rintro e w1 ⟨rfl, hb⟩; have HB := Lib.hid hb; clear hb)
    | (go_at_call 21; (with_reducible refine (F1.out _).mono ?_); rintro e w' ⟨rfl, rfl⟩)
    | (go_at_call 22; (with_reducible refine (F2.out _).mono ?_); rintro e w' ⟨rfl, rfl⟩)
    | (go_at_call 21; (with_reducible refine (F3.out _).mono ?_); rintro e w' ⟨rfl, rfl⟩))
  · go_ret
    exact ⟨ret_bool (by first | rfl | (simp; done)), HB.out⟩
  go_quiet (fail)
  go_wp2_with (first
    | (go_at_call 11; (with_reducible refine (HMAY.out _).mono ?_); rintro e w' ⟨⟨r, rfl, _⟩, rfl⟩)
    | (go_at_call 12; (with_reducible refine (HAWK.out _ (by first | (go_grown; done) | exact below_drewN (by go_grown) _)).mono ?_); rintro e w1 ⟨rfl, hb⟩; have HB := Lib.hid hb; clear hb)
    | (go_at_call 21; (with_reducible refine (F1.out _).mono ?_); rintro e w' ⟨rfl, rfl⟩)
    | (go_at_call 22; (with_reducible refine (F2.out _).mono ?_); rintro e w' ⟨rfl, rfl⟩)
    | (go_at_call 21; (with_reducible refine (F3.out _).mono ?_); rintro e w' ⟨rfl, rfl⟩))
  all_goals
    go_ret
    exact ⟨ret_bool (by first | rfl | (simp; done)), HB.out⟩
set_option maxHeartbeats 2000000 in
theorem law_powers (p a n m : Nat) (w : World) (hg : w.cell? ⟨0, 1, none⟩ = some (.int .u8 1)) (hp : p ≤ 4294967295) (ha : a ≤ 4294967295) (hn : n ≤ 18446744073709551615) (hm : m ≤ 18446744073709551615) :
    Calls Tryd.prog 4 #[.int .u32 (p : Int), .int .u32 (a : Int), .agg #[.int .u64 (n : Int), .int .u64 (m : Int)]] w fun e w' => e = .returned (.bool true) ∧ Below w.heap.size w w' := by
  by_cases hc0 : FieldP p ∧ a < p
  · by_cases hf2 : 4611686018427387904 < n ∨ 4611686018427387904 < m
    · exact law_pow_far_yes p a n m w hg hc0.1 hc0.2 hn hm hf2
    · exact law_pow_yes p a n m w hg hc0.1 hc0.2 hn hm (by omega) (by omega)
  · have HAWK : Hid (∀ W : World, Below w.heap.size w W → Calls Tryd.prog 12 #[] W fun e w' => e = .returned (.bool true) ∧ Below w.heap.size w w') := Lib.hid fun W hb => (awake_any W ((hb.cell (World.block_lt_of_cell? w _ hg)).trans hg)).mono fun e w' ⟨h1, h2⟩ => ⟨h1, below_chain hb h2⟩
    have HMAY : Hid (∀ W : World, Calls Tryd.prog 11 #[.int .u32 (p : Int), .int .u32 (a : Int), .int .u32 0] W fun e w' => e = .returned (.bool false) ∧ W = w') := Lib.hid fun W => (may_any p a 0 W (by omega) (by omega) (by omega)).mono fun e w' ⟨⟨r, h1, h2⟩, h3⟩ => ⟨by
        cases r with
        | false => exact h1
        | true => exact absurd ⟨(h2 rfl).1, (h2 rfl).2.1⟩ hc0, h3⟩
    clear hc0 hg 
    go_enter Tryd.func4, Tryd.ntmps4
    go_wp2_with (first
      | (go_at_call 11; (with_reducible refine (HMAY.out _).mono ?_); rintro e w' ⟨rfl, rfl⟩)
      | (go_at_call 12; (with_reducible refine (HAWK.out _ (by first | (go_grown; done) | exact below_drewN (by go_grown) _)).mono ?_); rintro e w1 ⟨rfl, hb⟩; have HB := Lib.hid hb; clear hb))
    all_goals
      go_ret
      exact ⟨ret_bool (by first | rfl | (simp; done)), HB.out⟩
end Go.Proofs.YtehlnkhbfbnadaaDoor
