/- The walks of ModpRoots and ModpSquares. -/
import Derived.Test.YtehlnkhbfbnadaaDoorLawB
import Derived.Test.YtehlnkhbfbnadaaDoorRootB
namespace Go.Proofs.YtehlnkhbfbnadaaDoor
open Go.RowKit

theorem Tab32.one {w : World} (h : Tab32 w) : w.cell? ⟨0, 1, none⟩ = some (.int .u8 1) := h 1 (by decide)
theorem neg_sq {p r : Nat} (hr : r < p) : (p - r) * (p - r) % p = r * r % p := by
  have e : ((p - r) * (p - r) + p * (2 * r)) = r * r + p * p := by
    obtain ⟨s, rfl⟩ : ∃ s, p = r + s := ⟨p - r, by omega⟩
    rw [Nat.add_sub_cancel_left]
    have e1 : (r + s) * (2 * r) = 2 * (r * r) + 2 * (s * r) := by rw [Nat.add_mul, Nat.mul_left_comm, Nat.mul_left_comm s]
    have e2 : (r + s) * (r + s) = r * r + 2 * (s * r) + s * s := by rw [Nat.add_mul, Nat.mul_add, Nat.mul_add, Nat.mul_comm r s]; omega
    omega
  have h1 := congrArg (· % p) e
  simp only [Nat.add_mul_mod_self_left] at h1
  exact h1
theorem min_sq {p r m : Nat} (hr : r < p) (hm : m = min r (p - r)) : m * m % p = r * r % p := by
  rcases Nat.le_total r (p - r) with h | h
  · rw [hm, Nat.min_eq_left h]
  · rw [hm, Nat.min_eq_right h]; exact neg_sq hr
theorem root_pos {p r a : Nat} (h : r * r % p = a) (ha : 0 < a) : 0 < r := by
  rcases Nat.eq_zero_or_pos r with h0 | h0
  · subst h0; simp at h; omega
  · exact h0

set_option maxHeartbeats 4000000 in
theorem roots_nought (p : Nat) (w : World) (hg : Tab32 w) (hp : p ≤ 2147483647) (hp2 : 2 ≤ p) :
    Calls Tryd.prog 8 #[.int .u32 (p : Int), .int .u32 0] w fun e w' => e = .returned (.bool true) ∧ Below w.heap.size w w' := by
  have HAWK : Hid (∀ W : World, Below w.heap.size w W → Calls Tryd.prog 12 #[] W fun e w' => e = .returned (.bool true) ∧ Below w.heap.size w w') := Lib.hid fun W hb => (awake_any W ((hb.cell (World.block_lt_of_cell? w _ hg.one)).trans hg.one)).mono fun e w' ⟨h1, h2⟩ => ⟨h1, below_chain hb h2⟩
  have HMAY : Hid (∀ W : World, Calls Tryd.prog 11 #[.int .u32 (p : Int), .int .u32 0, .int .u32 0] W fun e w' => (∃ r : Bool, e = .returned (.bool r) ∧ True) ∧ W = w') := Lib.hid fun W => (may_any p 0 0 W (by omega) (by omega) (by omega)).mono fun e w' ⟨⟨r, h1, _⟩, h2⟩ => ⟨⟨r, h1, trivial⟩, h2⟩
  have F1 : Hid (∀ W : World, Calls Tryd.prog 27 #[.int .u32 (p : Int), .int .u32 0] W fun e w' => e = .returned (.tuple #[.int .u32 0, .int .i64 0]) ∧ W = w') := Lib.hid fun W => by exact mroot_nought p W hp
  have F2 : Hid (∀ W : World, Calls Tryd.prog 28 #[.int .u32 (p : Int), .int .u32 0] W fun e w' => e = .returned (.tuple #[.int .u32 0, .int .i64 0]) ∧ W = w') := Lib.hid fun W => by exact rroot_nought p W hp
  have F3 : Hid (∀ W : World, Calls Tryd.prog 17 #[.int .u32 (p : Int), .int .u32 0, .int .u32 0] W fun e w' => e = .returned (.int .u32 0) ∧ W = w') := Lib.hid fun W => by have e : 0 * 0 % p = 0 := (by rw [Nat.zero_mul, Nat.zero_mod]); have := mmul_any p 0 0 W hp (by omega) (by omega) (by omega); rw [e] at this; exact this
  have F4 : Hid (∀ W : World, Calls Tryd.prog 19 #[.int .u32 (p : Int), .int .u32 0] W fun e w' => e = .returned (.int .u32 0) ∧ W = w') := Lib.hid fun W => by have e : (p - 0) % p = 0 := (by rw [Nat.sub_zero, Nat.mod_self]); have := mneg_any p 0 W hp (by omega); rw [e] at this; exact this
  clear hg
  go_enter Tryd.func8, Tryd.ntmps8
  go_wp2_with (first
    | (go_at_call 11; (with_reducible refine (HMAY.out _).mono ?_); rintro e w' ⟨⟨r0, rfl, _⟩, rfl⟩)
    | (go_at_call 12; (with_reducible refine (HAWK.out _ (Below.refl _ _)).mono ?_); rintro e w1 ⟨rfl, hb⟩; have HB := Lib.hid hb; clear hb)
    | (go_at_call 27; (with_reducible refine (F1.out _).mono ?_); rintro e w' ⟨rfl, rfl⟩)
    | (go_at_call 28; (with_reducible refine (F2.out _).mono ?_); rintro e w' ⟨rfl, rfl⟩)
    | (go_at_call 17; (with_reducible refine (F3.out _).mono ?_); rintro e w' ⟨rfl, rfl⟩)
    | (go_at_call 19; (with_reducible refine (F4.out _).mono ?_); rintro e w' ⟨rfl, rfl⟩))
  all_goals
    go_ret
    exact ⟨ret_bool (by first | rfl | (simp; done)), HB.out⟩
set_option maxHeartbeats 4000000 in
theorem roots_two  (w : World) (hg : Tab32 w)  :
    Calls Tryd.prog 8 #[.int .u32 2, .int .u32 1] w fun e w' => e = .returned (.bool true) ∧ Below w.heap.size w w' := by
  have HAWK : Hid (∀ W : World, Below w.heap.size w W → Calls Tryd.prog 12 #[] W fun e w' => e = .returned (.bool true) ∧ Below w.heap.size w w') := Lib.hid fun W hb => (awake_any W ((hb.cell (World.block_lt_of_cell? w _ hg.one)).trans hg.one)).mono fun e w' ⟨h1, h2⟩ => ⟨h1, below_chain hb h2⟩
  have HMAY : Hid (∀ W : World, Calls Tryd.prog 11 #[.int .u32 2, .int .u32 1, .int .u32 0] W fun e w' => (∃ r : Bool, e = .returned (.bool r) ∧ True) ∧ W = w') := Lib.hid fun W => (may_any 2 1 0 W (by omega) (by omega) (by omega)).mono fun e w' ⟨⟨r, h1, _⟩, h2⟩ => ⟨⟨r, h1, trivial⟩, h2⟩
  have F1 : Hid (∀ W : World, Calls Tryd.prog 27 #[.int .u32 2, .int .u32 1] W fun e w' => e = .returned (.tuple #[.int .u32 1, .int .i64 0]) ∧ W = w') := Lib.hid fun W => by exact mroot_two W
  have F2 : Hid (∀ W : World, Calls Tryd.prog 28 #[.int .u32 2, .int .u32 1] W fun e w' => e = .returned (.tuple #[.int .u32 1, .int .i64 0]) ∧ W = w') := Lib.hid fun W => by exact rroot_two W
  have F3 : Hid (∀ W : World, Calls Tryd.prog 17 #[.int .u32 2, .int .u32 1, .int .u32 1] W fun e w' => e = .returned (.int .u32 1) ∧ W = w') := Lib.hid fun W => by exact mmul_any 2 1 1 W (by decide) (by decide) (by decide) (by decide)
  have F4 : Hid (∀ W : World, Calls Tryd.prog 19 #[.int .u32 2, .int .u32 1] W fun e w' => e = .returned (.int .u32 1) ∧ W = w') := Lib.hid fun W => by exact mneg_any 2 1 W (by decide) (by decide)
  clear hg
  go_enter Tryd.func8, Tryd.ntmps8
  go_wp2_with (first
    | (go_at_call 11; (with_reducible refine (HMAY.out _).mono ?_); rintro e w' ⟨⟨r0, rfl, _⟩, rfl⟩)
    | (go_at_call 12; (with_reducible refine (HAWK.out _ (Below.refl _ _)).mono ?_); rintro e w1 ⟨rfl, hb⟩; have HB := Lib.hid hb; clear hb)
    | (go_at_call 27; (with_reducible refine (F1.out _).mono ?_); rintro e w' ⟨rfl, rfl⟩)
    | (go_at_call 28; (with_reducible refine (F2.out _).mono ?_); rintro e w' ⟨rfl, rfl⟩)
    | (go_at_call 17; (with_reducible refine (F3.out _).mono ?_); rintro e w' ⟨rfl, rfl⟩)
    | (go_at_call 19; (with_reducible refine (F4.out _).mono ?_); rintro e w' ⟨rfl, rfl⟩))
  all_goals
    go_ret
    exact ⟨ret_bool (by first | rfl | (simp; done)), HB.out⟩
set_option maxHeartbeats 4000000 in
theorem roots_none (p a : Nat) (w : World) (hg : Tab32 w) (hf : FieldP p) (h3 : 3 ≤ p) (ha : a < p) (ha0 : 0 < a) (hae : a ^ ((p - 1) / 2) % p ≠ 1) :
    Calls Tryd.prog 8 #[.int .u32 (p : Int), .int .u32 (a : Int)] w fun e w' => e = .returned (.bool true) ∧ Below w.heap.size w w' := by
  have hp := hf.2.1
  have hodd := hf.prime.odd h3
  have HAWK : Hid (∀ W : World, Below w.heap.size w W → Calls Tryd.prog 12 #[] W fun e w' => e = .returned (.bool true) ∧ Below w.heap.size w w') := Lib.hid fun W hb => (awake_any W ((hb.cell (World.block_lt_of_cell? w _ hg.one)).trans hg.one)).mono fun e w' ⟨h1, h2⟩ => ⟨h1, below_chain hb h2⟩
  have HMAY : Hid (∀ W : World, Calls Tryd.prog 11 #[.int .u32 (p : Int), .int .u32 (a : Int), .int .u32 0] W fun e w' => (∃ r : Bool, e = .returned (.bool r) ∧ True) ∧ W = w') := Lib.hid fun W => (may_any p a 0 W (by omega) (by omega) (by omega)).mono fun e w' ⟨⟨r, h1, _⟩, h2⟩ => ⟨⟨r, h1, trivial⟩, h2⟩
  have F1 : Hid (∀ W : World, Calls Tryd.prog 27 #[.int .u32 (p : Int), .int .u32 (a : Int)] W fun e w' => e = .returned (.tuple #[.int .u32 0, .int .i64 5]) ∧ W = w') := Lib.hid fun W => by exact mroot_none p a W h3 hodd hp ha ha0 hae
  have F2 : Hid (∀ W : World, Calls Tryd.prog 28 #[.int .u32 (p : Int), .int .u32 (a : Int)] W fun e w' => e = .returned (.tuple #[.int .u32 0, .int .i64 5]) ∧ W = w') := Lib.hid fun W => by exact rroot_none p a W h3 hodd hp ha ha0 hae
  obtain ⟨h, hh⟩ : ∃ h, (p - 1) / 2 = h := ⟨_, rfl⟩
  obtain ⟨p1, hp1⟩ : ∃ p1, p - 1 = p1 := ⟨_, rfl⟩
  have heu : a ^ h % p = p1 := by
    rcases hf.prime.euler h3 (a := a) (by rw [Nat.mod_eq_of_lt ha]; omega) with h4 | h4
    · exact absurd h4 hae
    · rw [← hh, h4, hp1]
  have F3 : Hid (∀ W : World, Calls Tryd.prog 22 #[.int .u32 (p : Int), .int .u32 (a : Int), .int .u64 (h : Int)] W fun e w' => e = .returned (.int .u32 (p1 : Int)) ∧ W = w') := Lib.hid fun W => by rw [← heu]; exact rpow_any p a h W hp (by omega) ha (by omega)
  have hs : (p : Int) - 1 = (p1 : Int) := by omega
  have hd : (p1 : Int) / 2 = (h : Int) := by omega
  have hpi : (3 : Int) ≤ (p : Int) := by omega
  have hpl : (p : Int) ≤ 2147483647 := by omega
  clear hg hf hh hp1 heu hae hodd
  go_enter Tryd.func8, Tryd.ntmps8
  go_wp2_with (first
    | (go_at_call 11; (with_reducible refine (HMAY.out _).mono ?_); rintro e w' ⟨⟨r0, rfl, _⟩, rfl⟩)
    | (go_at_call 12; (with_reducible refine (HAWK.out _ (Below.refl _ _)).mono ?_); rintro e w1 ⟨rfl, hb⟩; have HB := Lib.hid hb; clear hb)
    | (go_at_call 27; (with_reducible refine (F1.out _).mono ?_); rintro e w' ⟨rfl, rfl⟩)
    | (go_at_call 28; (with_reducible refine (F2.out _).mono ?_); rintro e w' ⟨rfl, rfl⟩)
    | (go_at_call 22; (with_reducible refine (F3.out _).mono ?_); rintro e w' ⟨rfl, rfl⟩))
  all_goals
    go_ret
    exact ⟨ret_bool (by first | rfl | (simp; done)), HB.out⟩
set_option maxHeartbeats 4000000 in
theorem roots_some (p a : Nat) (w : World) (hg : Tab32 w) (hf : FieldP p) (h3 : 3 ≤ p) (ha : a < p) (ha0 : 0 < a) (hae : a ^ ((p - 1) / 2) % p = 1) :
    Calls Tryd.prog 8 #[.int .u32 (p : Int), .int .u32 (a : Int)] w fun e w' => e = .returned (.bool true) ∧ Below w.heap.size w w' := by
  have hp := hf.2.1
  have HAWK : Hid (∀ W : World, Below w.heap.size w W → Calls Tryd.prog 12 #[] W fun e w' => e = .returned (.bool true) ∧ Below w.heap.size w w') := Lib.hid fun W hb => (awake_any W ((hb.cell (World.block_lt_of_cell? w _ hg.one)).trans hg.one)).mono fun e w' ⟨h1, h2⟩ => ⟨h1, below_chain hb h2⟩
  have HMAY : Hid (∀ W : World, Calls Tryd.prog 11 #[.int .u32 (p : Int), .int .u32 (a : Int), .int .u32 0] W fun e w' => (∃ r : Bool, e = .returned (.bool r) ∧ True) ∧ W = w') := Lib.hid fun W => (may_any p a 0 W (by omega) (by omega) (by omega)).mono fun e w' ⟨⟨r, h1, _⟩, h2⟩ => ⟨⟨r, h1, trivial⟩, h2⟩
  have HM : Hid (∀ (x : Nat) (W : World), x < p → x * x % p = a → Calls Tryd.prog 17 #[.int .u32 (p : Int), .int .u32 (x : Int), .int .u32 (x : Int)] W fun e w' => e = .returned (.int .u32 (a : Int)) ∧ W = w') := Lib.hid fun x W hx hz => by have := mmul_any p x x W hp (by omega) hx hx; rw [hz] at this; exact this
  have HN : Hid (∀ (x y : Nat) (W : World), 0 < x → x < p → p - x = y → Calls Tryd.prog 19 #[.int .u32 (p : Int), .int .u32 (x : Int)] W fun e w' => e = .returned (.int .u32 (y : Int)) ∧ W = w') := Lib.hid fun x y W h0 hx hy => by have := mneg_any p x W hp hx; rw [Nat.mod_eq_of_lt (by omega), hy] at this; exact this
  have HR1 := Lib.hid (mroot_some p a w hg hf.prime h3 hp ha ha0 hae)
  have HR2 := Lib.hid (rroot_some p a w hf.prime h3 hp ha ha0 hae)
  have HPR := Lib.hid hf.prime
  clear hg hf hae
  go_enter Tryd.func8, Tryd.ntmps8
  go_wp2_with (first
    | (go_at_call 11; (with_reducible refine (HMAY.out _).mono ?_); rintro e w' ⟨⟨r0, rfl, _⟩, rfl⟩)
    | (go_at_call 12; (with_reducible refine (HAWK.out _ (Below.refl _ _)).mono ?_); rintro e w1 ⟨rfl, hb⟩; have HB := Lib.hid hb; clear hb)
    | (go_at_call 27; (with_reducible refine HR1.out.mono ?_); rintro e w' ⟨⟨r, m, rfl, hr1, hr2, hm⟩, rfl⟩; have hsq := Lib.hid (show m * m % p = a by rw [min_sq hr1 hm]; exact hr2); have hr0 := root_pos hr2 ha0; have hm0 : 0 < m := (by omega); have hml : m < p := (by omega); (obtain ⟨y, hy⟩ : ∃ y, p - m = y := ⟨_, rfl⟩); have HY := Lib.hid hy; have hmy : (m : Int) ≤ (y : Int) := (by omega); have HMM := Lib.hid hm; have HRR := Lib.hid hr2; clear hr2 hm hy)
    | (go_at_call 28; (with_reducible refine HR2.out.mono ?_); rintro e w' ⟨⟨r', m', rfl, hr1', hr2', hm'⟩, rfl⟩; (obtain rfl : m = m' := by rw [HMM.out, hm']; exact HPR.out.root_unique hr1 hr1' (HRR.out.trans hr2'.symm) hr0 (root_pos hr2' ha0)); clear hr2' hm')
    | (go_at_call 17; (with_reducible refine (HM.out m _ hml hsq.out).mono ?_); rintro e w' ⟨rfl, rfl⟩)
    | (go_at_call 19; (with_reducible refine (HN.out m y _ hm0 hml HY.out).mono ?_); rintro e w' ⟨rfl, rfl⟩))
  all_goals
    go_ret
    exact ⟨ret_bool (by first | rfl | (simp; done)), HB.out⟩
set_option maxHeartbeats 2000000 in
theorem law_roots (p a : Nat) (w : World) (hg : Tab32 w) (hp : p ≤ 4294967295) (ha : a ≤ 4294967295) :
    Calls Tryd.prog 8 #[.int .u32 (p : Int), .int .u32 (a : Int)] w fun e w' => e = .returned (.bool true) ∧ Below w.heap.size w w' := by
  by_cases hc0 : FieldP p ∧ a < p
  · have h2 := hc0.1.1
    by_cases ha0 : a = 0
    · subst ha0
      exact roots_nought p w hg hc0.1.2.1 h2
    · by_cases h3 : 3 ≤ p
      · by_cases hae : a ^ ((p - 1) / 2) % p = 1
        · exact roots_some p a w hg hc0.1 h3 hc0.2 (by omega) hae
        · exact roots_none p a w hg hc0.1 h3 hc0.2 (by omega) hae
      · have := hc0.2
        obtain rfl : p = 2 := by omega
        obtain rfl : a = 1 := by omega
        exact roots_two w hg
  · have HAWK : Hid (Calls Tryd.prog 12 #[] w fun e w' => e = .returned (.bool true) ∧ Below w.heap.size w w') := Lib.hid (awake_any w hg.one)
    have HMAY : Hid (Calls Tryd.prog 11 #[.int .u32 (p : Int), .int .u32 (a : Int), .int .u32 0] w fun e w' => e = .returned (.bool false) ∧ w = w') := Lib.hid ((may_any p a 0 w (by omega) (by omega) (by omega)).mono fun e w' ⟨⟨r, h1, h2⟩, h3⟩ => ⟨by
        cases r with
        | false => exact h1
        | true => exact absurd ⟨(h2 rfl).1, (h2 rfl).2.1⟩ hc0, h3⟩)
    clear hc0 hg
    go_enter Tryd.func8, Tryd.ntmps8
    go_wp2_with (first
      | (go_at_call 11; (with_reducible refine HMAY.out.mono ?_); rintro e w' ⟨rfl, rfl⟩)
      | (go_at_call 12; (with_reducible refine HAWK.out.mono ?_); rintro e w1 ⟨rfl, hb⟩; have HB := Lib.hid hb; clear hb))
    go_ret
    exact ⟨rfl, HB.out⟩
set_option maxHeartbeats 4000000 in
theorem squares_nought (p : Nat) (w : World) (hg : Tab32 w) (hp : p ≤ 2147483647) (hp2 : 2 ≤ p) :
    Calls Tryd.prog 9 #[.int .u32 (p : Int), .int .u32 0] w fun e w' => e = .returned (.bool true) ∧ Below w.heap.size w w' := by
  have HAWK : Hid (∀ W : World, Below w.heap.size w W → Calls Tryd.prog 12 #[] W fun e w' => e = .returned (.bool true) ∧ Below w.heap.size w w') := Lib.hid fun W hb => (awake_any W ((hb.cell (World.block_lt_of_cell? w _ hg.one)).trans hg.one)).mono fun e w' ⟨h1, h2⟩ => ⟨h1, below_chain hb h2⟩
  have HMAY : Hid (∀ W : World, Calls Tryd.prog 11 #[.int .u32 (p : Int), .int .u32 0, .int .u32 0] W fun e w' => (∃ r : Bool, e = .returned (.bool r) ∧ True) ∧ W = w') := Lib.hid fun W => (may_any p 0 0 W (by omega) (by omega) (by omega)).mono fun e w' ⟨⟨r, h1, _⟩, h2⟩ => ⟨⟨r, h1, trivial⟩, h2⟩
  have F1 : Hid (∀ W : World, Calls Tryd.prog 27 #[.int .u32 (p : Int), .int .u32 0] W fun e w' => e = .returned (.tuple #[.int .u32 0, .int .i64 0]) ∧ W = w') := Lib.hid fun W => by exact mroot_nought p W hp
  have F3 : Hid (∀ W : World, Calls Tryd.prog 17 #[.int .u32 (p : Int), .int .u32 0, .int .u32 0] W fun e w' => e = .returned (.int .u32 0) ∧ W = w') := Lib.hid fun W => by have e : 0 * 0 % p = 0 := (by rw [Nat.zero_mul, Nat.zero_mod]); have := mmul_any p 0 0 W hp (by omega) (by omega) (by omega); rw [e] at this; exact this
  have F4 : Hid (∀ W : World, Calls Tryd.prog 20 #[.int .u32 (p : Int), .int .u32 0] W fun e w' => e = .returned (.int .u32 0) ∧ W = w') := Lib.hid fun W => by have e : (p - 0) % p = 0 := (by rw [Nat.sub_zero, Nat.mod_self]); have := rneg_any p 0 W hp (by omega) (by omega); rw [e] at this; exact this
  clear hg
  go_enter Tryd.func9, Tryd.ntmps9
  go_wp2_with (first
    | (go_at_call 11; (with_reducible refine (HMAY.out _).mono ?_); rintro e w' ⟨⟨r0, rfl, _⟩, rfl⟩)
    | (go_at_call 12; (with_reducible refine (HAWK.out _ (Below.refl _ _)).mono ?_); rintro e w1 ⟨rfl, hb⟩; have HB := Lib.hid hb; clear hb)
    | (go_at_call 27; (with_reducible refine (F1.out _).mono ?_); rintro e w' ⟨rfl, rfl⟩)
    | (go_at_call 17; (with_reducible refine (F3.out _).mono ?_); rintro e w' ⟨rfl, rfl⟩)
    | (go_at_call 20; (with_reducible refine (F4.out _).mono ?_); rintro e w' ⟨rfl, rfl⟩))
  all_goals
    go_ret
    exact ⟨ret_bool (by first | rfl | (simp; done)), HB.out⟩
set_option maxHeartbeats 4000000 in
theorem squares_two  (w : World) (hg : Tab32 w)  :
    Calls Tryd.prog 9 #[.int .u32 2, .int .u32 1] w fun e w' => e = .returned (.bool true) ∧ Below w.heap.size w w' := by
  have HAWK : Hid (∀ W : World, Below w.heap.size w W → Calls Tryd.prog 12 #[] W fun e w' => e = .returned (.bool true) ∧ Below w.heap.size w w') := Lib.hid fun W hb => (awake_any W ((hb.cell (World.block_lt_of_cell? w _ hg.one)).trans hg.one)).mono fun e w' ⟨h1, h2⟩ => ⟨h1, below_chain hb h2⟩
  have HMAY : Hid (∀ W : World, Calls Tryd.prog 11 #[.int .u32 2, .int .u32 1, .int .u32 0] W fun e w' => (∃ r : Bool, e = .returned (.bool r) ∧ True) ∧ W = w') := Lib.hid fun W => (may_any 2 1 0 W (by omega) (by omega) (by omega)).mono fun e w' ⟨⟨r, h1, _⟩, h2⟩ => ⟨⟨r, h1, trivial⟩, h2⟩
  have F1 : Hid (∀ W : World, Calls Tryd.prog 27 #[.int .u32 2, .int .u32 1] W fun e w' => e = .returned (.tuple #[.int .u32 1, .int .i64 0]) ∧ W = w') := Lib.hid fun W => by exact mroot_two W
  have F3 : Hid (∀ W : World, Calls Tryd.prog 17 #[.int .u32 2, .int .u32 1, .int .u32 1] W fun e w' => e = .returned (.int .u32 1) ∧ W = w') := Lib.hid fun W => by exact mmul_any 2 1 1 W (by decide) (by decide) (by decide) (by decide)
  have F4 : Hid (∀ W : World, Calls Tryd.prog 20 #[.int .u32 2, .int .u32 1] W fun e w' => e = .returned (.int .u32 1) ∧ W = w') := Lib.hid fun W => by exact rneg_any 2 1 W (by decide) (by decide) (by decide)
  clear hg
  go_enter Tryd.func9, Tryd.ntmps9
  go_wp2_with (first
    | (go_at_call 11; (with_reducible refine (HMAY.out _).mono ?_); rintro e w' ⟨⟨r0, rfl, _⟩, rfl⟩)
    | (go_at_call 12; (with_reducible refine (HAWK.out _ (Below.refl _ _)).mono ?_); rintro e w1 ⟨rfl, hb⟩; have HB := Lib.hid hb; clear hb)
    | (go_at_call 27; (with_reducible refine (F1.out _).mono ?_); rintro e w' ⟨rfl, rfl⟩)
    | (go_at_call 17; (with_reducible refine (F3.out _).mono ?_); rintro e w' ⟨rfl, rfl⟩)
    | (go_at_call 20; (with_reducible refine (F4.out _).mono ?_); rintro e w' ⟨rfl, rfl⟩))
  all_goals
    go_ret
    exact ⟨ret_bool (by first | rfl | (simp; done)), HB.out⟩
set_option maxHeartbeats 4000000 in
theorem squares_some (p a : Nat) (w : World) (hg : Tab32 w) (hf : FieldP p) (h3 : 3 ≤ p) (ha : a < p) (ha0 : 0 < a) :
    Calls Tryd.prog 9 #[.int .u32 (p : Int), .int .u32 (a : Int)] w fun e w' => e = .returned (.bool true) ∧ Below w.heap.size w w' := by
  have hp := hf.2.1
  have HAWK : Hid (∀ W : World, Below w.heap.size w W → Calls Tryd.prog 12 #[] W fun e w' => e = .returned (.bool true) ∧ Below w.heap.size w w') := Lib.hid fun W hb => (awake_any W ((hb.cell (World.block_lt_of_cell? w _ hg.one)).trans hg.one)).mono fun e w' ⟨h1, h2⟩ => ⟨h1, below_chain hb h2⟩
  have HMAY : Hid (∀ W : World, Calls Tryd.prog 11 #[.int .u32 (p : Int), .int .u32 (a : Int), .int .u32 0] W fun e w' => (∃ r : Bool, e = .returned (.bool r) ∧ True) ∧ W = w') := Lib.hid fun W => (may_any p a 0 W (by omega) (by omega) (by omega)).mono fun e w' ⟨⟨r, h1, _⟩, h2⟩ => ⟨⟨r, h1, trivial⟩, h2⟩
  obtain ⟨b, hb⟩ : ∃ b, a * a % p = b := ⟨_, rfl⟩
  have hbl : b < p := by rw [← hb]; exact Nat.mod_lt _ (by omega)
  have hb0 : 0 < b := by
    rcases Nat.eq_zero_or_pos b with h0 | h0
    · rw [h0] at hb
      rcases hf.prime.euclid hb with h4 | h4 <;> (rw [Nat.mod_eq_of_lt ha] at h4; omega)
    · exact h0
  have hbe : b ^ ((p - 1) / 2) % p = 1 := by
    have hodd := hf.prime.odd h3
    rw [← hb, ← Nat.pow_mod, Nat.mul_pow, ← Nat.pow_add, show (p - 1) / 2 + (p - 1) / 2 = p - 1 by omega]
    exact hf.prime.fermat (by rw [Nat.mod_eq_of_lt ha]; omega)
  obtain ⟨y, hy⟩ : ∃ y, p - a = y := ⟨_, rfl⟩
  obtain ⟨m0, hm0⟩ : ∃ m0, min a y = m0 := ⟨_, rfl⟩
  have hmi : min (a : Int) (y : Int) = (m0 : Int) := by omega
  have F3 : Hid (∀ W : World, Calls Tryd.prog 17 #[.int .u32 (p : Int), .int .u32 (a : Int), .int .u32 (a : Int)] W fun e w' => e = .returned (.int .u32 (b : Int)) ∧ W = w') := Lib.hid fun W => by rw [← hb]; exact mmul_any p a a W hp (by omega) ha ha
  have F4 : Hid (∀ W : World, Calls Tryd.prog 20 #[.int .u32 (p : Int), .int .u32 (a : Int)] W fun e w' => e = .returned (.int .u32 (y : Int)) ∧ W = w') := Lib.hid fun W => by have e : (p - a) % p = y := (by rw [Nat.mod_eq_of_lt (by omega)]; exact hy); have := rneg_any p a W hp (by omega) ha; rw [e] at this; exact this
  have HR1 : Hid (Calls Tryd.prog 27 #[.int .u32 (p : Int), .int .u32 (b : Int)] w fun e w' => e = .returned (.tuple #[.int .u32 (m0 : Int), .int .i64 0]) ∧ w = w') := Lib.hid ((mroot_some p b w hg hf.prime h3 hp hbl hb0 hbe).mono fun e w' ⟨⟨r, m, h1, h2, h3', h4⟩, h5⟩ => ⟨by
    have : m = m0 := by rw [h4, ← hm0, ← hy]; exact hf.prime.root_unique h2 ha (h3'.trans hb.symm) (root_pos h3' hb0) ha0
    rw [h1, this], h5⟩)
  clear hg hf hbe hb hy hm0
  go_enter Tryd.func9, Tryd.ntmps9
  go_wp2_with (first
    | (go_at_call 11; (with_reducible refine (HMAY.out _).mono ?_); rintro e w' ⟨⟨r0, rfl, _⟩, rfl⟩)
    | (go_at_call 12; (with_reducible refine (HAWK.out _ (Below.refl _ _)).mono ?_); rintro e w1 ⟨rfl, hb⟩; have HB := Lib.hid hb; clear hb)
    | (go_at_call 17; (with_reducible refine (F3.out _).mono ?_); rintro e w' ⟨rfl, rfl⟩)
    | (go_at_call 27; (with_reducible refine HR1.out.mono ?_); rintro e w' ⟨rfl, rfl⟩)
    | (go_at_call 20; (with_reducible refine (F4.out _).mono ?_); rintro e w' ⟨rfl, rfl⟩))
  all_goals
    go_ret
    exact ⟨ret_bool (by first | rfl | (simp; done)), HB.out⟩
set_option maxHeartbeats 2000000 in
theorem law_squares (p a : Nat) (w : World) (hg : Tab32 w) (hp : p ≤ 4294967295) (ha : a ≤ 4294967295) :
    Calls Tryd.prog 9 #[.int .u32 (p : Int), .int .u32 (a : Int)] w fun e w' => e = .returned (.bool true) ∧ Below w.heap.size w w' := by
  by_cases hc0 : FieldP p ∧ a < p
  · have h2 := hc0.1.1
    by_cases ha0 : a = 0
    · subst ha0
      exact squares_nought p w hg hc0.1.2.1 h2
    · by_cases h3 : 3 ≤ p
      · exact squares_some p a w hg hc0.1 h3 hc0.2 (by omega)
      · have := hc0.2
        obtain rfl : p = 2 := by omega
        obtain rfl : a = 1 := by omega
        exact squares_two w hg
  · have HAWK : Hid (Calls Tryd.prog 12 #[] w fun e w' => e = .returned (.bool true) ∧ Below w.heap.size w w') := Lib.hid (awake_any w hg.one)
    have HMAY : Hid (Calls Tryd.prog 11 #[.int .u32 (p : Int), .int .u32 (a : Int), .int .u32 0] w fun e w' => e = .returned (.bool false) ∧ w = w') := Lib.hid ((may_any p a 0 w (by omega) (by omega) (by omega)).mono fun e w' ⟨⟨r, h1, h2⟩, h3⟩ => ⟨by
        cases r with
        | false => exact h1
        | true => exact absurd ⟨(h2 rfl).1, (h2 rfl).2.1⟩ hc0, h3⟩)
    clear hc0 hg
    go_enter Tryd.func9, Tryd.ntmps9
    go_wp2_with (first
      | (go_at_call 11; (with_reducible refine HMAY.out.mono ?_); rintro e w' ⟨rfl, rfl⟩)
      | (go_at_call 12; (with_reducible refine HAWK.out.mono ?_); rintro e w1 ⟨rfl, hb⟩; have HB := Lib.hid hb; clear hb))
    go_ret
    exact ⟨rfl, HB.out⟩
end Go.Proofs.YtehlnkhbfbnadaaDoor
