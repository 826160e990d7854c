/- The walk of ModpOrders. -/
import Derived.Test.YtehlnkhbfbnadaaDoorROrd
namespace Go.Proofs.YtehlnkhbfbnadaaDoor
open Go.RowKit
set_option maxHeartbeats 4000000 in
theorem orders_yes (p a : Nat) (w : World) (hg : Tab32 w) (hG : TabG w) (hf : FieldP p) (ha : a < p) (ha0 : 0 < a) :
    Calls Tryd.prog 6 #[.int .u32 (p : Int), .int .u32 (a : Int)] w fun e w' => e = .returned (.bool true) ∧ Below w.heap.size w w' := by
  have hp := hf.2.1
  have hp2 := hf.1
  obtain ⟨r, hr, hgr, hor⟩ := order_facs hf.prime hp ha ha0
  obtain ⟨n, hnn⟩ : ∃ n, ordL p a r.1 r.2 (p - 1) = n := ⟨_, rfl⟩
  have HO := fun (W : World) (hb : Below w.heap.size w W) => order_run TabG (fun _ _ h hb => h.up hb) isW isW_known 23180 p a r W (hG.up hb) hr hgr (by omega) hp2 hp ha ha0
  rw [hnn] at HO hor
  have hle := hor.le hf.prime ha ha0
  have hn0 := hor.1
  have hn1 := hor.2.1
  obtain ⟨k, hk⟩ := hle.1
  obtain ⟨p1, hp1⟩ : ∃ p1, p - 1 = p1 := ⟨_, rfl⟩
  have hsub : (p : Int) - 1 = (p1 : Int) := by omega
  have hmod : (p1 : Int) % (n : Int) = 0 := by rw [← hp1, hk]; have := Nat.mul_mod_right n k; omega
  have hnl : (n : Int) ≤ 2147483647 := by omega
  have hn0' : (0 : Int) < (n : Int) := by omega
  have hnz : ((n : Int) == 0) = false := by rw [beq_eq_false_iff_ne]; omega
  have hpu : (p1 : Int) ≤ 2147483646 := by omega
  have HAWK : Hid (∀ W : World, Below w.heap.size w W → Calls Tryd.prog 12 #[] W fun e w' => e = .returned (.bool true) ∧ Below w.heap.size w w') := Lib.hid fun W hb => (awake_any W ((hb.cell (World.block_lt_of_cell? w _ hg.one)).trans hg.one)).mono fun e w' ⟨h1, h2⟩ => ⟨h1, below_chain hb h2⟩
  have HMAY : Hid (∀ W : World, Calls Tryd.prog 11 #[.int .u32 (p : Int), .int .u32 (a : Int), .int .u32 0] W fun e w' => (∃ r : Bool, e = .returned (.bool r) ∧ True) ∧ W = w') := Lib.hid fun W => (may_any p a 0 W (by omega) (by omega) (by omega)).mono fun e w' ⟨⟨r, h1, _⟩, h2⟩ => ⟨⟨r, h1, trivial⟩, h2⟩
  have HOR : Hid (Calls Tryd.prog 25 #[.int .u32 (p : Int), .int .u32 (a : Int)] w fun e w' => e = .returned (.tuple #[.int .u64 (n : Int), .int .i64 0]) ∧ Below w.heap.size w w') := Lib.hid (HO w (Below.refl _ _))
  have HRO : Hid (∀ W : World, Below w.heap.size w W → Calls Tryd.prog 26 #[.int .u32 (p : Int), .int .u32 (a : Int)] W fun e w' => e = .returned (.tuple #[.int .u64 (n : Int), .int .i64 0]) ∧ Below w.heap.size w w') := Lib.hid fun W hb => (rorder_any p a n W hf.prime hp ha ha0 hor).mono fun e w' ⟨h1, h2⟩ => ⟨h1, below_chain hb h2⟩
  have HPW : Hid (∀ W : World, Calls Tryd.prog 21 #[.int .u32 (p : Int), .int .u32 (a : Int), .int .u64 (n : Int)] W fun e w' => e = .returned (.int .u32 1) ∧ W = w') := Lib.hid fun W => by have h := mpow_any p a n W hp hp2 ha (by omega); rw [hn1] at h; exact h
  have ha1 : ((a : Int) == 0) = false := by rw [beq_eq_false_iff_ne]; omega
  clear hg hG hf hr hgr hor HO hnn hle hn0 hn1 hk hp1
  go_enter Tryd.func6, Tryd.ntmps6
  go_wp2_with (first
    | (go_at_call 11; (with_reducible refine (HMAY.out _).mono ?_); rintro e w' ⟨⟨r0, rfl, _⟩, rfl⟩)
    | (go_at_call 12; (with_reducible refine (HAWK.out _ (by first | exact HB3.out | exact Below.refl _ _)).mono ?_); rintro e w1 ⟨rfl, hb⟩; have HB := Lib.hid hb; clear hb)
    | (go_at_call 25; (with_reducible refine HOR.out.mono ?_); rintro e w2 ⟨rfl, hb⟩; have HB2 := Lib.hid hb; clear hb)
    | (go_at_call 26; (with_reducible refine (HRO.out _ HB2.out).mono ?_); rintro e w3 ⟨rfl, hb⟩; have HB3 := Lib.hid hb; clear hb)
    | (go_at_call 21; (with_reducible refine (HPW.out _).mono ?_); rintro e w' ⟨rfl, rfl⟩))
  all_goals
    go_ret
    exact ⟨ret_bool (by first | rfl | (simp; done)), HB.out⟩
set_option maxHeartbeats 2000000 in
theorem orders_no (p a : Nat) (w : World) (hg : Tab32 w) (hp : p ≤ 4294967295) (ha : a ≤ 4294967295) (hc : ¬ (FieldP p ∧ a < p ∧ 0 < a)) :
    Calls Tryd.prog 6 #[.int .u32 (p : Int), .int .u32 (a : Int)] w fun e w' => e = .returned (.bool true) ∧ Below w.heap.size w w' := by
  have HAWK : Hid (Calls Tryd.prog 12 #[] w fun e w' => e = .returned (.bool true) ∧ Below w.heap.size w w') := Lib.hid (awake_any w hg.one)
  by_cases h0 : a = 0
  · subst h0
    have HMAY : Hid (Calls Tryd.prog 11 #[.int .u32 (p : Int), .int .u32 0, .int .u32 0] w fun e w' => (∃ r : Bool, e = .returned (.bool r) ∧ True) ∧ w = w') := Lib.hid ((may_any p 0 0 w (by omega) (by omega) (by omega)).mono fun e w' ⟨⟨r, h1, _⟩, h2⟩ => ⟨⟨r, h1, trivial⟩, h2⟩)
    have HOR := Lib.hid (order_nought p)
    have HRO := Lib.hid (rorder_nought p)
    clear hg hc
    show Calls Tryd.prog 6 #[.int .u32 (p : Int), .int .u32 0] w _
    go_enter Tryd.func6, Tryd.ntmps6
    go_wp2_with (first
      | (go_at_call 11; (refine HMAY.out.mono ?_); rintro e w' ⟨⟨r0, rfl, _⟩, rfl⟩)
      | (go_at_call 25; (with_reducible refine (HOR.out _).mono ?_); rintro e w' ⟨rfl, rfl⟩)
      | (go_at_call 26; (with_reducible refine (HRO.out _).mono ?_); rintro e w' ⟨rfl, rfl⟩)
      | (go_at_call 12; (with_reducible refine HAWK.out.mono ?_); rintro e w1 ⟨rfl, hb⟩; have HB := Lib.hid hb; clear hb))
    all_goals
      go_ret
      exact ⟨ret_bool (by first | rfl | (simp; done)), HB.out⟩
  · have HMAY : Hid (Calls Tryd.prog 11 #[.int .u32 (p : Int), .int .u32 (a : Int), .int .u32 0] w fun e w' => e = .returned (.bool false) ∧ w = w') := Lib.hid ((may_any p a 0 w (by omega) (by omega) (by omega)).mono fun e w' ⟨⟨r, h1, h2⟩, h3⟩ => ⟨by
      cases r with
      | false => exact h1
      | true => exact absurd ⟨(h2 rfl).1, (h2 rfl).2.1, by omega⟩ hc, h3⟩)
    clear hg hc
    go_enter Tryd.func6, Tryd.ntmps6
    go_wp2_with (first
      | (go_at_call 11; (with_reducible refine HMAY.out.mono ?_); rintro e w' ⟨rfl, rfl⟩)
      | (go_at_call 12; (with_reducible refine HAWK.out.mono ?_); rintro e w1 ⟨rfl, hb⟩; have HB := Lib.hid hb; clear hb))
    go_ret
    exact ⟨ret_bool (by first | rfl | (simp; done)), HB.out⟩
theorem law_orders (p a : Nat) (w : World) (hg : Tab32 w) (hG : TabG w) (hp : p ≤ 4294967295) (ha : a ≤ 4294967295) :
    Calls Tryd.prog 6 #[.int .u32 (p : Int), .int .u32 (a : Int)] w fun e w' => e = .returned (.bool true) ∧ Below w.heap.size w w' := by
  by_cases hc : FieldP p ∧ a < p ∧ 0 < a
  · exact orders_yes p a w hg hG hc.1 hc.2.1 hc.2.2
  · exact orders_no p a w hg hp ha hc
end Go.Proofs.YtehlnkhbfbnadaaDoor
