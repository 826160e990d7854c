/- The walk of ModpLeast. -/
import Derived.Test.YtehlnkhbfbnadaaDoorLeast
import Derived.Test.YtehlnkhbfbnadaaDoorLawC
namespace Go.Proofs.YtehlnkhbfbnadaaDoor
open Go.RowKit
set_option maxHeartbeats 4000000 in
theorem least_yes (p a : Nat) (w : World) (hg : Tab32 w) (hG : TabG w) (hf : FieldP p) (hp4 : p ≤ 400) (ha : a < p) (ha0 : 0 < a) :
    Calls Tryd.prog 7 #[.int .u32 (p : Int), .int .u32 (a : Int)] w fun e w' => e = .returned (.bool true) ∧ Below w.heap.size w w' := by
  have hp := hf.2.1
  have hp2 := hf.1
  obtain ⟨r, hr, hgr, hn, hn1⟩ := least_known hf hp4 ha ha0
  have HAWK : Hid (∀ W : World, Below w.heap.size w W → Calls Tryd.prog 12 #[] W fun e w' => e = .returned (.bool true) ∧ Below w.heap.size w w') := Lib.hid fun W hb => (awake_any W ((hb.cell (World.block_lt_of_cell? w _ hg.one)).trans hg.one)).mono fun e w' ⟨h1, h2⟩ => ⟨h1, below_chain hb h2⟩
  have HMAY : Hid (∀ W : World, Calls Tryd.prog 11 #[.int .u32 (p : Int), .int .u32 (a : Int), .int .u32 0] W fun e w' => (∃ r : Bool, e = .returned (.bool r) ∧ True) ∧ W = w') := Lib.hid fun W => (may_any p a 0 W (by omega) (by omega) (by omega)).mono fun e w' ⟨⟨r, h1, _⟩, h2⟩ => ⟨⟨r, h1, trivial⟩, h2⟩
  have HO := order_run TabG (fun _ _ h hb => h.up hb) isT isT_known 250 p a r w hG hr hgr (by omega) hp2 hp ha ha0
  rw [← hn] at HO
  obtain ⟨n, hnn⟩ : ∃ n, leastF p a 400 1 1 = n := ⟨_, rfl⟩
  rw [hnn] at HO hn1
  have HOR := Lib.hid HO
  have HL : Hid (leastF p a (401 - 1) 1 1 = n) := Lib.hid hnn
  have HM : Hid (∀ (x z : Nat) (W : World), x < p → x * a % p = z → Calls Tryd.prog 18 #[.int .u32 (p : Int), .int .u32 (x : Int), .int .u32 (a : Int)] W fun e w' => e = .returned (.int .u32 (z : Int)) ∧ W = w') := Lib.hid fun x z W hx hz => by rw [← hz]; exact rmul_any p x a W hp (by omega) hx ha
  have c1 : ¬ 400 < (p : Int) := by omega
  have c2 : ((a : Int) == 0) = false := by rw [beq_eq_false_iff_ne]; omega
  clear hg hG hf hr hgr hn HO hnn
  go_enter Tryd.func7, Tryd.ntmps7
  go_wp2_with (first
    | (go_at_call 11; (with_reducible refine (HMAY.out _).mono ?_); rintro e w' ⟨⟨r0, rfl, _⟩, rfl⟩)
    | (go_at_call 12; (with_reducible refine (HAWK.out _ (Below.refl _ _)).mono ?_); rintro e w1 ⟨rfl, hb⟩; have HB := Lib.hid hb; clear hb)
    | (go_at_call 25; (with_reducible refine HOR.out.mono ?_); rintro e w2 ⟨rfl, hb⟩; have HB2 := Lib.hid hb; clear hb))
  rotate_left
  · go_ret
    exact ⟨ret_bool (by first | rfl | (simp; done)), HB.out⟩
  go_loop [7, 8] (fun x i => ∃ y k : Nat, x = .int .u32 y ∧ i = .int .u64 k ∧ 1 ≤ k ∧ k ≤ 401 ∧ y < p ∧ Hid (leastF p a (401 - k) y k = n)) (fun _ i => 401 - (intOf i).toNat)
  case atStart => exact ⟨1, 1, rfl, rfl, by omega, by omega, by omega, HL⟩
  case round =>
    clear HL
    obtain ⟨y, k, rfl, rfl, hk1, hk, hy, HL⟩ := hrel
    by_cases hlt : k ≤ 400
    · have hki : (k : Int) ≤ 400 := by omega
      obtain ⟨z, hz⟩ : ∃ z, y * a % p = z := ⟨_, rfl⟩
      have hzp : z < p := by rw [← hz]; exact Nat.mod_lt _ (by omega)
      have HZ := Lib.hid hz
      have hst : (match Nat.beq z 1 with | true => k | false => leastF p a (401 - (k + 1)) z (k + 1)) = n := by
        have := HL.out
        rw [show 401 - k = (401 - (k + 1)) + 1 by omega] at this
        rw [← hz]
        exact this
      by_cases hz1 : z = 1
      · have hzi : ((z : Int) == 1) = true := by rw [hz1]; rfl
        have hkn : k = n := by rw [hz1] at hst; exact hst
        have hkni : ((n : Int) == (k : Int)) = true := by rw [hkn]; simp
        clear hst hz hz1 hkn HL
        go_wp2_with (first
          | (go_at_call 18; (with_reducible refine (HM.out y z _ hy HZ.out).mono ?_); rintro e w' ⟨rfl, rfl⟩)
          | (go_at_call 12; (with_reducible refine (HAWK.out _ HB2.out).mono ?_); rintro e w1 ⟨rfl, hb⟩; have HB := Lib.hid hb; clear hb))
        go_ret
        exact ⟨ret_bool (by first | rfl | (simp; done)), HB.out⟩
      · have hzi : ((z : Int) == 1) = false := by rw [beq_eq_false_iff_ne]; omega
        have HN : Hid (leastF p a (401 - (k + 1)) z (k + 1) = n) := Lib.hid (by
          have e : Nat.beq z 1 = false := by
            rcases h : Nat.beq z 1 with _ | _
            · rfl
            · exact absurd (Nat.eq_of_beq_eq_true h) hz1
          rw [e] at hst
          exact hst)
        clear hst hz hz1 HL
        go_wp2_with (go_at_call 18; (with_reducible refine (HM.out y z _ hy HZ.out).mono ?_); rintro e w' ⟨rfl, rfl⟩)
        go_round
        case rel => exact ⟨z, k + 1, rfl, by go_num, by omega, by omega, hzp, HN⟩
        case measure => simp [intOf]; omega
    · exfalso
      have := HL.out
      rw [show 401 - k = 0 by omega] at this
      have h0 : n = 0 := this.symm
      omega
set_option maxHeartbeats 2000000 in
theorem least_no (p a : Nat) (w : World) (hg : Tab32 w) (hp : p ≤ 4294967295) (ha : a ≤ 4294967295) (hc : ¬ (FieldP p ∧ p ≤ 400 ∧ a < p ∧ 0 < a)) :
    Calls Tryd.prog 7 #[.int .u32 (p : Int), .int .u32 (a : Int)] w fun e w' => e = .returned (.bool true) ∧ Below w.heap.size w w' := by
  have HAWK : Hid (Calls Tryd.prog 12 #[] w fun e w' => e = .returned (.bool true) ∧ Below w.heap.size w w') := Lib.hid (awake_any w hg.one)
  by_cases h4 : 400 < p
  · have c1 : 400 < (p : Int) := by omega
    have hd : decide (400 < (p : Int)) = true := by simpa using c1
    clear hg hc
    go_enter Tryd.func7, Tryd.ntmps7
    go_wp2_with (go_at_call 12; (with_reducible refine HAWK.out.mono ?_); rintro e w1 ⟨rfl, hb⟩; have HB := Lib.hid hb; clear hb)
    go_ret
    exact ⟨rfl, HB.out⟩
  · have c1 : ¬ 400 < (p : Int) := by omega
    by_cases h0 : a = 0
    · subst h0
      have HMAY : Hid (Calls Tryd.prog 11 #[.int .u32 (p : Int), .int .u32 ((0 : Nat) : Int), .int .u32 0] w fun e w' => (∃ r : Bool, e = .returned (.bool r) ∧ True) ∧ w = w') := Lib.hid ((may_any p 0 0 w (by omega) (by omega) (by omega)).mono fun e w' ⟨⟨r, h1, _⟩, h2⟩ => ⟨⟨r, h1, trivial⟩, h2⟩)
      have c2 : (((0 : Nat) : Int) == 0) = true := rfl
      clear hg hc
      go_enter Tryd.func7, Tryd.ntmps7
      go_wp2_with (first
        | (go_at_call 11; (refine HMAY.out.mono ?_); rintro e w' ⟨⟨r0, rfl, _⟩, rfl⟩)
        | (go_at_call 12; (with_reducible refine HAWK.out.mono ?_); rintro e w1 ⟨rfl, hb⟩; have HB := Lib.hid hb; clear hb))
      all_goals
        go_ret
        exact ⟨ret_bool (by first | rfl | (simp; done)), HB.out⟩
    · have HMAY : Hid (Calls Tryd.prog 11 #[.int .u32 (p : Int), .int .u32 (a : Int), .int .u32 0] w fun e w' => e = .returned (.bool false) ∧ w = w') := Lib.hid ((may_any p a 0 w (by omega) (by omega) (by omega)).mono fun e w' ⟨⟨r, h1, h2⟩, h3⟩ => ⟨by
        cases r with
        | false => exact h1
        | true => exact absurd ⟨(h2 rfl).1, by omega, (h2 rfl).2.1, by omega⟩ hc, h3⟩)
      clear hg hc
      go_enter Tryd.func7, Tryd.ntmps7
      go_wp2_with (first
        | (go_at_call 11; (with_reducible refine HMAY.out.mono ?_); rintro e w' ⟨rfl, rfl⟩)
        | (go_at_call 12; (with_reducible refine HAWK.out.mono ?_); rintro e w1 ⟨rfl, hb⟩; have HB := Lib.hid hb; clear hb))
      go_ret
      exact ⟨ret_bool (by first | rfl | (simp; done)), HB.out⟩
theorem law_least (p a : Nat) (w : World) (hg : Tab32 w) (hG : TabG w) (hp : p ≤ 4294967295) (ha : a ≤ 4294967295) :
    Calls Tryd.prog 7 #[.int .u32 (p : Int), .int .u32 (a : Int)] w fun e w' => e = .returned (.bool true) ∧ Below w.heap.size w w' := by
  by_cases hc : FieldP p ∧ p ≤ 400 ∧ a < p ∧ 0 < a
  · exact least_yes p a w hg hG hc.1 hc.2.1 hc.2.2.1 hc.2.2.2
  · exact least_no p a w hg hp ha hc
end Go.Proofs.YtehlnkhbfbnadaaDoor
