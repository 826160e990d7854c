/- The walk of NatUints. -/
import Derived.Test.YtankonnhednmeaaLawL
import Derived.Test.YtankonnhednmeaaRefB
namespace Go.Proofs.Ytankonnhednmeaa
open Go.RowKit

theorem u64_range {n : Int} (h : (Lit.int .u64 n).wf = true) : 0 ≤ n ∧ n ≤ 18446744073709551615 := by
  rw [show Lit.wf (.int .u64 n) = (decide (IntKind.u64.min ≤ n) && decide (n ≤ IntKind.u64.max)) from rfl, Bool.and_eq_true, decide_eq_true_iff, decide_eq_true_iff, show IntKind.u64.min = 0 by decide, show IntKind.u64.max = 18446744073709551615 by decide] at h
  exact h
theorem uint_both (a : Nat) (A : Option Addr) (c : Nat) (hl : (limbs a).length ≤ 40) : ∃ (v : Nat) (p : Bool), v ≤ 18446744073709551615 ∧
    (∀ W : World, KL .u32 W W.heap.size A (limbs a) → Calls Try.prog 33 #[.slice A (limbs a).length c] W fun e w' => e = .returned (.tuple #[.int .u64 (v : Int), .bool p]) ∧ Below W.heap.size W w') ∧
    (∀ W : World, KL .u32 W W.heap.size A (limbs a) → Calls Try.prog 37 #[.slice A (limbs a).length c] W fun e w' => e = .returned (.tuple #[.int .u64 (v : Int), .bool p]) ∧ W = w') := by
  by_cases h : a < 18446744073709551616
  · refine ⟨a, true, by omega, fun W hA => ?_, fun W hA => ?_⟩
    · have := uint_any a A c W hA (by omega)
      rw [if_pos h, decide_eq_true h] at this
      exact this.mono fun _ _ h => ⟨h.1, below_of_drewN (Below.refl _ _) h.2⟩
    · have := refuint_lists A (limbs a) c W hA (limbs_dig a) (limbs_two.2 h)
      rw [nv_limbs] at this
      exact this
  · refine ⟨0, false, by omega, fun W hA => ?_, fun W hA => ?_⟩
    · have := uint_any a A c W hA (by omega)
      rw [if_neg h, decide_eq_false h] at this
      exact this.mono fun _ _ h => ⟨h.1, below_of_drewN (Below.refl _ _) h.2⟩
    · have h2 : ¬ (limbs a).length ≤ 2 := fun h' => h (limbs_two.1 h')
      exact refuint_more A (limbs a).length c W (by omega) (by omega)
theorem uint_of (n : Nat) (hn : n < 18446744073709551616) (A : Option Addr) (c : Nat) (W : World) (h : KL .u32 W W.heap.size A (limbs n)) : Calls Try.prog 33 #[.slice A (limbs n).length c] W fun e w' => e = .returned (.tuple #[.int .u64 (n : Int), .bool true]) ∧ Below W.heap.size W w' := by
  have := uint_any n A c W h (by have := limbs_two.2 hn; omega)
  rw [if_pos hn, decide_eq_true hn] at this
  exact this.mono fun _ _ h => ⟨h.1, below_of_drewN (Below.refl _ _) h.2⟩

set_option maxHeartbeats 4000000 in
theorem law_uints_yes (n m a : Nat) (A : Option Addr) (c : Nat) (w : World) (h : KL .u32 w w.heap.size A (limbs a)) (hn : n < 18446744073709551616) (hm : m < 18446744073709551616) (ha : (limbs a).length ≤ 40)
    (r : Int) (hr : cmpN n m = r) (hcase : (r = 1 ∧ m < n) ∨ (r = 0 ∧ n = m) ∨ (r = -1 ∧ n < m)) :
    Calls Try.prog 7 #[.int .u64 (n : Int), .int .u64 (m : Int), .slice A (limbs a).length c] w fun e w' => e = .returned (.bool true) ∧ Below w.heap.size w w' := by
  have HA_0 : Hid _ := Lib.hid h
  have HB_0 : Hid _ := Lib.hid (Below.refl w.heap.size w)
  have h2 := limbs_two.2 hn
  have h3 := limbs_two.2 hm
  have hn1 : (n : Int) ≤ 18446744073709551615 := by omega
  have hm1 : (m : Int) ≤ 18446744073709551615 := by omega
  obtain ⟨v, p, hv, hu, hu'⟩ := uint_both a A c ha
  have HU := Lib.hid hu
  have HU' := Lib.hid hu'
  have HR : Hid (∀ W : World, KL .u32 W W.heap.size A (limbs a) → Calls Try.prog 36 #[.slice A (limbs a).length c] W fun e w' => e = .returned (.bool true) ∧ W = w') :=
    Lib.hid fun W h => right_yes a A c W h (by omega)
  have HR' : Hid (∀ W : World, KL .u32 W W.heap.size A (limbs a) → Calls Try.prog 30 #[.slice A (limbs a).length c] W fun e w' => e = .returned (.bool true) ∧ W = w') :=
    Lib.hid fun W h => by rw [← canB_limbs a]; exact refright_any A (limbs a) c W h (by omega)
  have HOF : Hid (∀ W : World, Calls Try.prog 34 #[.int .u64 (n : Int)] W fun e w' => MadeN n W e w') := Lib.hid fun W => of_any n hn W
  have HOM : Hid (∀ W : World, Calls Try.prog 34 #[.int .u64 (m : Int)] W fun e w' => MadeN m W e w') := Lib.hid fun W => of_any m hm W
  have HOR : Hid (∀ W : World, Calls Try.prog 35 #[.int .u64 (n : Int)] W fun e w' => MadeN n W e w') := Lib.hid fun W => refof_any n hn W
  have HUO : Hid (∀ (W : World) (A : Option Addr) (c : Nat), KL .u32 W W.heap.size A (limbs n) → Calls Try.prog 33 #[.slice A (limbs n).length c] W fun e w' => e = .returned (.tuple #[.int .u64 (n : Int), .bool true]) ∧ Below W.heap.size W w') :=
    Lib.hid fun W A c h => uint_of n hn A c W h
  have HX := Lib.hid hr
  clear h hu hu' hr hn hm
  rcases hcase with ⟨rfl, hq⟩ | ⟨rfl, rfl⟩ | ⟨rfl, hq⟩
  all_goals
    go_enter Try.func7, Try.ntmps7
    go_wp2_with (first
      | (go_at_call 34; (with_reducible refine (HOF.out _).mono ?_); rintro e w1 ⟨AP, cP, rfl, hA, hcap, hb⟩; have HA_1 := Lib.hid (HA_0.out.up hb); have HB_1 := Lib.hid (below_chain HB_0.out hb); have HP_1 := Lib.hid hA; have HCP := Lib.hid hcap; clear hA hcap hb)
      | (go_at_call 33; (with_reducible refine (HUO.out _ AP cP HP_1.out).mono ?_); rintro e w2 ⟨rfl, hb⟩; have HA_2 := Lib.hid (HA_1.out.up hb); have HP_2 := Lib.hid (HP_1.out.up hb); have HB_2 := Lib.hid (below_chain HB_1.out hb); clear hb)
      | (go_at_call 34; (with_reducible refine (HOF.out _).mono ?_); rintro e w3 ⟨AQ, cQ, rfl, hA, hcap, hb⟩; have HA_3 := Lib.hid (HA_2.out.up hb); have HB_3 := Lib.hid (below_chain HB_2.out hb); have HQ_3 := Lib.hid hA; have HCQ := Lib.hid hcap; clear hA hcap hb)
      | (go_at_call 35; (with_reducible refine (HOR.out _).mono ?_); rintro e w4 ⟨AR, cR, rfl, hA, hcap, hb⟩; have HA_4 := Lib.hid (HA_3.out.up hb); have HQ_4 := Lib.hid (HQ_3.out.up hb); have HB_4 := Lib.hid (below_chain HB_3.out hb); have HR_4 := Lib.hid hA; have HCR := Lib.hid hcap; clear hA hcap hb)
      | (go_at_call 15; (with_reducible refine (lawsame_yes n n AQ AR cQ cR _ rfl (by omega) HQ_4.out HR_4.out).mono ?_); rintro e w5 ⟨rfl, hb⟩; have HA_5 := Lib.hid (HA_4.out.up hb); have HQ_5 := Lib.hid (HQ_4.out.up hb); have HR_5 := Lib.hid (HR_4.out.up hb); have HB_5 := Lib.hid (below_chain HB_4.out hb); clear hb)
      | (go_at_call 36; (with_reducible refine (HR.out _ HA_5.out).mono ?_); rintro e w' ⟨rfl, rfl⟩)
      | (go_at_call 30; (with_reducible refine (HR'.out _ HA_5.out).mono ?_); rintro e w' ⟨rfl, rfl⟩)
      | (go_at_call 33; (with_reducible refine (HU.out _ HA_5.out).mono ?_); rintro e w6 ⟨rfl, hb⟩; have HA_6 := Lib.hid (HA_5.out.up hb); have HB_6 := Lib.hid (below_chain HB_5.out hb); clear hb)
      | (go_at_call 37; (with_reducible refine (HU'.out _ HA_6.out).mono ?_); rintro e w' ⟨rfl, rfl⟩)
      | (go_at_call 34; (with_reducible refine (HOF.out _).mono ?_); rintro e w7 ⟨AS, cS, rfl, hA, hcap, hb⟩; have HA_7 := Lib.hid (HA_6.out.up hb); have HB_7 := Lib.hid (below_chain HB_6.out hb); have HS_7 := Lib.hid hA; have HCS := Lib.hid hcap; clear hA hcap hb)
      | (go_at_call 34; (with_reducible refine (HOM.out _).mono ?_); rintro e w8 ⟨AT, cT, rfl, hA, hcap, hb⟩; have HA_8 := Lib.hid (HA_7.out.up hb); have HS_8 := Lib.hid (HS_7.out.up hb); have HB_8 := Lib.hid (below_chain HB_7.out hb); have HT_8 := Lib.hid hA; have HCT := Lib.hid hcap; clear hA hcap hb)
      | (go_at_call 18; (with_reducible refine (cmp_yes n _ _ AS AT cS cT _ HX.out HS_8.out HT_8.out (by omega) (by omega)).mono ?_); rintro e w9 ⟨rfl, hb⟩; have HA_9 := Lib.hid (HA_8.out.up hb); have HS_9 := Lib.hid (HS_8.out.up hb); have HT_9 := Lib.hid (HT_8.out.up hb); have HB_9 := Lib.hid (below_chain HB_8.out hb); clear hb)
      | (go_at_call 12; (with_reducible refine (awake_any _).mono ?_); rintro e w10 ⟨rfl, hb⟩; have HA_10 := Lib.hid (HA_9.out.up hb); have HS_10 := Lib.hid (HS_9.out.up hb); have HT_10 := Lib.hid (HT_9.out.up hb); have HB_10 := Lib.hid (below_chain HB_9.out hb); clear hb))
    go_ret
    exact ⟨ret_bool (by first | rfl | (simp; done) | (simp; omega)), HB_10.out⟩

set_option maxHeartbeats 4000000 in
theorem law_uints_wrong (n : Nat) (m : Nat) (A : Option Addr) (xs : List Int) (c : Nat) (w : World) (h : KL .u32 w w.heap.size A xs) (hn : n < 18446744073709551616) (hm : m < 18446744073709551616) (ha : xs.length ≤ 40) (hc : canB xs = false) :
    Calls Try.prog 7 #[.int .u64 (n : Int), .int .u64 (m : Int), .slice A xs.length c] w fun e w' => e = .returned (.bool true) ∧ Below w.heap.size w w' := by
  have HA_0 : Hid _ := Lib.hid h
  have HB_0 : Hid _ := Lib.hid (Below.refl w.heap.size w)
  have h2 := limbs_two.2 hn
  have hn1 : (n : Int) ≤ 18446744073709551615 := by omega
  have HR : Hid (∀ W : World, KL .u32 W W.heap.size A xs → Calls Try.prog 36 #[.slice A xs.length c] W fun e w' => e = .returned (.bool false) ∧ W = w') :=
    Lib.hid fun W h => by rw [← hc]; exact right_any A xs c W h (by omega)
  have HR' : Hid (∀ W : World, KL .u32 W W.heap.size A xs → Calls Try.prog 30 #[.slice A xs.length c] W fun e w' => e = .returned (.bool false) ∧ W = w') :=
    Lib.hid fun W h => by rw [← hc]; exact refright_any A xs c W h (by omega)
  have HOF : Hid (∀ W : World, Calls Try.prog 34 #[.int .u64 (n : Int)] W fun e w' => MadeN n W e w') := Lib.hid fun W => of_any n hn W
  have HOR : Hid (∀ W : World, Calls Try.prog 35 #[.int .u64 (n : Int)] W fun e w' => MadeN n W e w') := Lib.hid fun W => refof_any n hn W
  have HUO : Hid (∀ (W : World) (A : Option Addr) (c : Nat), KL .u32 W W.heap.size A (limbs n) → Calls Try.prog 33 #[.slice A (limbs n).length c] W fun e w' => e = .returned (.tuple #[.int .u64 (n : Int), .bool true]) ∧ Below W.heap.size W w') :=
    Lib.hid fun W A c h => uint_of n hn A c W h
  clear h hn hm hc
  go_enter Try.func7, Try.ntmps7
  go_wp2_with (first
    | (go_at_call 34; (with_reducible refine (HOF.out _).mono ?_); rintro e w1 ⟨AP, cP, rfl, hA, hcap, hb⟩; have HA_1 := Lib.hid (HA_0.out.up hb); have HB_1 := Lib.hid (below_chain HB_0.out hb); have HP_1 := Lib.hid hA; have HCP := Lib.hid hcap; clear hA hcap hb)
    | (go_at_call 33; (with_reducible refine (HUO.out _ AP cP HP_1.out).mono ?_); rintro e w2 ⟨rfl, hb⟩; have HA_2 := Lib.hid (HA_1.out.up hb); have HP_2 := Lib.hid (HP_1.out.up hb); have HB_2 := Lib.hid (below_chain HB_1.out hb); clear hb)
    | (go_at_call 34; (with_reducible refine (HOF.out _).mono ?_); rintro e w3 ⟨AQ, cQ, rfl, hA, hcap, hb⟩; have HA_3 := Lib.hid (HA_2.out.up hb); have HB_3 := Lib.hid (below_chain HB_2.out hb); have HQ_3 := Lib.hid hA; have HCQ := Lib.hid hcap; clear hA hcap hb)
    | (go_at_call 35; (with_reducible refine (HOR.out _).mono ?_); rintro e w4 ⟨AR, cR, rfl, hA, hcap, hb⟩; have HA_4 := Lib.hid (HA_3.out.up hb); have HQ_4 := Lib.hid (HQ_3.out.up hb); have HB_4 := Lib.hid (below_chain HB_3.out hb); have HR_4 := Lib.hid hA; have HCR := Lib.hid hcap; clear hA hcap hb)
    | (go_at_call 15; (with_reducible refine (lawsame_yes n n AQ AR cQ cR _ rfl (by omega) HQ_4.out HR_4.out).mono ?_); rintro e w5 ⟨rfl, hb⟩; have HA_5 := Lib.hid (HA_4.out.up hb); have HQ_5 := Lib.hid (HQ_4.out.up hb); have HR_5 := Lib.hid (HR_4.out.up hb); have HB_5 := Lib.hid (below_chain HB_4.out hb); clear hb)
    | (go_at_call 36; (with_reducible refine (HR.out _ HA_5.out).mono ?_); rintro e w' ⟨rfl, rfl⟩)
    | (go_at_call 30; (with_reducible refine (HR'.out _ HA_5.out).mono ?_); rintro e w' ⟨rfl, rfl⟩)
    | (go_at_call 12; (with_reducible refine (awake_any _).mono ?_); rintro e w6 ⟨rfl, hb⟩; have HA_6 := Lib.hid (HA_5.out.up hb); have HB_6 := Lib.hid (below_chain HB_5.out hb); clear hb))
  go_ret
  exact ⟨rfl, HB_6.out⟩

theorem law_uints_long (n m : Nat) (A : Option Addr) (xs : List Int) (c : Nat) (w : World) (ha : ¬ xs.length ≤ 40) :
    Calls Try.prog 7 #[.int .u64 (n : Int), .int .u64 (m : Int), .slice A xs.length c] w fun e w' => e = .returned (.bool true) ∧ Below w.heap.size w w' := by
  go_enter Try.func7, Try.ntmps7
  go_wp2_with (go_at_call 12; (with_reducible refine (awake_any _).mono ?_); rintro e w1 ⟨rfl, hb⟩; have HB_1 := Lib.hid hb; clear hb)
  go_ret
  exact ⟨rfl, HB_1.out⟩

theorem law_uints (n m : Int) (hn0 : 0 ≤ n ∧ n ≤ 18446744073709551615) (hm0 : 0 ≤ m ∧ m ≤ 18446744073709551615) (A : Option Addr) (xs : List Int) (c : Nat) (w : World) (h : KL .u32 w w.heap.size A xs) (hd : D32 xs) :
    Calls Try.prog 7 #[.int .u64 n, .int .u64 m, .slice A xs.length c] w fun e w' => e = .returned (.bool true) ∧ Below w.heap.size w w' := by
  obtain ⟨n, rfl⟩ : ∃ k : Nat, n = k := ⟨n.toNat, by omega⟩
  obtain ⟨m, rfl⟩ : ∃ k : Nat, m = k := ⟨m.toNat, by omega⟩
  by_cases hl : xs.length ≤ 40
  · by_cases hc : canB xs = true
    · have e := limbs_nv (canB_iff.1 hc) hd
      obtain ⟨a, rfl⟩ : ∃ a, xs = limbs a := ⟨nv xs, e.symm⟩
      refine law_uints_yes n m a A c w h (by omega) (by omega) hl (cmpN n m) rfl ?_
      unfold cmpN
      split
      · omega
      · split <;> omega
    · exact law_uints_wrong n m A xs c w h (by omega) (by omega) hl (by simpa using hc)
  · exact law_uints_long n m A xs c w hl
end Go.Proofs.Ytankonnhednmeaa
