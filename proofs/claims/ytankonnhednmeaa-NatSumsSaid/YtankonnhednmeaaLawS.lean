/- The walk of NatSums. -/
import Derived.Test.YtankonnhednmeaaLawL
import Derived.Test.YtankonnhednmeaaRefD
namespace Go.Proofs.Ytankonnhednmeaa
open Go.RowKit

theorem refcmp_yes (n m : Nat) (r : Int) (A B : Option Addr) (c d : Nat) (w : World) (e : cmpN n m = r) (h : KL .u32 w w.heap.size A (limbs n)) (h' : KL .u32 w w.heap.size B (limbs m)) (hxl : (limbs n).length ≤ 1000) (hyl : (limbs m).length ≤ 1000) :
    Calls Try.prog 19 #[.slice A (limbs n).length c, .slice B (limbs m).length d] w fun e w' => e = .returned (.int .i64 r) ∧ Below w.heap.size w w' := by
  have := refcmp_lists A B (limbs n) (limbs m) c d w h h' (limbs_dig n) (limbs_dig m) (by omega) (by omega)
  rw [cmpV_limbs, e] at this
  exact this.mono fun _ _ h => ⟨h.1, below_of_drewN (Below.refl _ _) h.2⟩

set_option maxHeartbeats 4000000 in
theorem law_sums_yes (n m : Nat) (A B : Option Addr) (c d : Nat) (w : World) (h : KL .u32 w w.heap.size A (limbs n)) (h' : KL .u32 w w.heap.size B (limbs m)) (hn : (limbs n).length ≤ 40) (hm : (limbs m).length ≤ 40) (hm1 : mayB (limbs n) (limbs m) = true) :
    Calls Try.prog 3 #[.slice A (limbs n).length c, .slice B (limbs m).length d] w fun e w' => e = .returned (.bool true) ∧ Below w.heap.size w w' := by
  have HA_0 : Hid _ := Lib.hid h
  have HB2_0 : Hid _ := Lib.hid h'
  have HB_0 : Hid _ := Lib.hid (Below.refl w.heap.size w)
  have HT : Hid (∀ W : World, KL .u32 W W.heap.size A (limbs n) → KL .u32 W W.heap.size B (limbs m) → Calls Try.prog 11 #[.slice A (limbs n).length c, .slice B (limbs m).length d] W fun e w' => e = .returned (.bool true) ∧ W = w') :=
    Lib.hid fun W h h' => by rw [← hm1]; exact may_any A B (limbs n) (limbs m) c d W h h' (by omega) (by omega)
  obtain ⟨p, hp⟩ : ∃ p, decide (m ≤ n) = p := ⟨_, rfl⟩
  obtain ⟨r, hr⟩ : ∃ r, cmpN n m = r := ⟨_, rfl⟩
  have HX := Lib.hid hr
  have CSUB : Hid (∀ W : World, KL .u32 W W.heap.size A (limbs n) → KL .u32 W W.heap.size B (limbs m) → Calls Try.prog 13 #[.slice A (limbs n).length c, .slice B (limbs m).length d] W fun e w' => MadeNV (n - m) (.bool p) W e w') :=
    Lib.hid fun W h h' => by rw [← hp]; exact sub_any n m A B c d W h h' (by omega) (by omega)
  have CRSUB : Hid (∀ W : World, KL .u32 W W.heap.size A (limbs n) → KL .u32 W W.heap.size B (limbs m) → Calls Try.prog 14 #[.slice A (limbs n).length c, .slice B (limbs m).length d] W fun e w' => MadeNV (n - m) (.bool p) W e w') :=
    Lib.hid fun W h h' => by rw [← hp]; exact refsub_any n m A B c d W h h' (by omega) (by omega)
  have CADD : Hid (∀ W : World, KL .u32 W W.heap.size A (limbs n) → KL .u32 W W.heap.size B (limbs m) → Calls Try.prog 16 #[.slice A (limbs n).length c, .slice B (limbs m).length d] W fun e w' => MadeN (n + m) W e w') :=
    Lib.hid fun W h h' => add_any n m A B c d W h h' (by omega) (by omega)
  have CRADD : Hid (∀ W : World, KL .u32 W W.heap.size A (limbs n) → KL .u32 W W.heap.size B (limbs m) → Calls Try.prog 17 #[.slice A (limbs n).length c, .slice B (limbs m).length d] W fun e w' => MadeN (n + m) W e w') :=
    Lib.hid fun W h h' => refadd_any n m A B c d W h h' (by omega) (by omega)
  have l1 := add_len hn hm
  have l2 : (limbs (n - m)).length ≤ 40 := Nat.le_trans (lens_of_le (Nat.sub_le n m)) hn
  clear h h' hm1 hp hr
  go_enter Try.func3, Try.ntmps3
  go_wp2_with (first
    | (go_at_call 11; (with_reducible refine (HT.out _ HA_0.out HB2_0.out).mono ?_); rintro e w' ⟨rfl, rfl⟩)
    | (go_at_call 13; (with_reducible refine (CSUB.out _ HA_0.out HB2_0.out).mono ?_); rintro e w1 ⟨AD, cD, rfl, hA, hcap, hb⟩; have HA_1 := Lib.hid (HA_0.out.up hb); have HB2_1 := Lib.hid (HB2_0.out.up hb); have HB_1 := Lib.hid (below_chain HB_0.out hb); have HD_1 := Lib.hid hA; have HCD := Lib.hid hcap; clear hA hcap hb)
    | (go_at_call 14; (with_reducible refine (CRSUB.out _ HA_1.out HB2_1.out).mono ?_); rintro e w2 ⟨AE, cE, rfl, hA, hcap, hb⟩; have HA_2 := Lib.hid (HA_1.out.up hb); have HB2_2 := Lib.hid (HB2_1.out.up hb); have HD_2 := Lib.hid (HD_1.out.up hb); have HB_2 := Lib.hid (below_chain HB_1.out hb); have HE_2 := Lib.hid hA; have HCE := Lib.hid hcap; clear hA hcap hb)
    | (go_at_call 12; (with_reducible refine (awake_any _).mono ?_); rintro e w3 ⟨rfl, hb⟩; have HA_3 := Lib.hid (HA_2.out.up hb); have HB2_3 := Lib.hid (HB2_2.out.up hb); have HD_3 := Lib.hid (HD_2.out.up hb); have HE_3 := Lib.hid (HE_2.out.up hb); have HB_3 := Lib.hid (below_chain HB_2.out hb); clear hb)
    | (go_at_call 16; (with_reducible refine (CADD.out _ HA_3.out HB2_3.out).mono ?_); rintro e w4 ⟨AS, cS, rfl, hA, hcap, hb⟩; have HA_4 := Lib.hid (HA_3.out.up hb); have HB2_4 := Lib.hid (HB2_3.out.up hb); have HD_4 := Lib.hid (HD_3.out.up hb); have HE_4 := Lib.hid (HE_3.out.up hb); have HB_4 := Lib.hid (below_chain HB_3.out hb); have HS_4 := Lib.hid hA; have HCS := Lib.hid hcap; clear hA hcap hb)
    | (go_at_call 17; (with_reducible refine (CRADD.out _ HA_4.out HB2_4.out).mono ?_); rintro e w5 ⟨AT, cT, rfl, hA, hcap, hb⟩; have HA_5 := Lib.hid (HA_4.out.up hb); have HB2_5 := Lib.hid (HB2_4.out.up hb); have HD_5 := Lib.hid (HD_4.out.up hb); have HE_5 := Lib.hid (HE_4.out.up hb); have HS_5 := Lib.hid (HS_4.out.up hb); have HB_5 := Lib.hid (below_chain HB_4.out hb); have HT_5 := Lib.hid hA; have HCT := Lib.hid hcap; clear hA hcap hb)
    | (go_at_call 15; (with_reducible refine (lawsame_yes (n + m) (n + m) AS AT cS cT _ rfl (by omega) HS_5.out HT_5.out).mono ?_); rintro e w6 ⟨rfl, hb⟩; have HA_6 := Lib.hid (HA_5.out.up hb); have HB2_6 := Lib.hid (HB2_5.out.up hb); have HD_6 := Lib.hid (HD_5.out.up hb); have HE_6 := Lib.hid (HE_5.out.up hb); have HS_6 := Lib.hid (HS_5.out.up hb); have HT_6 := Lib.hid (HT_5.out.up hb); have HB_6 := Lib.hid (below_chain HB_5.out hb); clear hb)
    | (go_at_call 15; (with_reducible refine (lawsame_yes (n - m) (n - m) AD AE cD cE _ rfl (by omega) HD_6.out HE_6.out).mono ?_); rintro e w7 ⟨rfl, hb⟩; have HA_7 := Lib.hid (HA_6.out.up hb); have HB2_7 := Lib.hid (HB2_6.out.up hb); have HD_7 := Lib.hid (HD_6.out.up hb); have HE_7 := Lib.hid (HE_6.out.up hb); have HB_7 := Lib.hid (below_chain HB_6.out hb); clear hb)
    | (go_at_call 18; (with_reducible refine (cmp_yes n m _ A B c d _ HX.out HA_7.out HB2_7.out (by omega) (by omega)).mono ?_); rintro e w8 ⟨rfl, hb⟩; have HA_8 := Lib.hid (HA_7.out.up hb); have HB2_8 := Lib.hid (HB2_7.out.up hb); have HB_8 := Lib.hid (below_chain HB_7.out hb); clear hb)
    | (go_at_call 19; (with_reducible refine (refcmp_yes n m _ A B c d _ HX.out HA_8.out HB2_8.out (by omega) (by omega)).mono ?_); rintro e w9 ⟨rfl, hb⟩; have HA_9 := Lib.hid (HA_8.out.up hb); have HB2_9 := Lib.hid (HB2_8.out.up hb); have HB_9 := Lib.hid (below_chain HB_8.out hb); clear hb))
  go_ret
  exact ⟨ret_bool (by first | rfl | (simp; done)), HB_9.out⟩

theorem law_sums (A B : Option Addr) (xs ys : List Int) (c d : Nat) (w : World) (h : KL .u32 w w.heap.size A xs) (h' : KL .u32 w w.heap.size B ys) (hd : D32 xs) (hd' : D32 ys)
    (hxl : xs.length ≤ 9223372036854775807) (hyl : ys.length ≤ 9223372036854775807) :
    Calls Try.prog 3 #[.slice A xs.length c, .slice B ys.length d] w fun e w' => e = .returned (.bool true) ∧ Below w.heap.size w w' := by
  by_cases hm1 : mayB xs ys = true
  · obtain ⟨n, m, rfl, rfl, hn, hm⟩ := may_parts hm1 hd hd'
    exact law_sums_yes n m A B c d w h h' hn hm hm1
  · have hm1' : mayB xs ys = false := by simpa using hm1
    have HT : Hid (∀ W : World, Calls Try.prog 11 #[.slice A xs.length c, .slice B ys.length d] w fun e w' => e = .returned (.bool false) ∧ w = w') :=
      Lib.hid fun W => by rw [← hm1']; exact may_any A B xs ys c d w h h' hxl hyl
    clear h h' hm1 hm1' hd hd'
    go_enter Try.func3, Try.ntmps3
    go_wp2_with (first
      | (go_at_call 11; (with_reducible refine (HT.out w).mono ?_); rintro e w' ⟨rfl, rfl⟩)
      | (go_at_call 12; (with_reducible refine (awake_any _).mono ?_); rintro e w1 ⟨rfl, hb⟩; have HB_1 := Lib.hid hb; clear hb))
    go_ret
    exact ⟨rfl, HB_1.out⟩
end Go.Proofs.Ytankonnhednmeaa
