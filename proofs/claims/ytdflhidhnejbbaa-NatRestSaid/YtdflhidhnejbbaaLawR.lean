/- The walk of NatRest. -/
import Derived.Test.YtdflhidhnejbbaaLawL
import Derived.Test.YtdflhidhnejbbaaDivI
namespace Go.Proofs.Ytdflhidhnejbbaa
open Go.RowKit

set_option maxHeartbeats 4000000 in
theorem law_rest_yes (n m : Nat) (A B : Option Addr) (c d : Nat) (w : World) (h : KL .u32 w w.heap.size A (limbs n)) (h' : KL .u32 w w.heap.size B (limbs m)) (hn : (limbs n).length ≤ 40) (hm : (limbs m).length ≤ 40) (hm0 : 0 < m) (hm1 : mayB (limbs n) (limbs m) = true) :
    Calls Try.prog 9 #[.slice A (limbs n).length c, .slice B (limbs m).length d] w fun e w' => e = .returned (.bool true) ∧ Below w.heap.size w w' := by
  have HA_0 : Hid _ := Lib.hid h
  have HB2_0 : Hid _ := Lib.hid h'
  have HB_0 : Hid _ := Lib.hid (Below.refl w.heap.size w)
  have HT : Hid (∀ W : World, KL .u32 W W.heap.size A (limbs n) → KL .u32 W W.heap.size B (limbs m) → Calls Try.prog 11 #[.slice A (limbs n).length c, .slice B (limbs m).length d] W fun e w' => e = .returned (.bool true) ∧ W = w') :=
    Lib.hid fun W h h' => by rw [← hm1]; exact may_any A B (limbs n) (limbs m) c d W h h' (by omega) (by omega)
  have CDIV : Hid (∀ W : World, KL .u32 W W.heap.size A (limbs n) → KL .u32 W W.heap.size B (limbs m) → Calls Try.prog 20 #[.slice A (limbs n).length c, .slice B (limbs m).length d] W fun e w' => MadeQR (n / m) (n % m) true W e w') :=
    Lib.hid fun W h h' => by have := divmod_any n m A B c d W h h' (by omega) (by omega); rwa [decide_eq_true hm0, show remN n m = n % m by unfold remN; rw [if_neg (by omega)]] at this
  have l1 : (limbs (n / m)).length ≤ 40 := Nat.le_trans (lens_of_le (Nat.div_le_self _ _)) hn
  have l2 : (limbs (n % m)).length ≤ 40 := Nat.le_trans (lens_of_le (Nat.mod_le _ _)) hn
  have l3 : (limbs (n / m * m)).length ≤ 40 := Nat.le_trans (lens_of_le (Nat.div_mul_le_self _ _)) hn
  have hE : n / m * m + n % m = n := by rw [Nat.mul_comm]; exact Nat.div_add_mod n m
  have l4 : (limbs (n / m * m + n % m)).length ≤ 40 := by rw [hE]; exact hn
  have HE := Lib.hid hE
  have hmp := limbs_len_pos.2 hm0
  have hb1 : (((limbs m).length : Int) == 0) = false := by rw [beq_eq_false_iff_ne]; omega
  have HX : Hid (cmpN (n % m) m = -1) := Lib.hid (by unfold cmpN; rw [if_pos (Nat.mod_lt _ hm0)])
  clear h h' hm1 hE hm0
  go_enter Try.func9, Try.ntmps9
  go_wp2_with (first
    | (go_at_call 11; (with_reducible refine (HT.out _ HA_0.out HB2_0.out).mono ?_); rintro e w' ⟨rfl, rfl⟩)
    | (go_at_call 20; (with_reducible refine (CDIV.out _ HA_0.out HB2_0.out).mono ?_); rintro e w1 ⟨AQ, cQ, AR, cR, rfl, hA, hA', hcap, hcap', hb⟩; have HA_1 := Lib.hid (HA_0.out.up hb); have HB2_1 := Lib.hid (HB2_0.out.up hb); have HB_1 := Lib.hid (below_chain HB_0.out hb); have HQ_1 := Lib.hid hA; have HCQ := Lib.hid hcap; have HR_1 := Lib.hid hA'; have HCR := Lib.hid hcap'; clear hA hA' hcap hcap' hb)
    | (go_at_call 12; (with_reducible refine (awake_any _).mono ?_); rintro e w2 ⟨rfl, hb⟩; have HA_2 := Lib.hid (HA_1.out.up hb); have HB2_2 := Lib.hid (HB2_1.out.up hb); have HQ_2 := Lib.hid (HQ_1.out.up hb); have HR_2 := Lib.hid (HR_1.out.up hb); have HB_2 := Lib.hid (below_chain HB_1.out hb); clear hb)
    | (go_at_call 36; (with_reducible refine (right_yes (n / m) AQ cQ _ HQ_2.out (by omega)).mono ?_); rintro e w' ⟨rfl, rfl⟩)
    | (go_at_call 36; (with_reducible refine (right_yes (n % m) AR cR _ HR_2.out (by omega)).mono ?_); rintro e w' ⟨rfl, rfl⟩)
    | (go_at_call 18; (with_reducible refine (cmp_yes (n % m) m _ AR B cR d _ HX.out HR_2.out HB2_2.out (by omega) (by omega)).mono ?_); rintro e w3 ⟨rfl, hb⟩; have HA_3 := Lib.hid (HA_2.out.up hb); have HB2_3 := Lib.hid (HB2_2.out.up hb); have HQ_3 := Lib.hid (HQ_2.out.up hb); have HR_3 := Lib.hid (HR_2.out.up hb); have HB_3 := Lib.hid (below_chain HB_2.out hb); clear hb)
    | (go_at_call 22; (with_reducible refine (mul_any (n / m) m AQ B cQ d _ HQ_3.out HB2_3.out (by omega) (by omega) (by omega)).mono ?_); rintro e w4 ⟨AP, cP, rfl, hA, hcap, hb⟩; have HA_4 := Lib.hid (HA_3.out.up hb); have HB2_4 := Lib.hid (HB2_3.out.up hb); have HQ_4 := Lib.hid (HQ_3.out.up hb); have HR_4 := Lib.hid (HR_3.out.up hb); have HB_4 := Lib.hid (below_chain HB_3.out hb); have HP_4 := Lib.hid hA; have HCP := Lib.hid hcap; clear hA hcap hb)
    | (go_at_call 16; (with_reducible refine (add_any (n / m * m) (n % m) AP AR cP cR _ HP_4.out HR_4.out (by omega) (by omega)).mono ?_); rintro e w5 ⟨AS, cS, rfl, hA, hcap, hb⟩; have HA_5 := Lib.hid (HA_4.out.up hb); have HB2_5 := Lib.hid (HB2_4.out.up hb); have HQ_5 := Lib.hid (HQ_4.out.up hb); have HR_5 := Lib.hid (HR_4.out.up hb); have HP_5 := Lib.hid (HP_4.out.up hb); have HB_5 := Lib.hid (below_chain HB_4.out hb); have HS_5 := Lib.hid hA; have HCS := Lib.hid hcap; clear hA hcap hb)
    | (go_at_call 15; (with_reducible refine (lawsame_yes (n / m * m + n % m) n AS A cS c _ HE.out (by omega) HS_5.out HA_5.out).mono ?_); rintro e w6 ⟨rfl, hb⟩; have HA_6 := Lib.hid (HA_5.out.up hb); have HB2_6 := Lib.hid (HB2_5.out.up hb); have HQ_6 := Lib.hid (HQ_5.out.up hb); have HR_6 := Lib.hid (HR_5.out.up hb); have HP_6 := Lib.hid (HP_5.out.up hb); have HS_6 := Lib.hid (HS_5.out.up hb); have HB_6 := Lib.hid (below_chain HB_5.out hb); clear hb))
  go_ret
  exact ⟨ret_bool (by first | rfl | (simp; done)), HB_6.out⟩

theorem law_rest (A B : Option Addr) (xs ys : List Int) (c d : Nat) (w : World) (h : KL .u32 w w.heap.size A xs) (h' : KL .u32 w w.heap.size B ys) (hd : D32 xs) (hd' : D32 ys)
    (hxl : xs.length ≤ 9223372036854775807) (hyl : ys.length ≤ 9223372036854775807) :
    Calls Try.prog 9 #[.slice A xs.length c, .slice B ys.length d] w fun e w' => e = .returned (.bool true) ∧ Below w.heap.size w w' := by
  by_cases hm1 : mayB xs ys = true
  · obtain ⟨n, m, rfl, rfl, hn, hm⟩ := may_parts hm1 hd hd'
    rcases Nat.eq_zero_or_pos m with rfl | hm0
    · have HT : Hid (∀ W : World, Calls Try.prog 11 #[.slice A (limbs n).length c, .slice B 0 d] w fun e w' => e = .returned (.bool true) ∧ w = w') :=
        Lib.hid fun W => by
          have := may_any A B (limbs n) (limbs 0) c d w h h' hxl hyl
          rw [hm1, limbs_zero] at this
          exact this
      rw [limbs_zero]
      clear h h' hm1 hd hd'
      go_enter Try.func9, Try.ntmps9
      go_wp2_with (first
        | (go_at_call 11; (with_reducible refine (HT.out w).mono ?_); rintro e w' ⟨rfl, rfl⟩)
        | (go_at_call 12; (with_reducible refine (awake_any _).mono ?_); rintro e w1 ⟨rfl, hb⟩; have HB_1 := Lib.hid hb; clear hb))
      go_ret
      exact ⟨rfl, HB_1.out⟩
    · exact law_rest_yes n m A B c d w h h' hn hm hm0 hm1
  · have hm1' : mayB xs ys = false := by simpa using hm1
    have HT : Hid (∀ W : World, Calls Try.prog 11 #[.slice A xs.length c, .slice B ys.length d] w fun e w' => e = .returned (.bool false) ∧ w = w') :=
      Lib.hid fun W => by rw [← hm1']; exact may_any A B xs ys c d w h h' hxl hyl
    clear h h' hm1 hm1' hd hd'
    go_enter Try.func9, Try.ntmps9
    go_wp2_with (first
      | (go_at_call 11; (with_reducible refine (HT.out w).mono ?_); rintro e w' ⟨rfl, rfl⟩)
      | (go_at_call 12; (with_reducible refine (awake_any _).mono ?_); rintro e w1 ⟨rfl, hb⟩; have HB_1 := Lib.hid hb; clear hb))
    go_ret
    exact ⟨rfl, HB_1.out⟩
end Go.Proofs.Ytdflhidhnejbbaa
