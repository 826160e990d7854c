/- The walk of NatProducts. -/
import Derived.Test.YtdflhidhnejbbaaLawL
import Derived.Test.YtdflhidhnejbbaaDivI
namespace Go.Proofs.Ytdflhidhnejbbaa
open Go.RowKit

set_option maxHeartbeats 4000000 in
theorem law_products_yes (n m : Nat) (A B : Option Addr) (c d : Nat) (w : World) (h : KL .u32 w w.heap.size A (limbs n)) (h' : KL .u32 w w.heap.size B (limbs m)) (hn : (limbs n).length ≤ 40) (hm : (limbs m).length ≤ 40) (hcap : (limbs n).length ≤ c) (hm1 : mayB (limbs n) (limbs m) = true) :
    Calls Try.prog 4 #[.slice A (limbs n).length c, .slice B (limbs m).length d] w fun e w' => e = .returned (.bool true) ∧ Below w.heap.size w w' := by
  obtain ⟨p, hp⟩ : ∃ p, decide (0 < m) = p := ⟨_, rfl⟩
  have HA_0 : Hid _ := Lib.hid h
  have HB2_0 : Hid _ := Lib.hid h'
  have HB_0 : Hid _ := Lib.hid (Below.refl w.heap.size w)
  have HT : Hid (∀ W : World, KL .u32 W W.heap.size A (limbs n) → KL .u32 W W.heap.size B (limbs m) → Calls Try.prog 11 #[.slice A (limbs n).length c, .slice B (limbs m).length d] W fun e w' => e = .returned (.bool true) ∧ W = w') :=
    Lib.hid fun W h h' => by rw [← hm1]; exact may_any A B (limbs n) (limbs m) c d W h h' (by omega) (by omega)
  have CDIV : Hid (∀ W : World, KL .u32 W W.heap.size A (limbs n) → KL .u32 W W.heap.size B (limbs m) → Calls Try.prog 20 #[.slice A (limbs n).length c, .slice B (limbs m).length d] W fun e w' => MadeQR (n / m) (remN n m) p W e w') :=
    Lib.hid fun W h h' => by rw [← hp]; exact divmod_any n m A B c d W h h' (by omega) (by omega)
  have CRDIV : Hid (∀ W : World, KL .u32 W W.heap.size A (limbs n) → KL .u32 W W.heap.size B (limbs m) → Calls Try.prog 21 #[.slice A (limbs n).length c, .slice B (limbs m).length d] W fun e w' => MadeQR (n / m) (remN n m) p W e w') :=
    Lib.hid fun W h h' => by rw [← hp]; exact refdivmod_any n m A B c d W h h' (by omega) (by omega) hcap
  have CMUL : Hid (∀ W : World, KL .u32 W W.heap.size A (limbs n) → KL .u32 W W.heap.size B (limbs m) → Calls Try.prog 22 #[.slice A (limbs n).length c, .slice B (limbs m).length d] W fun e w' => MadeN (n * m) W e w') :=
    Lib.hid fun W h h' => by exact mul_any n m A B c d W h h' (by omega) (by omega) (by omega)
  have CRMUL : Hid (∀ W : World, KL .u32 W W.heap.size A (limbs n) → KL .u32 W W.heap.size B (limbs m) → Calls Try.prog 23 #[.slice A (limbs n).length c, .slice B (limbs m).length d] W fun e w' => MadeN (n * m) W e w') :=
    Lib.hid fun W h h' => by exact refmul_any n m A B c d W h h' (by omega) (by omega)
  have l1 : (limbs (n / m)).length ≤ 40 := Nat.le_trans (lens_of_le (Nat.div_le_self _ _)) hn
  have l2 : (limbs (remN n m)).length ≤ 40 := by
    unfold remN
    split
    · rw [limbs_zero]; simp
    · exact Nat.le_trans (lens_of_le (Nat.mod_le _ _)) hn
  have l3 := mul_len hn hm
  clear h h' hm1 hp
  go_enter Try.func4, Try.ntmps4
  go_wp2_with (first
    | (go_at_call 11; (with_reducible refine (HT.out _ HA_0.out HB2_0.out).mono ?_); rintro e w' ⟨rfl, rfl⟩)
    | (go_at_call 20; (with_reducible refine (CDIV.out _ HA_0.out HB2_0.out).mono ?_); rintro e w1 ⟨AQ, cQ, AR, cR, rfl, hA, hA', hcap, hcap', hb⟩; have HA_1 := Lib.hid (HA_0.out.up hb); have HB2_1 := Lib.hid (HB2_0.out.up hb); have HB_1 := Lib.hid (below_chain HB_0.out hb); have HQ_1 := Lib.hid hA; have HCQ := Lib.hid hcap; have HR_1 := Lib.hid hA'; have HCR := Lib.hid hcap'; clear hA hA' hcap hcap' hb)
    | (go_at_call 21; (with_reducible refine (CRDIV.out _ HA_1.out HB2_1.out).mono ?_); rintro e w2 ⟨AS, cS, AT, cT, rfl, hA, hA', hcap, hcap', hb⟩; have HA_2 := Lib.hid (HA_1.out.up hb); have HB2_2 := Lib.hid (HB2_1.out.up hb); have HQ_2 := Lib.hid (HQ_1.out.up hb); have HR_2 := Lib.hid (HR_1.out.up hb); have HB_2 := Lib.hid (below_chain HB_1.out hb); have HS_2 := Lib.hid hA; have HCS := Lib.hid hcap; have HT_2 := Lib.hid hA'; have HCT := Lib.hid hcap'; clear hA hA' hcap hcap' hb)
    | (go_at_call 12; (with_reducible refine (awake_any _).mono ?_); rintro e w3 ⟨rfl, hb⟩; have HA_3 := Lib.hid (HA_2.out.up hb); have HB2_3 := Lib.hid (HB2_2.out.up hb); have HQ_3 := Lib.hid (HQ_2.out.up hb); have HR_3 := Lib.hid (HR_2.out.up hb); have HS_3 := Lib.hid (HS_2.out.up hb); have HT_3 := Lib.hid (HT_2.out.up hb); have HB_3 := Lib.hid (below_chain HB_2.out hb); clear hb)
    | (go_at_call 22; (with_reducible refine (CMUL.out _ HA_3.out HB2_3.out).mono ?_); rintro e w4 ⟨AU, cU, rfl, hA, hcap, hb⟩; have HA_4 := Lib.hid (HA_3.out.up hb); have HB2_4 := Lib.hid (HB2_3.out.up hb); have HQ_4 := Lib.hid (HQ_3.out.up hb); have HR_4 := Lib.hid (HR_3.out.up hb); have HS_4 := Lib.hid (HS_3.out.up hb); have HT_4 := Lib.hid (HT_3.out.up hb); have HB_4 := Lib.hid (below_chain HB_3.out hb); have HU_4 := Lib.hid hA; have HCU := Lib.hid hcap; clear hA hcap hb)
    | (go_at_call 23; (with_reducible refine (CRMUL.out _ HA_4.out HB2_4.out).mono ?_); rintro e w5 ⟨AV, cV, rfl, hA, hcap, hb⟩; have HA_5 := Lib.hid (HA_4.out.up hb); have HB2_5 := Lib.hid (HB2_4.out.up hb); have HQ_5 := Lib.hid (HQ_4.out.up hb); have HR_5 := Lib.hid (HR_4.out.up hb); have HS_5 := Lib.hid (HS_4.out.up hb); have HT_5 := Lib.hid (HT_4.out.up hb); have HU_5 := Lib.hid (HU_4.out.up hb); have HB_5 := Lib.hid (below_chain HB_4.out hb); have HV_5 := Lib.hid hA; have HCV := Lib.hid hcap; clear hA hcap hb)
    | (go_at_call 15; (with_reducible refine (lawsame_yes (n * m) (n * m) AU AV cU cV _ rfl (by omega) HU_5.out HV_5.out).mono ?_); rintro e w6 ⟨rfl, hb⟩; have HA_6 := Lib.hid (HA_5.out.up hb); have HB2_6 := Lib.hid (HB2_5.out.up hb); have HQ_6 := Lib.hid (HQ_5.out.up hb); have HR_6 := Lib.hid (HR_5.out.up hb); have HS_6 := Lib.hid (HS_5.out.up hb); have HT_6 := Lib.hid (HT_5.out.up hb); have HU_6 := Lib.hid (HU_5.out.up hb); have HV_6 := Lib.hid (HV_5.out.up hb); have HB_6 := Lib.hid (below_chain HB_5.out hb); clear hb)
    | (go_at_call 15; (with_reducible refine (lawsame_yes (n / m) (n / m) AQ AS cQ cS _ rfl (by omega) HQ_6.out HS_6.out).mono ?_); rintro e w7 ⟨rfl, hb⟩; have HA_7 := Lib.hid (HA_6.out.up hb); have HB2_7 := Lib.hid (HB2_6.out.up hb); have HQ_7 := Lib.hid (HQ_6.out.up hb); have HR_7 := Lib.hid (HR_6.out.up hb); have HS_7 := Lib.hid (HS_6.out.up hb); have HT_7 := Lib.hid (HT_6.out.up hb); have HU_7 := Lib.hid (HU_6.out.up hb); have HV_7 := Lib.hid (HV_6.out.up hb); have HB_7 := Lib.hid (below_chain HB_6.out hb); clear hb)
    | (go_at_call 15; (with_reducible refine (lawsame_yes (remN n m) (remN n m) AR AT cR cT _ rfl (by omega) HR_7.out HT_7.out).mono ?_); rintro e w8 ⟨rfl, hb⟩; have HA_8 := Lib.hid (HA_7.out.up hb); have HB2_8 := Lib.hid (HB2_7.out.up hb); have HQ_8 := Lib.hid (HQ_7.out.up hb); have HR_8 := Lib.hid (HR_7.out.up hb); have HS_8 := Lib.hid (HS_7.out.up hb); have HT_8 := Lib.hid (HT_7.out.up hb); have HU_8 := Lib.hid (HU_7.out.up hb); have HV_8 := Lib.hid (HV_7.out.up hb); have HB_8 := Lib.hid (below_chain HB_7.out hb); clear hb))
  go_ret
  exact ⟨ret_bool (by first | rfl | (simp; done)), HB_8.out⟩

theorem law_products (A B : Option Addr) (xs ys : List Int) (c d : Nat) (w : World) (h : KL .u32 w w.heap.size A xs) (h' : KL .u32 w w.heap.size B ys) (hd : D32 xs) (hd' : D32 ys)
    (hxl : xs.length ≤ 9223372036854775807) (hyl : ys.length ≤ 9223372036854775807) (hcap : xs.length ≤ c) :
    Calls Try.prog 4 #[.slice A xs.length c, .slice B ys.length d] w fun e w' => e = .returned (.bool true) ∧ Below w.heap.size w w' := by
  by_cases hm1 : mayB xs ys = true
  · obtain ⟨n, m, rfl, rfl, hn, hm⟩ := may_parts hm1 hd hd'
    exact law_products_yes n m A B c d w h h' hn hm hcap hm1
  · have hm1' : mayB xs ys = false := by simpa using hm1
    have HT : Hid (∀ W : World, Calls Try.prog 11 #[.slice A xs.length c, .slice B ys.length d] w fun e w' => e = .returned (.bool false) ∧ w = w') :=
      Lib.hid fun W => by rw [← hm1']; exact may_any A B xs ys c d w h h' hxl hyl
    clear h h' hm1 hm1' hd hd'
    go_enter Try.func4, Try.ntmps4
    go_wp2_with (first
      | (go_at_call 11; (with_reducible refine (HT.out w).mono ?_); rintro e w' ⟨rfl, rfl⟩)
      | (go_at_call 12; (with_reducible refine (awake_any _).mono ?_); rintro e w1 ⟨rfl, hb⟩; have HB_1 := Lib.hid hb; clear hb))
    go_ret
    exact ⟨rfl, HB_1.out⟩
end Go.Proofs.Ytdflhidhnejbbaa
