/- The walk of NatLaws. -/
import Derived.Test.YtdflhidhnejbbaaMay
namespace Go.Proofs.Ytdflhidhnejbbaa
open Go.RowKit

theorem add_len {a x y : Nat} (h : (limbs x).length ≤ a) (h' : (limbs y).length ≤ a) : (limbs (x + y)).length ≤ a + 1 := by
  apply limbs_len_le
  have h1 := Nat.lt_of_lt_of_le (limbs_lt x) (Nat.pow_le_pow_right (by omega) h)
  have h2 := Nat.lt_of_lt_of_le (limbs_lt y) (Nat.pow_le_pow_right (by omega) h')
  rw [Nat.pow_succ]
  omega
theorem lawsame_yes (u v : Nat) (A B : Option Addr) (c d : Nat) (W : World) (e : u = v) (hl : (limbs u).length ≤ 1000) (h : KL .u32 W W.heap.size A (limbs u)) (h' : KL .u32 W W.heap.size B (limbs v)) :
    Calls Try.prog 15 #[.slice A (limbs u).length c, .slice B (limbs v).length d] W fun e w' => e = .returned (.bool true) ∧ Below W.heap.size W w' := by
  have := lawsame_any u v A B c d W h h' (by omega) (by rw [← e]; omega)
  rw [decide_eq_true e] at this
  exact this
theorem cmp_yes (n m : Nat) (r : Int) (A B : Option Addr) (c d : Nat) (w : World) (e : cmpN n m = r) (h : KL .u32 w w.heap.size A (limbs n)) (h' : KL .u32 w w.heap.size B (limbs m)) (hxl : (limbs n).length ≤ 1000) (hyl : (limbs m).length ≤ 1000) :
    Calls Try.prog 18 #[.slice A (limbs n).length c, .slice B (limbs m).length d] w fun e w' => e = .returned (.int .i64 r) ∧ Below w.heap.size w w' := by
  have := cmp_lists A B (limbs n) (limbs m) c d w h h' (limbs_dig n) (limbs_dig m) (by omega) (by omega)
  rw [cmpV_limbs, e] at this
  exact this.mono fun _ _ h => ⟨h.1, below_of_drewN (Below.refl _ _) h.2⟩
theorem right_yes (n : Nat) (A : Option Addr) (c : Nat) (w : World) (h : KL .u32 w w.heap.size A (limbs n)) (hxl : (limbs n).length ≤ 1000) :
    Calls Try.prog 36 #[.slice A (limbs n).length c] w fun e w' => e = .returned (.bool true) ∧ w = w' := by
  have := right_any A (limbs n) c w h (by omega)
  rw [canB_limbs] at this
  exact this
theorem cmpN_swap (n m : Nat) : cmpN m n = -cmpN n m := by unfold cmpN; split <;> split <;> omega
theorem cmpN_trans (n m k : Nat) (h : cmpN n m ≤ 0) (h' : cmpN m k ≤ 0) : cmpN n k ≤ 0 := by
  unfold cmpN at *
  split at h <;> split at h' <;> (try split at h) <;> (try split at h') <;> split <;> (try split) <;> omega
theorem cmpN_cases (n m : Nat) : (cmpN n m = 1 ∧ ¬ n = m) ∨ (cmpN n m = 0 ∧ n = m) ∨ (cmpN n m = -1 ∧ ¬ n = m) := by
  unfold cmpN
  split
  · omega
  · split <;> omega

set_option maxHeartbeats 4000000 in
theorem law_laws_yes (n m k : Nat) (A B C : Option Addr) (c d e' : Nat) (w : World) (h : KL .u32 w w.heap.size A (limbs n)) (h' : KL .u32 w w.heap.size B (limbs m)) (h'' : KL .u32 w w.heap.size C (limbs k))
    (hn : (limbs n).length ≤ 40) (hm : (limbs m).length ≤ 40) (hk : (limbs k).length ≤ 40) (x y z : Int) (p : Bool) (hx : cmpN n m = x) (hx' : cmpN m n = -x) (hy : cmpN m k = y) (hz : cmpN n k = z) (hp : decide (n = m) = p)
    (hcase : (x = 1 ∧ p = false) ∨ (x = 0 ∧ p = true ∧ y ≤ 0 ∧ z ≤ 0) ∨ (x = 0 ∧ p = true ∧ 0 < y) ∨ (x = -1 ∧ p = false ∧ y ≤ 0 ∧ z ≤ 0) ∨ (x = -1 ∧ p = false ∧ 0 < y))
    (hm1 : mayB (limbs n) (limbs m) = true) (hm2 : mayB (limbs k) [] = true) :
    Calls Try.prog 10 #[.slice A (limbs n).length c, .slice B (limbs m).length d, .slice C (limbs k).length e'] w fun e w' => e = .returned (.bool true) ∧ Below w.heap.size w w' := by
  have HA_0 : Hid _ := Lib.hid h
  have HB2_0 : Hid _ := Lib.hid h'
  have HC_0 : Hid _ := Lib.hid h''
  have HB_0 : Hid _ := Lib.hid (Below.refl w.heap.size w)
  have HT : Hid (∀ W : World, KL .u32 W W.heap.size A (limbs n) → KL .u32 W W.heap.size B (limbs m) → Calls Try.prog 11 #[.slice A (limbs n).length c, .slice B (limbs m).length d] W fun e w' => e = .returned (.bool true) ∧ W = w') :=
    Lib.hid fun W h h' => by rw [← hm1]; exact may_any A B (limbs n) (limbs m) c d W h h' (by omega) (by omega)
  have HT2 : Hid (∀ W : World, KL .u32 W W.heap.size C (limbs k) → Calls Try.prog 11 #[.slice C (limbs k).length e', .slice none 0 0] W fun e w' => e = .returned (.bool true) ∧ W = w') :=
    Lib.hid fun W h => by rw [← hm2]; exact may_any C none (limbs k) [] e' 0 W h KL.nil_ (by omega) (by simp)
  have CADD : Hid (∀ (u v : Nat) (A B : Option Addr) (c d : Nat) (W : World), (limbs u).length ≤ 1000 → (limbs v).length ≤ 1000 → KL .u32 W W.heap.size A (limbs u) → KL .u32 W W.heap.size B (limbs v) → Calls Try.prog 16 #[.slice A (limbs u).length c, .slice B (limbs v).length d] W fun e w' => MadeN (u + v) W e w') :=
    Lib.hid fun u v A B c d W hu hv h h' => add_any u v A B c d W h h' (by omega) (by omega)
  have CMUL : Hid (∀ (u v : Nat) (A B : Option Addr) (c d : Nat) (W : World), (limbs u).length ≤ 80 → (limbs v).length ≤ 80 → ((limbs u).length ≤ 78 ∨ (limbs v).length ≤ 78) → KL .u32 W W.heap.size A (limbs u) → KL .u32 W W.heap.size B (limbs v) → Calls Try.prog 22 #[.slice A (limbs u).length c, .slice B (limbs v).length d] W fun e w' => MadeN (u * v) W e w') :=
    Lib.hid fun u v A B c d W hu hv hk h h' => mul_any u v A B c d W h h' (by omega) (by omega) hk
  have HX := Lib.hid hx
  have HX' := Lib.hid hx'
  have HY := Lib.hid hy
  have HZ := Lib.hid hz
  have CSAB : Hid (∀ W : World, KL .u32 W W.heap.size A (limbs n) → KL .u32 W W.heap.size B (limbs m) → Calls Try.prog 15 #[.slice A (limbs n).length c, .slice B (limbs m).length d] W fun e w' => e = .returned (.bool p) ∧ Below W.heap.size W w') :=
    Lib.hid fun W h h' => by rw [← hp]; exact lawsame_any n m A B c d W h h' (by omega) (by omega)
  have l1 := add_len hn hm
  have l2 := add_len hm hk
  have l3 := mul_len hn hm
  have l4 := mul_len hm hk
  have l5 : (limbs (n + m + k)).length ≤ 42 := add_len l1 (by omega)
  have l6 : (limbs (n * m * k)).length ≤ 120 := mul_len l3 hk
  have l7 : (limbs ((n + m) * k)).length ≤ 81 := mul_len l1 hk
  have l8 := mul_len hn hk
  have e1 : n + m = m + n := Nat.add_comm _ _
  have e2 : n * m = m * n := Nat.mul_comm _ _
  have e3 : n + m + k = n + (m + k) := Nat.add_assoc _ _ _
  have e4 : n * m * k = n * (m * k) := Nat.mul_assoc _ _ _
  have e5 : (n + m) * k = n * k + m * k := Nat.add_mul _ _ _
  have E1 := Lib.hid e1; have E2 := Lib.hid e2; have E3 := Lib.hid e3; have E4 := Lib.hid e4; have E5 := Lib.hid e5
  clear h h' h'' hx hx' hy hz hp hm1 hm2 e1 e2 e3 e4 e5
  rcases hcase with ⟨rfl, rfl⟩ | ⟨rfl, rfl, hy, hz⟩ | ⟨rfl, rfl, hy⟩ | ⟨rfl, rfl, hy, hz⟩ | ⟨rfl, rfl, hy⟩
  all_goals
    go_enter Try.func10, Try.ntmps10
    go_wp2_with (first
      | (go_at_call 11; (with_reducible refine (HT.out _ HA_0.out HB2_0.out).mono ?_); rintro e w' ⟨rfl, rfl⟩)
      | (go_at_call 11; (with_reducible refine (HT2.out _ HC_0.out).mono ?_); rintro e w' ⟨rfl, rfl⟩)
      | (go_at_call 16; (with_reducible refine (CADD.out (n) (m) A B c d _ (by omega) (by omega) HA_0.out HB2_0.out).mono ?_); rintro e w1 ⟨AS, cS, rfl, hA, hcap, hb⟩; have HA_1 := Lib.hid (HA_0.out.up hb); have HB2_1 := Lib.hid (HB2_0.out.up hb); have HC_1 := Lib.hid (HC_0.out.up hb); have HB_1 := Lib.hid (below_chain HB_0.out hb); have HS_1 := Lib.hid hA; have HCS := Lib.hid hcap; clear hA hcap hb)
      | (go_at_call 22; (with_reducible refine (CMUL.out (n) (m) A B c d _ (by omega) (by omega) (by omega) HA_1.out HB2_1.out).mono ?_); rintro e w2 ⟨AP, cP, rfl, hA, hcap, hb⟩; have HA_2 := Lib.hid (HA_1.out.up hb); have HB2_2 := Lib.hid (HB2_1.out.up hb); have HC_2 := Lib.hid (HC_1.out.up hb); have HS_2 := Lib.hid (HS_1.out.up hb); have HB_2 := Lib.hid (below_chain HB_1.out hb); have HP_2 := Lib.hid hA; have HCP := Lib.hid hcap; clear hA hcap hb)
      | (go_at_call 18; (with_reducible refine (cmp_yes (n) (m) _ A B c d _ HX.out HA_2.out HB2_2.out (by omega) (by omega)).mono ?_); rintro e w3 ⟨rfl, hb⟩; have HA_3 := Lib.hid (HA_2.out.up hb); have HB2_3 := Lib.hid (HB2_2.out.up hb); have HC_3 := Lib.hid (HC_2.out.up hb); have HS_3 := Lib.hid (HS_2.out.up hb); have HP_3 := Lib.hid (HP_2.out.up hb); have HB_3 := Lib.hid (below_chain HB_2.out hb); clear hb)
      | (go_at_call 18; (with_reducible refine (cmp_yes (m) (k) _ B C d e' _ HY.out HB2_3.out HC_3.out (by omega) (by omega)).mono ?_); rintro e w4 ⟨rfl, hb⟩; have HA_4 := Lib.hid (HA_3.out.up hb); have HB2_4 := Lib.hid (HB2_3.out.up hb); have HC_4 := Lib.hid (HC_3.out.up hb); have HS_4 := Lib.hid (HS_3.out.up hb); have HP_4 := Lib.hid (HP_3.out.up hb); have HB_4 := Lib.hid (below_chain HB_3.out hb); clear hb)
      | (go_at_call 18; (with_reducible refine (cmp_yes (n) (k) _ A C c e' _ HZ.out HA_4.out HC_4.out (by omega) (by omega)).mono ?_); rintro e w5 ⟨rfl, hb⟩; have HA_5 := Lib.hid (HA_4.out.up hb); have HB2_5 := Lib.hid (HB2_4.out.up hb); have HC_5 := Lib.hid (HC_4.out.up hb); have HS_5 := Lib.hid (HS_4.out.up hb); have HP_5 := Lib.hid (HP_4.out.up hb); have HB_5 := Lib.hid (below_chain HB_4.out hb); clear hb)
      | (go_at_call 18; (with_reducible refine (cmp_yes (m) (n) _ B A d c _ HX'.out HB2_5.out HA_5.out (by omega) (by omega)).mono ?_); rintro e w6 ⟨rfl, hb⟩; have HA_6 := Lib.hid (HA_5.out.up hb); have HB2_6 := Lib.hid (HB2_5.out.up hb); have HC_6 := Lib.hid (HC_5.out.up hb); have HS_6 := Lib.hid (HS_5.out.up hb); have HP_6 := Lib.hid (HP_5.out.up hb); have HB_6 := Lib.hid (below_chain HB_5.out hb); clear hb)
      | (go_at_call 15; (with_reducible refine (CSAB.out _ HA_6.out HB2_6.out).mono ?_); rintro e w7 ⟨rfl, hb⟩; have HA_7 := Lib.hid (HA_6.out.up hb); have HB2_7 := Lib.hid (HB2_6.out.up hb); have HC_7 := Lib.hid (HC_6.out.up hb); have HS_7 := Lib.hid (HS_6.out.up hb); have HP_7 := Lib.hid (HP_6.out.up hb); have HB_7 := Lib.hid (below_chain HB_6.out hb); clear hb)
      | (go_at_call 12; (with_reducible refine (awake_any _).mono ?_); rintro e w8 ⟨rfl, hb⟩; have HA_8 := Lib.hid (HA_7.out.up hb); have HB2_8 := Lib.hid (HB2_7.out.up hb); have HC_8 := Lib.hid (HC_7.out.up hb); have HS_8 := Lib.hid (HS_7.out.up hb); have HP_8 := Lib.hid (HP_7.out.up hb); have HB_8 := Lib.hid (below_chain HB_7.out hb); clear hb)
      | (go_at_call 16; (with_reducible refine (CADD.out (m) (n) B A d c _ (by omega) (by omega) HB2_8.out HA_8.out).mono ?_); rintro e w9 ⟨AT1, cT1, rfl, hA, hcap, hb⟩; have HA_9 := Lib.hid (HA_8.out.up hb); have HB2_9 := Lib.hid (HB2_8.out.up hb); have HC_9 := Lib.hid (HC_8.out.up hb); have HS_9 := Lib.hid (HS_8.out.up hb); have HP_9 := Lib.hid (HP_8.out.up hb); have HB_9 := Lib.hid (below_chain HB_8.out hb); have HT1_9 := Lib.hid hA; have HCT1 := Lib.hid hcap; clear hA hcap hb)
      | (go_at_call 15; (with_reducible refine (lawsame_yes ((n) + (m)) ((m) + (n)) AS AT1 cS cT1 _ E1.out (by omega) HS_9.out HT1_9.out).mono ?_); rintro e w10 ⟨rfl, hb⟩; have HA_10 := Lib.hid (HA_9.out.up hb); have HB2_10 := Lib.hid (HB2_9.out.up hb); have HC_10 := Lib.hid (HC_9.out.up hb); have HS_10 := Lib.hid (HS_9.out.up hb); have HP_10 := Lib.hid (HP_9.out.up hb); have HT1_10 := Lib.hid (HT1_9.out.up hb); have HB_10 := Lib.hid (below_chain HB_9.out hb); clear hb)
      | (go_at_call 22; (with_reducible refine (CMUL.out (m) (n) B A d c _ (by omega) (by omega) (by omega) HB2_10.out HA_10.out).mono ?_); rintro e w11 ⟨AT2, cT2, rfl, hA, hcap, hb⟩; have HA_11 := Lib.hid (HA_10.out.up hb); have HB2_11 := Lib.hid (HB2_10.out.up hb); have HC_11 := Lib.hid (HC_10.out.up hb); have HS_11 := Lib.hid (HS_10.out.up hb); have HP_11 := Lib.hid (HP_10.out.up hb); have HB_11 := Lib.hid (below_chain HB_10.out hb); have HT2_11 := Lib.hid hA; have HCT2 := Lib.hid hcap; clear hA hcap hb)
      | (go_at_call 15; (with_reducible refine (lawsame_yes ((n) * (m)) ((m) * (n)) AP AT2 cP cT2 _ E2.out (by omega) HP_11.out HT2_11.out).mono ?_); rintro e w12 ⟨rfl, hb⟩; have HA_12 := Lib.hid (HA_11.out.up hb); have HB2_12 := Lib.hid (HB2_11.out.up hb); have HC_12 := Lib.hid (HC_11.out.up hb); have HS_12 := Lib.hid (HS_11.out.up hb); have HP_12 := Lib.hid (HP_11.out.up hb); have HT2_12 := Lib.hid (HT2_11.out.up hb); have HB_12 := Lib.hid (below_chain HB_11.out hb); clear hb)
      | (go_at_call 16; (with_reducible refine (CADD.out ((n) + (m)) (k) AS C cS e' _ (by omega) (by omega) HS_12.out HC_12.out).mono ?_); rintro e w13 ⟨AT3, cT3, rfl, hA, hcap, hb⟩; have HA_13 := Lib.hid (HA_12.out.up hb); have HB2_13 := Lib.hid (HB2_12.out.up hb); have HC_13 := Lib.hid (HC_12.out.up hb); have HS_13 := Lib.hid (HS_12.out.up hb); have HP_13 := Lib.hid (HP_12.out.up hb); have HB_13 := Lib.hid (below_chain HB_12.out hb); have HT3_13 := Lib.hid hA; have HCT3 := Lib.hid hcap; clear hA hcap hb)
      | (go_at_call 16; (with_reducible refine (CADD.out (m) (k) B C d e' _ (by omega) (by omega) HB2_13.out HC_13.out).mono ?_); rintro e w14 ⟨AT4, cT4, rfl, hA, hcap, hb⟩; have HA_14 := Lib.hid (HA_13.out.up hb); have HB2_14 := Lib.hid (HB2_13.out.up hb); have HC_14 := Lib.hid (HC_13.out.up hb); have HS_14 := Lib.hid (HS_13.out.up hb); have HP_14 := Lib.hid (HP_13.out.up hb); have HT3_14 := Lib.hid (HT3_13.out.up hb); have HB_14 := Lib.hid (below_chain HB_13.out hb); have HT4_14 := Lib.hid hA; have HCT4 := Lib.hid hcap; clear hA hcap hb)
      | (go_at_call 16; (with_reducible refine (CADD.out (n) ((m) + (k)) A AT4 c cT4 _ (by omega) (by omega) HA_14.out HT4_14.out).mono ?_); rintro e w15 ⟨AT5, cT5, rfl, hA, hcap, hb⟩; have HA_15 := Lib.hid (HA_14.out.up hb); have HB2_15 := Lib.hid (HB2_14.out.up hb); have HC_15 := Lib.hid (HC_14.out.up hb); have HS_15 := Lib.hid (HS_14.out.up hb); have HP_15 := Lib.hid (HP_14.out.up hb); have HT3_15 := Lib.hid (HT3_14.out.up hb); have HT4_15 := Lib.hid (HT4_14.out.up hb); have HB_15 := Lib.hid (below_chain HB_14.out hb); have HT5_15 := Lib.hid hA; have HCT5 := Lib.hid hcap; clear hA hcap hb)
      | (go_at_call 15; (with_reducible refine (lawsame_yes (((n) + (m)) + (k)) ((n) + ((m) + (k))) AT3 AT5 cT3 cT5 _ E3.out (by omega) HT3_15.out HT5_15.out).mono ?_); rintro e w16 ⟨rfl, hb⟩; have HA_16 := Lib.hid (HA_15.out.up hb); have HB2_16 := Lib.hid (HB2_15.out.up hb); have HC_16 := Lib.hid (HC_15.out.up hb); have HS_16 := Lib.hid (HS_15.out.up hb); have HP_16 := Lib.hid (HP_15.out.up hb); have HT3_16 := Lib.hid (HT3_15.out.up hb); have HT5_16 := Lib.hid (HT5_15.out.up hb); have HB_16 := Lib.hid (below_chain HB_15.out hb); clear hb)
      | (go_at_call 22; (with_reducible refine (CMUL.out ((n) * (m)) (k) AP C cP e' _ (by omega) (by omega) (by omega) HP_16.out HC_16.out).mono ?_); rintro e w17 ⟨AT6, cT6, rfl, hA, hcap, hb⟩; have HA_17 := Lib.hid (HA_16.out.up hb); have HB2_17 := Lib.hid (HB2_16.out.up hb); have HC_17 := Lib.hid (HC_16.out.up hb); have HS_17 := Lib.hid (HS_16.out.up hb); have HP_17 := Lib.hid (HP_16.out.up hb); have HB_17 := Lib.hid (below_chain HB_16.out hb); have HT6_17 := Lib.hid hA; have HCT6 := Lib.hid hcap; clear hA hcap hb)
      | (go_at_call 22; (with_reducible refine (CMUL.out (m) (k) B C d e' _ (by omega) (by omega) (by omega) HB2_17.out HC_17.out).mono ?_); rintro e w18 ⟨AT7, cT7, rfl, hA, hcap, hb⟩; have HA_18 := Lib.hid (HA_17.out.up hb); have HB2_18 := Lib.hid (HB2_17.out.up hb); have HC_18 := Lib.hid (HC_17.out.up hb); have HS_18 := Lib.hid (HS_17.out.up hb); have HP_18 := Lib.hid (HP_17.out.up hb); have HT6_18 := Lib.hid (HT6_17.out.up hb); have HB_18 := Lib.hid (below_chain HB_17.out hb); have HT7_18 := Lib.hid hA; have HCT7 := Lib.hid hcap; clear hA hcap hb)
      | (go_at_call 22; (with_reducible refine (CMUL.out (n) ((m) * (k)) A AT7 c cT7 _ (by omega) (by omega) (by omega) HA_18.out HT7_18.out).mono ?_); rintro e w19 ⟨AT8, cT8, rfl, hA, hcap, hb⟩; have HA_19 := Lib.hid (HA_18.out.up hb); have HB2_19 := Lib.hid (HB2_18.out.up hb); have HC_19 := Lib.hid (HC_18.out.up hb); have HS_19 := Lib.hid (HS_18.out.up hb); have HP_19 := Lib.hid (HP_18.out.up hb); have HT6_19 := Lib.hid (HT6_18.out.up hb); have HT7_19 := Lib.hid (HT7_18.out.up hb); have HB_19 := Lib.hid (below_chain HB_18.out hb); have HT8_19 := Lib.hid hA; have HCT8 := Lib.hid hcap; clear hA hcap hb)
      | (go_at_call 15; (with_reducible refine (lawsame_yes (((n) * (m)) * (k)) ((n) * ((m) * (k))) AT6 AT8 cT6 cT8 _ E4.out (by omega) HT6_19.out HT8_19.out).mono ?_); rintro e w20 ⟨rfl, hb⟩; have HA_20 := Lib.hid (HA_19.out.up hb); have HB2_20 := Lib.hid (HB2_19.out.up hb); have HC_20 := Lib.hid (HC_19.out.up hb); have HS_20 := Lib.hid (HS_19.out.up hb); have HP_20 := Lib.hid (HP_19.out.up hb); have HT6_20 := Lib.hid (HT6_19.out.up hb); have HT8_20 := Lib.hid (HT8_19.out.up hb); have HB_20 := Lib.hid (below_chain HB_19.out hb); clear hb)
      | (go_at_call 22; (with_reducible refine (CMUL.out ((n) + (m)) (k) AS C cS e' _ (by omega) (by omega) (by omega) HS_20.out HC_20.out).mono ?_); rintro e w21 ⟨AT9, cT9, rfl, hA, hcap, hb⟩; have HA_21 := Lib.hid (HA_20.out.up hb); have HB2_21 := Lib.hid (HB2_20.out.up hb); have HC_21 := Lib.hid (HC_20.out.up hb); have HS_21 := Lib.hid (HS_20.out.up hb); have HP_21 := Lib.hid (HP_20.out.up hb); have HB_21 := Lib.hid (below_chain HB_20.out hb); have HT9_21 := Lib.hid hA; have HCT9 := Lib.hid hcap; clear hA hcap hb)
      | (go_at_call 22; (with_reducible refine (CMUL.out (n) (k) A C c e' _ (by omega) (by omega) (by omega) HA_21.out HC_21.out).mono ?_); rintro e w22 ⟨AU1, cU1, rfl, hA, hcap, hb⟩; have HA_22 := Lib.hid (HA_21.out.up hb); have HB2_22 := Lib.hid (HB2_21.out.up hb); have HC_22 := Lib.hid (HC_21.out.up hb); have HS_22 := Lib.hid (HS_21.out.up hb); have HP_22 := Lib.hid (HP_21.out.up hb); have HT9_22 := Lib.hid (HT9_21.out.up hb); have HB_22 := Lib.hid (below_chain HB_21.out hb); have HU1_22 := Lib.hid hA; have HCU1 := Lib.hid hcap; clear hA hcap hb)
      | (go_at_call 22; (with_reducible refine (CMUL.out (m) (k) B C d e' _ (by omega) (by omega) (by omega) HB2_22.out HC_22.out).mono ?_); rintro e w23 ⟨AU2, cU2, rfl, hA, hcap, hb⟩; have HA_23 := Lib.hid (HA_22.out.up hb); have HB2_23 := Lib.hid (HB2_22.out.up hb); have HC_23 := Lib.hid (HC_22.out.up hb); have HS_23 := Lib.hid (HS_22.out.up hb); have HP_23 := Lib.hid (HP_22.out.up hb); have HT9_23 := Lib.hid (HT9_22.out.up hb); have HU1_23 := Lib.hid (HU1_22.out.up hb); have HB_23 := Lib.hid (below_chain HB_22.out hb); have HU2_23 := Lib.hid hA; have HCU2 := Lib.hid hcap; clear hA hcap hb)
      | (go_at_call 16; (with_reducible refine (CADD.out ((n) * (k)) ((m) * (k)) AU1 AU2 cU1 cU2 _ (by omega) (by omega) HU1_23.out HU2_23.out).mono ?_); rintro e w24 ⟨AU3, cU3, rfl, hA, hcap, hb⟩; have HA_24 := Lib.hid (HA_23.out.up hb); have HB2_24 := Lib.hid (HB2_23.out.up hb); have HC_24 := Lib.hid (HC_23.out.up hb); have HS_24 := Lib.hid (HS_23.out.up hb); have HP_24 := Lib.hid (HP_23.out.up hb); have HT9_24 := Lib.hid (HT9_23.out.up hb); have HU1_24 := Lib.hid (HU1_23.out.up hb); have HU2_24 := Lib.hid (HU2_23.out.up hb); have HB_24 := Lib.hid (below_chain HB_23.out hb); have HU3_24 := Lib.hid hA; have HCU3 := Lib.hid hcap; clear hA hcap hb)
      | (go_at_call 15; (with_reducible refine (lawsame_yes (((n) + (m)) * (k)) (((n) * (k)) + ((m) * (k))) AT9 AU3 cT9 cU3 _ E5.out (by omega) HT9_24.out HU3_24.out).mono ?_); rintro e w25 ⟨rfl, hb⟩; have HA_25 := Lib.hid (HA_24.out.up hb); have HB2_25 := Lib.hid (HB2_24.out.up hb); have HC_25 := Lib.hid (HC_24.out.up hb); have HS_25 := Lib.hid (HS_24.out.up hb); have HP_25 := Lib.hid (HP_24.out.up hb); have HT9_25 := Lib.hid (HT9_24.out.up hb); have HU3_25 := Lib.hid (HU3_24.out.up hb); have HB_25 := Lib.hid (below_chain HB_24.out hb); clear hb)
      | (go_at_call 36; (with_reducible refine (right_yes (n + m) AS cS _ HS_25.out (by omega)).mono ?_); rintro e w' ⟨rfl, rfl⟩)
      | (go_at_call 36; (with_reducible refine (right_yes (n * m) AP cP _ HP_25.out (by omega)).mono ?_); rintro e w' ⟨rfl, rfl⟩))
    go_ret
    exact ⟨rfl, HB_25.out⟩
end Go.Proofs.Ytdflhidhnejbbaa
