/- The walk of NatBack. -/
import Derived.Test.YtdflhidhnejbbaaLawL
import Derived.Test.YtdflhidhnejbbaaLawH
import Derived.Test.YtdflhidhnejbbaaDivI
namespace Go.Proofs.Ytdflhidhnejbbaa
open Go.RowKit

theorem u8_range {n : Int} (h : (Lit.int .u8 n).wf = true) : 0 ≤ n ∧ n ≤ 255 := by
  rw [show Lit.wf (.int .u8 n) = (decide (IntKind.u8.min ≤ n) && decide (n ≤ IntKind.u8.max)) from rfl, Bool.and_eq_true, decide_eq_true_iff, decide_eq_true_iff, show IntKind.u8.min = 0 by decide, show IntKind.u8.max = 255 by decide] at h
  exact h
/-- A quotient that was made, and no rest. -/
def MadeQ0 (q : Nat) (p : Bool) (w : World) (e : Ending) (w' : World) : Prop :=
  ∃ (A : Option Addr) (c : Nat) (B : Option Addr) (d : Nat), e = .returned (.tuple #[.slice A (limbs q).length c, .slice B 0 d, .bool p]) ∧ KL .u32 w' w'.heap.size A (limbs q) ∧ (limbs q).length ≤ c ∧ Below w.heap.size w w'
theorem MadeQ0.of {q : Nat} {p : Bool} {w : World} {e : Ending} {w' : World} (h : MadeQR q 0 p w e w') : MadeQ0 q p w e w' := by
  obtain ⟨A, c, B, d, he, hA, _, hc, _, hb⟩ := h
  rw [limbs_zero] at he
  exact ⟨A, c, B, d, he, hA, hc, hb⟩
theorem remN_mul (n m : Nat) : remN (n * m) m = 0 := by
  unfold remN
  split
  · rfl
  · exact Nat.mul_mod_left n m
theorem lenV_spec {n : Nat} (h : 0 < n) : ∃ L, lenV (limbs n) = L + 1 ∧ 2 ^ L ≤ n ∧ n < 2 ^ (L + 1) := by
  have hp := limbs_len_pos.2 h
  obtain ⟨K, hK⟩ : ∃ K, (limbs n).length = K + 1 := ⟨(limbs n).length - 1, by omega⟩
  have hr := word_range (limbs_dig n) (k := K) (by omega)
  obtain ⟨x, hx⟩ : ∃ x : Nat, (limbs n).getD K 0 = x := ⟨((limbs n).getD K 0).toNat, by omega⟩
  have hx0 : (limbs n).getD K 0 ≠ 0 := limbs_can n K hK.symm
  rw [hx] at hr hx0
  have h1 := top_low (b := 4294967296) hK hx
  rw [show val 4294967296 (limbs n) = n from nv_limbs n] at h1
  have h2 := val_lt ((limbs_dig n).take_ K)
  rw [List.length_take, Nat.min_eq_left (by omega)] at h2
  obtain ⟨b, hb⟩ : ∃ b, Lib.bitLen x = b := ⟨_, rfl⟩
  have hb1 : x < 2 ^ b := by rw [← hb]; exact bitLenAux_lt 64 x (by omega)
  have hb2 : 2 ^ b ≤ 2 * x := by rw [← hb]; exact bitLenAux_low 64 x (by omega) (by omega)
  have hb0 : 1 ≤ b := by
    rcases Nat.eq_zero_or_pos b with h0 | h0
    · rw [h0] at hb1; omega
    · exact h0
  have hL : lenV (limbs n) = 32 * K + b := by unfold lenV; rw [if_neg (by omega), hK, Nat.add_sub_cancel, hx, Int.toNat_natCast, hb]
  have hB : (4294967296 : Nat) ^ K = 2 ^ (32 * K) := by rw [show (4294967296 : Nat) = 2 ^ 32 by rfl, ← Nat.pow_mul]
  refine ⟨32 * K + (b - 1), by omega, ?_, ?_⟩
  · have h3 : 2 ^ (b - 1) ≤ x := by
      have : 2 ^ b = 2 ^ (b - 1) * 2 := by rw [← Nat.pow_succ]; congr 1; omega
      omega
    have h4 : 2 ^ (32 * K) * 2 ^ (b - 1) ≤ 2 ^ (32 * K) * x := Nat.mul_le_mul_left _ h3
    rw [Nat.pow_add, h1, hB]
    omega
  · have h4 : 2 ^ (32 * K) * (x + 1) ≤ 2 ^ (32 * K) * 2 ^ b := Nat.mul_le_mul_left _ hb1
    rw [← Nat.pow_add, Nat.mul_add, Nat.mul_one] at h4
    rw [hB] at h1 h2
    rw [show 32 * K + (b - 1) + 1 = 32 * K + b by omega, h1]
    omega
theorem lenV_shl {n : Nat} (h : 0 < n) (k : Nat) : lenV (limbs (n * 2 ^ k)) = lenV (limbs n) + k := by
  obtain ⟨L, e1, a1, a2⟩ := lenV_spec h
  obtain ⟨M, e2, b1, b2⟩ := lenV_spec (Nat.mul_pos h (Nat.pow_pos (n := k) (show 0 < 2 by omega)))
  have c1 : 2 ^ (L + k) ≤ n * 2 ^ k := by rw [Nat.pow_add]; exact Nat.mul_le_mul_right _ a1
  have c2 : n * 2 ^ k < 2 ^ (L + 1 + k) := by rw [Nat.pow_add 2 (L + 1)]; exact Nat.mul_lt_mul_of_pos_right a2 (Nat.pow_pos (by omega))
  have d1 : L + k < M + 1 := (Nat.pow_lt_pow_iff_right (by omega : 1 < 2)).1 (Nat.lt_of_le_of_lt c1 b2)
  have d2 : M < L + 1 + k := (Nat.pow_lt_pow_iff_right (by omega : 1 < 2)).1 (Nat.lt_of_le_of_lt b1 c2)
  omega
theorem lenV_le {xs : List Int} (hd : D32 xs) (h : xs.length ≤ 40) : lenV xs ≤ 1280 := by
  unfold lenV
  split
  · omega
  · have hr := word_range hd (k := xs.length - 1) (by omega)
    have := bitLen_32 (n := (xs.getD (xs.length - 1) 0).toNat) (by omega)
    omega

set_option maxHeartbeats 8000000 in
theorem law_back_00 (n m k : Nat) (A B : Option Addr) (c d : Nat) (w : World) (h : KL .u32 w w.heap.size A (limbs n)) (h' : KL .u32 w w.heap.size B (limbs m)) (hn : (limbs n).length ≤ 40) (hm : (limbs m).length ≤ 40) (hk : k ≤ 255) (hm0 : 0 < m) (hn0 : 0 < n) (hm1 : mayB (limbs n) (limbs m) = true) :
    Calls Try.prog 8 #[.slice A (limbs n).length c, .slice B (limbs m).length d, .int .u8 (k : Int)] w fun e w' => e = .returned (.bool true) ∧ Below w.heap.size w w' := by
  have HA_0 : Hid _ := Lib.hid h
  have HB2_0 : Hid _ := Lib.hid h'
  have HB_0 : Hid _ := Lib.hid (Below.refl w.heap.size w)
  have HT : Hid (∀ W : World, KL .u32 W W.heap.size A (limbs n) → KL .u32 W W.heap.size B (limbs m) → Calls Try.prog 11 #[.slice A (limbs n).length c, .slice B (limbs m).length d] W fun e w' => e = .returned (.bool true) ∧ W = w') :=
    Lib.hid fun W h h' => by rw [← hm1]; exact may_any A B (limbs n) (limbs m) c d W h h' (by omega) (by omega)
  obtain ⟨q, hq⟩ : ∃ q, n * m / m = q := ⟨_, rfl⟩
  have l0 := add_len hn hm
  have l1 := mul_len hn hm
  have l2 : (limbs (2 ^ k)).length ≤ 8 := two_pow_len (N := 8) (by omega)
  have l3 := mul_len hn l2
  have l4 : (limbs q).length ≤ 80 := by rw [← hq]; exact Nat.le_trans (lens_of_le (Nat.div_le_self _ _)) l1
  have es : shlN n (k : Int) = n * 2 ^ k := by unfold shlN; rw [if_pos (by omega), Int.toNat_natCast]
  have er : shrN (n * 2 ^ k) (k : Int) = n := by unfold shrN; rw [if_pos (by omega), Int.toNat_natCast, Nat.mul_div_cancel _ (Nat.pow_pos (by omega))]
  have HQN : Hid (q = n) := Lib.hid (by rw [← hq, Nat.mul_div_cancel _ hm0])
  have CADD : Hid (∀ W : World, KL .u32 W W.heap.size A (limbs n) → KL .u32 W W.heap.size B (limbs m) → Calls Try.prog 16 #[.slice A (limbs n).length c, .slice B (limbs m).length d] W fun e w' => MadeN (n + m) W e w') :=
    Lib.hid fun W h h' => by exact add_any n m A B c d W h h' (by omega) (by omega)
  have CSUB : Hid (∀ (W : World) (A' : Option Addr) (c' : Nat), KL .u32 W W.heap.size A' (limbs (n + m)) → KL .u32 W W.heap.size B (limbs m) → Calls Try.prog 13 #[.slice A' (limbs (n + m)).length c', .slice B (limbs m).length d] W fun e w' => MadeNV n (.bool true) W e w') :=
    Lib.hid fun W A' c' h h' => by have := sub_any (n + m) m A' B c' d W h h' (by omega) (by omega); rwa [Nat.add_sub_cancel, decide_eq_true (Nat.le_add_left m n)] at this
  have CMUL : Hid (∀ W : World, KL .u32 W W.heap.size A (limbs n) → KL .u32 W W.heap.size B (limbs m) → Calls Try.prog 22 #[.slice A (limbs n).length c, .slice B (limbs m).length d] W fun e w' => MadeN (n * m) W e w') :=
    Lib.hid fun W h h' => by exact mul_any n m A B c d W h h' (by omega) (by omega) (by omega)
  have CDIV : Hid (∀ (W : World) (A' : Option Addr) (c' : Nat), KL .u32 W W.heap.size A' (limbs (n * m)) → KL .u32 W W.heap.size B (limbs m) → Calls Try.prog 20 #[.slice A' (limbs (n * m)).length c', .slice B (limbs m).length d] W fun e w' => MadeQ0 q true W e w') :=
    Lib.hid fun W A' c' h h' => by have := divmod_any (n * m) m A' B c' d W h h' (by omega) (by omega); rw [remN_mul, hq, decide_eq_true hm0] at this; exact this.mono fun _ _ => MadeQ0.of
  have CSHL : Hid (∀ W : World, KL .u32 W W.heap.size A (limbs n) → Calls Try.prog 24 #[.slice A (limbs n).length c, .int .i64 (k : Int)] W fun e w' => MadeN (n * 2 ^ k) W e w') :=
    Lib.hid fun W h => by rw [← es]; exact shl_any n A c k W h (by omega)
  have CSHR : Hid (∀ (W : World) (A' : Option Addr) (c' : Nat), KL .u32 W W.heap.size A' (limbs (n * 2 ^ k)) → Calls Try.prog 26 #[.slice A' (limbs (n * 2 ^ k)).length c', .int .i64 (k : Int)] W fun e w' => MadeN n W e w') :=
    Lib.hid fun W A' c' h => by have := shr_any (n * 2 ^ k) A' c' k W h (by omega); rwa [er] at this
  have CPOW : Hid (∀ (W : World) (A' : Option Addr), KL .u32 W W.heap.size A' [2] → Calls Try.prog 31 #[.slice A' 1 1, .int .i64 (k : Int)] W fun e w' => MadeN (2 ^ k) W e w') :=
    Lib.hid fun W A' h => by rw [← limbs_2] at h; have := pow_lists 2 k A' 1 W h (by omega) (by rw [limbs_2]; decide) (Nat.le_trans (two_pow_len (N := 8) (by omega)) (by omega)); rwa [limbs_2] at this
  have CMULP : Hid (∀ (W : World) (A' : Option Addr) (c' : Nat), KL .u32 W W.heap.size A (limbs n) → KL .u32 W W.heap.size A' (limbs (2 ^ k)) → Calls Try.prog 22 #[.slice A (limbs n).length c, .slice A' (limbs (2 ^ k)).length c'] W fun e w' => MadeN (n * 2 ^ k) W e w') :=
    Lib.hid fun W A' c' h h' => by exact mul_any n (2 ^ k) A A' c c' W h h' (by omega) (by omega) (by omega)
  obtain ⟨L, hL⟩ : ∃ L, lenV (limbs n) = L := ⟨_, rfl⟩
  have hL2 : lenV (limbs (n * 2 ^ k)) = L + k := by rw [← hL]; exact lenV_shl hn0 k
  have hLl : L ≤ 1280 := by rw [← hL]; exact lenV_le (limbs_dig n) hn
  have CLENS : Hid (∀ (W : World) (A' : Option Addr) (c' : Nat), KL .u32 W W.heap.size A' (limbs (n * 2 ^ k)) → Calls Try.prog 28 #[.slice A' (limbs (n * 2 ^ k)).length c'] W fun e w' => e = .returned (.int .i64 ((L + k : Nat) : Int)) ∧ W = w') :=
    Lib.hid fun W A' c' h => by rw [← hL2]; exact len_any A' (limbs (n * 2 ^ k)) c' W h (limbs_dig _) (by omega)
  have CLEN : Hid (∀ W : World, KL .u32 W W.heap.size A (limbs n) → Calls Try.prog 28 #[.slice A (limbs n).length c] W fun e w' => e = .returned (.int .i64 (L : Nat)) ∧ W = w') :=
    Lib.hid fun W h => by rw [← hL]; exact len_any A (limbs n) c W h (limbs_dig n) (by omega)
  have hmb := limbs_len_pos.2 hm0
  have hnp := limbs_len_pos.2 hn0
  have hnb : (((limbs n).length : Int) == 0) = false := by rw [beq_eq_false_iff_ne]; omega
  clear h h' hm1 hq es er hm0 hn0 hL hL2
  go_enter Try.func8, Try.ntmps8
  go_wp2_with (first
    | (go_at_call 11; (with_reducible refine (HT.out _ HA_0.out HB2_0.out).mono ?_); rintro e w' ⟨rfl, rfl⟩)
    | (go_at_call 16; (with_reducible refine (CADD.out _ HA_0.out HB2_0.out).mono ?_); rintro e w1 ⟨AS, cS, rfl, hA, hcap, hb⟩; have HA_1 := Lib.hid (HA_0.out.up hb); have HB2_1 := Lib.hid (HB2_0.out.up hb); have HB_1 := Lib.hid (below_chain HB_0.out hb); have HS_1 := Lib.hid hA; have HCS := Lib.hid hcap; clear hA hcap hb)
    | (go_at_call 13; (with_reducible refine (CSUB.out _ AS cS HS_1.out HB2_1.out).mono ?_); rintro e w2 ⟨AD, cD, rfl, hA, hcap, hb⟩; have HA_2 := Lib.hid (HA_1.out.up hb); have HB2_2 := Lib.hid (HB2_1.out.up hb); have HS_2 := Lib.hid (HS_1.out.up hb); have HB_2 := Lib.hid (below_chain HB_1.out hb); have HD_2 := Lib.hid hA; clear hA hcap hb)
    | (go_at_call 22; (with_reducible refine (CMUL.out _ HA_2.out HB2_2.out).mono ?_); rintro e w3 ⟨AP, cP, rfl, hA, hcap, hb⟩; have HA_3 := Lib.hid (HA_2.out.up hb); have HB2_3 := Lib.hid (HB2_2.out.up hb); have HD_3 := Lib.hid (HD_2.out.up hb); have HB_3 := Lib.hid (below_chain HB_2.out hb); have HP_3 := Lib.hid hA; have HCP := Lib.hid hcap; clear hA hcap hb)
    | (go_at_call 20; (with_reducible refine (CDIV.out _ AP cP HP_3.out HB2_3.out).mono ?_); rintro e w4 ⟨AQ, cQ, AR, cR, rfl, hA, hcap, hb⟩; have HA_4 := Lib.hid (HA_3.out.up hb); have HB2_4 := Lib.hid (HB2_3.out.up hb); have HD_4 := Lib.hid (HD_3.out.up hb); have HP_4 := Lib.hid (HP_3.out.up hb); have HB_4 := Lib.hid (below_chain HB_3.out hb); have HQ_4 := Lib.hid hA; clear hA hcap hb)
    | (go_at_call 15; (with_reducible refine (lawsame_yes (n) n AD A cD c _ rfl (by omega) HD_4.out HA_4.out).mono ?_); rintro e w5 ⟨rfl, hb⟩; have HA_5 := Lib.hid (HA_4.out.up hb); have HB2_5 := Lib.hid (HB2_4.out.up hb); have HD_5 := Lib.hid (HD_4.out.up hb); have HQ_5 := Lib.hid (HQ_4.out.up hb); have HB_5 := Lib.hid (below_chain HB_4.out hb); clear hb)
    | (go_at_call 15; (with_reducible refine (lawsame_yes (q) n AQ A cQ c _ HQN.out (by omega) HQ_5.out HA_5.out).mono ?_); rintro e w6 ⟨rfl, hb⟩; have HA_6 := Lib.hid (HA_5.out.up hb); have HB2_6 := Lib.hid (HB2_5.out.up hb); have HQ_6 := Lib.hid (HQ_5.out.up hb); have HB_6 := Lib.hid (below_chain HB_5.out hb); clear hb)
    | (go_at_call 12; (with_reducible refine (awake_any _).mono ?_); rintro e w7 ⟨rfl, hb⟩; have HA_7 := Lib.hid (HA_6.out.up hb); have HB2_7 := Lib.hid (HB2_6.out.up hb); have HB_7 := Lib.hid (below_chain HB_6.out hb); clear hb)
    | (go_at_call 24; (with_reducible refine (CSHL.out _ HA_7.out).mono ?_); rintro e w8 ⟨AU, cU, rfl, hA, hcap, hb⟩; have HA_8 := Lib.hid (HA_7.out.up hb); have HB2_8 := Lib.hid (HB2_7.out.up hb); have HB_8 := Lib.hid (below_chain HB_7.out hb); have HU_8 := Lib.hid hA; have HCU := Lib.hid hcap; clear hA hcap hb)
    | (go_at_call 26; (with_reducible refine (CSHR.out _ AU cU HU_8.out).mono ?_); rintro e w9 ⟨AV, cV, rfl, hA, hcap, hb⟩; have HA_9 := Lib.hid (HA_8.out.up hb); have HB2_9 := Lib.hid (HB2_8.out.up hb); have HU_9 := Lib.hid (HU_8.out.up hb); have HB_9 := Lib.hid (below_chain HB_8.out hb); have HV_9 := Lib.hid hA; have HCV := Lib.hid hcap; clear hA hcap hb)
    | (go_at_call 15; (with_reducible refine (lawsame_yes (n) n AV A cV c _ rfl (by omega) HV_9.out HA_9.out).mono ?_); rintro e w10 ⟨rfl, hb⟩; have HA_10 := Lib.hid (HA_9.out.up hb); have HB2_10 := Lib.hid (HB2_9.out.up hb); have HV_10 := Lib.hid (HV_9.out.up hb); have HB_10 := Lib.hid (below_chain HB_9.out hb); clear hb)
    | (go_at_call 24; (with_reducible refine (CSHL.out _ HA_10.out).mono ?_); rintro e w11 ⟨AX, cX, rfl, hA, hcap, hb⟩; have HA_11 := Lib.hid (HA_10.out.up hb); have HB2_11 := Lib.hid (HB2_10.out.up hb); have HB_11 := Lib.hid (below_chain HB_10.out hb); have HX_11 := Lib.hid hA; have HCX := Lib.hid hcap; clear hA hcap hb)
    | (go_at_call 31; (with_reducible refine (CPOW.out _ _ ?_).mono ?_); exact KL_c1 (by (try simp only [World.size_alloc]); omega) (by go_cell); rintro e w12 ⟨AY, cY, rfl, hN, hcap, hb⟩; have hh := below_chain (w := w11) (by go_grown) hb; have HA_12 := Lib.hid (HA_11.out.up hh); have HB2_12 := Lib.hid (HB2_11.out.up hh); have HX_12 := Lib.hid (HX_11.out.up hh); have HB_12 := Lib.hid (below_chain HB_11.out hh); have HY_12 := Lib.hid hN; clear hN hcap hh hb)
    | (go_at_call 22; (with_reducible refine (CMULP.out _ AY cY HA_12.out HY_12.out).mono ?_); rintro e w13 ⟨AZ, cZ, rfl, hA, hcap, hb⟩; have HA_13 := Lib.hid (HA_12.out.up hb); have HB2_13 := Lib.hid (HB2_12.out.up hb); have HX_13 := Lib.hid (HX_12.out.up hb); have HY_13 := Lib.hid (HY_12.out.up hb); have HB_13 := Lib.hid (below_chain HB_12.out hb); have HZ_13 := Lib.hid hA; have HCZ := Lib.hid hcap; clear hA hcap hb)
    | (go_at_call 15; (with_reducible refine (lawsame_yes (n * 2 ^ k) (n * 2 ^ k) AX AZ cX cZ _ rfl (by omega) HX_13.out HZ_13.out).mono ?_); rintro e w14 ⟨rfl, hb⟩; have HA_14 := Lib.hid (HA_13.out.up hb); have HB2_14 := Lib.hid (HB2_13.out.up hb); have HX_14 := Lib.hid (HX_13.out.up hb); have HZ_14 := Lib.hid (HZ_13.out.up hb); have HB_14 := Lib.hid (below_chain HB_13.out hb); clear hb)
    | (go_at_call 24; (with_reducible refine (CSHL.out _ HA_14.out).mono ?_); rintro e w15 ⟨AG, cG, rfl, hA, hcap, hb⟩; have HA_15 := Lib.hid (HA_14.out.up hb); have HB2_15 := Lib.hid (HB2_14.out.up hb); have HB_15 := Lib.hid (below_chain HB_14.out hb); have HG_15 := Lib.hid hA; have HCG := Lib.hid hcap; clear hA hcap hb)
    | (go_at_call 28; (with_reducible refine (CLENS.out _ AG cG HG_15.out).mono ?_); rintro e w' ⟨rfl, rfl⟩)
    | (go_at_call 28; (with_reducible refine (CLEN.out _ HA_15.out).mono ?_); rintro e w' ⟨rfl, rfl⟩))
  go_ret
  exact ⟨ret_bool (by first | rfl | (simp; done)), HB_15.out⟩

set_option maxHeartbeats 8000000 in
theorem law_back_01 (n m k : Nat) (A B : Option Addr) (c d : Nat) (w : World) (h : KL .u32 w w.heap.size A (limbs n)) (h' : KL .u32 w w.heap.size B (limbs m)) (hn : (limbs n).length ≤ 40) (hm : (limbs m).length ≤ 40) (hk : k ≤ 255) (hm0 : 0 < m) (hn0 : n = 0) (hm1 : mayB (limbs n) (limbs m) = true) :
    Calls Try.prog 8 #[.slice A (limbs n).length c, .slice B (limbs m).length d, .int .u8 (k : Int)] w fun e w' => e = .returned (.bool true) ∧ Below w.heap.size w w' := by
  have HA_0 : Hid _ := Lib.hid h
  have HB2_0 : Hid _ := Lib.hid h'
  have HB_0 : Hid _ := Lib.hid (Below.refl w.heap.size w)
  have HT : Hid (∀ W : World, KL .u32 W W.heap.size A (limbs n) → KL .u32 W W.heap.size B (limbs m) → Calls Try.prog 11 #[.slice A (limbs n).length c, .slice B (limbs m).length d] W fun e w' => e = .returned (.bool true) ∧ W = w') :=
    Lib.hid fun W h h' => by rw [← hm1]; exact may_any A B (limbs n) (limbs m) c d W h h' (by omega) (by omega)
  obtain ⟨q, hq⟩ : ∃ q, n * m / m = q := ⟨_, rfl⟩
  have l0 := add_len hn hm
  have l1 := mul_len hn hm
  have l2 : (limbs (2 ^ k)).length ≤ 8 := two_pow_len (N := 8) (by omega)
  have l3 := mul_len hn l2
  have l4 : (limbs q).length ≤ 80 := by rw [← hq]; exact Nat.le_trans (lens_of_le (Nat.div_le_self _ _)) l1
  have es : shlN n (k : Int) = n * 2 ^ k := by unfold shlN; rw [if_pos (by omega), Int.toNat_natCast]
  have er : shrN (n * 2 ^ k) (k : Int) = n := by unfold shrN; rw [if_pos (by omega), Int.toNat_natCast, Nat.mul_div_cancel _ (Nat.pow_pos (by omega))]
  have HQN : Hid (q = n) := Lib.hid (by rw [← hq, Nat.mul_div_cancel _ hm0])
  have CADD : Hid (∀ W : World, KL .u32 W W.heap.size A (limbs n) → KL .u32 W W.heap.size B (limbs m) → Calls Try.prog 16 #[.slice A (limbs n).length c, .slice B (limbs m).length d] W fun e w' => MadeN (n + m) W e w') :=
    Lib.hid fun W h h' => by exact add_any n m A B c d W h h' (by omega) (by omega)
  have CSUB : Hid (∀ (W : World) (A' : Option Addr) (c' : Nat), KL .u32 W W.heap.size A' (limbs (n + m)) → KL .u32 W W.heap.size B (limbs m) → Calls Try.prog 13 #[.slice A' (limbs (n + m)).length c', .slice B (limbs m).length d] W fun e w' => MadeNV n (.bool true) W e w') :=
    Lib.hid fun W A' c' h h' => by have := sub_any (n + m) m A' B c' d W h h' (by omega) (by omega); rwa [Nat.add_sub_cancel, decide_eq_true (Nat.le_add_left m n)] at this
  have CMUL : Hid (∀ W : World, KL .u32 W W.heap.size A (limbs n) → KL .u32 W W.heap.size B (limbs m) → Calls Try.prog 22 #[.slice A (limbs n).length c, .slice B (limbs m).length d] W fun e w' => MadeN (n * m) W e w') :=
    Lib.hid fun W h h' => by exact mul_any n m A B c d W h h' (by omega) (by omega) (by omega)
  have CDIV : Hid (∀ (W : World) (A' : Option Addr) (c' : Nat), KL .u32 W W.heap.size A' (limbs (n * m)) → KL .u32 W W.heap.size B (limbs m) → Calls Try.prog 20 #[.slice A' (limbs (n * m)).length c', .slice B (limbs m).length d] W fun e w' => MadeQ0 q true W e w') :=
    Lib.hid fun W A' c' h h' => by have := divmod_any (n * m) m A' B c' d W h h' (by omega) (by omega); rw [remN_mul, hq, decide_eq_true hm0] at this; exact this.mono fun _ _ => MadeQ0.of
  have CSHL : Hid (∀ W : World, KL .u32 W W.heap.size A (limbs n) → Calls Try.prog 24 #[.slice A (limbs n).length c, .int .i64 (k : Int)] W fun e w' => MadeN (n * 2 ^ k) W e w') :=
    Lib.hid fun W h => by rw [← es]; exact shl_any n A c k W h (by omega)
  have CSHR : Hid (∀ (W : World) (A' : Option Addr) (c' : Nat), KL .u32 W W.heap.size A' (limbs (n * 2 ^ k)) → Calls Try.prog 26 #[.slice A' (limbs (n * 2 ^ k)).length c', .int .i64 (k : Int)] W fun e w' => MadeN n W e w') :=
    Lib.hid fun W A' c' h => by have := shr_any (n * 2 ^ k) A' c' k W h (by omega); rwa [er] at this
  have CPOW : Hid (∀ (W : World) (A' : Option Addr), KL .u32 W W.heap.size A' [2] → Calls Try.prog 31 #[.slice A' 1 1, .int .i64 (k : Int)] W fun e w' => MadeN (2 ^ k) W e w') :=
    Lib.hid fun W A' h => by rw [← limbs_2] at h; have := pow_lists 2 k A' 1 W h (by omega) (by rw [limbs_2]; decide) (Nat.le_trans (two_pow_len (N := 8) (by omega)) (by omega)); rwa [limbs_2] at this
  have CMULP : Hid (∀ (W : World) (A' : Option Addr) (c' : Nat), KL .u32 W W.heap.size A (limbs n) → KL .u32 W W.heap.size A' (limbs (2 ^ k)) → Calls Try.prog 22 #[.slice A (limbs n).length c, .slice A' (limbs (2 ^ k)).length c'] W fun e w' => MadeN (n * 2 ^ k) W e w') :=
    Lib.hid fun W A' c' h h' => by exact mul_any n (2 ^ k) A A' c c' W h h' (by omega) (by omega) (by omega)
  have hmb := limbs_len_pos.2 hm0
  have hnb : (((limbs n).length : Int) == 0) = true := by rw [hn0, limbs_zero]; rfl
  clear h h' hm1 hq es er hm0 hn0
  go_enter Try.func8, Try.ntmps8
  go_wp2_with (first
    | (go_at_call 11; (with_reducible refine (HT.out _ HA_0.out HB2_0.out).mono ?_); rintro e w' ⟨rfl, rfl⟩)
    | (go_at_call 16; (with_reducible refine (CADD.out _ HA_0.out HB2_0.out).mono ?_); rintro e w1 ⟨AS, cS, rfl, hA, hcap, hb⟩; have HA_1 := Lib.hid (HA_0.out.up hb); have HB2_1 := Lib.hid (HB2_0.out.up hb); have HB_1 := Lib.hid (below_chain HB_0.out hb); have HS_1 := Lib.hid hA; have HCS := Lib.hid hcap; clear hA hcap hb)
    | (go_at_call 13; (with_reducible refine (CSUB.out _ AS cS HS_1.out HB2_1.out).mono ?_); rintro e w2 ⟨AD, cD, rfl, hA, hcap, hb⟩; have HA_2 := Lib.hid (HA_1.out.up hb); have HB2_2 := Lib.hid (HB2_1.out.up hb); have HS_2 := Lib.hid (HS_1.out.up hb); have HB_2 := Lib.hid (below_chain HB_1.out hb); have HD_2 := Lib.hid hA; clear hA hcap hb)
    | (go_at_call 22; (with_reducible refine (CMUL.out _ HA_2.out HB2_2.out).mono ?_); rintro e w3 ⟨AP, cP, rfl, hA, hcap, hb⟩; have HA_3 := Lib.hid (HA_2.out.up hb); have HB2_3 := Lib.hid (HB2_2.out.up hb); have HD_3 := Lib.hid (HD_2.out.up hb); have HB_3 := Lib.hid (below_chain HB_2.out hb); have HP_3 := Lib.hid hA; have HCP := Lib.hid hcap; clear hA hcap hb)
    | (go_at_call 20; (with_reducible refine (CDIV.out _ AP cP HP_3.out HB2_3.out).mono ?_); rintro e w4 ⟨AQ, cQ, AR, cR, rfl, hA, hcap, hb⟩; have HA_4 := Lib.hid (HA_3.out.up hb); have HB2_4 := Lib.hid (HB2_3.out.up hb); have HD_4 := Lib.hid (HD_3.out.up hb); have HP_4 := Lib.hid (HP_3.out.up hb); have HB_4 := Lib.hid (below_chain HB_3.out hb); have HQ_4 := Lib.hid hA; clear hA hcap hb)
    | (go_at_call 15; (with_reducible refine (lawsame_yes (n) n AD A cD c _ rfl (by omega) HD_4.out HA_4.out).mono ?_); rintro e w5 ⟨rfl, hb⟩; have HA_5 := Lib.hid (HA_4.out.up hb); have HB2_5 := Lib.hid (HB2_4.out.up hb); have HD_5 := Lib.hid (HD_4.out.up hb); have HQ_5 := Lib.hid (HQ_4.out.up hb); have HB_5 := Lib.hid (below_chain HB_4.out hb); clear hb)
    | (go_at_call 15; (with_reducible refine (lawsame_yes (q) n AQ A cQ c _ HQN.out (by omega) HQ_5.out HA_5.out).mono ?_); rintro e w6 ⟨rfl, hb⟩; have HA_6 := Lib.hid (HA_5.out.up hb); have HB2_6 := Lib.hid (HB2_5.out.up hb); have HQ_6 := Lib.hid (HQ_5.out.up hb); have HB_6 := Lib.hid (below_chain HB_5.out hb); clear hb)
    | (go_at_call 12; (with_reducible refine (awake_any _).mono ?_); rintro e w7 ⟨rfl, hb⟩; have HA_7 := Lib.hid (HA_6.out.up hb); have HB2_7 := Lib.hid (HB2_6.out.up hb); have HB_7 := Lib.hid (below_chain HB_6.out hb); clear hb)
    | (go_at_call 24; (with_reducible refine (CSHL.out _ HA_7.out).mono ?_); rintro e w8 ⟨AU, cU, rfl, hA, hcap, hb⟩; have HA_8 := Lib.hid (HA_7.out.up hb); have HB2_8 := Lib.hid (HB2_7.out.up hb); have HB_8 := Lib.hid (below_chain HB_7.out hb); have HU_8 := Lib.hid hA; have HCU := Lib.hid hcap; clear hA hcap hb)
    | (go_at_call 26; (with_reducible refine (CSHR.out _ AU cU HU_8.out).mono ?_); rintro e w9 ⟨AV, cV, rfl, hA, hcap, hb⟩; have HA_9 := Lib.hid (HA_8.out.up hb); have HB2_9 := Lib.hid (HB2_8.out.up hb); have HU_9 := Lib.hid (HU_8.out.up hb); have HB_9 := Lib.hid (below_chain HB_8.out hb); have HV_9 := Lib.hid hA; have HCV := Lib.hid hcap; clear hA hcap hb)
    | (go_at_call 15; (with_reducible refine (lawsame_yes (n) n AV A cV c _ rfl (by omega) HV_9.out HA_9.out).mono ?_); rintro e w10 ⟨rfl, hb⟩; have HA_10 := Lib.hid (HA_9.out.up hb); have HB2_10 := Lib.hid (HB2_9.out.up hb); have HV_10 := Lib.hid (HV_9.out.up hb); have HB_10 := Lib.hid (below_chain HB_9.out hb); clear hb)
    | (go_at_call 24; (with_reducible refine (CSHL.out _ HA_10.out).mono ?_); rintro e w11 ⟨AX, cX, rfl, hA, hcap, hb⟩; have HA_11 := Lib.hid (HA_10.out.up hb); have HB2_11 := Lib.hid (HB2_10.out.up hb); have HB_11 := Lib.hid (below_chain HB_10.out hb); have HX_11 := Lib.hid hA; have HCX := Lib.hid hcap; clear hA hcap hb)
    | (go_at_call 31; (with_reducible refine (CPOW.out _ _ ?_).mono ?_); exact KL_c1 (by (try simp only [World.size_alloc]); omega) (by go_cell); rintro e w12 ⟨AY, cY, rfl, hN, hcap, hb⟩; have hh := below_chain (w := w11) (by go_grown) hb; have HA_12 := Lib.hid (HA_11.out.up hh); have HB2_12 := Lib.hid (HB2_11.out.up hh); have HX_12 := Lib.hid (HX_11.out.up hh); have HB_12 := Lib.hid (below_chain HB_11.out hh); have HY_12 := Lib.hid hN; clear hN hcap hh hb)
    | (go_at_call 22; (with_reducible refine (CMULP.out _ AY cY HA_12.out HY_12.out).mono ?_); rintro e w13 ⟨AZ, cZ, rfl, hA, hcap, hb⟩; have HA_13 := Lib.hid (HA_12.out.up hb); have HB2_13 := Lib.hid (HB2_12.out.up hb); have HX_13 := Lib.hid (HX_12.out.up hb); have HY_13 := Lib.hid (HY_12.out.up hb); have HB_13 := Lib.hid (below_chain HB_12.out hb); have HZ_13 := Lib.hid hA; have HCZ := Lib.hid hcap; clear hA hcap hb)
    | (go_at_call 15; (with_reducible refine (lawsame_yes (n * 2 ^ k) (n * 2 ^ k) AX AZ cX cZ _ rfl (by omega) HX_13.out HZ_13.out).mono ?_); rintro e w14 ⟨rfl, hb⟩; have HA_14 := Lib.hid (HA_13.out.up hb); have HB2_14 := Lib.hid (HB2_13.out.up hb); have HX_14 := Lib.hid (HX_13.out.up hb); have HZ_14 := Lib.hid (HZ_13.out.up hb); have HB_14 := Lib.hid (below_chain HB_13.out hb); clear hb))
  go_ret
  exact ⟨ret_bool (by first | rfl | (simp; done)), HB_14.out⟩

set_option maxHeartbeats 8000000 in
theorem law_back_10 (n m k : Nat) (A B : Option Addr) (c d : Nat) (w : World) (h : KL .u32 w w.heap.size A (limbs n)) (h' : KL .u32 w w.heap.size B (limbs m)) (hn : (limbs n).length ≤ 40) (hm : (limbs m).length ≤ 40) (hk : k ≤ 255) (hm0 : m = 0) (hn0 : 0 < n) (hm1 : mayB (limbs n) (limbs m) = true) :
    Calls Try.prog 8 #[.slice A (limbs n).length c, .slice B (limbs m).length d, .int .u8 (k : Int)] w fun e w' => e = .returned (.bool true) ∧ Below w.heap.size w w' := by
  have HA_0 : Hid _ := Lib.hid h
  have HB2_0 : Hid _ := Lib.hid h'
  have HB_0 : Hid _ := Lib.hid (Below.refl w.heap.size w)
  have HT : Hid (∀ W : World, KL .u32 W W.heap.size A (limbs n) → KL .u32 W W.heap.size B (limbs m) → Calls Try.prog 11 #[.slice A (limbs n).length c, .slice B (limbs m).length d] W fun e w' => e = .returned (.bool true) ∧ W = w') :=
    Lib.hid fun W h h' => by rw [← hm1]; exact may_any A B (limbs n) (limbs m) c d W h h' (by omega) (by omega)
  obtain ⟨q, hq⟩ : ∃ q, n * m / m = q := ⟨_, rfl⟩
  have l0 := add_len hn hm
  have l1 := mul_len hn hm
  have l2 : (limbs (2 ^ k)).length ≤ 8 := two_pow_len (N := 8) (by omega)
  have l3 := mul_len hn l2
  have l4 : (limbs q).length ≤ 80 := by rw [← hq]; exact Nat.le_trans (lens_of_le (Nat.div_le_self _ _)) l1
  have es : shlN n (k : Int) = n * 2 ^ k := by unfold shlN; rw [if_pos (by omega), Int.toNat_natCast]
  have er : shrN (n * 2 ^ k) (k : Int) = n := by unfold shrN; rw [if_pos (by omega), Int.toNat_natCast, Nat.mul_div_cancel _ (Nat.pow_pos (by omega))]
  have CADD : Hid (∀ W : World, KL .u32 W W.heap.size A (limbs n) → KL .u32 W W.heap.size B (limbs m) → Calls Try.prog 16 #[.slice A (limbs n).length c, .slice B (limbs m).length d] W fun e w' => MadeN (n + m) W e w') :=
    Lib.hid fun W h h' => by exact add_any n m A B c d W h h' (by omega) (by omega)
  have CSUB : Hid (∀ (W : World) (A' : Option Addr) (c' : Nat), KL .u32 W W.heap.size A' (limbs (n + m)) → KL .u32 W W.heap.size B (limbs m) → Calls Try.prog 13 #[.slice A' (limbs (n + m)).length c', .slice B (limbs m).length d] W fun e w' => MadeNV n (.bool true) W e w') :=
    Lib.hid fun W A' c' h h' => by have := sub_any (n + m) m A' B c' d W h h' (by omega) (by omega); rwa [Nat.add_sub_cancel, decide_eq_true (Nat.le_add_left m n)] at this
  have CMUL : Hid (∀ W : World, KL .u32 W W.heap.size A (limbs n) → KL .u32 W W.heap.size B (limbs m) → Calls Try.prog 22 #[.slice A (limbs n).length c, .slice B (limbs m).length d] W fun e w' => MadeN (n * m) W e w') :=
    Lib.hid fun W h h' => by exact mul_any n m A B c d W h h' (by omega) (by omega) (by omega)
  have CDIV : Hid (∀ (W : World) (A' : Option Addr) (c' : Nat), KL .u32 W W.heap.size A' (limbs (n * m)) → KL .u32 W W.heap.size B (limbs m) → Calls Try.prog 20 #[.slice A' (limbs (n * m)).length c', .slice B (limbs m).length d] W fun e w' => MadeQ0 q false W e w') :=
    Lib.hid fun W A' c' h h' => by have := divmod_any (n * m) m A' B c' d W h h' (by omega) (by omega); rw [remN_mul, hq, decide_eq_false (by omega)] at this; exact this.mono fun _ _ => MadeQ0.of
  have CSHL : Hid (∀ W : World, KL .u32 W W.heap.size A (limbs n) → Calls Try.prog 24 #[.slice A (limbs n).length c, .int .i64 (k : Int)] W fun e w' => MadeN (n * 2 ^ k) W e w') :=
    Lib.hid fun W h => by rw [← es]; exact shl_any n A c k W h (by omega)
  have CSHR : Hid (∀ (W : World) (A' : Option Addr) (c' : Nat), KL .u32 W W.heap.size A' (limbs (n * 2 ^ k)) → Calls Try.prog 26 #[.slice A' (limbs (n * 2 ^ k)).length c', .int .i64 (k : Int)] W fun e w' => MadeN n W e w') :=
    Lib.hid fun W A' c' h => by have := shr_any (n * 2 ^ k) A' c' k W h (by omega); rwa [er] at this
  have CPOW : Hid (∀ (W : World) (A' : Option Addr), KL .u32 W W.heap.size A' [2] → Calls Try.prog 31 #[.slice A' 1 1, .int .i64 (k : Int)] W fun e w' => MadeN (2 ^ k) W e w') :=
    Lib.hid fun W A' h => by rw [← limbs_2] at h; have := pow_lists 2 k A' 1 W h (by omega) (by rw [limbs_2]; decide) (Nat.le_trans (two_pow_len (N := 8) (by omega)) (by omega)); rwa [limbs_2] at this
  have CMULP : Hid (∀ (W : World) (A' : Option Addr) (c' : Nat), KL .u32 W W.heap.size A (limbs n) → KL .u32 W W.heap.size A' (limbs (2 ^ k)) → Calls Try.prog 22 #[.slice A (limbs n).length c, .slice A' (limbs (2 ^ k)).length c'] W fun e w' => MadeN (n * 2 ^ k) W e w') :=
    Lib.hid fun W A' c' h h' => by exact mul_any n (2 ^ k) A A' c c' W h h' (by omega) (by omega) (by omega)
  obtain ⟨L, hL⟩ : ∃ L, lenV (limbs n) = L := ⟨_, rfl⟩
  have hL2 : lenV (limbs (n * 2 ^ k)) = L + k := by rw [← hL]; exact lenV_shl hn0 k
  have hLl : L ≤ 1280 := by rw [← hL]; exact lenV_le (limbs_dig n) hn
  have CLENS : Hid (∀ (W : World) (A' : Option Addr) (c' : Nat), KL .u32 W W.heap.size A' (limbs (n * 2 ^ k)) → Calls Try.prog 28 #[.slice A' (limbs (n * 2 ^ k)).length c'] W fun e w' => e = .returned (.int .i64 ((L + k : Nat) : Int)) ∧ W = w') :=
    Lib.hid fun W A' c' h => by rw [← hL2]; exact len_any A' (limbs (n * 2 ^ k)) c' W h (limbs_dig _) (by omega)
  have CLEN : Hid (∀ W : World, KL .u32 W W.heap.size A (limbs n) → Calls Try.prog 28 #[.slice A (limbs n).length c] W fun e w' => e = .returned (.int .i64 (L : Nat)) ∧ W = w') :=
    Lib.hid fun W h => by rw [← hL]; exact len_any A (limbs n) c W h (limbs_dig n) (by omega)
  have hmb : (limbs m).length ≤ 0 := by rw [hm0, limbs_zero]; simp
  have hnp := limbs_len_pos.2 hn0
  have hnb : (((limbs n).length : Int) == 0) = false := by rw [beq_eq_false_iff_ne]; omega
  clear h h' hm1 hq es er hm0 hn0 hL hL2
  go_enter Try.func8, Try.ntmps8
  go_wp2_with (first
    | (go_at_call 11; (with_reducible refine (HT.out _ HA_0.out HB2_0.out).mono ?_); rintro e w' ⟨rfl, rfl⟩)
    | (go_at_call 16; (with_reducible refine (CADD.out _ HA_0.out HB2_0.out).mono ?_); rintro e w1 ⟨AS, cS, rfl, hA, hcap, hb⟩; have HA_1 := Lib.hid (HA_0.out.up hb); have HB2_1 := Lib.hid (HB2_0.out.up hb); have HB_1 := Lib.hid (below_chain HB_0.out hb); have HS_1 := Lib.hid hA; have HCS := Lib.hid hcap; clear hA hcap hb)
    | (go_at_call 13; (with_reducible refine (CSUB.out _ AS cS HS_1.out HB2_1.out).mono ?_); rintro e w2 ⟨AD, cD, rfl, hA, hcap, hb⟩; have HA_2 := Lib.hid (HA_1.out.up hb); have HB2_2 := Lib.hid (HB2_1.out.up hb); have HS_2 := Lib.hid (HS_1.out.up hb); have HB_2 := Lib.hid (below_chain HB_1.out hb); have HD_2 := Lib.hid hA; clear hA hcap hb)
    | (go_at_call 22; (with_reducible refine (CMUL.out _ HA_2.out HB2_2.out).mono ?_); rintro e w3 ⟨AP, cP, rfl, hA, hcap, hb⟩; have HA_3 := Lib.hid (HA_2.out.up hb); have HB2_3 := Lib.hid (HB2_2.out.up hb); have HD_3 := Lib.hid (HD_2.out.up hb); have HB_3 := Lib.hid (below_chain HB_2.out hb); have HP_3 := Lib.hid hA; have HCP := Lib.hid hcap; clear hA hcap hb)
    | (go_at_call 20; (with_reducible refine (CDIV.out _ AP cP HP_3.out HB2_3.out).mono ?_); rintro e w4 ⟨AQ, cQ, AR, cR, rfl, hA, hcap, hb⟩; have HA_4 := Lib.hid (HA_3.out.up hb); have HB2_4 := Lib.hid (HB2_3.out.up hb); have HD_4 := Lib.hid (HD_3.out.up hb); have HP_4 := Lib.hid (HP_3.out.up hb); have HB_4 := Lib.hid (below_chain HB_3.out hb); have HQ_4 := Lib.hid hA; clear hA hcap hb)
    | (go_at_call 15; (with_reducible refine (lawsame_yes (n) n AD A cD c _ rfl (by omega) HD_4.out HA_4.out).mono ?_); rintro e w5 ⟨rfl, hb⟩; have HA_5 := Lib.hid (HA_4.out.up hb); have HB2_5 := Lib.hid (HB2_4.out.up hb); have HD_5 := Lib.hid (HD_4.out.up hb); have HQ_5 := Lib.hid (HQ_4.out.up hb); have HB_5 := Lib.hid (below_chain HB_4.out hb); clear hb)
    | (go_at_call 12; (with_reducible refine (awake_any _).mono ?_); rintro e w6 ⟨rfl, hb⟩; have HA_6 := Lib.hid (HA_5.out.up hb); have HB2_6 := Lib.hid (HB2_5.out.up hb); have HB_6 := Lib.hid (below_chain HB_5.out hb); clear hb)
    | (go_at_call 24; (with_reducible refine (CSHL.out _ HA_6.out).mono ?_); rintro e w7 ⟨AU, cU, rfl, hA, hcap, hb⟩; have HA_7 := Lib.hid (HA_6.out.up hb); have HB2_7 := Lib.hid (HB2_6.out.up hb); have HB_7 := Lib.hid (below_chain HB_6.out hb); have HU_7 := Lib.hid hA; have HCU := Lib.hid hcap; clear hA hcap hb)
    | (go_at_call 26; (with_reducible refine (CSHR.out _ AU cU HU_7.out).mono ?_); rintro e w8 ⟨AV, cV, rfl, hA, hcap, hb⟩; have HA_8 := Lib.hid (HA_7.out.up hb); have HB2_8 := Lib.hid (HB2_7.out.up hb); have HU_8 := Lib.hid (HU_7.out.up hb); have HB_8 := Lib.hid (below_chain HB_7.out hb); have HV_8 := Lib.hid hA; have HCV := Lib.hid hcap; clear hA hcap hb)
    | (go_at_call 15; (with_reducible refine (lawsame_yes (n) n AV A cV c _ rfl (by omega) HV_8.out HA_8.out).mono ?_); rintro e w9 ⟨rfl, hb⟩; have HA_9 := Lib.hid (HA_8.out.up hb); have HB2_9 := Lib.hid (HB2_8.out.up hb); have HV_9 := Lib.hid (HV_8.out.up hb); have HB_9 := Lib.hid (below_chain HB_8.out hb); clear hb)
    | (go_at_call 24; (with_reducible refine (CSHL.out _ HA_9.out).mono ?_); rintro e w10 ⟨AX, cX, rfl, hA, hcap, hb⟩; have HA_10 := Lib.hid (HA_9.out.up hb); have HB2_10 := Lib.hid (HB2_9.out.up hb); have HB_10 := Lib.hid (below_chain HB_9.out hb); have HX_10 := Lib.hid hA; have HCX := Lib.hid hcap; clear hA hcap hb)
    | (go_at_call 31; (with_reducible refine (CPOW.out _ _ ?_).mono ?_); exact KL_c1 (by (try simp only [World.size_alloc]); omega) (by go_cell); rintro e w11 ⟨AY, cY, rfl, hN, hcap, hb⟩; have hh := below_chain (w := w10) (by go_grown) hb; have HA_11 := Lib.hid (HA_10.out.up hh); have HB2_11 := Lib.hid (HB2_10.out.up hh); have HX_11 := Lib.hid (HX_10.out.up hh); have HB_11 := Lib.hid (below_chain HB_10.out hh); have HY_11 := Lib.hid hN; clear hN hcap hh hb)
    | (go_at_call 22; (with_reducible refine (CMULP.out _ AY cY HA_11.out HY_11.out).mono ?_); rintro e w12 ⟨AZ, cZ, rfl, hA, hcap, hb⟩; have HA_12 := Lib.hid (HA_11.out.up hb); have HB2_12 := Lib.hid (HB2_11.out.up hb); have HX_12 := Lib.hid (HX_11.out.up hb); have HY_12 := Lib.hid (HY_11.out.up hb); have HB_12 := Lib.hid (below_chain HB_11.out hb); have HZ_12 := Lib.hid hA; have HCZ := Lib.hid hcap; clear hA hcap hb)
    | (go_at_call 15; (with_reducible refine (lawsame_yes (n * 2 ^ k) (n * 2 ^ k) AX AZ cX cZ _ rfl (by omega) HX_12.out HZ_12.out).mono ?_); rintro e w13 ⟨rfl, hb⟩; have HA_13 := Lib.hid (HA_12.out.up hb); have HB2_13 := Lib.hid (HB2_12.out.up hb); have HX_13 := Lib.hid (HX_12.out.up hb); have HZ_13 := Lib.hid (HZ_12.out.up hb); have HB_13 := Lib.hid (below_chain HB_12.out hb); clear hb)
    | (go_at_call 24; (with_reducible refine (CSHL.out _ HA_13.out).mono ?_); rintro e w14 ⟨AG, cG, rfl, hA, hcap, hb⟩; have HA_14 := Lib.hid (HA_13.out.up hb); have HB2_14 := Lib.hid (HB2_13.out.up hb); have HB_14 := Lib.hid (below_chain HB_13.out hb); have HG_14 := Lib.hid hA; have HCG := Lib.hid hcap; clear hA hcap hb)
    | (go_at_call 28; (with_reducible refine (CLENS.out _ AG cG HG_14.out).mono ?_); rintro e w' ⟨rfl, rfl⟩)
    | (go_at_call 28; (with_reducible refine (CLEN.out _ HA_14.out).mono ?_); rintro e w' ⟨rfl, rfl⟩))
  go_ret
  exact ⟨ret_bool (by first | rfl | (simp; done)), HB_14.out⟩

set_option maxHeartbeats 8000000 in
theorem law_back_11 (n m k : Nat) (A B : Option Addr) (c d : Nat) (w : World) (h : KL .u32 w w.heap.size A (limbs n)) (h' : KL .u32 w w.heap.size B (limbs m)) (hn : (limbs n).length ≤ 40) (hm : (limbs m).length ≤ 40) (hk : k ≤ 255) (hm0 : m = 0) (hn0 : n = 0) (hm1 : mayB (limbs n) (limbs m) = true) :
    Calls Try.prog 8 #[.slice A (limbs n).length c, .slice B (limbs m).length d, .int .u8 (k : Int)] w fun e w' => e = .returned (.bool true) ∧ Below w.heap.size w w' := by
  have HA_0 : Hid _ := Lib.hid h
  have HB2_0 : Hid _ := Lib.hid h'
  have HB_0 : Hid _ := Lib.hid (Below.refl w.heap.size w)
  have HT : Hid (∀ W : World, KL .u32 W W.heap.size A (limbs n) → KL .u32 W W.heap.size B (limbs m) → Calls Try.prog 11 #[.slice A (limbs n).length c, .slice B (limbs m).length d] W fun e w' => e = .returned (.bool true) ∧ W = w') :=
    Lib.hid fun W h h' => by rw [← hm1]; exact may_any A B (limbs n) (limbs m) c d W h h' (by omega) (by omega)
  obtain ⟨q, hq⟩ : ∃ q, n * m / m = q := ⟨_, rfl⟩
  have l0 := add_len hn hm
  have l1 := mul_len hn hm
  have l2 : (limbs (2 ^ k)).length ≤ 8 := two_pow_len (N := 8) (by omega)
  have l3 := mul_len hn l2
  have l4 : (limbs q).length ≤ 80 := by rw [← hq]; exact Nat.le_trans (lens_of_le (Nat.div_le_self _ _)) l1
  have es : shlN n (k : Int) = n * 2 ^ k := by unfold shlN; rw [if_pos (by omega), Int.toNat_natCast]
  have er : shrN (n * 2 ^ k) (k : Int) = n := by unfold shrN; rw [if_pos (by omega), Int.toNat_natCast, Nat.mul_div_cancel _ (Nat.pow_pos (by omega))]
  have CADD : Hid (∀ W : World, KL .u32 W W.heap.size A (limbs n) → KL .u32 W W.heap.size B (limbs m) → Calls Try.prog 16 #[.slice A (limbs n).length c, .slice B (limbs m).length d] W fun e w' => MadeN (n + m) W e w') :=
    Lib.hid fun W h h' => by exact add_any n m A B c d W h h' (by omega) (by omega)
  have CSUB : Hid (∀ (W : World) (A' : Option Addr) (c' : Nat), KL .u32 W W.heap.size A' (limbs (n + m)) → KL .u32 W W.heap.size B (limbs m) → Calls Try.prog 13 #[.slice A' (limbs (n + m)).length c', .slice B (limbs m).length d] W fun e w' => MadeNV n (.bool true) W e w') :=
    Lib.hid fun W A' c' h h' => by have := sub_any (n + m) m A' B c' d W h h' (by omega) (by omega); rwa [Nat.add_sub_cancel, decide_eq_true (Nat.le_add_left m n)] at this
  have CMUL : Hid (∀ W : World, KL .u32 W W.heap.size A (limbs n) → KL .u32 W W.heap.size B (limbs m) → Calls Try.prog 22 #[.slice A (limbs n).length c, .slice B (limbs m).length d] W fun e w' => MadeN (n * m) W e w') :=
    Lib.hid fun W h h' => by exact mul_any n m A B c d W h h' (by omega) (by omega) (by omega)
  have CDIV : Hid (∀ (W : World) (A' : Option Addr) (c' : Nat), KL .u32 W W.heap.size A' (limbs (n * m)) → KL .u32 W W.heap.size B (limbs m) → Calls Try.prog 20 #[.slice A' (limbs (n * m)).length c', .slice B (limbs m).length d] W fun e w' => MadeQ0 q false W e w') :=
    Lib.hid fun W A' c' h h' => by have := divmod_any (n * m) m A' B c' d W h h' (by omega) (by omega); rw [remN_mul, hq, decide_eq_false (by omega)] at this; exact this.mono fun _ _ => MadeQ0.of
  have CSHL : Hid (∀ W : World, KL .u32 W W.heap.size A (limbs n) → Calls Try.prog 24 #[.slice A (limbs n).length c, .int .i64 (k : Int)] W fun e w' => MadeN (n * 2 ^ k) W e w') :=
    Lib.hid fun W h => by rw [← es]; exact shl_any n A c k W h (by omega)
  have CSHR : Hid (∀ (W : World) (A' : Option Addr) (c' : Nat), KL .u32 W W.heap.size A' (limbs (n * 2 ^ k)) → Calls Try.prog 26 #[.slice A' (limbs (n * 2 ^ k)).length c', .int .i64 (k : Int)] W fun e w' => MadeN n W e w') :=
    Lib.hid fun W A' c' h => by have := shr_any (n * 2 ^ k) A' c' k W h (by omega); rwa [er] at this
  have CPOW : Hid (∀ (W : World) (A' : Option Addr), KL .u32 W W.heap.size A' [2] → Calls Try.prog 31 #[.slice A' 1 1, .int .i64 (k : Int)] W fun e w' => MadeN (2 ^ k) W e w') :=
    Lib.hid fun W A' h => by rw [← limbs_2] at h; have := pow_lists 2 k A' 1 W h (by omega) (by rw [limbs_2]; decide) (Nat.le_trans (two_pow_len (N := 8) (by omega)) (by omega)); rwa [limbs_2] at this
  have CMULP : Hid (∀ (W : World) (A' : Option Addr) (c' : Nat), KL .u32 W W.heap.size A (limbs n) → KL .u32 W W.heap.size A' (limbs (2 ^ k)) → Calls Try.prog 22 #[.slice A (limbs n).length c, .slice A' (limbs (2 ^ k)).length c'] W fun e w' => MadeN (n * 2 ^ k) W e w') :=
    Lib.hid fun W A' c' h h' => by exact mul_any n (2 ^ k) A A' c c' W h h' (by omega) (by omega) (by omega)
  have hmb : (limbs m).length ≤ 0 := by rw [hm0, limbs_zero]; simp
  have hnb : (((limbs n).length : Int) == 0) = true := by rw [hn0, limbs_zero]; rfl
  clear h h' hm1 hq es er hm0 hn0
  go_enter Try.func8, Try.ntmps8
  go_wp2_with (first
    | (go_at_call 11; (with_reducible refine (HT.out _ HA_0.out HB2_0.out).mono ?_); rintro e w' ⟨rfl, rfl⟩)
    | (go_at_call 16; (with_reducible refine (CADD.out _ HA_0.out HB2_0.out).mono ?_); rintro e w1 ⟨AS, cS, rfl, hA, hcap, hb⟩; have HA_1 := Lib.hid (HA_0.out.up hb); have HB2_1 := Lib.hid (HB2_0.out.up hb); have HB_1 := Lib.hid (below_chain HB_0.out hb); have HS_1 := Lib.hid hA; have HCS := Lib.hid hcap; clear hA hcap hb)
    | (go_at_call 13; (with_reducible refine (CSUB.out _ AS cS HS_1.out HB2_1.out).mono ?_); rintro e w2 ⟨AD, cD, rfl, hA, hcap, hb⟩; have HA_2 := Lib.hid (HA_1.out.up hb); have HB2_2 := Lib.hid (HB2_1.out.up hb); have HS_2 := Lib.hid (HS_1.out.up hb); have HB_2 := Lib.hid (below_chain HB_1.out hb); have HD_2 := Lib.hid hA; clear hA hcap hb)
    | (go_at_call 22; (with_reducible refine (CMUL.out _ HA_2.out HB2_2.out).mono ?_); rintro e w3 ⟨AP, cP, rfl, hA, hcap, hb⟩; have HA_3 := Lib.hid (HA_2.out.up hb); have HB2_3 := Lib.hid (HB2_2.out.up hb); have HD_3 := Lib.hid (HD_2.out.up hb); have HB_3 := Lib.hid (below_chain HB_2.out hb); have HP_3 := Lib.hid hA; have HCP := Lib.hid hcap; clear hA hcap hb)
    | (go_at_call 20; (with_reducible refine (CDIV.out _ AP cP HP_3.out HB2_3.out).mono ?_); rintro e w4 ⟨AQ, cQ, AR, cR, rfl, hA, hcap, hb⟩; have HA_4 := Lib.hid (HA_3.out.up hb); have HB2_4 := Lib.hid (HB2_3.out.up hb); have HD_4 := Lib.hid (HD_3.out.up hb); have HP_4 := Lib.hid (HP_3.out.up hb); have HB_4 := Lib.hid (below_chain HB_3.out hb); have HQ_4 := Lib.hid hA; clear hA hcap hb)
    | (go_at_call 15; (with_reducible refine (lawsame_yes (n) n AD A cD c _ rfl (by omega) HD_4.out HA_4.out).mono ?_); rintro e w5 ⟨rfl, hb⟩; have HA_5 := Lib.hid (HA_4.out.up hb); have HB2_5 := Lib.hid (HB2_4.out.up hb); have HD_5 := Lib.hid (HD_4.out.up hb); have HQ_5 := Lib.hid (HQ_4.out.up hb); have HB_5 := Lib.hid (below_chain HB_4.out hb); clear hb)
    | (go_at_call 12; (with_reducible refine (awake_any _).mono ?_); rintro e w6 ⟨rfl, hb⟩; have HA_6 := Lib.hid (HA_5.out.up hb); have HB2_6 := Lib.hid (HB2_5.out.up hb); have HB_6 := Lib.hid (below_chain HB_5.out hb); clear hb)
    | (go_at_call 24; (with_reducible refine (CSHL.out _ HA_6.out).mono ?_); rintro e w7 ⟨AU, cU, rfl, hA, hcap, hb⟩; have HA_7 := Lib.hid (HA_6.out.up hb); have HB2_7 := Lib.hid (HB2_6.out.up hb); have HB_7 := Lib.hid (below_chain HB_6.out hb); have HU_7 := Lib.hid hA; have HCU := Lib.hid hcap; clear hA hcap hb)
    | (go_at_call 26; (with_reducible refine (CSHR.out _ AU cU HU_7.out).mono ?_); rintro e w8 ⟨AV, cV, rfl, hA, hcap, hb⟩; have HA_8 := Lib.hid (HA_7.out.up hb); have HB2_8 := Lib.hid (HB2_7.out.up hb); have HU_8 := Lib.hid (HU_7.out.up hb); have HB_8 := Lib.hid (below_chain HB_7.out hb); have HV_8 := Lib.hid hA; have HCV := Lib.hid hcap; clear hA hcap hb)
    | (go_at_call 15; (with_reducible refine (lawsame_yes (n) n AV A cV c _ rfl (by omega) HV_8.out HA_8.out).mono ?_); rintro e w9 ⟨rfl, hb⟩; have HA_9 := Lib.hid (HA_8.out.up hb); have HB2_9 := Lib.hid (HB2_8.out.up hb); have HV_9 := Lib.hid (HV_8.out.up hb); have HB_9 := Lib.hid (below_chain HB_8.out hb); clear hb)
    | (go_at_call 24; (with_reducible refine (CSHL.out _ HA_9.out).mono ?_); rintro e w10 ⟨AX, cX, rfl, hA, hcap, hb⟩; have HA_10 := Lib.hid (HA_9.out.up hb); have HB2_10 := Lib.hid (HB2_9.out.up hb); have HB_10 := Lib.hid (below_chain HB_9.out hb); have HX_10 := Lib.hid hA; have HCX := Lib.hid hcap; clear hA hcap hb)
    | (go_at_call 31; (with_reducible refine (CPOW.out _ _ ?_).mono ?_); exact KL_c1 (by (try simp only [World.size_alloc]); omega) (by go_cell); rintro e w11 ⟨AY, cY, rfl, hN, hcap, hb⟩; have hh := below_chain (w := w10) (by go_grown) hb; have HA_11 := Lib.hid (HA_10.out.up hh); have HB2_11 := Lib.hid (HB2_10.out.up hh); have HX_11 := Lib.hid (HX_10.out.up hh); have HB_11 := Lib.hid (below_chain HB_10.out hh); have HY_11 := Lib.hid hN; clear hN hcap hh hb)
    | (go_at_call 22; (with_reducible refine (CMULP.out _ AY cY HA_11.out HY_11.out).mono ?_); rintro e w12 ⟨AZ, cZ, rfl, hA, hcap, hb⟩; have HA_12 := Lib.hid (HA_11.out.up hb); have HB2_12 := Lib.hid (HB2_11.out.up hb); have HX_12 := Lib.hid (HX_11.out.up hb); have HY_12 := Lib.hid (HY_11.out.up hb); have HB_12 := Lib.hid (below_chain HB_11.out hb); have HZ_12 := Lib.hid hA; have HCZ := Lib.hid hcap; clear hA hcap hb)
    | (go_at_call 15; (with_reducible refine (lawsame_yes (n * 2 ^ k) (n * 2 ^ k) AX AZ cX cZ _ rfl (by omega) HX_12.out HZ_12.out).mono ?_); rintro e w13 ⟨rfl, hb⟩; have HA_13 := Lib.hid (HA_12.out.up hb); have HB2_13 := Lib.hid (HB2_12.out.up hb); have HX_13 := Lib.hid (HX_12.out.up hb); have HZ_13 := Lib.hid (HZ_12.out.up hb); have HB_13 := Lib.hid (below_chain HB_12.out hb); clear hb))
  go_ret
  exact ⟨ret_bool (by first | rfl | (simp; done)), HB_13.out⟩

theorem law_back (A B : Option Addr) (xs ys : List Int) (c d : Nat) (k : Int) (hk0 : 0 ≤ k) (hk1 : k ≤ 255) (w : World) (h : KL .u32 w w.heap.size A xs) (h' : KL .u32 w w.heap.size B ys) (hd : D32 xs) (hd' : D32 ys)
    (hxl : xs.length ≤ 9223372036854775807) (hyl : ys.length ≤ 9223372036854775807) :
    Calls Try.prog 8 #[.slice A xs.length c, .slice B ys.length d, .int .u8 k] w fun e w' => e = .returned (.bool true) ∧ Below w.heap.size w w' := by
  obtain ⟨k, rfl⟩ : ∃ j : Nat, k = j := ⟨k.toNat, by omega⟩
  by_cases hm1 : mayB xs ys = true
  · obtain ⟨n, m, rfl, rfl, hn, hm⟩ := may_parts hm1 hd hd'
    rcases Nat.eq_zero_or_pos m with hm0 | hm0
    · rcases Nat.eq_zero_or_pos n with hn0 | hn0
      · exact law_back_11 n m k A B c d w h h' hn hm (by omega) hm0 hn0 hm1
      · exact law_back_10 n m k A B c d w h h' hn hm (by omega) hm0 hn0 hm1
    · rcases Nat.eq_zero_or_pos n with hn0 | hn0
      · exact law_back_01 n m k A B c d w h h' hn hm (by omega) hm0 hn0 hm1
      · exact law_back_00 n m k A B c d w h h' hn hm (by omega) hm0 hn0 hm1
  · have hm1' : mayB xs ys = false := by simpa using hm1
    have HT : Hid (∀ W : World, Calls Try.prog 11 #[.slice A xs.length c, .slice B ys.length d] w fun e w' => e = .returned (.bool false) ∧ w = w') :=
      Lib.hid fun W => by rw [← hm1']; exact may_any A B xs ys c d w h h' hxl hyl
    clear h h' hm1 hm1' hd hd'
    go_enter Try.func8, Try.ntmps8
    go_wp2_with (first
      | (go_at_call 11; (with_reducible refine (HT.out w).mono ?_); rintro e w' ⟨rfl, rfl⟩)
      | (go_at_call 12; (with_reducible refine (awake_any _).mono ?_); rintro e w1 ⟨rfl, hb⟩; have HB_1 := Lib.hid hb; clear hb))
    go_ret
    exact ⟨rfl, HB_1.out⟩
end Go.Proofs.Ytdflhidhnejbbaa
