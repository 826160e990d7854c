/- Contracts: Mul and Pow of any numbers. -/
import Derived.Test.YtdflhidhnejbbaaKarD
namespace Go.Proofs.Ytdflhidhnejbbaa
open Go.RowKit

theorem mulWords_full (A B : Option Addr) (xs ys : List Int) (c d : Nat) (w : World) (h : KL .u64 w w.heap.size A xs) (h' : KL .u64 w w.heap.size B ys) (hd : W64 xs) (hd' : W64 ys) (hxl : xs.length ≤ 100000000) (hyl : ys.length ≤ 100000000) (hx1 : 1 ≤ xs.length) (hy1 : 1 ≤ ys.length) (hc : xs.length ≤ c) (hdc : ys.length ≤ d) :
    Calls Try.prog 47 #[.slice A xs.length c, .slice B ys.length d] w fun e w' => MadeW (xs.length + ys.length) (wv xs * wv ys) w e w' := by
  by_cases hk : xs.length < 40 ∨ ys.length < 40
  · exact mulWords_any A B xs ys c d w h h' hd hd' (by omega) (by omega) hx1 hy1 hk
  · obtain ⟨ad, rfl, _⟩ := h (by omega)
    obtain ⟨bd, rfl, _⟩ := h' (by omega)
    rcases Nat.lt_or_ge xs.length ys.length with hlt | hge
    · rw [Nat.mul_comm]
      exact mulWords_long_lt bd ad ys xs d c ys.length xs.length _ w h' h hd' hd rfl rfl hdc hc hyl hlt (by omega) (Nat.add_comm _ _)
    · exact mulWords_long_ge ad bd xs ys c d xs.length ys.length _ w h h' hd hd' rfl rfl hc hdc hxl hge (by omega) rfl

set_option maxHeartbeats 1000000 in
theorem mul_full (n m : Nat) (A B : Option Addr) (c d : Nat) (w : World) (h : KL .u32 w w.heap.size A (limbs n)) (h' : KL .u32 w w.heap.size B (limbs m)) (hxl : (limbs n).length ≤ 100000000) (hyl : (limbs m).length ≤ 100000000) :
    Calls Try.prog 22 #[.slice A (limbs n).length c, .slice B (limbs m).length d] w fun e w' => MadeN (n * m) w e w' := by
  by_cases h0 : n = 0 ∨ m = 0
  · have hz : n * m = 0 := by rcases h0 with rfl | rfl <;> simp
    rw [hz]
    clear h h'
    by_cases hn0 : n = 0
    · subst hn0
      rw [limbs_zero]
      go_enter Try.func22, Try.ntmps22
      go_wp2
      go_ret
      exact made_nil _ w
    · have hm0 : m = 0 := by omega
      subst hm0
      rw [limbs_zero]
      have hb : (((limbs n).length : Int) == 0) = false := by rw [beq_eq_false_iff_ne]; have := limbs_len_pos.2 (show 0 < n by omega); omega
      clear h0 hz hn0
      go_enter Try.func22, Try.ntmps22
      go_wp2
      go_ret
      exact made_nil _ w
  · have hn0 : 0 < n := by omega
    have hm0 : 0 < m := by omega
    have ln := limbs_len_pos.2 hn0
    have lm := limbs_len_pos.2 hm0
    have hb1 : (((limbs n).length : Int) == 0) = false := by rw [beq_eq_false_iff_ne]; omega
    have hb2 : (((limbs m).length : Int) == 0) = false := by rw [beq_eq_false_iff_ne]; omega
    by_cases hs : (limbs n).length ≤ 2 ∧ (limbs m).length ≤ 2
    · obtain ⟨hs1, hs2⟩ := hs
      have HC := Lib.hid (mulShort_any n m A B c d w h h' (limbs_two.1 hs1) (limbs_two.1 hs2))
      clear h h' h0 hn0 hm0
      go_enter Try.func22, Try.ntmps22
      go_wp2_with (go_at_call 46; (with_reducible refine HC.out.mono ?_); rintro e w3 ⟨A2, c2, rfl, hA, hc, hb⟩; have HA := Lib.hid hA; have HB3 := Lib.hid hb; clear hA hb)
      go_ret
      exact ⟨_, _, rfl, HA.out, hc, HB3.out⟩
    · have HP1 : Hid (∀ W : World, Below w.heap.size w W → Calls Try.prog 43 #[.slice A (limbs n).length c] W fun e w' => MadeW (((limbs n).length + 1) / 2) n W e w') :=
        Lib.hid fun W hb => by
          have := pack_any A (limbs n) c W (h.up hb) (limbs_dig n) (by omega)
          rwa [nv_limbs] at this
      have HP2 : Hid (∀ W : World, Below w.heap.size w W → Calls Try.prog 43 #[.slice B (limbs m).length d] W fun e w' => MadeW (((limbs m).length + 1) / 2) m W e w') :=
        Lib.hid fun W hb => by
          have := pack_any B (limbs m) d W (h'.up hb) (limbs_dig m) (by omega)
          rwa [nv_limbs] at this
      obtain ⟨L, hL⟩ : ∃ L, ((limbs n).length + 1) / 2 = L := ⟨_, rfl⟩
      obtain ⟨M, hM⟩ : ∃ M, ((limbs m).length + 1) / 2 = M := ⟨_, rfl⟩
      have hL1 : 1 ≤ L ∧ L ≤ 100000000 := by omega
      have hM1 : 1 ≤ M ∧ M ≤ 100000000 := by omega
      rw [hL] at HP1
      rw [hM] at HP2
      have HW : Hid (∀ (W : World) (g g' : Nat) (xs ys : List Int), xs.length = L → ys.length = M → W64 xs → W64 ys → wv xs = n → wv ys = m → KL .u64 W W.heap.size (some ⟨g, 0, none⟩) xs → KL .u64 W W.heap.size (some ⟨g', 0, none⟩) ys →
          Calls Try.prog 47 #[.slice (some ⟨g, 0, none⟩) L L, .slice (some ⟨g', 0, none⟩) M M] W fun e w' => MadeW (L + M) (n * m) W e w') :=
        Lib.hid fun W g g' xs ys e1 e2 d1 d2 v1 v2 k1 k2 => by
          subst e1; subst e2; subst v1; subst v2
          exact mulWords_full _ _ xs ys _ _ W k1 k2 d1 d2 (by omega) (by omega) (by omega) (by omega) (Nat.le_refl _) (Nat.le_refl _)
      have HU : Hid (∀ (W : World) (g : Nat) (ws : List Int), ws.length = L + M → W64 ws → wv ws = n * m → KL .u64 W W.heap.size (some ⟨g, 0, none⟩) ws →
          Calls Try.prog 44 #[.slice (some ⟨g, 0, none⟩) (L + M) (L + M)] W fun e w' => MadeN (n * m) W e w') :=
        Lib.hid fun W g ws e1 d1 v1 k1 => by
          rw [← e1, ← v1]
          exact unpack_any _ ws _ W k1 d1 (by omega)
      have hs' : ¬ ((limbs n).length ≤ 2 ∧ (limbs m).length ≤ 2) := hs
      have hsd : (limbs n).length ≤ 2 → 2 < (limbs m).length := by omega
      clear h h' h0 hn0 hm0 hs hL hM
      have HSD := Lib.hid hsd
      have HSN := Lib.hid hs'
      clear hsd hs'
      by_cases hs1 : (limbs n).length ≤ 2
      all_goals
        (try have hs2 := HSD.out hs1)
        go_enter Try.func22, Try.ntmps22
        go_wp2_with (first
          | (go_at_call 43; (with_reducible refine (HP1.out _ (Below.refl _ _)).mono ?_); rintro e w1 ⟨g1, ws1, hl1, hd1, hv1, rfl, ho1, hb1⟩; have HL1 := Lib.hid hl1; have HD1 := Lib.hid hd1; have HV1 := Lib.hid hv1; have HK1 := Lib.hid (KL.of_own ho1).2.2; have HB1 := Lib.hid hb1; clear hl1 hd1 hv1 ho1 hb1)
          | (go_at_call 43; (with_reducible refine (HP2.out _ HB1.out).mono ?_); rintro e w2 ⟨g2, ws2, hl2, hd2, hv2, rfl, ho2, hb2⟩; have HL2 := Lib.hid hl2; have HD2 := Lib.hid hd2; have HV2 := Lib.hid hv2; have HK2 := Lib.hid (KL.of_own ho2).2.2; have HK1' := Lib.hid (HK1.out.up hb2); have HB2 := Lib.hid (below_chain HB1.out hb2); clear hl2 hd2 hv2 ho2 hb2)
          | (go_at_call 47; (with_reducible refine (HW.out _ _ _ ws1 ws2 HL1.out HL2.out HD1.out HD2.out HV1.out HV2.out HK1'.out HK2.out).mono ?_); rintro e w3 ⟨g3, ws3, hl3, hd3, hv3, rfl, ho3, hb3⟩; have HL3 := Lib.hid hl3; have HD3 := Lib.hid hd3; have HV3 := Lib.hid hv3; have HK3 := Lib.hid (KL.of_own ho3).2.2; have HB3 := Lib.hid (below_chain HB2.out hb3); clear hl3 hd3 hv3 ho3 hb3)
          | (go_at_call 44; (with_reducible refine (HU.out _ _ ws3 HL3.out HD3.out HV3.out HK3.out).mono ?_); rintro e w4 ⟨A2, c2, rfl, hA, hc, hb⟩; have HA := Lib.hid hA; have HB4 := Lib.hid (below_chain HB3.out hb); clear hA hb))
        go_ret
        exact ⟨_, _, rfl, HA.out, hc, HB4.out⟩

theorem pow_lens {m : Nat} (hm : (limbs m).length ≤ 2) : ∀ {e : Nat}, (limbs (m ^ e)).length ≤ 2 * e + 1
  | 0 => by rw [Nat.pow_zero, limbs_one]; decide
  | e + 1 => by
    rw [Nat.pow_succ]
    have := mul_len (pow_lens hm (e := e)) hm
    omega

set_option maxHeartbeats 1000000 in
theorem pow_full (m n : Nat) (A : Option Addr) (c : Nat) (w : World) (h : KL .u32 w w.heap.size A (limbs m)) (hn : n ≤ 1000) (hm : (limbs m).length ≤ 2) :
    Calls Try.prog 31 #[.slice A (limbs m).length c, .int .i64 (n : Int)] w fun e w' => MadeN (m ^ n) w e w' := by
  obtain ⟨b, hb⟩ : ∃ b, Lib.bitLen n = b := ⟨_, rfl⟩
  have hb10 : b ≤ 10 := by rw [← hb]; exact bitLenAux_le 64 n 10 (by omega)
  have hlt : n < 2 ^ b := by rw [← hb]; exact bitLenAux_lt 64 n (by omega)
  have HBL : Hid (∀ W : World, Calls Try.prog 49 #[.int .u64 (n : Int)] W fun e w' => e = .returned (.int .i64 (b : Nat)) ∧ W = w') :=
    Lib.hid fun W => ((Try.bits_Len n W (by omega) (by omega)).mono fun _ _ h => ⟨by rw [h.1, Int.toNat_natCast, hb], h.2.symm⟩)
  have HM : Hid (∀ (x y : Nat) (W : World) (A B : Option Addr) (c d : Nat), (limbs x).length ≤ 10000 → (limbs y).length ≤ 10000 → KL .u32 W W.heap.size A (limbs x) → KL .u32 W W.heap.size B (limbs y) → Calls Try.prog 22 #[.slice A (limbs x).length c, .slice B (limbs y).length d] W fun e w' => MadeN (x * y) W e w') :=
    Lib.hid fun x y W A B c d hx hy h h' => mul_full x y A B c d W h h' (by omega) (by omega)
  have H := Lib.hid h; clear h
  have hmb : (limbs m).length ≤ 10000 := by omega
  have HLT := Lib.hid hlt; clear hlt hb
  go_enter Try.func31, Try.ntmps31
  go_wp2_with (go_at_call 49; (with_reducible refine (HBL.out _).mono ?_); rintro e w' ⟨rfl, rfl⟩)
  go_loopw [5, 6] (fun out k wr => ∃ (j p : Nat) (A' : Option Addr) (c' : Nat), k = .int .i64 ((j : Int) - 1) ∧ p = m ^ (n / 2 ^ j) ∧ j ≤ 10 ∧ out = .slice A' (limbs p).length c' ∧ KL .u32 wr wr.heap.size A' (limbs p) ∧ (limbs p).length ≤ c' ∧ Below w.heap.size w wr) (fun _ k _ => ((intOf k) + 1).toNat)
  case atStart => exact ⟨b, 1, some ⟨w.heap.size, 0, none⟩, 1, rfl, by rw [Nat.div_eq_of_lt HLT.out, Nat.pow_zero], hb10, by rw [limbs_one]; rfl, KL_one _, by rw [limbs_one]; decide, (Below.refl _ _).alloc (Nat.le_refl _) _⟩
  case round =>
    obtain ⟨j, p, A', c', rfl, hp, hj, rfl, hA', hc', hbw⟩ := hrel
    by_cases hlt : 1 ≤ j
    · obtain ⟨i, rfl⟩ : ∃ i, j = i + 1 := ⟨j - 1, by omega⟩
      have hki : ((i + 1 : Nat) : Int) - 1 = (i : Int) := by omega
      rw [hki]
      have hpl : (limbs p).length ≤ 3000 := by
        rw [hp]
        exact Nat.le_trans (pow_lens hm) (by have := Nat.div_le_self n (2 ^ (i + 1)); omega)
      have hpb : (limbs p).length ≤ 10000 := by omega
      have hppl := mul_len hpl hpl
      obtain ⟨q, hq⟩ : ∃ q, n / 2 ^ i = q := ⟨_, rfl⟩
      have hqn : q ≤ 1000 := by rw [← hq]; exact Nat.le_trans (Nat.div_le_self _ _) hn
      have hq' : (n : Int) / 2 ^ i = (q : Int) := by rw [← hq, pow_cast, ← Int.natCast_ediv]
      have hand := and_one q (by omega)
      have hst := pow_bit (m := m) (n := n) (i := i)
      rw [← hp, hq] at hst
      have HA' := Lib.hid hA'
      have HB' := Lib.hid hbw
      by_cases hr : q % 2 = 1
      · rw [if_pos hr] at hst
        rw [hr] at hand
        have HST := Lib.hid hst
        have HQ := Lib.hid hq
        have HR := Lib.hid hr
        clear hA' hbw hst hp hq hr hki
        go_wp2_with (first
          | (go_at_call 22; (with_reducible refine (HM.out p p _ A' A' c' c' (by omega) hpb HA'.out HA'.out).mono ?_); rintro e w1 ⟨A1, c1, rfl, hA, hcap, hb⟩; have HA1 := Lib.hid hA; have HB1 := Lib.hid (below_chain HB'.out hb); clear hA hb)
          | (go_at_call 22; (with_reducible refine (HM.out (p * p) m _ A1 A c1 c (by omega) hmb HA1.out (H.out.up HB1.out)).mono ?_); rintro e w2 ⟨A2, c2, rfl, hA, hcap2, hb⟩; have HA2 := Lib.hid hA; have HB2 := Lib.hid (below_chain HB1.out hb); clear hA hb))
        go_roundw
        case rel => exact ⟨i, p * p * m, A2, c2, rfl, by rw [HQ.out]; exact HST.out.symm, by omega, rfl, HA2.out, hcap2, HB2.out⟩
        case measure => simp [intOf] <;> omega
      · rw [if_neg hr, Nat.mul_one] at hst
        have hr0 : q % 2 = 0 := by omega
        rw [hr0] at hand
        have HST := Lib.hid hst
        have HQ := Lib.hid hq
        have HR := Lib.hid hr
        clear hA' hbw hst hp hq hr hr0 hki
        go_wp2_with (first
          | (go_at_call 22; (with_reducible refine (HM.out p p _ A' A' c' c' (by omega) hpb HA'.out HA'.out).mono ?_); rintro e w1 ⟨A1, c1, rfl, hA, hcap, hb⟩; have HA1 := Lib.hid hA; have HB1 := Lib.hid (below_chain HB'.out hb); clear hA hb))
        go_roundw
        case rel => exact ⟨i, p * p, A1, c1, rfl, by rw [HQ.out]; exact HST.out.symm, by omega, rfl, HA1.out, hcap, HB1.out⟩
        case measure => simp [intOf] <;> omega
    · obtain rfl : j = 0 := by omega
      rw [Nat.pow_zero, Nat.div_one] at hp
      subst hp
      have hnl : (limbs (m ^ n)).length ≤ 3000 := Nat.le_trans (pow_lens hm) (by omega)
      have HT : Hid _ := Lib.hid (trim_cap A' (limbs (m ^ n)) c' _ hA' (limbs_dig _) hc' (by omega))
      rw [nv_limbs] at HT
      have HA' := Lib.hid hA'
      have HB' := Lib.hid hbw
      clear hA' hbw
      go_wp2_with (go_at_call 38; (with_reducible refine HT.out.mono ?_); rintro e w' ⟨rfl, rfl⟩)
      go_ret
      exact ⟨_, _, rfl, HA'.out, Nat.le_refl _, HB'.out⟩
end Go.Proofs.Ytdflhidhnejbbaa
