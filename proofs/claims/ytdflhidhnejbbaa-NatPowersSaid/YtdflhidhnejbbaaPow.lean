/- Contracts: Pow. -/
import Derived.Test.YtdflhidhnejbbaaLen
namespace Go.Proofs.Ytdflhidhnejbbaa
open Go.RowKit

theorem mul_len {a b x y : Nat} (h : (limbs x).length ≤ a) (h' : (limbs y).length ≤ b) : (limbs (x * y)).length ≤ a + b := by
  apply limbs_len_le
  rw [Nat.pow_add]
  exact Nat.mul_lt_mul'' (Nat.lt_of_lt_of_le (limbs_lt x) (Nat.pow_le_pow_right (by omega) h)) (Nat.lt_of_lt_of_le (limbs_lt y) (Nat.pow_le_pow_right (by omega) h'))
theorem pow_len {m e n L : Nat} (hL : 1 ≤ L) (he : e ≤ n) (h : (limbs (m ^ n)).length ≤ L) : (limbs (m ^ e)).length ≤ L := by
  rcases Nat.eq_zero_or_pos m with rfl | hm
  · refine Nat.le_trans (limbs_len_le (k := 1) ?_) hL
    rcases Nat.eq_zero_or_pos e with rfl | h0
    · decide
    · rw [Nat.zero_pow h0]; decide
  · exact Nat.le_trans (lens_of_le (Nat.pow_le_pow_right hm he)) h
theorem pow_bit {m n i : Nat} : m ^ (n / 2 ^ i) = m ^ (n / 2 ^ (i + 1)) * m ^ (n / 2 ^ (i + 1)) * (if n / 2 ^ i % 2 = 1 then m else 1) := by
  have h : n / 2 ^ (i + 1) = n / 2 ^ i / 2 := by rw [Nat.pow_succ, Nat.div_div_eq_div_mul]
  rw [h]
  generalize n / 2 ^ i = q
  rw [← Nat.pow_add]
  split
  · rw [← Nat.pow_succ]
    congr 1
    omega
  · rw [Nat.mul_one]
    congr 1
    omega
theorem and_one (q : Nat) (h : q < 4294967296) : bits .and .i64 (q : Int) 1 = ((q % 2 : Nat) : Int) := by
  show IntKind.i64.wrap ((BitVec.ofInt 64 (q : Int) &&& BitVec.ofInt 64 1).toNat : Int) = _
  have e : (BitVec.ofInt 64 (q : Int) &&& BitVec.ofInt 64 1).toNat = q % 2 := by
    rw [BitVec.toNat_and, BitVec.ofInt_natCast, BitVec.toNat_ofNat, Nat.mod_eq_of_lt (by omega)]
    exact Nat.and_one_is_mod q
  rw [e, IntKind.wrap_i64]
  omega

set_option maxHeartbeats 400000 in
theorem trim_cap (A : Option Addr) (xs : List Int) (c : Nat) (w : World) (h : KL .u32 w w.heap.size A xs) (hd : D32 xs) (hc : xs.length ≤ c) (hl : xs.length ≤ 4611686018427387904) :
    Calls Try.prog 38 #[.slice A xs.length c] w fun e w' => e = .returned (.slice A (limbs (nv xs)).length (limbs (nv xs)).length) ∧ w = w' := by
  have H := Lib.hid h; clear h
  have HD := Lib.hid hd; clear hd
  go_enter Try.func38, Try.ntmps38
  go_wp2
  go_loop [3] (fun i => ∃ k : Nat, k ≤ xs.length ∧ i = .int .i64 k ∧ ∀ j, k ≤ j → j < xs.length → xs.getD j 0 = 0) (fun i => (intOf i).toNat)
  case atStart => exact ⟨xs.length, Nat.le_refl _, rfl, fun j hj hjl => by omega⟩
  case round =>
    obtain ⟨k, hk, rfl, hall⟩ := hrel
    have HA := Lib.hid hall; clear hall
    by_cases hk0 : 0 < k
    · obtain ⟨j, hj⟩ : ∃ j, k = j + 1 := ⟨k - 1, by omega⟩
      subst hj
      obtain ⟨ad, rfl, _, hcc⟩ := H.out (by omega)
      have hcell := hcc j (by omega)
      have hr := word_range HD.out (k := j) (by omega)
      obtain ⟨x, hx⟩ : ∃ x, xs.getD j 0 = x := ⟨_, rfl⟩
      rw [hx] at hcell hr
      have HX := Lib.hid hx
      have e1 : (((j + 1 : Nat) : Int)) - 1 = (j : Int) := by omega
      clear hcc hx
      by_cases hx0 : x = 0
      · have hb : (x == 0) = true := by simp [hx0]
        have HX0 := Lib.hid hx0; clear hx0
        go_wp2
        go_round
        case rel => exact ⟨j, by omega, by simp, fun i hi hil => by
          by_cases e : i = j
          · rw [e, HX.out]; exact HX0.out
          · exact HA.out i (by omega) hil⟩
        case measure => simp [intOf] <;> omega
      · have hb : (x == 0) = false := by simp [hx0]
        have HX0 := Lib.hid hx0; clear hx0
        go_wp2
        go_ret
        have ht := trim_limbs HD.out hk (fun i hi hil => HA.out i hi hil) (fun i hi => by rw [show i = j by omega, HX.out]; exact HX0.out)
        have hlen : (limbs (nv xs)).length = j + 1 := by rw [← ht, List.length_take]; omega
        exact ⟨by rw [hlen]; first | rfl | simp, rfl⟩
    · obtain rfl : k = 0 := by omega
      go_wp2
      go_ret
      have ht := trim_limbs HD.out hk (fun i hi hil => HA.out i hi hil) (fun i hi => by omega)
      have hlen : (limbs (nv xs)).length = 0 := by rw [← ht]; simp
      exact ⟨by rw [hlen]; first | rfl | simp, rfl⟩
theorem limbs_one : limbs 1 = [1] := by
  have := limbs_nv (xs := [((1 : Nat) : Int)]) (can_of_last (xs := []) (by decide)) (Dig.cons_ (by omega) (by omega) Dig.nil_)
  rw [nv_one] at this
  exact this
theorem KL_one {w : World} (t : TypeId) : KL .u32 (w.alloc (.cells #[.int .u32 1] t)) (w.alloc (.cells #[.int .u32 1] t)).heap.size (some ⟨w.heap.size, 0, none⟩) (limbs 1) := by
  rw [limbs_one]
  exact KL_new (k := .u32) w t #[.int .u32 1] [1] rfl

set_option maxHeartbeats 1000000 in
theorem pow_lists (m n : Nat) (A : Option Addr) (c : Nat) (w : World) (h : KL .u32 w w.heap.size A (limbs m)) (hn : n ≤ 1000) (hm : (limbs m).length ≤ 78) (hp : (limbs (m ^ (n / 2))).length ≤ 78) :
    Calls Try.prog 31 #[.slice A (limbs m).length c, .int .i64 (n : Int)] w fun e w' => MadeN (m ^ n) w e w' := by
  obtain ⟨b, hb⟩ : ∃ b, Lib.bitLen n = b := ⟨_, rfl⟩
  have hb10 : b ≤ 10 := by rw [← hb]; exact bitLenAux_le 64 n 10 (by omega)
  have hlt : n < 2 ^ b := by rw [← hb]; exact bitLenAux_lt 64 n (by omega)
  have HBL : Hid (∀ W : World, Calls Try.prog 49 #[.int .u64 (n : Int)] W fun e w' => e = .returned (.int .i64 (b : Nat)) ∧ W = w') :=
    Lib.hid fun W => ((Try.bits_Len n W (by omega) (by omega)).mono fun _ _ h => ⟨by rw [h.1, Int.toNat_natCast, hb], h.2.symm⟩)
  have HM : Hid (∀ (x y : Nat) (W : World) (A B : Option Addr) (c d : Nat), (limbs x).length ≤ 200 → (limbs y).length ≤ 78 → KL .u32 W W.heap.size A (limbs x) → KL .u32 W W.heap.size B (limbs y) → Calls Try.prog 22 #[.slice A (limbs x).length c, .slice B (limbs y).length d] W fun e w' => MadeN (x * y) W e w') :=
    Lib.hid fun x y W A B c d hx hy h h' => mul_any x y A B c d W h h' (by omega) (by omega) (Or.inr hy)
  have H := Lib.hid h; clear h
  have HP := Lib.hid hp; clear hp
  have HLT := Lib.hid hlt; clear hlt hb
  go_enter Try.func31, Try.ntmps31
  go_wp2_with (go_at_call 49; (with_reducible refine (HBL.out _).mono ?_); rintro e w' ⟨rfl, rfl⟩)
  go_loopw [5, 6] (fun out k wr => ∃ (j p : Nat) (A' : Option Addr) (c' : Nat), k = .int .i64 ((j : Int) - 1) ∧ p = m ^ (n / 2 ^ j) ∧ j ≤ 10 ∧ out = .slice A' (limbs p).length c' ∧ KL .u32 wr wr.heap.size A' (limbs p) ∧ (limbs p).length ≤ c' ∧ Below w.heap.size w wr) (fun _ k _ => ((intOf k) + 1).toNat)
  case atStart => exact ⟨b, 1, some ⟨w.heap.size, 0, none⟩, 1, rfl, by rw [Nat.div_eq_of_lt HLT.out, Nat.pow_zero], hb10, by rw [limbs_one]; rfl, KL_one _, by rw [limbs_one]; decide, (Below.refl _ _).alloc (Nat.le_refl _) _⟩
  case round =>
    obtain ⟨j, p, A', c', rfl, hp, hj, rfl, hA', hc', hbw⟩ := hrel
    by_cases hlt : 1 ≤ j
    · obtain ⟨i, rfl⟩ : ∃ i, j = i + 1 := ⟨j - 1, by omega⟩
      have hki : ((i + 1 : Nat) : Int) - 1 = (i : Int) := by omega
      rw [hki]
      have hpl : (limbs p).length ≤ 78 := by
        rw [hp]
        refine pow_len (by omega) ?_ HP.out
        rw [Nat.pow_succ, Nat.mul_comm, ← Nat.div_div_eq_div_mul]
        exact Nat.div_le_self _ _
      have hppl := mul_len hpl hpl
      obtain ⟨q, hq⟩ : ∃ q, n / 2 ^ i = q := ⟨_, rfl⟩
      have hqn : q ≤ 1000 := by rw [← hq]; exact Nat.le_trans (Nat.div_le_self _ _) hn
      have hq' : (n : Int) / 2 ^ i = (q : Int) := by rw [← hq, pow_cast, ← Int.natCast_ediv]
      have hand := and_one q (by omega)
      have hst := pow_bit (m := m) (n := n) (i := i)
      rw [← hp, hq] at hst
      have HA' := Lib.hid hA'
      have HB' := Lib.hid hbw
      by_cases hr : q % 2 = 1
      · rw [if_pos hr] at hst
        rw [hr] at hand
        have HST := Lib.hid hst
        have HQ := Lib.hid hq
        have HR := Lib.hid hr
        clear hA' hbw hst hp hq hr hki
        go_wp2_with (first
          | (go_at_call 22; (with_reducible refine (HM.out p p _ A' A' c' c' (by omega) hpl HA'.out HA'.out).mono ?_); rintro e w1 ⟨A1, c1, rfl, hA, hcap, hb⟩; have HA1 := Lib.hid hA; have HB1 := Lib.hid (below_chain HB'.out hb); clear hA hb)
          | (go_at_call 22; (with_reducible refine (HM.out (p * p) m _ A1 A c1 c (by omega) hm HA1.out (H.out.up HB1.out)).mono ?_); rintro e w2 ⟨A2, c2, rfl, hA, hcap2, hb⟩; have HA2 := Lib.hid hA; have HB2 := Lib.hid (below_chain HB1.out hb); clear hA hb))
        go_roundw
        case rel => exact ⟨i, p * p * m, A2, c2, rfl, by rw [HQ.out]; exact HST.out.symm, by omega, rfl, HA2.out, hcap2, HB2.out⟩
        case measure => simp [intOf] <;> omega
      · rw [if_neg hr, Nat.mul_one] at hst
        have hr0 : q % 2 = 0 := by omega
        rw [hr0] at hand
        have HST := Lib.hid hst
        have HQ := Lib.hid hq
        have HR := Lib.hid hr
        clear hA' hbw hst hp hq hr hr0 hki
        go_wp2_with (first
          | (go_at_call 22; (with_reducible refine (HM.out p p _ A' A' c' c' (by omega) hpl HA'.out HA'.out).mono ?_); rintro e w1 ⟨A1, c1, rfl, hA, hcap, hb⟩; have HA1 := Lib.hid hA; have HB1 := Lib.hid (below_chain HB'.out hb); clear hA hb))
        go_roundw
        case rel => exact ⟨i, p * p, A1, c1, rfl, by rw [HQ.out]; exact HST.out.symm, by omega, rfl, HA1.out, hcap, HB1.out⟩
        case measure => simp [intOf] <;> omega
    · obtain rfl : j = 0 := by omega
      rw [Nat.pow_zero, Nat.div_one] at hp
      subst hp
      have hnl : (limbs (m ^ n)).length ≤ 235 := by
        have h1 := mul_len (mul_len HP.out HP.out) hm
        rcases (show n = n / 2 + n / 2 ∨ n = n / 2 + n / 2 + 1 by omega) with h2 | h2
        · rw [h2, Nat.pow_add]
          have := mul_len HP.out HP.out
          omega
        · rw [h2, Nat.pow_succ, Nat.pow_add]
          omega
      have HT : Hid _ := Lib.hid (trim_cap A' (limbs (m ^ n)) c' _ hA' (limbs_dig _) hc' (by omega))
      rw [nv_limbs] at HT
      have HA' := Lib.hid hA'
      have HB' := Lib.hid hbw
      clear hA' hbw
      go_wp2_with (go_at_call 38; (with_reducible refine HT.out.mono ?_); rintro e w' ⟨rfl, rfl⟩)
      go_ret
      exact ⟨_, _, rfl, HA'.out, Nat.le_refl _, HB'.out⟩
end Go.Proofs.Ytdflhidhnejbbaa
