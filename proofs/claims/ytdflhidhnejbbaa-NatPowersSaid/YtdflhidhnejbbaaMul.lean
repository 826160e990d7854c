/- Contracts: mulWords, Mul. -/
import Derived.Test.YtdflhidhnejbbaaSchool
namespace Go.Proofs.Ytdflhidhnejbbaa
open Go.RowKit

set_option maxHeartbeats 1000000 in
theorem mulWords_ge (A B : Option Addr) (xs ys : List Int) (c d : Nat) (w : World) (h : KL .u64 w w.heap.size A xs) (h' : KL .u64 w w.heap.size B ys) (hd : W64 xs) (hd' : W64 ys) (hxl : xs.length ≤ 1099511627776) (hyl : ys.length ≤ xs.length) (hx1 : 1 ≤ xs.length) (hk : ys.length < 40) :
    Calls Try.prog 47 #[.slice A xs.length c, .slice B ys.length d] w fun e w' => MadeW (xs.length + ys.length) (wv xs * wv ys) w e w' := by
  obtain ⟨i0, hi0, hz0, hz1, hz2⟩ := info_parts u64_info
  have HS : Hid (∀ W : World, W.ownsRow w.heap.size 36 1 (.slice (some ⟨w.heap.size, 0, none⟩) (xs.length + ys.length) (xs.length + ys.length)) (xs.length + ys.length) ((List.replicate (xs.length + ys.length) (0 : Int)).map (Value.int .u64)) → Below w.heap.size w W →
      Calls Try.prog 56 #[.slice (some ⟨w.heap.size, 0, none⟩) (xs.length + ys.length) (xs.length + ys.length), .slice A xs.length c, .slice B ys.length d] W fun e w' => e = .returned (.tuple #[]) ∧ Wrote w.heap.size w.heap.size (xs.length + ys.length) (wv xs * wv ys) W w') :=
    Lib.hid fun W hown hb => by
      exact school_any w.heap.size w.heap.size A B xs ys c d W hown (h.below hb) (h'.below hb) hd hd' hxl (by omega) hx1
  clear h h' hd hd'
  go_enter Try.func47, Try.ntmps47
  go_wp2_with (first
    | (at_make; refine wpList_make_full _ rfl _ _ 47 rfl w.heap.size 36 i0 (.int .u64 0) 1 Try.underlying47 hi0 hz0 hz1 _ _ _ _ (xs.length + ys.length) rfl rfl (by simp) (by simp) (by rw [hz2]; omega) (by unfold maxLen; omega) (Nat.le_refl _) ?_; intro w1 hown hg; have HO := Lib.hid (own_zeros hown); have HB := Lib.hid ((Below.refl w.heap.size w).grown hg (Nat.le_refl _) (fun k hk => by cases hk)); clear hown hg)
    | (go_at_call 56; (with_reducible refine (HS.out _ HO.out HB.out).mono ?_); rintro e w2 ⟨rfl, S, hSl, hSd, hSv, hown, hb⟩; have HSL := Lib.hid hSl; have HSD := Lib.hid hSd; have HSV := Lib.hid hSv; have HO2 := Lib.hid hown; have HB2 := Lib.hid (HB.out.trans hb); clear hSl hSd hSv hown hb))
  go_ret
  exact ⟨w.heap.size, S, HSL.out, HSD.out, HSV.out, rfl, HO2.out, HB2.out⟩

set_option maxHeartbeats 1000000 in
theorem mulWords_lt (A B : Option Addr) (xs ys : List Int) (c d : Nat) (w : World) (h : KL .u64 w w.heap.size A xs) (h' : KL .u64 w w.heap.size B ys) (hd : W64 xs) (hd' : W64 ys) (hxl : xs.length ≤ 1099511627776) (hyl : ys.length < xs.length) (hx1 : 1 ≤ xs.length) (hk : ys.length < 40) :
    Calls Try.prog 47 #[.slice B ys.length d, .slice A xs.length c] w fun e w' => MadeW (ys.length + xs.length) (wv xs * wv ys) w e w' := by
  obtain ⟨i0, hi0, hz0, hz1, hz2⟩ := info_parts u64_info
  have HS : Hid (∀ W : World, W.ownsRow w.heap.size 36 1 (.slice (some ⟨w.heap.size, 0, none⟩) (ys.length + xs.length) (ys.length + xs.length)) (ys.length + xs.length) ((List.replicate (ys.length + xs.length) (0 : Int)).map (Value.int .u64)) → Below w.heap.size w W →
      Calls Try.prog 56 #[.slice (some ⟨w.heap.size, 0, none⟩) (ys.length + xs.length) (ys.length + xs.length), .slice A xs.length c, .slice B ys.length d] W fun e w' => e = .returned (.tuple #[]) ∧ Wrote w.heap.size w.heap.size (ys.length + xs.length) (wv xs * wv ys) W w') :=
    Lib.hid fun W hown hb => by
      rw [Nat.add_comm ys.length xs.length] at hown ⊢
      exact school_any w.heap.size w.heap.size A B xs ys c d W hown (h.below hb) (h'.below hb) hd hd' hxl (by omega) hx1
  clear h h' hd hd'
  go_enter Try.func47, Try.ntmps47
  go_wp2_with (first
    | (at_make; refine wpList_make_full _ rfl _ _ 47 rfl w.heap.size 36 i0 (.int .u64 0) 1 Try.underlying47 hi0 hz0 hz1 _ _ _ _ (ys.length + xs.length) rfl rfl (by simp) (by simp) (by rw [hz2]; omega) (by unfold maxLen; omega) (Nat.le_refl _) ?_; intro w1 hown hg; have HO := Lib.hid (own_zeros hown); have HB := Lib.hid ((Below.refl w.heap.size w).grown hg (Nat.le_refl _) (fun k hk => by cases hk)); clear hown hg)
    | (go_at_call 56; (with_reducible refine (HS.out _ HO.out HB.out).mono ?_); rintro e w2 ⟨rfl, S, hSl, hSd, hSv, hown, hb⟩; have HSL := Lib.hid hSl; have HSD := Lib.hid hSd; have HSV := Lib.hid hSv; have HO2 := Lib.hid hown; have HB2 := Lib.hid (HB.out.trans hb); clear hSl hSd hSv hown hb))
  go_ret
  exact ⟨w.heap.size, S, HSL.out, HSD.out, HSV.out, rfl, HO2.out, HB2.out⟩

theorem mulWords_any (A B : Option Addr) (xs ys : List Int) (c d : Nat) (w : World) (h : KL .u64 w w.heap.size A xs) (h' : KL .u64 w w.heap.size B ys) (hd : W64 xs) (hd' : W64 ys) (hxl : xs.length ≤ 1099511627776) (hyl : ys.length ≤ 1099511627776) (hx1 : 1 ≤ xs.length) (hy1 : 1 ≤ ys.length) (hk : xs.length < 40 ∨ ys.length < 40) :
    Calls Try.prog 47 #[.slice A xs.length c, .slice B ys.length d] w fun e w' => MadeW (xs.length + ys.length) (wv xs * wv ys) w e w' := by
  rcases Nat.lt_or_ge xs.length ys.length with hlt | hge
  · rw [Nat.mul_comm]
    exact mulWords_lt B A ys xs d c w h' h hd' hd hyl hlt hy1 (by omega)
  · exact mulWords_ge A B xs ys c d w h h' hd hd' hxl hge hx1 (by omega)

/-- Where a slice of words of the call's own reads. -/
theorem KL.of_row {k : IntKind} {w w' : World} {base : Nat} {e : TypeId} {g L : Nat} {ws : List Int} (h : w.ownsRow base e 1 (.slice (some ⟨g, 0, none⟩) L L) L (ws.map (Value.int k))) (hb : Below w.heap.size w w') : KL k w' w'.heap.size (some ⟨g, 0, none⟩) ws :=
  (KL.of_own h).2.2.up hb

theorem made_nil (v : Value) (w : World) (hv : v = .slice none 0 0 := by rfl) : MadeN 0 w (.returned v) w := by
  subst hv
  have hz : (limbs 0).length = 0 := by rw [limbs_zero]; rfl
  exact ⟨none, 0, by rw [hz], by rw [limbs_zero]; exact KL.nil_, by omega, Below.refl _ _⟩
theorem mul_lens {n : Nat} : (limbs n).length = 0 ↔ n = 0 := by
  constructor
  · intro h
    rcases Nat.eq_zero_or_pos n with h0 | h0
    · exact h0
    · have := limbs_len_pos.2 h0; omega
  · rintro rfl; rw [limbs_zero]; rfl

set_option maxHeartbeats 1000000 in
theorem mul_any (n m : Nat) (A B : Option Addr) (c d : Nat) (w : World) (h : KL .u32 w w.heap.size A (limbs n)) (h' : KL .u32 w w.heap.size B (limbs m)) (hxl : (limbs n).length ≤ 1099511627776) (hyl : (limbs m).length ≤ 1099511627776) (hk : (limbs n).length ≤ 78 ∨ (limbs m).length ≤ 78) :
    Calls Try.prog 22 #[.slice A (limbs n).length c, .slice B (limbs m).length d] w fun e w' => MadeN (n * m) w e w' := by
  by_cases h0 : n = 0 ∨ m = 0
  · have hz : n * m = 0 := by rcases h0 with rfl | rfl <;> simp
    rw [hz]
    clear h h'
    by_cases hn0 : n = 0
    · subst hn0
      rw [limbs_zero]
      go_enter Try.func22, Try.ntmps22
      go_wp2
      go_ret
      exact made_nil _ w
    · have hm0 : m = 0 := by omega
      subst hm0
      rw [limbs_zero]
      have hb : (((limbs n).length : Int) == 0) = false := by rw [beq_eq_false_iff_ne]; have := limbs_len_pos.2 (show 0 < n by omega); omega
      clear h0 hz hn0
      go_enter Try.func22, Try.ntmps22
      go_wp2
      go_ret
      exact made_nil _ w
  · have hn0 : 0 < n := by omega
    have hm0 : 0 < m := by omega
    have ln := limbs_len_pos.2 hn0
    have lm := limbs_len_pos.2 hm0
    have hb1 : (((limbs n).length : Int) == 0) = false := by rw [beq_eq_false_iff_ne]; omega
    have hb2 : (((limbs m).length : Int) == 0) = false := by rw [beq_eq_false_iff_ne]; omega
    by_cases hs : (limbs n).length ≤ 2 ∧ (limbs m).length ≤ 2
    · obtain ⟨hs1, hs2⟩ := hs
      have HC := Lib.hid (mulShort_any n m A B c d w h h' (limbs_two.1 hs1) (limbs_two.1 hs2))
      clear h h' h0 hn0 hm0 hk
      go_enter Try.func22, Try.ntmps22
      go_wp2_with (go_at_call 46; (with_reducible refine HC.out.mono ?_); rintro e w3 ⟨A2, c2, rfl, hA, hc, hb⟩; have HA := Lib.hid hA; have HB3 := Lib.hid hb; clear hA hb)
      go_ret
      exact ⟨_, _, rfl, HA.out, hc, HB3.out⟩
    · have HP1 : Hid (∀ W : World, Below w.heap.size w W → Calls Try.prog 43 #[.slice A (limbs n).length c] W fun e w' => MadeW (((limbs n).length + 1) / 2) n W e w') :=
        Lib.hid fun W hb => by
          have := pack_any A (limbs n) c W (h.up hb) (limbs_dig n) (by omega)
          rwa [nv_limbs] at this
      have HP2 : Hid (∀ W : World, Below w.heap.size w W → Calls Try.prog 43 #[.slice B (limbs m).length d] W fun e w' => MadeW (((limbs m).length + 1) / 2) m W e w') :=
        Lib.hid fun W hb => by
          have := pack_any B (limbs m) d W (h'.up hb) (limbs_dig m) (by omega)
          rwa [nv_limbs] at this
      obtain ⟨L, hL⟩ : ∃ L, ((limbs n).length + 1) / 2 = L := ⟨_, rfl⟩
      obtain ⟨M, hM⟩ : ∃ M, ((limbs m).length + 1) / 2 = M := ⟨_, rfl⟩
      have hL1 : 1 ≤ L ∧ L ≤ 1099511627776 := by omega
      have hM1 : 1 ≤ M ∧ M ≤ 1099511627776 := by omega
      have hLM : L < 40 ∨ M < 40 := by omega
      rw [hL] at HP1
      rw [hM] at HP2
      have HW : Hid (∀ (W : World) (g g' : Nat) (xs ys : List Int), xs.length = L → ys.length = M → W64 xs → W64 ys → wv xs = n → wv ys = m → KL .u64 W W.heap.size (some ⟨g, 0, none⟩) xs → KL .u64 W W.heap.size (some ⟨g', 0, none⟩) ys →
          Calls Try.prog 47 #[.slice (some ⟨g, 0, none⟩) L L, .slice (some ⟨g', 0, none⟩) M M] W fun e w' => MadeW (L + M) (n * m) W e w') :=
        Lib.hid fun W g g' xs ys e1 e2 d1 d2 v1 v2 k1 k2 => by
          subst e1; subst e2; subst v1; subst v2
          exact mulWords_any _ _ xs ys _ _ W k1 k2 d1 d2 (by omega) (by omega) (by omega) (by omega) hLM
      have HU : Hid (∀ (W : World) (g : Nat) (ws : List Int), ws.length = L + M → W64 ws → wv ws = n * m → KL .u64 W W.heap.size (some ⟨g, 0, none⟩) ws →
          Calls Try.prog 44 #[.slice (some ⟨g, 0, none⟩) (L + M) (L + M)] W fun e w' => MadeN (n * m) W e w') :=
        Lib.hid fun W g ws e1 d1 v1 k1 => by
          rw [← e1, ← v1]
          exact unpack_any _ ws _ W k1 d1 (by omega)
      have hs' : ¬ ((limbs n).length ≤ 2 ∧ (limbs m).length ≤ 2) := hs
      have hsd : (limbs n).length ≤ 2 → 2 < (limbs m).length := by omega
      clear h h' h0 hn0 hm0 hk hs hL hM
      have HSD := Lib.hid hsd
      have HSN := Lib.hid hs'
      clear hsd hs'
      by_cases hs1 : (limbs n).length ≤ 2
      all_goals
        (try have hs2 := HSD.out hs1)
        go_enter Try.func22, Try.ntmps22
        go_wp2_with (first
          | (go_at_call 43; (with_reducible refine (HP1.out _ (Below.refl _ _)).mono ?_); rintro e w1 ⟨g1, ws1, hl1, hd1, hv1, rfl, ho1, hb1⟩; have HL1 := Lib.hid hl1; have HD1 := Lib.hid hd1; have HV1 := Lib.hid hv1; have HK1 := Lib.hid (KL.of_own ho1).2.2; have HB1 := Lib.hid hb1; clear hl1 hd1 hv1 ho1 hb1)
          | (go_at_call 43; (with_reducible refine (HP2.out _ HB1.out).mono ?_); rintro e w2 ⟨g2, ws2, hl2, hd2, hv2, rfl, ho2, hb2⟩; have HL2 := Lib.hid hl2; have HD2 := Lib.hid hd2; have HV2 := Lib.hid hv2; have HK2 := Lib.hid (KL.of_own ho2).2.2; have HK1' := Lib.hid (HK1.out.up hb2); have HB2 := Lib.hid (below_chain HB1.out hb2); clear hl2 hd2 hv2 ho2 hb2)
          | (go_at_call 47; (with_reducible refine (HW.out _ _ _ ws1 ws2 HL1.out HL2.out HD1.out HD2.out HV1.out HV2.out HK1'.out HK2.out).mono ?_); rintro e w3 ⟨g3, ws3, hl3, hd3, hv3, rfl, ho3, hb3⟩; have HL3 := Lib.hid hl3; have HD3 := Lib.hid hd3; have HV3 := Lib.hid hv3; have HK3 := Lib.hid (KL.of_own ho3).2.2; have HB3 := Lib.hid (below_chain HB2.out hb3); clear hl3 hd3 hv3 ho3 hb3)
          | (go_at_call 44; (with_reducible refine (HU.out _ _ ws3 HL3.out HD3.out HV3.out HK3.out).mono ?_); rintro e w4 ⟨A2, c2, rfl, hA, hc, hb⟩; have HA := Lib.hid hA; have HB4 := Lib.hid (below_chain HB3.out hb); clear hA hb))
        go_ret
        exact ⟨_, _, rfl, HA.out, hc, HB4.out⟩
end Go.Proofs.Ytdflhidhnejbbaa
