/- Contracts: DivMod of any numbers. -/
import Derived.Test.YtdflhidhnejbbaaDivH
import Derived.Test.YtdflhidhnejbbaaRefG
namespace Go.Proofs.Ytdflhidhnejbbaa
open Go.RowKit

theorem divWords_any (A B : Option Addr) (xs ys : List Int) (c d L M : Nat) (w : World) (h : KL .u64 w w.heap.size A xs) (h' : KL .u64 w w.heap.size B ys) (hd : W64 xs) (hd' : W64 ys) (hxl : xs.length = L) (hyl : ys.length = M + 1) (hL : L ≤ 549755813888) (hML : M + 1 ≤ L) (htop : 18446744073709551616 ^ M ≤ wv ys) :
    Calls Try.prog 42 #[.slice A L c, .slice B (M + 1 : Nat) d] w fun e w' => MadeWW (wv xs / wv ys) (wv xs % wv ys) w e w' := by
  have ht := top_ne_zero hd' hyl htop
  rcases Nat.eq_zero_or_pos M with rfl | h0
  · have hr := long_range hd' (k := 0) (by omega)
    obtain ⟨y, hy⟩ : ∃ y : Nat, ys.getD 0 0 = y := ⟨(ys.getD 0 0).toNat, by omega⟩
    rw [hy] at hr ht
    have hv : wv ys = y := by
      have h1 := top_low (b := 18446744073709551616) hyl hy
      rw [List.take_zero, Nat.pow_zero, Nat.one_mul] at h1
      exact h1.trans (Nat.zero_add y)
    have := divWords_one A B xs ys c d w h h' hd (by omega) hyl y hy (by omega) (by omega)
    rw [hxl] at this
    rw [hv]
    exact this
  · exact divWords_more A B xs ys c d L M w h h' hd hd' hxl hyl hL h0 hML ht

set_option maxHeartbeats 1000000 in
theorem divmod_less (n m : Nat) (A B : Option Addr) (c d : Nat) (w : World) (h : KL .u32 w w.heap.size A (limbs n)) (h' : KL .u32 w w.heap.size B (limbs m)) (hlt : n < m) (hnl : (limbs n).length ≤ 549755813888) (hml : (limbs m).length ≤ 549755813888) :
    Calls Try.prog 20 #[.slice A (limbs n).length c, .slice B (limbs m).length d] w fun e w' => MadeQR 0 n true w e w' := by
  obtain ⟨i0, hi0, hz0, hz1, hz2⟩ := info_parts u32_info
  have hmp := limbs_len_pos.2 (show 0 < m by omega)
  have hb1 : (((limbs m).length : Int) == 0) = false := by rw [beq_eq_false_iff_ne]; omega
  obtain ⟨z, hz⟩ : ∃ z, cmpN n m = z := ⟨_, rfl⟩
  have hz' : z < 0 := by rw [← hz]; unfold cmpN; rw [if_pos hlt]; decide
  have HC : Hid (Calls Try.prog 18 #[.slice A (limbs n).length c, .slice B (limbs m).length d] w fun e w' => e = .returned (.int .i64 z) ∧ Below w.heap.size w w') :=
    Lib.hid (by
      have := cmp_lists A B (limbs n) (limbs m) c d w h h' (limbs_dig n) (limbs_dig m) (by omega) (by omega)
      rw [cmpV_limbs, hz] at this
      exact this.mono fun _ _ h => ⟨h.1, below_of_drewN (Below.refl _ _) h.2⟩)
  have HT : Hid (∀ (W : World) (A' : Option Addr) (c' : Nat), KL .u32 W W.heap.size A' (limbs n) → (limbs n).length ≤ c' → Calls Try.prog 38 #[.slice A' (limbs n).length c'] W fun e w' => e = .returned (.slice A' (limbs n).length (limbs n).length) ∧ W = w') :=
    Lib.hid fun W A' c' h1 h2 => by
      have := trim_cap A' (limbs n) c' W h1 (limbs_dig n) h2 (by omega)
      rwa [nv_limbs] at this
  have H := Lib.hid h
  clear h h' hz hlt
  go_enter Try.func20, Try.ntmps20
  go_wp2_with (first
    | (go_at_call 18; (with_reducible refine HC.out.mono ?_); rintro e w1 ⟨rfl, hb⟩; have HB1 := Lib.hid hb; clear hb)
    | (go_at_call 38; (with_reducible refine (HT.out _ _ _ HA2.out HC2.out).mono ?_); rintro e w' ⟨rfl, rfl⟩)
    | (refine wpList_append_KL _ rfl _ _ 22 rfl w1.heap.size 41 i0 4 Try.underlying22 hi0 hz0 hz1 hz2 (.slice none 0 0) 0 [] rfl (World.ownsRow_nil _ _ _ _) _ A (limbs n).length c (limbs n) rfl rfl (H.out.up HB1.out) (by unfold maxLen; omega) (by omega) (Nat.le_refl _) ?_; intro v2 w2 hown hgrow; (rw [List.nil_append] at hown); obtain ⟨A2, c2, hv2, hA2, hc2⟩ := made_of_row hown; subst hv2; have HA2 := Lib.hid hA2; have HC2 := Lib.hid hc2; have HB2 := Lib.hid (below_chain HB1.out ((Below.refl _ _).grown hgrow (Nat.le_refl _) (fun j hj => by cases hj))); clear hown hgrow hA2 hc2))
  go_ret3
  exact ⟨none, 0, A2, _, by rw [limbs_zero]; rfl, by rw [limbs_zero]; exact KL.nil_, HA2.out, by rw [limbs_zero]; simp, Nat.le_refl _, HB2.out⟩

set_option maxHeartbeats 2000000 in
theorem divmod_long (n m : Nat) (A B : Option Addr) (c d : Nat) (w : World) (h : KL .u32 w w.heap.size A (limbs n)) (h' : KL .u32 w w.heap.size B (limbs m)) (hm0 : 0 < m) (hle : m ≤ n) (h3 : 3 ≤ (limbs n).length) (hnl : (limbs n).length ≤ 549755813888) :
    Calls Try.prog 20 #[.slice A (limbs n).length c, .slice B (limbs m).length d] w fun e w' => MadeQR (n / m) (n % m) true w e w' := by
  have hmp := limbs_len_pos.2 hm0
  have hml := lens_of_le hle
  have hb1 : (((limbs m).length : Int) == 0) = false := by rw [beq_eq_false_iff_ne]; omega
  obtain ⟨z, hz⟩ : ∃ z, cmpN n m = z := ⟨_, rfl⟩
  have hz' : 0 ≤ z := by rw [← hz]; unfold cmpN; rw [if_neg (by omega)]; split <;> omega
  have HC : Hid (Calls Try.prog 18 #[.slice A (limbs n).length c, .slice B (limbs m).length d] w fun e w' => e = .returned (.int .i64 z) ∧ Below w.heap.size w w') :=
    Lib.hid (by
      have := cmp_lists A B (limbs n) (limbs m) c d w h h' (limbs_dig n) (limbs_dig m) (by omega) (by omega)
      rw [cmpV_limbs, hz] at this
      exact this.mono fun _ _ h => ⟨h.1, below_of_drewN (Below.refl _ _) h.2⟩)
  obtain ⟨L, hL⟩ : ∃ L, ((limbs n).length + 1) / 2 = L := ⟨_, rfl⟩
  obtain ⟨M, hM⟩ : ∃ M, ((limbs m).length + 1) / 2 = M + 1 := ⟨((limbs m).length + 1) / 2 - 1, by omega⟩
  have hML : M + 1 ≤ L := by omega
  have hL2 : L ≤ 549755813888 := by omega
  have htop : 18446744073709551616 ^ M ≤ m := by
    refine Nat.le_trans ?_ (limbs_low hm0)
    rw [show (18446744073709551616 : Nat) = 4294967296 ^ 2 by rfl, ← Nat.pow_mul]
    exact Nat.pow_le_pow_right (by omega) (by omega)
  have HP1 : Hid (∀ W : World, Below w.heap.size w W → Calls Try.prog 43 #[.slice A (limbs n).length c] W fun e w' => MadeW L n W e w') :=
    Lib.hid fun W hb => by
      have := pack_any A (limbs n) c W (h.up hb) (limbs_dig n) (by omega)
      rwa [nv_limbs, hL] at this
  have HP2 : Hid (∀ W : World, Below w.heap.size w W → Calls Try.prog 43 #[.slice B (limbs m).length d] W fun e w' => MadeW (M + 1) m W e w') :=
    Lib.hid fun W hb => by
      have := pack_any B (limbs m) d W (h'.up hb) (limbs_dig m) (by omega)
      rwa [nv_limbs, hM] at this
  have HW : Hid (∀ (W : World) (g g' : Nat) (xs ys : List Int), xs.length = L → ys.length = M + 1 → W64 xs → W64 ys → wv xs = n → wv ys = m → KL .u64 W W.heap.size (some ⟨g, 0, none⟩) xs → KL .u64 W W.heap.size (some ⟨g', 0, none⟩) ys →
      Calls Try.prog 42 #[.slice (some ⟨g, 0, none⟩) L L, .slice (some ⟨g', 0, none⟩) (M + 1 : Nat) (M + 1 : Nat)] W fun e w' => MadeWW (n / m) (n % m) W e w') :=
    Lib.hid fun W g g' xs ys e1 e2 d1 d2 v1 v2 k1 k2 => by
      have := divWords_any (some ⟨g, 0, none⟩) (some ⟨g', 0, none⟩) xs ys L (M + 1) L M W k1 k2 d1 d2 e1 e2 hL2 hML (by rw [v2]; exact htop)
      rwa [v1, v2] at this
  have HU : Hid (∀ (W : World) (A : Option Addr) (c v : Nat) (ws : List Int), ws.length ≤ 1099511627776 → W64 ws → wv ws = v → KL .u64 W W.heap.size A ws → Calls Try.prog 44 #[.slice A ws.length c] W fun e w' => MadeN v W e w') :=
    Lib.hid fun W A c v ws e1 d1 v1 k1 => by
      rw [← v1]
      exact unpack_any A ws c W k1 d1 e1
  clear h h' hz hle hm0 hL hM htop
  go_enter Try.func20, Try.ntmps20
  go_wp2_with (first
    | (go_at_call 18; (with_reducible refine HC.out.mono ?_); rintro e w0 ⟨rfl, hb⟩; have HB0 := Lib.hid hb; clear hb)
    | (go_at_call 43; (with_reducible refine (HP1.out _ HB0.out).mono ?_); rintro e w1 ⟨g1, ws1, hl1, hd1, hv1, rfl, ho1, hb1⟩; have HL1 := Lib.hid hl1; have HD1 := Lib.hid hd1; have HV1 := Lib.hid hv1; have HK1 := Lib.hid (KL.of_own ho1).2.2; have HB1 := Lib.hid (below_chain HB0.out hb1); clear hl1 hd1 hv1 ho1 hb1)
    | (go_at_call 43; (with_reducible refine (HP2.out _ HB1.out).mono ?_); rintro e w2 ⟨g2, ws2, hl2, hd2, hv2, rfl, ho2, hb2⟩; have HL2 := Lib.hid hl2; have HD2 := Lib.hid hd2; have HV2 := Lib.hid hv2; have HK2 := Lib.hid (KL.of_own ho2).2.2; have HK1' := Lib.hid (HK1.out.up hb2); have HB2 := Lib.hid (below_chain HB1.out hb2); clear hl2 hd2 hv2 ho2 hb2)
    | (go_at_call 42; (with_reducible refine (HW.out _ _ _ ws1 ws2 HL1.out HL2.out HD1.out HD2.out HV1.out HV2.out HK1'.out HK2.out).mono ?_); rintro e w3 ⟨A3, B3, qs, rs, c3, d3, rfl, hd1, hd2, hv1, hv2, hk1, hk2, hl1, hl2, hb3⟩; have HL3 := Lib.hid hl1; have HM3 := Lib.hid hl2; have HD3 := Lib.hid hd1; have HE3 := Lib.hid hd2; have HV3 := Lib.hid hv1; have HW3 := Lib.hid hv2; have HK3 := Lib.hid hk1; have HR3 := Lib.hid hk2; have HB3 := Lib.hid (below_chain HB2.out hb3); clear hl1 hl2 hd1 hd2 hv1 hv2 hk1 hk2 hb3)
    | (go_at_call 44; (with_reducible refine (HU.out _ A3 c3 _ qs HL3.out HD3.out HV3.out HK3.out).mono ?_); rintro e w4 ⟨A4, c4, rfl, hA, hc, hb⟩; have HA4 := Lib.hid hA; have HR4 := Lib.hid (HR3.out.up hb); have HB4 := Lib.hid (below_chain HB3.out hb); clear hA hb)
    | (go_at_call 44; (with_reducible refine (HU.out _ B3 d3 _ rs HM3.out HE3.out HW3.out HR4.out).mono ?_); rintro e w5 ⟨A5, c5, rfl, hA, hc', hb⟩; have HA5 := Lib.hid hA; have HA4' := Lib.hid (HA4.out.up hb); have HB5 := Lib.hid (below_chain HB4.out hb); clear hA hb))
  go_ret3
  exact ⟨A4, c4, A5, c5, rfl, HA4'.out, HA5.out, hc, hc', HB5.out⟩
theorem divmod_any (n m : Nat) (A B : Option Addr) (c d : Nat) (w : World) (h : KL .u32 w w.heap.size A (limbs n)) (h' : KL .u32 w w.heap.size B (limbs m)) (hnl : (limbs n).length ≤ 549755813888) (hml : (limbs m).length ≤ 549755813888) :
    Calls Try.prog 20 #[.slice A (limbs n).length c, .slice B (limbs m).length d] w fun e w' => MadeQR (n / m) (remN n m) (decide (0 < m)) w e w' := by
  rcases Nat.eq_zero_or_pos m with rfl | hm0
  · have hr : remN n 0 = 0 := rfl
    rw [Nat.div_zero, hr, limbs_zero]
    clear h h'
    go_enter Try.func20, Try.ntmps20
    go_wp2
    go_ret3
    exact ⟨none, 0, none, 0, by rw [limbs_zero]; rfl, by rw [limbs_zero]; exact KL.nil_, by rw [limbs_zero]; exact KL.nil_, by rw [limbs_zero]; simp, by rw [limbs_zero]; simp, Below.refl _ _⟩
  · have hr : remN n m = n % m := by unfold remN; rw [if_neg (by omega)]
    rw [decide_eq_true hm0, hr]
    rcases Nat.lt_or_ge n m with hlt | hle
    · rw [Nat.div_eq_of_lt hlt, Nat.mod_eq_of_lt hlt]
      exact divmod_less n m A B c d w h h' hlt hnl hml
    · rcases Nat.lt_or_ge (limbs n).length 3 with h3 | h3
      · exact divmod_short n m A B c d w h h' hm0 hle (limbs_two.1 (by omega))
      · exact divmod_long n m A B c d w h h' hm0 hle h3 hnl
end Go.Proofs.Ytdflhidhnejbbaa
