/- Contracts: mulEven. -/
import Derived.Test.YtdflhidhnejbbaaKarB
namespace Go.Proofs.Ytdflhidhnejbbaa
open Go.RowKit

/-- What mulEven promises of numbers of at most n words. -/
def Even (n : Nat) : Prop := ∀ (A B : Option Addr) (xs ys : List Int) (c d : Nat) (w : World), KL .u64 w w.heap.size A xs → KL .u64 w w.heap.size B ys → W64 xs → W64 ys → xs.length ≤ n → ys.length ≤ n → 1 ≤ xs.length → 1 ≤ ys.length → xs.length ≤ c → ys.length ≤ d →
  Calls Try.prog 58 #[.slice A xs.length c, .slice B ys.length d] w fun e w' => MadeW (xs.length + ys.length) (wv xs * wv ys) w e w'

set_option maxHeartbeats 2000000 in
theorem even_base (A B : Option Addr) (xs ys : List Int) (c d m h q : Nat) (w : World) (hA : KL .u64 w w.heap.size A xs) (hB : KL .u64 w w.heap.size B ys) (hd : W64 xs) (hd' : W64 ys) (hxl : xs.length ≤ 100000000) (hyl : ys.length ≤ 100000000) (hx1 : 1 ≤ xs.length)
    (hm : max (xs.length : Int) ys.length = (m : Int)) (hh : ((m : Int) + 1) / 2 = (h : Int)) (hq : min (xs.length : Int) ys.length = (q : Int)) (hcase : q ≤ h ∨ m < 40) :
    Calls Try.prog 58 #[.slice A xs.length c, .slice B ys.length d] w fun e w' => MadeW (xs.length + ys.length) (wv xs * wv ys) w e w' := by
  obtain ⟨i0, hi0, hz0, hz1, hz2⟩ := info_parts u64_info
  have HS : Hid (∀ W : World, W.ownsRow w.heap.size 36 1 (.slice (some ⟨w.heap.size, 0, none⟩) (xs.length + ys.length) (xs.length + ys.length)) (xs.length + ys.length) ((List.replicate (xs.length + ys.length) (0 : Int)).map (Value.int .u64)) → Below w.heap.size w W →
      Calls Try.prog 56 #[.slice (some ⟨w.heap.size, 0, none⟩) (xs.length + ys.length) (xs.length + ys.length), .slice A xs.length c, .slice B ys.length d] W fun e w' => e = .returned (.tuple #[]) ∧ Wrote w.heap.size w.heap.size (xs.length + ys.length) (wv xs * wv ys) W w') :=
    Lib.hid fun W hown hb => by
      exact school_any w.heap.size w.heap.size A B xs ys c d W hown (hA.below hb) (hB.below hb) hd hd' (by omega) (by omega) hx1
  clear hA hB hd hd'
  by_cases hqh : q ≤ h
  · clear hcase
    go_enter Try.func58, Try.ntmps58
    go_wp2_with (first
      | (at_make; refine wpList_make_full _ rfl _ _ 47 rfl w.heap.size 36 i0 (.int .u64 0) 1 Try.underlying47 hi0 hz0 hz1 _ _ _ _ (xs.length + ys.length) rfl rfl (by simp) (by simp) (by rw [hz2]; omega) (by unfold maxLen; omega) (Nat.le_refl _) ?_; intro w1 hown hg; have HO := Lib.hid (own_zeros hown); have HB := Lib.hid ((Below.refl w.heap.size w).grown hg (Nat.le_refl _) (fun k hk => by cases hk)); clear hown hg)
      | (go_at_call 56; (with_reducible refine (HS.out _ HO.out HB.out).mono ?_); rintro e w2 ⟨rfl, S, hSl, hSd, hSv, hown, hb⟩; have HSL := Lib.hid hSl; have HSD := Lib.hid hSd; have HSV := Lib.hid hSv; have HO2 := Lib.hid hown; have HB2 := Lib.hid (HB.out.trans hb); clear hSl hSd hSv hown hb))
    go_ret
    exact ⟨w.heap.size, S, HSL.out, HSD.out, HSV.out, rfl, HO2.out, HB2.out⟩
  · have hm40 : m < 40 := by omega
    have hqhi : decide ((q : Int) ≤ (h : Int)) = false := decide_eq_false (by omega)
    clear hcase
    go_enter Try.func58, Try.ntmps58
    go_wp2_with (first
      | (at_make; refine wpList_make_full _ rfl _ _ 47 rfl w.heap.size 36 i0 (.int .u64 0) 1 Try.underlying47 hi0 hz0 hz1 _ _ _ _ (xs.length + ys.length) rfl rfl (by simp) (by simp) (by rw [hz2]; omega) (by unfold maxLen; omega) (Nat.le_refl _) ?_; intro w1 hown hg; have HO := Lib.hid (own_zeros hown); have HB := Lib.hid ((Below.refl w.heap.size w).grown hg (Nat.le_refl _) (fun k hk => by cases hk)); clear hown hg)
      | (go_at_call 56; (with_reducible refine (HS.out _ HO.out HB.out).mono ?_); rintro e w2 ⟨rfl, S, hSl, hSd, hSv, hown, hb⟩; have HSL := Lib.hid hSl; have HSD := Lib.hid hSd; have HSV := Lib.hid hSv; have HO2 := Lib.hid hown; have HB2 := Lib.hid (HB.out.trans hb); clear hSl hSd hSv hown hb))
    go_ret
    exact ⟨w.heap.size, S, HSL.out, HSD.out, HSV.out, rfl, HO2.out, HB2.out⟩

theorem own_mono {w : World} {base base' : Nat} {e : TypeId} {size n : Nat} {v : Value} {xs : List Value} (h : w.ownsRow base e size v n xs) (hb : base' ≤ base) : w.ownsRow base' e size v n xs := by
  refine ⟨h.1, ?_⟩
  rcases h.2 with h | ⟨g, cap, cur, h1, h2, h3⟩
  · exact .inl h
  · exact .inr ⟨g, cap, cur, h1, Nat.le_trans hb h2, h3⟩
theorem below_grown {w a b : World} {g B : Nat} (h : Below w.heap.size w a) (hg : a.grownBy b (some g)) (hz : B ≤ g ∧ B ≤ a.heap.size ∧ w.heap.size ≤ B) : Below w.heap.size w b :=
  h.grown hg (Nat.le_trans hz.2.2 hz.2.1) fun k hk => by injection hk with hk; omega
theorem subFrom_c (base g : Nat) (V : Option Addr) (S ys : List Int) (N n cb v u : Nat) (w : World) (hown : w.ownsRow base 36 1 (.slice (some ⟨g, 0, none⟩) N N) N (S.map (Value.int .u64))) (hV : KL .u64 w base V ys) (hd : W64 S) (hd' : W64 ys) (hSl : S.length = N) (hn : ys.length = n) (hv : wv S = v) (hu : wv ys = u) (hle : u ≤ v) (hNl : N ≤ 1099511627776) (hnl : n ≤ 1099511627776) :
    Calls Try.prog 64 #[.slice (some ⟨g, 0, none⟩) N N, .slice V n cb] w fun e w' => e = .returned (.tuple #[]) ∧ Put base g N (v - u) w w' := by
  have := subFrom_any base g V S ys N cb w hown hV hd hd' hSl hNl (by omega) (by omega)
  rwa [hn, hv, hu] at this
theorem addInto_c (base g : Nat) (V : Option Addr) (S ys : List Int) (j ca N n cb v u : Nat) (w : World) (hown : w.ownsRow base 36 1 (.slice (some ⟨g, 0, none⟩) N N) N (S.map (Value.int .u64))) (hV : KL .u64 w base V ys) (hd : W64 S) (hd' : W64 ys) (hSl : S.length = N) (hn : ys.length = n) (hv : wv S = v) (hu : wv ys = u) (hlt : v + 18446744073709551616 ^ j * u < 18446744073709551616 ^ N) (hj : j ≤ N) (hNl : N ≤ 1099511627776) (hnl : n ≤ 1099511627776) :
    Calls Try.prog 57 #[.slice (some ⟨g, j, none⟩) (N - j : Nat) ca, .slice V n cb] w fun e w' => e = .returned (.tuple #[]) ∧ Put base g N (v + 18446744073709551616 ^ j * u) w w' := by
  have := addInto_any base g V S ys j ca N cb w hown hV hd hd' hSl hNl (by omega) hj (by rw [hv, hu]; exact hlt)
  rwa [hn, hv, hu] at this
theorem addInto_0 (base g : Nat) (V : Option Addr) (S ys : List Int) (N n cb v u : Nat) (w : World) (hown : w.ownsRow base 36 1 (.slice (some ⟨g, 0, none⟩) N N) N (S.map (Value.int .u64))) (hV : KL .u64 w base V ys) (hd : W64 S) (hd' : W64 ys) (hSl : S.length = N) (hn : ys.length = n) (hv : wv S = v) (hu : wv ys = u) (hlt : v + u < 18446744073709551616 ^ N) (hNl : N ≤ 1099511627776) (hnl : n ≤ 1099511627776) :
    Calls Try.prog 57 #[.slice (some ⟨g, 0, none⟩) N N, .slice V n cb] w fun e w' => e = .returned (.tuple #[]) ∧ Put base g N (v + u) w w' := by
  have := addInto_c base g V S ys 0 N N n cb v u w hown hV hd hd' hSl hn hv hu (by rw [Nat.pow_zero, Nat.one_mul]; exact hlt) (Nat.zero_le _) hNl hnl
  rwa [Nat.sub_zero, Nat.pow_zero, Nat.one_mul] at this
theorem kara_mid {al ah bl bh : Nat} : al * bl ≤ (al + ah) * (bl + bh) ∧ ah * bh ≤ (al + ah) * (bl + bh) - al * bl ∧ (al + ah) * (bl + bh) - al * bl - ah * bh = al * bh + ah * bl := by
  have e : (al + ah) * (bl + bh) = al * bl + al * bh + (ah * bl + ah * bh) := by rw [Nat.add_mul, Nat.mul_add, Nat.mul_add]
  omega
theorem kara_sum {P al ah bl bh : Nat} : 0 + al * bl + P * P * (ah * bh) + P * (al * bh + ah * bl) = (al + P * ah) * (bl + P * bh) := by
  rw [Nat.add_mul, Nat.mul_add, Nat.mul_add, Nat.mul_add (P * ah)]
  have e1 : al * (P * bh) = P * (al * bh) := by rw [Nat.mul_left_comm]
  have e2 : P * ah * bl = P * (ah * bl) := by rw [Nat.mul_assoc]
  have e3 : P * ah * (P * bh) = P * P * (ah * bh) := by rw [Nat.mul_assoc, Nat.mul_left_comm ah, ← Nat.mul_assoc P P]
  omega

set_option maxHeartbeats 8000000 in
theorem even_more (n : Nat) (ih : Even n) (ad bd : Addr) (xs ys : List Int) (c d La Lb m h q N : Nat) (w : World) (hA : KL .u64 w w.heap.size (some ad) xs) (hB : KL .u64 w w.heap.size (some bd) ys) (hd : W64 xs) (hd' : W64 ys) (hxl : xs.length = La) (hyl : ys.length = Lb) (hmn : m ≤ n + 1) (hm8 : m ≤ 100000000)
    (hc : La ≤ c) (hdc : Lb ≤ d) (hm : max (La : Int) Lb = (m : Int)) (hh : ((m : Int) + 1) / 2 = (h : Int)) (hq : min (La : Int) Lb = (q : Int)) (hqh : h < q) (hm40 : 40 ≤ m) (hN : La + Lb = N) :
    Calls Try.prog 58 #[.slice (some ad) La c, .slice (some bd) Lb d] w fun e w' => MadeW N (wv xs * wv ys) w e w' := by
  obtain ⟨i0, hi0, hz0, hz1, hz2⟩ := info_parts u64_info
  have hLa : h < La := by omega
  have hLb : h < Lb := by omega
  have hLa2 : La - h ≤ h := by omega
  have hLb2 : Lb - h ≤ h := by omega
  obtain ⟨al, hal⟩ : ∃ al, wv (xs.take h) = al := ⟨_, rfl⟩
  obtain ⟨ah, hah⟩ : ∃ ah, wv (xs.drop h) = ah := ⟨_, rfl⟩
  obtain ⟨bl, hbl⟩ : ∃ bl, wv (ys.take h) = bl := ⟨_, rfl⟩
  obtain ⟨bh, hbh⟩ : ∃ bh, wv (ys.drop h) = bh := ⟨_, rfl⟩
  have hxv : wv xs = al + 18446744073709551616 ^ h * ah := by rw [← hal, ← hah]; exact val_take_drop h (by omega)
  have hyv : wv ys = bl + 18446744073709551616 ^ h * bh := by rw [← hbl, ← hbh]; exact val_take_drop h (by omega)
  have t1 : (xs.take h).length = h := by rw [List.length_take]; omega
  have t2 : (xs.drop h).length = La - h := by rw [List.length_drop]; omega
  have t3 : (ys.take h).length = h := by rw [List.length_take]; omega
  have t4 : (ys.drop h).length = Lb - h := by rw [List.length_drop]; omega
  have hlt : wv xs * wv ys < 18446744073709551616 ^ N := by
    rw [← hN, Nat.pow_add, ← hxl, ← hyl]
    exact Nat.mul_lt_mul'' (val_lt hd) (val_lt hd')
  have HXH : Hid (∀ W : World, Below w.heap.size w W → KL .u64 W W.heap.size (some ad) (xs.take h)) := Lib.hid fun W hb => (hA.up hb).head (by omega)
  have HYH : Hid (∀ W : World, Below w.heap.size w W → KL .u64 W W.heap.size (some bd) (ys.take h)) := Lib.hid fun W hb => (hB.up hb).head (by omega)
  have HXT : Hid (∀ W : World, Below w.heap.size w W → KL .u64 W W.heap.size (some (ad.add h)) (xs.drop h)) := Lib.hid fun W hb => by
    have := (hA.up hb).cut (n := h) (c := c) (by omega) (by omega)
    rwa [if_neg (by omega)] at this
  have HYT : Hid (∀ W : World, Below w.heap.size w W → KL .u64 W W.heap.size (some (bd.add h)) (ys.drop h)) := Lib.hid fun W hb => by
    have := (hB.up hb).cut (n := h) (c := d) (by omega) (by omega)
    rwa [if_neg (by omega)] at this
  have HLOW : Hid (∀ W : World, Below w.heap.size w W → Calls Try.prog 58 #[.slice (some ad) h c, .slice (some bd) h d] W fun e w' => MadeW (h + h) (al * bl) W e w') := Lib.hid fun W hb => by
    have := ih (some ad) (some bd) (xs.take h) (ys.take h) c d W (HXH.out W hb) (HYH.out W hb) (hd.take_ h) (hd'.take_ h) (by omega) (by omega) (by omega) (by omega) (by omega) (by omega)
    rwa [t1, t3, hal, hbl] at this
  have HHIGH : Hid (∀ W : World, Below w.heap.size w W → Calls Try.prog 58 #[.slice (some (ad.add h)) (La - h : Nat) (c - h), .slice (some (bd.add h)) (Lb - h : Nat) (d - h)] W fun e w' => MadeW (La - h + (Lb - h)) (ah * bh) W e w') := Lib.hid fun W hb => by
    have := ih (some (ad.add h)) (some (bd.add h)) (xs.drop h) (ys.drop h) (c - h) (d - h) W (HXT.out W hb) (HYT.out W hb) (hd.drop_ h) (hd'.drop_ h) (by omega) (by omega) (by omega) (by omega) (by omega) (by omega)
    rwa [t2, t4, hah, hbh] at this
  have HSA : Hid (∀ W : World, Below w.heap.size w W → Calls Try.prog 63 #[.slice (some ad) h c, .slice (some (ad.add h)) (La - h : Nat) (c - h)] W fun e w' => MadeW (h + 1) (al + ah) W e w') := Lib.hid fun W hb => by
    have := sumWords_any (some ad) (some (ad.add h)) (xs.take h) (xs.drop h) c (c - h) (h + 1) W (HXH.out W hb) (HXT.out W hb) (hd.take_ h) (hd.drop_ h) (by omega) (by omega)
    rwa [t1, t2, hal, hah] at this
  have HSB : Hid (∀ W : World, Below w.heap.size w W → Calls Try.prog 63 #[.slice (some bd) h d, .slice (some (bd.add h)) (Lb - h : Nat) (d - h)] W fun e w' => MadeW (h + 1) (bl + bh) W e w') := Lib.hid fun W hb => by
    have := sumWords_any (some bd) (some (bd.add h)) (ys.take h) (ys.drop h) d (d - h) (h + 1) W (HYH.out W hb) (HYT.out W hb) (hd'.take_ h) (hd'.drop_ h) (by omega) (by omega)
    rwa [t3, t4, hbl, hbh] at this
  have HMID : Hid (∀ (W : World) (g1 g2 : Nat) (us vs : List Int), us.length = h + 1 → vs.length = h + 1 → W64 us → W64 vs → wv us = al + ah → wv vs = bl + bh → KL .u64 W W.heap.size (some ⟨g1, 0, none⟩) us → KL .u64 W W.heap.size (some ⟨g2, 0, none⟩) vs →
      Calls Try.prog 58 #[.slice (some ⟨g1, 0, none⟩) (h + 1) (h + 1), .slice (some ⟨g2, 0, none⟩) (h + 1) (h + 1)] W fun e w' => MadeW (h + 1 + (h + 1)) ((al + ah) * (bl + bh)) W e w') := Lib.hid fun W g1 g2 us vs e1 e2 d1 d2 v1 v2 k1 k2 => by
    have := ih (some ⟨g1, 0, none⟩) (some ⟨g2, 0, none⟩) us vs (h + 1) (h + 1) W k1 k2 d1 d2 (by omega) (by omega) (by omega) (by omega) (by omega) (by omega)
    rwa [e1, e2, v1, v2] at this
  have HK := Lib.hid (kara_mid (al := al) (ah := ah) (bl := bl) (bh := bh))
  have HFIN : Hid (0 + al * bl + 18446744073709551616 ^ (2 * h) * (ah * bh) + 18446744073709551616 ^ h * (al * bh + ah * bl) = wv xs * wv ys ∧ wv xs * wv ys < 18446744073709551616 ^ N) := Lib.hid ⟨by
    rw [hxv, hyv, show 2 * h = h + h by omega, Nat.pow_add]; exact kara_sum, hlt⟩
  obtain ⟨prod, hprod⟩ : ∃ p, wv xs * wv ys = p := ⟨_, rfl⟩
  rw [hprod] at HFIN ⊢
  have HZR : Hid ((List.replicate N (0 : Int)).length = N ∧ W64 (List.replicate N (0 : Int)) ∧ wv (List.replicate N (0 : Int)) = 0) := Lib.hid ⟨by simp, Dig.zeros (by omega) _, val_zeros _⟩
  have HS1 : Hid (0 + al * bl < 18446744073709551616 ^ N ∧ 0 + al * bl + 18446744073709551616 ^ (2 * h) * (ah * bh) < 18446744073709551616 ^ N ∧ 0 + al * bl + 18446744073709551616 ^ (2 * h) * (ah * bh) + 18446744073709551616 ^ h * (al * bh + ah * bl) < 18446744073709551616 ^ N) := Lib.hid (by have := HFIN.out; omega)
  have HS2 : Hid (N ≤ 1099511627776 ∧ h + h ≤ 1099511627776 ∧ La - h + (Lb - h) ≤ 1099511627776 ∧ h + 1 + (h + 1) ≤ 1099511627776 ∧ 2 * h ≤ N ∧ h ≤ N) := Lib.hid (by omega)
  have hca : ¬ c = h := by omega
  have hda : ¬ d = h := by omega
  have hLi : ¬ (q : Int) ≤ (h : Int) := by omega
  have hmi : ¬ (m : Int) < 40 := by omega
  have hhl : h ≤ 100000000 := by omega
  have j1 : (h : Int) ≤ (La : Int) := by omega
  have j2 : (h : Int) ≤ (Lb : Int) := by omega
  have j3 : (La : Int) ≤ (c : Int) := by omega
  have j4 : (Lb : Int) ≤ (d : Int) := by omega
  have j5 : (h : Int) ≤ (c : Int) := by omega
  have j6 : (h : Int) ≤ (d : Int) := by omega
  have j7 : (0 : Int) ≤ (h : Int) := by omega
  clear ih hA hB hd hd' hxl hyl hal hah hbl hbh hxv hyv t1 t2 t3 t4 hlt hprod
  go_enter Try.func58, Try.ntmps58
  go_wp2
  have hbw := Below.refl w.heap.size w
  go_region_held3 (fun w' => Below w.heap.size w w')
    (first
      | assumption
      | exact Below.drew (by assumption)
      | exact below_chain (by assumption) hb1)
    ((go_at_call 58; (with_reducible refine (HLOW.out _ (by first | assumption | exact Below.drew (by assumption))).mono ?_); rintro e w1 ⟨g1, ls, hl1, hd1, hv1, rfl, ho1, hb1⟩))
  have HB1 := Lib.hid (show Below w.heap.size w w1 by assumption)
  have HL1 := Lib.hid (And.intro hl1 (And.intro hd1 hv1))
  have HK1 := Lib.hid (KL.of_own ho1).2.2
  clear hbw hb1 hl1 hd1 hv1 ho1
  go_wp2
  have hbw := Below.refl w1.heap.size w1
  go_region_held3 (fun w' => Below w1.heap.size w1 w')
    (first
      | assumption
      | exact Below.drew (by assumption)
      | exact below_chain (by assumption) hb2)
    ((go_at_call 58; (with_reducible refine (HHIGH.out _ (below_chain HB1.out (by first | assumption | exact Below.drew (by assumption)))).mono ?_); rintro e w2 ⟨g2, hs, hl2, hd2, hv2, rfl, ho2, hb2⟩))
  have hb12 : Below w1.heap.size w1 w2 := by assumption
  have HB2 := Lib.hid (below_chain HB1.out hb12)
  have HB12 := Lib.hid hb12
  have HL2 := Lib.hid (And.intro hl2 (And.intro hd2 hv2))
  have HK2 := Lib.hid (KL.of_own ho2).2.2
  clear hbw hb2 hl2 hd2 hv2 ho2 hb12
  go_wp2
  have hbw := Below.refl w2.heap.size w2
  go_region_held3 (fun w' => Below w2.heap.size w2 w')
    (first
      | assumption
      | exact Below.drew (by assumption)
      | exact below_chain (by assumption) hbA
      | exact below_chain (by assumption) hbB
      | exact below_chain (by assumption) hbM)
    (first
      | (go_at_call 63; (with_reducible refine (HSA.out _ (below_chain HB2.out (by first | assumption | exact Below.drew (by assumption)))).mono ?_); rintro e wA ⟨gA, us, hlA, hdA, hvA, rfl, hoA, hbA⟩)
      | (go_at_call 63; (with_reducible refine (HSB.out _ (below_chain HB2.out (by first | assumption | exact Below.drew (by assumption)))).mono ?_); rintro e wB ⟨gB, vs, hlB, hdB, hvB, rfl, hoB, hbB⟩)
      | (go_at_call 58; (with_reducible refine (HMID.out _ gA gB us vs hlA hlB hdA hdB hvA hvB ?_ ?_).mono ?_); (first | exact (KL.of_own hoA).2.2 | exact (KL.of_own hoA).2.2.up hbB | exact ((KL.of_own hoA).2.2.up ((Below.refl _ _).drew)).up hbB); (first | exact (KL.of_own hoB).2.2 | exact (KL.of_own hoB).2.2.up hbA | exact ((KL.of_own hoB).2.2.up ((Below.refl _ _).drew)).up hbA); rintro e w4 ⟨gm, ms, hlM, hdM, hvM, rfl, hoM, hbM⟩))
  all_goals
    have hb24 : Below w2.heap.size w2 w4 := by assumption
    have HOM : Hid (w4.ownsRow w2.heap.size 36 1 (.slice (some ⟨gm, 0, none⟩) (h + 1 + (h + 1)) (h + 1 + (h + 1))) (h + 1 + (h + 1)) (ms.map (Value.int .u64))) := Lib.hid (by first | exact own_mono hoM (Nat.le_trans hbA.size hbB.size) | exact own_mono hoM (Nat.le_trans hbB.size hbA.size))
    have HB4 := Lib.hid (below_chain HB2.out hb24)
    have hg4 := (HOM.out.lt gm rfl)
    have HZ4 : Hid (w2.heap.size ≤ gm ∧ w2.heap.size ≤ w4.heap.size ∧ w.heap.size ≤ w2.heap.size) := Lib.hid ⟨hg4.1, hb24.size, HB2.out.size⟩
    have HLM := Lib.hid (And.intro hlM (And.intro hdM hvM))
    have HKL4 : Hid (KL .u64 w4 w2.heap.size (some ⟨g1, 0, none⟩) ls) := Lib.hid (((HK1.out.below HB12.out).more HB12.out.size).below hb24)
    have HKH4 : Hid (KL .u64 w4 w2.heap.size (some ⟨g2, 0, none⟩) hs) := Lib.hid (HK2.out.below hb24)
    clear hbw hbA hbB hbM hoA hoB hoM hlA hlB hdA hdB hvA hvB hlM hdM hvM hb24 hg4
    go_wp2_with (first
      | (go_at_call 64; (with_reducible refine (subFrom_c w2.heap.size gm (some ⟨g1, 0, none⟩) ms ls (h + 1 + (h + 1)) (h + h) (h + h) _ _ w4 HOM.out HKL4.out HLM.out.2.1 HL1.out.2.1 HLM.out.1 HL1.out.1 HLM.out.2.2 HL1.out.2.2 HK.out.1 (by omega) (by omega)).mono ?_); rintro e w5 ⟨rfl, S5, hl5, hd5, hv5, ho5, hg5⟩; have HOM5 := Lib.hid ho5; have HLM5 := Lib.hid (And.intro hl5 (And.intro hd5 hv5)); have HKL5 := Lib.hid (HKL4.out.grown hg5 HZ4.out.1 HZ4.out.2.1); have HKH5 := Lib.hid (HKH4.out.grown hg5 HZ4.out.1 HZ4.out.2.1); have HB5 := Lib.hid (below_grown HB4.out hg5 HZ4.out); have HZ5 := Lib.hid (Nat.le_trans HZ4.out.2.1 hg5.size); clear hl5 hd5 hv5 ho5 hg5)
      | (go_at_call 64; (with_reducible refine (subFrom_c w2.heap.size gm (some ⟨g2, 0, none⟩) S5 hs (h + 1 + (h + 1)) (La - h + (Lb - h)) (La - h + (Lb - h)) _ _ w5 HOM5.out HKH5.out HLM5.out.2.1 HL2.out.2.1 HLM5.out.1 HL2.out.1 HLM5.out.2.2 HL2.out.2.2 HK.out.2.1 (by omega) (by omega)).mono ?_); rintro e w6 ⟨rfl, S6, hl6, hd6, hv6, ho6, hg6⟩; have HK6 := Lib.hid (KL.of_own ho6).2.2; have HLM6 := Lib.hid (And.intro hl6 (And.intro hd6 (hv6.trans HK.out.2.2))); have HZ6 := Lib.hid (Nat.le_trans HZ5.out hg6.size); have HKL6 := Lib.hid ((HKL5.out.grown hg6 HZ4.out.1 HZ5.out).more HZ6.out); have HKH6 := Lib.hid ((HKH5.out.grown hg6 HZ4.out.1 HZ5.out).more HZ6.out); have HB6 := Lib.hid (below_grown HB5.out hg6 ⟨HZ4.out.1, HZ5.out, HZ4.out.2.2⟩); clear hl6 hd6 hv6 ho6 hg6)
      | (at_make; refine wpList_make_full _ rfl _ _ 47 rfl w6.heap.size 36 i0 (.int .u64 0) 1 Try.underlying47 hi0 hz0 hz1 _ _ _ _ N rfl rfl (by simp [← hN]) (by simp [← hN]) (by rw [hz2]; omega) (by unfold maxLen; omega) (Nat.le_refl _) ?_; intro w7 hown hg; have HO7 := Lib.hid (own_zeros hown); have hb67 := (Below.refl w6.heap.size w6).grown hg (Nat.le_refl _) (fun k hk => by cases hk); have HB7 := Lib.hid (below_chain HB6.out hb67); have HK7 := Lib.hid (HK6.out.below hb67); have HKL7 := Lib.hid (HKL6.out.below hb67); have HKH7 := Lib.hid (HKH6.out.below hb67); have HZ7 : Hid (w6.heap.size ≤ w7.heap.size ∧ w.heap.size ≤ w6.heap.size) := Lib.hid ⟨hb67.size, HB6.out.size⟩; clear hown hg hb67)
      | go_loud (go_at_call 57; (with_reducible refine (addInto_0 w6.heap.size w6.heap.size (some ⟨g1, 0, none⟩) (List.replicate N 0) ls N (h + h) (h + h) 0 _ w7 HO7.out HKL7.out HZR.out.2.1 HL1.out.2.1 HZR.out.1 HL1.out.1 HZR.out.2.2 HL1.out.2.2 HS1.out.1 HS2.out.1 HS2.out.2.1).mono ?_); rintro e w8 ⟨rfl, S8, hl8, hd8, hv8, ho8, hg8⟩; have HO8 := Lib.hid ho8; have HL8 := Lib.hid (And.intro hl8 (And.intro hd8 hv8)); have HK8 := Lib.hid (HK7.out.grown hg8 (Nat.le_refl _) HZ7.out.1); have HKH8 := Lib.hid (HKH7.out.grown hg8 (Nat.le_refl _) HZ7.out.1); have HB8 := Lib.hid (below_grown HB7.out hg8 ⟨Nat.le_refl _, HZ7.out.1, HZ7.out.2⟩); have HZ8 := Lib.hid (Nat.le_trans HZ7.out.1 hg8.size); clear hl8 hd8 hv8 ho8 hg8)
      | (go_at_call 57; (with_reducible refine (addInto_c w6.heap.size w6.heap.size (some ⟨g2, 0, none⟩) S8 hs (2 * h) (N - 2 * h) N (La - h + (Lb - h)) (La - h + (Lb - h)) _ _ w8 HO8.out HKH8.out HL8.out.2.1 HL2.out.2.1 HL8.out.1 HL2.out.1 HL8.out.2.2 HL2.out.2.2 HS1.out.2.1 HS2.out.2.2.2.2.1 HS2.out.1 HS2.out.2.2.1).mono ?_); rintro e w9 ⟨rfl, S9, hl9, hd9, hv9, ho9, hg9⟩; have HO9 := Lib.hid ho9; have HL9 := Lib.hid (And.intro hl9 (And.intro hd9 hv9)); have HK9 := Lib.hid (HK8.out.grown hg9 (Nat.le_refl _) HZ8.out); have HB9 := Lib.hid (below_grown HB8.out hg9 ⟨Nat.le_refl _, HZ8.out, HZ7.out.2⟩); have HZ9 := Lib.hid (Nat.le_trans HZ8.out hg9.size); clear hl9 hd9 hv9 ho9 hg9)
      | (go_at_call 57; (with_reducible refine (addInto_c w6.heap.size w6.heap.size (some ⟨gm, 0, none⟩) S9 S6 h (N - h) N (h + 1 + (h + 1)) (h + 1 + (h + 1)) _ _ w9 HO9.out HK9.out HL9.out.2.1 HLM6.out.2.1 HL9.out.1 HLM6.out.1 HL9.out.2.2 HLM6.out.2.2 HS1.out.2.2 HS2.out.2.2.2.2.2 HS2.out.1 HS2.out.2.2.2.1).mono ?_); rintro e wX ⟨rfl, SX, hlX, hdX, hvX, hoX, hgX⟩; have HOX := Lib.hid hoX; have HLX := Lib.hid (And.intro hlX (And.intro hdX hvX)); have HBX := Lib.hid (below_grown HB9.out hgX ⟨Nat.le_refl _, HZ9.out, HZ7.out.2⟩); clear hlX hdX hvX hoX hgX))
    go_ret
    exact ⟨w6.heap.size, SX, HLX.out.1, HLX.out.2.1, HLX.out.2.2.trans HFIN.out.1, rfl, own_mono HOX.out HZ7.out.2, HBX.out⟩
end Go.Proofs.Ytdflhidhnejbbaa
