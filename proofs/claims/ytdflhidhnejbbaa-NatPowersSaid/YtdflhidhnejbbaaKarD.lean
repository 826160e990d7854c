/- Contracts: mulEven of any numbers, mulWords of any numbers. -/
import Derived.Test.YtdflhidhnejbbaaKarC
import Derived.Test.YtdflhidhnejbbaaRefH
namespace Go.Proofs.Ytdflhidhnejbbaa
open Go.RowKit

theorem even_all : ∀ n : Nat, n ≤ 100000000 → Even n
  | 0 => fun _ A B xs ys c d w hA hB hd hd' hxl hyl hx1 hy1 hc hdc => by omega
  | n + 1 => fun hn A B xs ys c d w hA hB hd hd' hxl hyl hx1 hy1 hc hdc => by
    obtain ⟨m, hm⟩ : ∃ m : Nat, max (xs.length : Int) ys.length = (m : Int) := ⟨max xs.length ys.length, by omega⟩
    obtain ⟨h, hh⟩ : ∃ h : Nat, ((m : Int) + 1) / 2 = (h : Int) := ⟨(m + 1) / 2, by omega⟩
    obtain ⟨q, hq⟩ : ∃ q : Nat, min (xs.length : Int) ys.length = (q : Int) := ⟨min xs.length ys.length, by omega⟩
    by_cases hcase : q ≤ h ∨ m < 40
    · exact even_base A B xs ys c d m h q w hA hB hd hd' (by omega) (by omega) hx1 hm hh hq hcase
    · obtain ⟨ad, rfl, _⟩ := hA (by omega)
      obtain ⟨bd, rfl, _⟩ := hB (by omega)
      exact even_more n (even_all n (by omega)) ad bd xs ys c d xs.length ys.length m h q _ w hA hB hd hd' rfl rfl (by omega) (by omega) hc hdc hm hh hq (by omega) (by omega) rfl

theorem take_drop_val {b : Nat} {xs : List Int} {i e : Nat} (hie : i ≤ e) (hi : i ≤ xs.length) : val b (xs.take e) = val b (xs.take i) + b ^ i * val b ((xs.drop i).take (e - i)) := by
  have h := val_take_drop (b := b) (xs := xs.take e) i (by rw [List.length_take]; omega)
  rw [List.take_take, Nat.min_eq_left hie, List.drop_take] at h
  exact h

theorem addInto_f (base g g1 : Nat) (S ys : List Int) (j ca N n cb v u : Nat) (w : World) (hown : w.ownsRow base 36 1 (.slice (some ⟨g, 0, none⟩) N N) N (S.map (Value.int .u64))) (hV : KL .u64 w w.heap.size (some ⟨g1, 0, none⟩) ys) (hg1 : g1 ≠ g) (hd : W64 S) (hd' : W64 ys) (hSl : S.length = N) (hn : ys.length = n) (hv : wv S = v) (hu : wv ys = u) (hlt : v + 18446744073709551616 ^ j * u < 18446744073709551616 ^ N) (hj : j ≤ N) (hNl : N ≤ 1099511627776) (hnl : n ≤ 1099511627776) :
    Calls Try.prog 57 #[.slice (some ⟨g, j, none⟩) (N - j : Nat) ca, .slice (some ⟨g1, 0, none⟩) n cb] w fun e w' => e = .returned (.tuple #[]) ∧ Put base g N (v + 18446744073709551616 ^ j * u) w w' := by
  have hk : KN .u64 w g (some ⟨g1, 0, none⟩) ys := fun hn => by
    obtain ⟨ad, e, hb, hc⟩ := hV hn
    obtain rfl : (⟨g1, 0, none⟩ : Addr) = ad := by injection e
    exact ⟨_, rfl, ⟨hg1, hb⟩, hc⟩
  have := addInto_free base g (some ⟨g1, 0, none⟩) S ys j ca N cb w hown hk hd hd' hSl hNl (by omega) hj (by rw [hv, hu]; exact hlt)
  rwa [hn, hv, hu] at this
set_option maxHeartbeats 4000000 in
theorem mulWords_long_ge (ad bd : Addr) (xs ys : List Int) (c d La Lb N : Nat) (w : World) (hA : KL .u64 w w.heap.size (some ad) xs) (hB : KL .u64 w w.heap.size (some bd) ys) (hd : W64 xs) (hd' : W64 ys) (hxl : xs.length = La) (hyl : ys.length = Lb) (hc : La ≤ c) (hdc : Lb ≤ d) (hLa : La ≤ 100000000) (hge : Lb ≤ La) (h40 : 40 ≤ Lb) (hN : La + Lb = N) :
    Calls Try.prog 47 #[.slice (some ad) La c, .slice (some bd) Lb d] w fun e w' => MadeW N (wv xs * wv ys) w e w' := by
  obtain ⟨i0, hi0, hz0, hz1, hz2⟩ := info_parts u64_info
  have hlt : wv xs * wv ys < 18446744073709551616 ^ N := by
    rw [← hN, Nat.pow_add, ← hxl, ← hyl]
    exact Nat.mul_lt_mul'' (val_lt hd) (val_lt hd')
  have HE : Hid (∀ (i e : Nat) (W : World), i < e → e ≤ i + Lb → e ≤ La → Below w.heap.size w W → Calls Try.prog 58 #[.slice (some (ad.add i)) (e - i : Nat) (c - i), .slice (some bd) Lb d] W fun e' w' => MadeW (e - i + Lb) (wv ((xs.drop i).take (e - i)) * wv ys) W e' w') :=
    Lib.hid fun i e W hie hel hea hb => by
      have h1 := (hA.up hb).cut (n := i) (c := c) (by omega) (by omega)
      rw [if_neg (by omega)] at h1
      have h2 := h1.head (n := e - i) (by rw [List.length_drop]; omega)
      have h3 : ((xs.drop i).take (e - i)).length = e - i := by rw [List.length_take, List.length_drop]; omega
      have := even_all Lb (by omega) (some (ad.add i)) (some bd) ((xs.drop i).take (e - i)) ys (c - i) d W h2 (hB.up hb) ((hd.drop_ i).take_ _) hd' (by omega) (by omega) (by omega) (by omega) (by omega) (by omega)
      rwa [h3, hyl] at this
  have HV : Hid (∀ (i e : Nat), i < e → e ≤ La → wv (xs.take e) * wv ys = wv (xs.take i) * wv ys + 18446744073709551616 ^ i * (wv ((xs.drop i).take (e - i)) * wv ys) ∧ wv (xs.take i) * wv ys + 18446744073709551616 ^ i * (wv ((xs.drop i).take (e - i)) * wv ys) < 18446744073709551616 ^ N) :=
    Lib.hid fun i e hie hea => by
      have h1 : wv (xs.take e) = wv (xs.take i) + 18446744073709551616 ^ i * wv ((xs.drop i).take (e - i)) := take_drop_val (by omega) (by omega)
      have h2 : wv (xs.take e) * wv ys = wv (xs.take i) * wv ys + 18446744073709551616 ^ i * (wv ((xs.drop i).take (e - i)) * wv ys) := by rw [h1, Nat.add_mul, Nat.mul_assoc]
      exact ⟨h2, by rw [← h2]; exact Nat.lt_of_le_of_lt (Nat.mul_le_mul_right _ (take_le _ _ _)) hlt⟩
  have HT : Hid (∀ i : Nat, La ≤ i → wv (xs.take i) * wv ys = wv xs * wv ys) := Lib.hid fun i hi => by rw [List.take_of_length_le (by omega)]
  have HZR : Hid ((List.replicate N (0 : Int)).length = N ∧ W64 (List.replicate N (0 : Int)) ∧ wv (List.replicate N (0 : Int)) = wv (xs.take 0) * wv ys) := Lib.hid ⟨by simp, Dig.zeros (by omega) _, by
    rw [List.take_zero, show wv ([] : List Int) = 0 from rfl, Nat.zero_mul]; exact val_zeros _⟩
  have hdc : decide (La < Lb) = false := decide_eq_false (by omega)
  have hdk : decide ((Lb : Int) < 40) = false := decide_eq_false (by omega)
  clear hA hB hd hd' hlt
  go_enter Try.func47, Try.ntmps47
  go_wp2_with (at_make; refine wpList_make_full _ rfl _ _ 47 rfl w.heap.size 36 i0 (.int .u64 0) 1 Try.underlying47 hi0 hz0 hz1 _ _ _ _ N rfl rfl (by simp [← hN]) (by simp [← hN]) (by rw [hz2]; omega) (by unfold maxLen; omega) (Nat.le_refl _) ?_; intro w1 hown hg; have HO := Lib.hid (own_zeros hown); have HB := Lib.hid ((Below.refl w.heap.size w).grown hg (Nat.le_refl _) (fun k hk => by cases hk)); clear hown hg)
  go_loopw [6] (fun iv wr => ∃ (i : Nat) (S : List Int), iv = .int .i64 i ∧ i ≤ La + Lb ∧ S.length = N ∧ W64 S ∧ wv S = wv (xs.take i) * wv ys ∧ wr.ownsRow w.heap.size 36 1 (.slice (some ⟨w.heap.size, 0, none⟩) N N) N (S.map (Value.int .u64)) ∧ Below w.heap.size w wr) (fun iv _ => La + Lb - (intOf iv).toNat)
  case atStart => exact ⟨0, _, rfl, by omega, HZR.out.1, HZR.out.2.1, HZR.out.2.2, HO.out, HB.out⟩
  case round =>
    obtain ⟨i, S, rfl, hi, hSl, hSd, hSv, hown, hbw⟩ := hrel
    obtain ⟨wo, rfl⟩ : ∃ wo : World, wo = wr := ⟨_, rfl⟩
    by_cases hil : i < La
    · obtain ⟨e, he⟩ : ∃ e : Nat, min ((i : Int) + Lb) La = (e : Int) := ⟨min (i + Lb) La, by omega⟩
      have hie : i < e := by omega
      have hea : e ≤ La := by omega
      have hel : e ≤ i + Lb := by omega
      have hci : ¬ c = i := by omega
      have hNi : ¬ N = i := by omega
      have j1 : (i : Int) ≤ (e : Int) := by omega
      have j2 : (e : Int) ≤ (c : Int) := by omega
      have j3 : (i : Int) ≤ (N : Int) := by omega
      have j4 : (0 : Int) ≤ (i : Int) := by omega
      have HCE := Lib.hid (HE.out i e)
      obtain ⟨pv, hpv⟩ : ∃ pv, wv ((xs.drop i).take (e - i)) * wv ys = pv := ⟨_, rfl⟩
      have HVV := Lib.hid (HV.out i e hie hea)
      rw [hpv] at HCE HVV
      have HTE : Hid (wv (xs.take e) = wv (xs.take (i + Lb))) := Lib.hid (by
        by_cases h : i + Lb ≤ La
        · rw [show e = i + Lb by omega]
        · rw [List.take_of_length_le (by omega), List.take_of_length_le (by omega)])
      have HSL := Lib.hid hSl
      have HSD := Lib.hid hSd
      have HSV := Lib.hid hSv
      have HOW := Lib.hid hown
      have HS2 : Hid (i ≤ N ∧ N ≤ 1099511627776 ∧ e - i + Lb ≤ 1099511627776) := Lib.hid (by omega)
      have HWZ : Hid (w.heap.size ≤ wo.heap.size) := Lib.hid hbw.size
      clear hpv hSl hSd hSv hown
      go_wp2
      go_region_held3 (fun w' => Below w.heap.size w w')
        (first
          | assumption
          | exact Below.drew (by assumption))
        (first
          | (go_at_call 58; (with_reducible refine (HCE.out _ hie hel hea (by first | assumption | exact Below.drew (by assumption))).mono ?_); rintro e' w1 ⟨g1, ps, hl1, hd1, hv1, rfl, ho1, hb1⟩; have hbw1 : Below w.heap.size w w1 := (by first | exact below_chain hbw hb1 | exact below_chain hbw.drew hb1); have HOW1 : Hid (w1.ownsRow w.heap.size 36 1 (.slice (some ⟨w.heap.size, 0, none⟩) N N) N (S.map (Value.int .u64))) := Lib.hid (by first | exact own_below HOW.out hb1 | exact own_below (own_drew HOW.out) hb1); have HK1 := Lib.hid ((KL.of_own ho1).2.2); have HG1 : Hid (g1 ≠ w.heap.size) := Lib.hid (by have h1 := (ho1.lt g1 rfl).1; have h2 := HOW.out.lt w.heap.size rfl; have h3 : wo.heap.size ≤ g1 := h1; omega); have HL1 := Lib.hid (And.intro hl1 (And.intro hd1 hv1)); clear hl1 hd1 hv1 ho1)
          | (go_at_call 57; (with_reducible refine (addInto_f w.heap.size w.heap.size g1 S ps i (N - i) N (e - i + Lb) (e - i + Lb) _ pv _ (by first | exact HOW1.out | exact own_drew HOW1.out) (by first | exact HK1.out | exact HK1.out.up (Below.refl _ _).drew) HG1.out HSD.out HL1.out.2.1 HSL.out HL1.out.1 HSV.out HL1.out.2.2 HVV.out.2 HS2.out.1 HS2.out.2.1 HS2.out.2.2).mono ?_); rintro e' w2 ⟨rfl, S2, hl2, hd2, hv2, ho2, hg2⟩; have hbw2 : Below w.heap.size w w2 := (by first | exact below_grown hbw1 hg2 ⟨Nat.le_refl _, hbw1.size, Nat.le_refl _⟩ | exact below_grown hbw1.drew hg2 ⟨Nat.le_refl _, hbw1.drew.size, Nat.le_refl _⟩); have HO2 := Lib.hid ho2; have HL2 := Lib.hid (And.intro hl2 (And.intro hd2 (hv2.trans HVV.out.1.symm))); clear hl2 hd2 hv2 ho2 hg2))
      all_goals
        have HB9 : Hid (Below w.heap.size w w2) := Lib.hid (by assumption)
        clear hbw hbw1 hbw2 hb1
        go_wp2
        go_roundw
        case rel => exact ⟨i + Lb, S2, by go_num, by omega, HL2.out.1, HL2.out.2.1, by rw [HL2.out.2.2, HTE.out], HO2.out, HB9.out⟩
        case measure => simp [intOf] <;> omega
    · have HR : Hid (MadeW N (wv xs * wv ys) w (.returned (.slice (some ⟨w.heap.size, 0, none⟩) N N)) wo) := Lib.hid ⟨w.heap.size, S, hSl, hSd, by rw [hSv]; exact HT.out i (by omega), rfl, hown, hbw⟩
      have hil' : ¬ (i : Int) < (La : Int) := by omega
      clear hSl hSd hSv hown hbw
      go_wp2
      go_ret
      exact HR.out

set_option maxHeartbeats 4000000 in
theorem mulWords_long_lt (ad bd : Addr) (xs ys : List Int) (c d La Lb N : Nat) (w : World) (hA : KL .u64 w w.heap.size (some ad) xs) (hB : KL .u64 w w.heap.size (some bd) ys) (hd : W64 xs) (hd' : W64 ys) (hxl : xs.length = La) (hyl : ys.length = Lb) (hc : La ≤ c) (hdc : Lb ≤ d) (hLa : La ≤ 100000000) (hge : Lb < La) (h40 : 40 ≤ Lb) (hN : La + Lb = N) :
    Calls Try.prog 47 #[.slice (some bd) Lb d, .slice (some ad) La c] w fun e w' => MadeW N (wv xs * wv ys) w e w' := by
  obtain ⟨i0, hi0, hz0, hz1, hz2⟩ := info_parts u64_info
  have hlt : wv xs * wv ys < 18446744073709551616 ^ N := by
    rw [← hN, Nat.pow_add, ← hxl, ← hyl]
    exact Nat.mul_lt_mul'' (val_lt hd) (val_lt hd')
  have HE : Hid (∀ (i e : Nat) (W : World), i < e → e ≤ i + Lb → e ≤ La → Below w.heap.size w W → Calls Try.prog 58 #[.slice (some (ad.add i)) (e - i : Nat) (c - i), .slice (some bd) Lb d] W fun e' w' => MadeW (e - i + Lb) (wv ((xs.drop i).take (e - i)) * wv ys) W e' w') :=
    Lib.hid fun i e W hie hel hea hb => by
      have h1 := (hA.up hb).cut (n := i) (c := c) (by omega) (by omega)
      rw [if_neg (by omega)] at h1
      have h2 := h1.head (n := e - i) (by rw [List.length_drop]; omega)
      have h3 : ((xs.drop i).take (e - i)).length = e - i := by rw [List.length_take, List.length_drop]; omega
      have := even_all Lb (by omega) (some (ad.add i)) (some bd) ((xs.drop i).take (e - i)) ys (c - i) d W h2 (hB.up hb) ((hd.drop_ i).take_ _) hd' (by omega) (by omega) (by omega) (by omega) (by omega) (by omega)
      rwa [h3, hyl] at this
  have HV : Hid (∀ (i e : Nat), i < e → e ≤ La → wv (xs.take e) * wv ys = wv (xs.take i) * wv ys + 18446744073709551616 ^ i * (wv ((xs.drop i).take (e - i)) * wv ys) ∧ wv (xs.take i) * wv ys + 18446744073709551616 ^ i * (wv ((xs.drop i).take (e - i)) * wv ys) < 18446744073709551616 ^ N) :=
    Lib.hid fun i e hie hea => by
      have h1 : wv (xs.take e) = wv (xs.take i) + 18446744073709551616 ^ i * wv ((xs.drop i).take (e - i)) := take_drop_val (by omega) (by omega)
      have h2 : wv (xs.take e) * wv ys = wv (xs.take i) * wv ys + 18446744073709551616 ^ i * (wv ((xs.drop i).take (e - i)) * wv ys) := by rw [h1, Nat.add_mul, Nat.mul_assoc]
      exact ⟨h2, by rw [← h2]; exact Nat.lt_of_le_of_lt (Nat.mul_le_mul_right _ (take_le _ _ _)) hlt⟩
  have HT : Hid (∀ i : Nat, La ≤ i → wv (xs.take i) * wv ys = wv xs * wv ys) := Lib.hid fun i hi => by rw [List.take_of_length_le (by omega)]
  have HZR : Hid ((List.replicate N (0 : Int)).length = N ∧ W64 (List.replicate N (0 : Int)) ∧ wv (List.replicate N (0 : Int)) = wv (xs.take 0) * wv ys) := Lib.hid ⟨by simp, Dig.zeros (by omega) _, by
    rw [List.take_zero, show wv ([] : List Int) = 0 from rfl, Nat.zero_mul]; exact val_zeros _⟩
  have hdc : decide (Lb < La) = true := decide_eq_true hge
  have hdk : decide ((Lb : Int) < 40) = false := decide_eq_false (by omega)
  clear hA hB hd hd' hlt
  go_enter Try.func47, Try.ntmps47
  go_wp2_with (at_make; refine wpList_make_full _ rfl _ _ 47 rfl w.heap.size 36 i0 (.int .u64 0) 1 Try.underlying47 hi0 hz0 hz1 _ _ _ _ N rfl rfl (by simp [← hN]; omega) (by simp [← hN]; omega) (by rw [hz2]; omega) (by unfold maxLen; omega) (Nat.le_refl _) ?_; intro w1 hown hg; have HO := Lib.hid (own_zeros hown); have HB := Lib.hid ((Below.refl w.heap.size w).grown hg (Nat.le_refl _) (fun k hk => by cases hk)); clear hown hg)
  go_loopw [6] (fun iv wr => ∃ (i : Nat) (S : List Int), iv = .int .i64 i ∧ i ≤ La + Lb ∧ S.length = N ∧ W64 S ∧ wv S = wv (xs.take i) * wv ys ∧ wr.ownsRow w.heap.size 36 1 (.slice (some ⟨w.heap.size, 0, none⟩) N N) N (S.map (Value.int .u64)) ∧ Below w.heap.size w wr) (fun iv _ => La + Lb - (intOf iv).toNat)
  case atStart => exact ⟨0, _, rfl, by omega, HZR.out.1, HZR.out.2.1, HZR.out.2.2, HO.out, HB.out⟩
  case round =>
    obtain ⟨i, S, rfl, hi, hSl, hSd, hSv, hown, hbw⟩ := hrel
    obtain ⟨wo, rfl⟩ : ∃ wo : World, wo = wr := ⟨_, rfl⟩
    by_cases hil : i < La
    · obtain ⟨e, he⟩ : ∃ e : Nat, min ((i : Int) + Lb) La = (e : Int) := ⟨min (i + Lb) La, by omega⟩
      have hie : i < e := by omega
      have hea : e ≤ La := by omega
      have hel : e ≤ i + Lb := by omega
      have hci : ¬ c = i := by omega
      have hNi : ¬ N = i := by omega
      have j1 : (i : Int) ≤ (e : Int) := by omega
      have j2 : (e : Int) ≤ (c : Int) := by omega
      have j3 : (i : Int) ≤ (N : Int) := by omega
      have j4 : (0 : Int) ≤ (i : Int) := by omega
      have HCE := Lib.hid (HE.out i e)
      obtain ⟨pv, hpv⟩ : ∃ pv, wv ((xs.drop i).take (e - i)) * wv ys = pv := ⟨_, rfl⟩
      have HVV := Lib.hid (HV.out i e hie hea)
      rw [hpv] at HCE HVV
      have HTE : Hid (wv (xs.take e) = wv (xs.take (i + Lb))) := Lib.hid (by
        by_cases h : i + Lb ≤ La
        · rw [show e = i + Lb by omega]
        · rw [List.take_of_length_le (by omega), List.take_of_length_le (by omega)])
      have HSL := Lib.hid hSl
      have HSD := Lib.hid hSd
      have HSV := Lib.hid hSv
      have HOW := Lib.hid hown
      have HS2 : Hid (i ≤ N ∧ N ≤ 1099511627776 ∧ e - i + Lb ≤ 1099511627776) := Lib.hid (by omega)
      have HWZ : Hid (w.heap.size ≤ wo.heap.size) := Lib.hid hbw.size
      clear hpv hSl hSd hSv hown
      go_wp2
      go_region_held3 (fun w' => Below w.heap.size w w')
        (first
          | assumption
          | exact Below.drew (by assumption))
        (first
          | (go_at_call 58; (with_reducible refine (HCE.out _ hie hel hea (by first | assumption | exact Below.drew (by assumption))).mono ?_); rintro e' w1 ⟨g1, ps, hl1, hd1, hv1, rfl, ho1, hb1⟩; have hbw1 : Below w.heap.size w w1 := (by first | exact below_chain hbw hb1 | exact below_chain hbw.drew hb1); have HOW1 : Hid (w1.ownsRow w.heap.size 36 1 (.slice (some ⟨w.heap.size, 0, none⟩) N N) N (S.map (Value.int .u64))) := Lib.hid (by first | exact own_below HOW.out hb1 | exact own_below (own_drew HOW.out) hb1); have HK1 := Lib.hid ((KL.of_own ho1).2.2); have HG1 : Hid (g1 ≠ w.heap.size) := Lib.hid (by have h1 := (ho1.lt g1 rfl).1; have h2 := HOW.out.lt w.heap.size rfl; have h3 : wo.heap.size ≤ g1 := h1; omega); have HL1 := Lib.hid (And.intro hl1 (And.intro hd1 hv1)); clear hl1 hd1 hv1 ho1)
          | (go_at_call 57; (with_reducible refine (addInto_f w.heap.size w.heap.size g1 S ps i (N - i) N (e - i + Lb) (e - i + Lb) _ pv _ (by first | exact HOW1.out | exact own_drew HOW1.out) (by first | exact HK1.out | exact HK1.out.up (Below.refl _ _).drew) HG1.out HSD.out HL1.out.2.1 HSL.out HL1.out.1 HSV.out HL1.out.2.2 HVV.out.2 HS2.out.1 HS2.out.2.1 HS2.out.2.2).mono ?_); rintro e' w2 ⟨rfl, S2, hl2, hd2, hv2, ho2, hg2⟩; have hbw2 : Below w.heap.size w w2 := (by first | exact below_grown hbw1 hg2 ⟨Nat.le_refl _, hbw1.size, Nat.le_refl _⟩ | exact below_grown hbw1.drew hg2 ⟨Nat.le_refl _, hbw1.drew.size, Nat.le_refl _⟩); have HO2 := Lib.hid ho2; have HL2 := Lib.hid (And.intro hl2 (And.intro hd2 (hv2.trans HVV.out.1.symm))); clear hl2 hd2 hv2 ho2 hg2))
      all_goals
        have HB9 : Hid (Below w.heap.size w w2) := Lib.hid (by assumption)
        clear hbw hbw1 hbw2 hb1
        go_wp2
        go_roundw
        case rel => exact ⟨i + Lb, S2, by go_num, by omega, HL2.out.1, HL2.out.2.1, by rw [HL2.out.2.2, HTE.out], HO2.out, HB9.out⟩
        case measure => simp [intOf] <;> omega
    · have HR : Hid (MadeW N (wv xs * wv ys) w (.returned (.slice (some ⟨w.heap.size, 0, none⟩) N N)) wo) := Lib.hid ⟨w.heap.size, S, hSl, hSd, by rw [hSv]; exact HT.out i (by omega), rfl, hown, hbw⟩
      have hil' : ¬ (i : Int) < (La : Int) := by omega
      clear hSl hSd hSv hown hbw
      go_wp2
      go_ret
      exact HR.out
end Go.Proofs.Ytdflhidhnejbbaa
