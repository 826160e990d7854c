/- The walk of MonoTimes. -/
import Derived.Test.YtflobccekfgiaaaWrap
namespace Go.Proofs.Ytflobccekfgiaaa
open Go.RowKit

theorem mulZ_len {xs ys : List Int} (h : xs.length ≤ 6) : (mulZ xs ys).length ≤ 6 := by unfold mulZ; split <;> simp [zipL_length, h]
theorem divZ_len {xs ys : List Int} (h : xs.length ≤ 6) : (divZ xs ys).length ≤ 6 := by unfold divZ; split <;> simp [zipL_length, h]

set_option maxHeartbeats 2000000 in
theorem law_times (A B : Option Addr) (xs ys : List Int) (c d : Nat) (w : World) (h : IL w w.heap.size A xs) (h' : IL w w.heap.size B ys) (hxl : xs.length ≤ 9223372036854775807) (hyl : ys.length ≤ 9223372036854775807) :
    Calls Try.prog 4 #[.slice A xs.length c, .slice B ys.length d] w fun e w' => e = .returned (.bool true) ∧ Below w.heap.size w w' := by
  have HA_0 : Hid _ := Lib.hid h
  have HB2_0 : Hid _ := Lib.hid h'
  have HB_0 : Hid _ := Lib.hid (Below.refl w.heap.size w)
  have HT : Hid (∀ W : World, IL W W.heap.size A xs → IL W W.heap.size B ys → Calls Try.prog 15 #[.slice A xs.length c, .slice B ys.length d] W fun e w' => e = .returned (.bool (twoB xs ys)) ∧ W = w') :=
    Lib.hid fun W h h' => two_any A B xs ys c d W h h' hxl hyl
  by_cases ht : twoB xs ys = true
  · obtain ⟨hl, hx, hy⟩ := two_lim ht
    have h6 := hx.1
    have h6' := hy.1
    have HLe := Lib.hid hl
    have HX := Lib.hid hx
    have HY := Lib.hid hy
    rw [ht] at HT
    obtain ⟨mz, hmz⟩ : ∃ z, mulZ xs ys = z := ⟨_, rfl⟩
    obtain ⟨me, hme⟩ : ∃ z, mulE xs ys = z := ⟨_, rfl⟩
    obtain ⟨dz, hdz⟩ : ∃ z, divZ xs ys = z := ⟨_, rfl⟩
    obtain ⟨dv, hdv⟩ : ∃ z, divB ys xs = z := ⟨_, rfl⟩
    obtain ⟨dw, hdw⟩ : ∃ z, divB xs ys = z := ⟨_, rfl⟩
    obtain ⟨lz, hlz⟩ : ∃ z, zipL maxI xs ys = z := ⟨_, rfl⟩
    obtain ⟨gz, hgz⟩ : ∃ z, zipL minI xs ys = z := ⟨_, rfl⟩
    obtain ⟨dg, hdg⟩ : ∃ z, degL xs = z := ⟨_, rfl⟩
    have hm6 : mz.length ≤ 6 := by rw [← hmz]; exact mulZ_len h6
    have hd6 : dz.length ≤ 6 := by rw [← hdz]; exact divZ_len h6
    have hl6 : lz.length ≤ 6 := by rw [← hlz, zipL_length]; exact h6
    have hg6 : gz.length ≤ 6 := by rw [← hgz, zipL_length]; exact h6
    have C1 : Hid (∀ W : World, IL W W.heap.size A xs → IL W W.heap.size B ys → Calls Try.prog 16 #[.slice A xs.length c, .slice B ys.length d] W fun e w' => MadeWith mz (.int .i64 me) W e w') :=
      Lib.hid fun W h h' => by rw [← hmz, ← hme]; exact mul_c A B xs ys c d W h h' hl hx hy
    have C2 : Hid (∀ W : World, IL W W.heap.size A xs → IL W W.heap.size B ys → Calls Try.prog 17 #[.slice A xs.length c, .slice B ys.length d] W fun e w' => MadeWith mz (.int .i64 me) W e w') :=
      Lib.hid fun W h h' => by rw [← hmz, ← hme]; exact refmul_c A B xs ys c d W h h' hl hx hy
    have C3 : Hid (∀ W : World, IL W W.heap.size A xs → IL W W.heap.size B ys → Calls Try.prog 18 #[.slice A xs.length c, .slice B ys.length d] W fun e w' => MadeWith dz (.bool dv) W e w') :=
      Lib.hid fun W h h' => by rw [← hdz, ← hdv]; exact div_c A B xs ys c d W h h' hl hx hy
    have C4 : Hid (∀ W : World, IL W W.heap.size A xs → IL W W.heap.size B ys → Calls Try.prog 19 #[.slice A xs.length c, .slice B ys.length d] W fun e w' => MadeWith dz (.bool dv) W e w') :=
      Lib.hid fun W h h' => by rw [← hdz, ← hdv]; exact refdiv_c A B xs ys c d W h h' hl hx hy
    have CS : Hid (∀ (W : World) (A B : Option Addr) (zs : List Int) (c d : Nat), zs.length ≤ 6 → IL W W.heap.size A zs → IL W W.heap.size B zs → Calls Try.prog 20 #[.slice A zs.length c, .slice B zs.length d] W fun e w' => e = .returned (.bool true) ∧ Below W.heap.size W w') :=
      Lib.hid fun W A B zs c d h6 h h' => by rw [← sameB_self zs]; exact same_c A B zs zs c d W h h' (by omega) (by omega)
    have C5 : Hid (∀ W : World, IL W W.heap.size A xs → IL W W.heap.size B ys → Calls Try.prog 21 #[.slice A xs.length c, .slice B ys.length d] W fun e w' => e = .returned (.bool dw) ∧ W = w') :=
      Lib.hid fun W h h' => by rw [← hdw]; exact divides_any A B xs ys c d W h h' hl h6
    have C6 : Hid (∀ W : World, IL W W.heap.size A xs → IL W W.heap.size B ys → Calls Try.prog 22 #[.slice A xs.length c, .slice B ys.length d] W fun e w' => e = .returned (.bool dw) ∧ Below W.heap.size W w') :=
      Lib.hid fun W h h' => by rw [← hdw]; exact refdivides_c A B xs ys c d W h h' hl h6
    have C7 : Hid (∀ W : World, IL W W.heap.size A xs → IL W W.heap.size B ys → Calls Try.prog 23 #[.slice A xs.length c, .slice B ys.length d] W fun e w' => Made lz W e w') :=
      Lib.hid fun W h h' => by rw [← hlz]; exact lcm_any A B xs ys c d W h h' hl hx hy
    have C8 : Hid (∀ W : World, IL W W.heap.size A xs → IL W W.heap.size B ys → Calls Try.prog 24 #[.slice A xs.length c, .slice B ys.length d] W fun e w' => Made lz W e w') :=
      Lib.hid fun W h h' => by rw [← hlz]; exact reflcm_any A B xs ys c d W h h' hl hx hy
    have C9 : Hid (∀ W : World, IL W W.heap.size A xs → IL W W.heap.size B ys → Calls Try.prog 25 #[.slice A xs.length c, .slice B ys.length d] W fun e w' => Made gz W e w') :=
      Lib.hid fun W h h' => by rw [← hgz]; exact gcd_any A B xs ys c d W h h' hl hx hy
    have C10 : Hid (∀ W : World, IL W W.heap.size A xs → IL W W.heap.size B ys → Calls Try.prog 26 #[.slice A xs.length c, .slice B ys.length d] W fun e w' => Made gz W e w') :=
      Lib.hid fun W h h' => by rw [← hgz]; exact refgcd_any A B xs ys c d W h h' hl hx hy
    have C11 : Hid (∀ W : World, IL W W.heap.size A xs → Calls Try.prog 27 #[.slice A xs.length c] W fun e w' => e = .returned (.int .i64 dg) ∧ W = w') :=
      Lib.hid fun W h => by rw [← hdg]; exact deg_any A xs c 60 W h hx (by omega) (by omega)
    have C12 : Hid (∀ W : World, IL W W.heap.size A xs → Calls Try.prog 28 #[.slice A xs.length c] W fun e w' => e = .returned (.int .i64 dg) ∧ W = w') :=
      Lib.hid fun W h => by rw [← hdg]; exact refdeg_any A xs c 60 W h hx (by omega) (by omega)
    clear h h' ht hl hx hy hmz hme hdz hdv hdw hlz hgz hdg
    go_enter Try.func4, Try.ntmps4
    go_wp2_with (first
      | (go_at_call 10; (with_reducible refine (awake_any _).mono ?_); rintro e w1 ⟨rfl, hb⟩; have HA_1 := Lib.hid (HA_0.out.up hb); have HB2_1 := Lib.hid (HB2_0.out.up hb); have HB_1 := Lib.hid (below_chain HB_0.out hb); clear hb)
      | (go_at_call 15; (with_reducible refine (HT.out _ HA_1.out HB2_1.out).mono ?_); rintro e w' ⟨rfl, rfl⟩)
      | (go_at_call 16; (with_reducible refine (C1.out _ HA_1.out HB2_1.out).mono ?_); rintro e w2 ⟨AM, cM, rfl, hA, hcap, hb⟩; have HA_2 := Lib.hid (HA_1.out.up hb); have HB2_2 := Lib.hid (HB2_1.out.up hb); have HB_2 := Lib.hid (below_chain HB_1.out hb); have HM_2 := Lib.hid hA; have HCM := Lib.hid hcap; clear hA hcap hb)
      | (go_at_call 17; (with_reducible refine (C2.out _ HA_2.out HB2_2.out).mono ?_); rintro e w3 ⟨AN, cN, rfl, hA, hcap, hb⟩; have HA_3 := Lib.hid (HA_2.out.up hb); have HB2_3 := Lib.hid (HB2_2.out.up hb); have HM_3 := Lib.hid (HM_2.out.up hb); have HB_3 := Lib.hid (below_chain HB_2.out hb); have HN_3 := Lib.hid hA; have HCN := Lib.hid hcap; clear hA hcap hb)
      | (go_at_call 18; (with_reducible refine (C3.out _ HA_3.out HB2_3.out).mono ?_); rintro e w4 ⟨AP, cP, rfl, hA, hcap, hb⟩; have HA_4 := Lib.hid (HA_3.out.up hb); have HB2_4 := Lib.hid (HB2_3.out.up hb); have HM_4 := Lib.hid (HM_3.out.up hb); have HN_4 := Lib.hid (HN_3.out.up hb); have HB_4 := Lib.hid (below_chain HB_3.out hb); have HP_4 := Lib.hid hA; have HCP := Lib.hid hcap; clear hA hcap hb)
      | (go_at_call 19; (with_reducible refine (C4.out _ HA_4.out HB2_4.out).mono ?_); rintro e w5 ⟨AQ, cQ, rfl, hA, hcap, hb⟩; have HA_5 := Lib.hid (HA_4.out.up hb); have HB2_5 := Lib.hid (HB2_4.out.up hb); have HM_5 := Lib.hid (HM_4.out.up hb); have HN_5 := Lib.hid (HN_4.out.up hb); have HP_5 := Lib.hid (HP_4.out.up hb); have HB_5 := Lib.hid (below_chain HB_4.out hb); have HQ_5 := Lib.hid hA; have HCQ := Lib.hid hcap; clear hA hcap hb)
      | (go_at_call 20; (with_reducible refine (CS.out _ _ _ _ _ _ hm6 HM_5.out HN_5.out).mono ?_); rintro e w6 ⟨rfl, hb⟩; have HA_6 := Lib.hid (HA_5.out.up hb); have HB2_6 := Lib.hid (HB2_5.out.up hb); have HM_6 := Lib.hid (HM_5.out.up hb); have HN_6 := Lib.hid (HN_5.out.up hb); have HP_6 := Lib.hid (HP_5.out.up hb); have HQ_6 := Lib.hid (HQ_5.out.up hb); have HB_6 := Lib.hid (below_chain HB_5.out hb); clear hb)
      | (go_at_call 20; (with_reducible refine (CS.out _ _ _ _ _ _ hd6 HP_6.out HQ_6.out).mono ?_); rintro e w7 ⟨rfl, hb⟩; have HA_7 := Lib.hid (HA_6.out.up hb); have HB2_7 := Lib.hid (HB2_6.out.up hb); have HM_7 := Lib.hid (HM_6.out.up hb); have HN_7 := Lib.hid (HN_6.out.up hb); have HP_7 := Lib.hid (HP_6.out.up hb); have HQ_7 := Lib.hid (HQ_6.out.up hb); have HB_7 := Lib.hid (below_chain HB_6.out hb); clear hb)
      | (go_at_call 21; (with_reducible refine (C5.out _ HA_7.out HB2_7.out).mono ?_); rintro e w' ⟨rfl, rfl⟩)
      | (go_at_call 22; (with_reducible refine (C6.out _ HA_7.out HB2_7.out).mono ?_); rintro e w8 ⟨rfl, hb⟩; have HA_8 := Lib.hid (HA_7.out.up hb); have HB2_8 := Lib.hid (HB2_7.out.up hb); have HM_8 := Lib.hid (HM_7.out.up hb); have HN_8 := Lib.hid (HN_7.out.up hb); have HP_8 := Lib.hid (HP_7.out.up hb); have HQ_8 := Lib.hid (HQ_7.out.up hb); have HB_8 := Lib.hid (below_chain HB_7.out hb); clear hb)
      | (go_at_call 23; (with_reducible refine (C7.out _ HA_8.out HB2_8.out).mono ?_); rintro e w9 ⟨AR, cR, rfl, hA, hcap, hb⟩; have HA_9 := Lib.hid (HA_8.out.up hb); have HB2_9 := Lib.hid (HB2_8.out.up hb); have HM_9 := Lib.hid (HM_8.out.up hb); have HN_9 := Lib.hid (HN_8.out.up hb); have HP_9 := Lib.hid (HP_8.out.up hb); have HQ_9 := Lib.hid (HQ_8.out.up hb); have HB_9 := Lib.hid (below_chain HB_8.out hb); have HR_9 := Lib.hid hA; have HCR := Lib.hid hcap; clear hA hcap hb)
      | (go_at_call 24; (with_reducible refine (C8.out _ HA_9.out HB2_9.out).mono ?_); rintro e w10 ⟨AS, cS, rfl, hA, hcap, hb⟩; have HA_10 := Lib.hid (HA_9.out.up hb); have HB2_10 := Lib.hid (HB2_9.out.up hb); have HM_10 := Lib.hid (HM_9.out.up hb); have HN_10 := Lib.hid (HN_9.out.up hb); have HP_10 := Lib.hid (HP_9.out.up hb); have HQ_10 := Lib.hid (HQ_9.out.up hb); have HR_10 := Lib.hid (HR_9.out.up hb); have HB_10 := Lib.hid (below_chain HB_9.out hb); have HS_10 := Lib.hid hA; have HCS := Lib.hid hcap; clear hA hcap hb)
      | (go_at_call 20; (with_reducible refine (CS.out _ _ _ _ _ _ hl6 HR_10.out HS_10.out).mono ?_); rintro e w11 ⟨rfl, hb⟩; have HA_11 := Lib.hid (HA_10.out.up hb); have HB2_11 := Lib.hid (HB2_10.out.up hb); have HM_11 := Lib.hid (HM_10.out.up hb); have HN_11 := Lib.hid (HN_10.out.up hb); have HP_11 := Lib.hid (HP_10.out.up hb); have HQ_11 := Lib.hid (HQ_10.out.up hb); have HR_11 := Lib.hid (HR_10.out.up hb); have HS_11 := Lib.hid (HS_10.out.up hb); have HB_11 := Lib.hid (below_chain HB_10.out hb); clear hb)
      | (go_at_call 25; (with_reducible refine (C9.out _ HA_11.out HB2_11.out).mono ?_); rintro e w12 ⟨AT, cT, rfl, hA, hcap, hb⟩; have HA_12 := Lib.hid (HA_11.out.up hb); have HB2_12 := Lib.hid (HB2_11.out.up hb); have HM_12 := Lib.hid (HM_11.out.up hb); have HN_12 := Lib.hid (HN_11.out.up hb); have HP_12 := Lib.hid (HP_11.out.up hb); have HQ_12 := Lib.hid (HQ_11.out.up hb); have HR_12 := Lib.hid (HR_11.out.up hb); have HS_12 := Lib.hid (HS_11.out.up hb); have HB_12 := Lib.hid (below_chain HB_11.out hb); have HT_12 := Lib.hid hA; have HCT := Lib.hid hcap; clear hA hcap hb)
      | (go_at_call 26; (with_reducible refine (C10.out _ HA_12.out HB2_12.out).mono ?_); rintro e w13 ⟨AU, cU, rfl, hA, hcap, hb⟩; have HA_13 := Lib.hid (HA_12.out.up hb); have HB2_13 := Lib.hid (HB2_12.out.up hb); have HM_13 := Lib.hid (HM_12.out.up hb); have HN_13 := Lib.hid (HN_12.out.up hb); have HP_13 := Lib.hid (HP_12.out.up hb); have HQ_13 := Lib.hid (HQ_12.out.up hb); have HR_13 := Lib.hid (HR_12.out.up hb); have HS_13 := Lib.hid (HS_12.out.up hb); have HT_13 := Lib.hid (HT_12.out.up hb); have HB_13 := Lib.hid (below_chain HB_12.out hb); have HU_13 := Lib.hid hA; have HCU := Lib.hid hcap; clear hA hcap hb)
      | (go_at_call 20; (with_reducible refine (CS.out _ _ _ _ _ _ hg6 HT_13.out HU_13.out).mono ?_); rintro e w14 ⟨rfl, hb⟩; have HA_14 := Lib.hid (HA_13.out.up hb); have HB2_14 := Lib.hid (HB2_13.out.up hb); have HM_14 := Lib.hid (HM_13.out.up hb); have HN_14 := Lib.hid (HN_13.out.up hb); have HP_14 := Lib.hid (HP_13.out.up hb); have HQ_14 := Lib.hid (HQ_13.out.up hb); have HR_14 := Lib.hid (HR_13.out.up hb); have HS_14 := Lib.hid (HS_13.out.up hb); have HT_14 := Lib.hid (HT_13.out.up hb); have HU_14 := Lib.hid (HU_13.out.up hb); have HB_14 := Lib.hid (below_chain HB_13.out hb); clear hb)
      | (go_at_call 27; (with_reducible refine (C11.out _ HA_14.out).mono ?_); rintro e w' ⟨rfl, rfl⟩)
      | (go_at_call 28; (with_reducible refine (C12.out _ HA_14.out).mono ?_); rintro e w' ⟨rfl, rfl⟩))
    go_ret
    exact ⟨rfl, HB_14.out⟩
  · have ht' : twoB xs ys = false := by simpa using ht
    rw [ht'] at HT
    clear h h' ht ht'
    go_enter Try.func4, Try.ntmps4
    go_wp2_with (first
      | (go_at_call 10; (with_reducible refine (awake_any _).mono ?_); rintro e w1 ⟨rfl, hb⟩; have HA_1 := Lib.hid (HA_0.out.up hb); have HB2_1 := Lib.hid (HB2_0.out.up hb); have HB_1 := Lib.hid (below_chain HB_0.out hb); clear hb)
      | (go_at_call 15; (with_reducible refine (HT.out _ HA_1.out HB2_1.out).mono ?_); rintro e w' ⟨rfl, rfl⟩))
    go_ret
    exact ⟨rfl, HB_1.out⟩
end Go.Proofs.Ytflobccekfgiaaa
