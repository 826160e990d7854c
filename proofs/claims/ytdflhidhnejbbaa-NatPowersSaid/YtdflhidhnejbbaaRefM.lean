/- Contracts of the reference: Mul. -/
import Derived.Test.YtdflhidhnejbbaaRefE
namespace Go.Proofs.Ytdflhidhnejbbaa
open Go.RowKit

theorem refdigit (x y r c : Nat) (hx : x ≤ 4294967295) (hy : y ≤ 4294967295) (hr : r ≤ 4294967295) (hc : c ≤ 4294967295) :
    ∃ p t v g : Nat, (x : Int) * (y : Int) = (p : Int) ∧ p ≤ 18446744065119617025 ∧ (p : Int) + r + c = (t : Int) ∧ t ≤ 18446744073709551615 ∧ (t : Int) % 4294967296 = (v : Int) ∧ (t : Int) / 4294967296 = (g : Int) ∧ v ≤ 4294967295 ∧ g ≤ 4294967295 ∧ v + 4294967296 * g = r + y * x + c := by
  have h1 : x * y ≤ 4294967295 * 4294967295 := Nat.mul_le_mul hx hy
  refine ⟨x * y, x * y + r + c, (x * y + r + c) % 4294967296, (x * y + r + c) / 4294967296, (Int.natCast_mul x y).symm, h1, ?_, ?_, ?_, ?_, ?_, ?_, ?_⟩
  · rw [Int.natCast_add, Int.natCast_add]
  · omega
  · omega
  · omega
  · omega
  · generalize x * y = p at *; omega
  · rw [Nat.mod_add_div, Nat.mul_comm y x]; omega

set_option maxHeartbeats 2000000 in
theorem refmul_lists (A B : Option Addr) (xs ys : List Int) (c d M : Nat) (w : World) (h : KL .u32 w w.heap.size A xs) (h' : KL .u32 w w.heap.size B ys) (hd : D32 xs) (hd' : D32 ys) (hM : M = xs.length + ys.length) (hxl : xs.length ≤ 1000) (hyl : ys.length ≤ 1000) :
    Calls Try.prog 23 #[.slice A xs.length c, .slice B ys.length d] w fun e w' => MadeN (nv xs * nv ys) w e w' := by
  obtain ⟨i0, hi0, hz0, hz1, hz2⟩ := info_parts u32_info
  have hM2 : M ≤ 2000 := by omega
  have HM := Lib.hid hM
  clear hM
  have H := Lib.hid h; clear h
  have H' := Lib.hid h'; clear h'
  have HD := Lib.hid hd; clear hd
  have HD' := Lib.hid hd'; clear hd'
  go_enter Try.func23, Try.ntmps23
  go_wp2_with (at_make; refine wpList_make_full _ rfl _ _ 22 rfl w.heap.size 41 i0 (.int .u32 0) 1 Try.underlying22 hi0 hz0 hz1 _ _ _ _ M rfl rfl (by have := HM.out; omega) (by have := HM.out; omega) (by rw [hz2]; omega) (by unfold maxLen; omega) (Nat.le_refl _) ?_; intro w1 hown hg; have HO := Lib.hid (own_zeros hown); have HB := Lib.hid ((Below.refl w.heap.size w).grown hg (Nat.le_refl _) (fun k hk => by cases hk)); clear hown hg)
  go_loopw [6] (fun iv wr => ∃ (i : Nat) (S : List Int), i ≤ xs.length ∧ iv = .int .i64 i ∧ S.length = M ∧ D32 S ∧ nv S = nv (xs.take i) * nv ys ∧
      wr.ownsRow w.heap.size 41 1 (.slice (some ⟨w.heap.size, 0, none⟩) M M) M (S.map (Value.int .u32)) ∧ Below w.heap.size w wr) (fun iv _ => xs.length - (intOf iv).toNat)
  case atStart => exact ⟨0, _, Nat.zero_le _, rfl, by simp, Dig.zeros (by omega) _, by unfold nv; rw [val_zeros]; simp [val], HO.out, HB.out⟩
  case round =>
    obtain ⟨i, S, hi, rfl, hSl, hSd, hSv, hown, hbw⟩ := hrel
    obtain ⟨wo, rfl⟩ : ∃ wo : World, wo = wr := ⟨_, rfl⟩
    by_cases hlt : i < xs.length
    · obtain ⟨x, hx⟩ : ∃ x : Nat, xs.getD i 0 = x := ⟨(xs.getD i 0).toNat, by have := word_range HD.out hlt; omega⟩
      have hx1 := word_range HD.out hlt
      rw [hx] at hx1
      have hvs : nv (xs.take (i + 1)) = nv (xs.take i) + 4294967296 ^ i * x := by
        unfold nv
        rw [val_take_step, hx, Int.toNat_natCast]
      have hib : i + ys.length < M := by have := HM.out; omega
      have hzero : S.getD (i + ys.length) 0 = 0 := by
        refine zero_of_lt (b := 4294967296) hSd (by omega) ?_
        have e : val 4294967296 S = nv (xs.take i) * nv ys := hSv
        rw [e, Nat.pow_add]
        have h1 : nv ys < 4294967296 ^ ys.length := val_lt HD'.out
        have h2 : nv (xs.take i) < 4294967296 ^ i := by
          have := val_lt (HD.out.take_ i)
          rwa [List.length_take, Nat.min_eq_left (by omega)] at this
        exact Nat.mul_lt_mul'' h2 h1
      have HVS := Lib.hid hvs
      have HSL := Lib.hid hSl
      have HSD := Lib.hid hSd
      have HSV := Lib.hid hSv
      have HOW := Lib.hid hown
      have HBW := Lib.hid hbw
      have HZERO := Lib.hid hzero
      have HXX := Lib.hid hx
      clear hx hvs hSl hSd hSv hown hbw hzero
      have hx2 : x ≤ 4294967295 := by omega
      go_wp2
      go_loopw [7, 8] (fun cr kv wr => ∃ (k cc : Nat) (S' : List Int), k ≤ ys.length ∧ kv = .int .i64 k ∧ cr = .int .u64 cc ∧ cc ≤ 4294967295 ∧ S'.length = M ∧ D32 S' ∧
          nv S' + 4294967296 ^ (i + k) * cc = nv S + x * 4294967296 ^ i * nv (ys.take k) ∧ S'.drop (i + k) = S.drop (i + k) ∧
          wr.ownsRow w.heap.size 41 1 (.slice (some ⟨w.heap.size, 0, none⟩) M M) M (S'.map (Value.int .u32)) ∧ Below w.heap.size w wr) (fun _ kv _ => ys.length - (intOf kv).toNat)
      case atStart => exact ⟨0, 0, S, Nat.zero_le _, rfl, rfl, by omega, HSL.out, HSD.out, by simp [nv, val], rfl, HOW.out, HBW.out⟩
      case round =>
        obtain ⟨k, cc, S', hk, rfl, rfl, hcc1, hSl', hSd', hinv, hdr, hown, hbw⟩ := hrel
        by_cases hlt2 : k < ys.length
        · obtain ⟨ad, rfl, hab, hca⟩ := (H.out.below hbw) (by omega)
          obtain ⟨bd, rfl, hbb, hcb⟩ := (H'.out.below hbw) (by omega)
          have hcellx := hca i hlt
          rw [HXX.out] at hcellx
          have hcelly := hcb k hlt2
          have hy1 := word_range HD'.out hlt2
          obtain ⟨y, hy⟩ : ∃ y : Nat, ys.getD k 0 = y := ⟨(ys.getD k 0).toNat, by omega⟩
          rw [hy] at hcelly hy1
          have hik : i + k < M := by omega
          have hr2 := word_range hSd' (k := i + k) (by omega)
          obtain ⟨r, hr⟩ : ∃ r : Nat, S'.getD (i + k) 0 = r := ⟨(S'.getD (i + k) 0).toNat, by omega⟩
          have hcr := own_cell hown (j := i + k) (by omega)
          rw [hr] at hcr hr2
          have hfz := hown.frozenAt (i + k)
          obtain ⟨p, t, v, g, e1, b1, e2, b2, e3, e4, b3, b4, hdig⟩ := refdigit x y r cc hx2 (by omega) (by omega) hcc1
          have HO2 := Lib.hid (own_set hown (i + k) (v : Int))
          have HBI := Lib.hid hbw
          have HSL2 : Hid ((S'.set (i + k) (v : Int)).length = M) := Lib.hid (by simpa using hSl')
          have HSD2 := Lib.hid (hSd'.set_ (v := (v : Int)) (by omega) (by omega) (i + k))
          have HDR2 : Hid ((S'.set (i + k) (v : Int)).drop (i + (k + 1)) = S.drop (i + (k + 1))) := Lib.hid (by
            rw [List.drop_set_of_lt (by omega), show i + (k + 1) = (i + k) + 1 by omega, ← List.tail_drop, hdr, List.tail_drop])
          have HINV2 : Hid (nv (S'.set (i + k) (v : Int)) + 4294967296 ^ (i + (k + 1)) * g = nv S + x * 4294967296 ^ i * nv (ys.take (k + 1))) := Lib.hid (by
            have h1 := val_set (b := 4294967296) (S := S') (k := i + k) (by omega) (v : Int)
            rw [hr, Int.toNat_natCast, Int.toNat_natCast] at h1
            have h2 : nv (ys.take (k + 1)) = nv (ys.take k) + 4294967296 ^ k * y := by
              unfold nv
              rw [val_take_step, hy, Int.toNat_natCast]
            rw [h2, show i + (k + 1) = (i + k) + 1 by omega, Nat.pow_succ]
            exact school_step h1 hinv hdig (Nat.pow_add _ _ _))
          clear hca hcb hy hr hown hbw hinv hdr hSl' hSd' hdig
          go_wp2
          go_quiet (fail)
          go_wp2
          go_roundw
          case rel => exact ⟨k + 1, g, _, by omega, by go_num, by first | rfl | (congr 1 <;> omega), b4, HSL2.out, HSD2.out, HINV2.out, HDR2.out, HO2.out, (below_drewN HBI.out _).setCell (p := ⟨w.heap.size, i + k, none⟩) (Nat.le_refl _) (.int .u32 (v : Int))⟩
          case measure => simp [intOf] <;> omega
        · obtain hkx : ys.length = k := by omega
          have hz : S'.getD (i + ys.length) 0 = 0 := by
            have e : ∀ T : List Int, T.getD (i + ys.length) 0 = (T.drop (i + ys.length)).getD 0 0 := fun T => by simp [List.getD_eq_getElem?_getD, List.getElem?_drop]
            rw [e, hkx, hdr, ← hkx, ← e]
            exact HZERO.out
          have hcz := own_cell hown (j := i + ys.length) (by omega)
          rw [hz] at hcz
          have hfz := hown.frozenAt (i + ys.length)
          have hccm : (cc : Int) % 4294967296 = (cc : Int) := by omega
          have HO2 := Lib.hid (own_set hown (i + ys.length) (cc : Int))
          have HB2 := Lib.hid (hbw.setCell (p := ⟨w.heap.size, i + ys.length, none⟩) (Nat.le_refl _) (.int .u32 (cc : Int)))
          have HSL2 : Hid ((S'.set (i + ys.length) (cc : Int)).length = M) := Lib.hid (by simpa using hSl')
          have HSD2 := Lib.hid (hSd'.set_ (v := (cc : Int)) (by omega) (by omega) (i + ys.length))
          have HV2 : Hid (nv (S'.set (i + ys.length) (cc : Int)) = nv (xs.take (i + 1)) * nv ys) := Lib.hid (by
            have h1 := val_set (b := 4294967296) (S := S') (k := i + ys.length) (by omega) (cc : Int)
            rw [hz, Int.toNat_natCast, Int.toNat_zero, Nat.mul_zero, Nat.add_zero] at h1
            rw [← hkx] at hinv
            rw [List.take_of_length_le (Nat.le_refl _), HSV.out] at hinv
            rw [HVS.out, Nat.add_mul, Nat.mul_comm (4294967296 ^ i) x]
            exact h1.trans hinv)
          clear hown hbw hinv hdr hSl' hSd' hz hkx
          go_wp2
          go_roundw
          case rel => exact ⟨i + 1, _, by omega, by go_num, HSL2.out, HSD2.out, HV2.out, HO2.out, HB2.out⟩
          case measure => simp [intOf] <;> omega
    · have hval : nv S = nv xs * nv ys := by rw [hSv, List.take_of_length_le (by omega)]
      obtain ⟨hrl, hrc, hrow⟩ := KL.of_own hown
      have HT0 := reftrim_any (some ⟨w.heap.size, 0, none⟩) S M _ hrow hSd (by omega) (by omega)
      rw [hval, hSl] at HT0
      have HT := Lib.hid HT0
      have HBW := Lib.hid hbw
      clear hown hSd hbw hval hSl hSv hrl hrc hrow HT0
      go_wp2_with (go_at_call 40; (with_reducible refine HT.out.mono ?_); rintro e w' ⟨A2, c2, rfl, hA, hc, hb⟩; have HA := Lib.hid hA; have HB2 := Lib.hid (below_chain HBW.out hb); clear hA hb)
      go_ret
      exact ⟨A2, c2, rfl, HA.out, hc, HB2.out⟩
theorem refmul_any (n m : Nat) (A B : Option Addr) (c d : Nat) (w : World) (h : KL .u32 w w.heap.size A (limbs n)) (h' : KL .u32 w w.heap.size B (limbs m)) (hxl : (limbs n).length ≤ 1000) (hyl : (limbs m).length ≤ 1000) :
    Calls Try.prog 23 #[.slice A (limbs n).length c, .slice B (limbs m).length d] w fun e w' => MadeN (n * m) w e w' := by
  have := refmul_lists A B (limbs n) (limbs m) c d _ w h h' (limbs_dig n) (limbs_dig m) rfl hxl hyl
  rw [nv_limbs, nv_limbs] at this
  exact this
end Go.Proofs.Ytdflhidhnejbbaa
