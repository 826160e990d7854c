/- Contracts of the reference: Add, Sub. -/
import Derived.Test.YtdflhidhnejbbaaRefB
namespace Go.Proofs.Ytdflhidhnejbbaa
open Go.RowKit

set_option maxHeartbeats 400000 in
theorem at_any (A : Option Addr) (xs : List Int) (c k x : Nat) (w : World) (h : KL .u32 w w.heap.size A xs) (hd : D32 xs) (hl : xs.length ≤ 1099511627776) (hk : k ≤ 1099511627776) (hx : xs.getD k 0 = x) :
    Calls Try.prog 39 #[.slice A xs.length c, .int .i64 (k : Int)] w fun e w' => e = .returned (.int .u64 (x : Int)) ∧ w = w' := by
  by_cases hlt : k < xs.length
  · obtain ⟨ad, rfl, _, hcc⟩ := h (by omega)
    have hcell := hcc k hlt
    have hr := word_range hd hlt
    rw [hx] at hcell hr
    clear h hcc hx hd
    go_enter Try.func39, Try.ntmps39
    go_wp2
    go_ret
    exact ⟨rfl, rfl⟩
  · rw [getD_out (by omega)] at hx
    obtain rfl : x = 0 := by omega
    clear h hx hd
    go_enter Try.func39, Try.ntmps39
    go_wp2
    go_ret
    exact ⟨rfl, rfl⟩

set_option maxHeartbeats 1000000 in
theorem refadd_lists (A B : Option Addr) (xs ys : List Int) (c d L : Nat) (w : World) (h : KL .u32 w w.heap.size A xs) (h' : KL .u32 w w.heap.size B ys) (hd : D32 xs) (hd' : D32 ys) (hL : max (xs.length : Int) ys.length = (L : Int)) (hxl : L ≤ 1000) (M : Nat) (hM : M = L + 1) :
    Calls Try.prog 17 #[.slice A xs.length c, .slice B ys.length d] w fun e w' => MadeN (nv xs + nv ys) w e w' := by
  obtain ⟨i0, hi0, hz0, hz1, hz2⟩ := info_parts u32_info
  have hx1 : xs.length ≤ L := by omega
  have hy1 : ys.length ≤ L := by omega
  have hMl : M ≤ 1001 := by omega
  have HM := Lib.hid hM
  have HX1 := Lib.hid hx1
  have HY1 := Lib.hid hy1
  clear hM
  have H := Lib.hid h; clear h
  have H' := Lib.hid h'; clear h'
  have HD := Lib.hid hd; clear hd
  have HD' := Lib.hid hd'; clear hd'
  go_enter Try.func17, Try.ntmps17
  go_wp2_with (at_make; refine wpList_make_full _ rfl _ _ 22 rfl w.heap.size 41 i0 (.int .u32 0) 1 Try.underlying22 hi0 hz0 hz1 _ _ _ _ M rfl rfl (by have := HM.out; omega) (by have := HM.out; omega) (by rw [hz2]; omega) (by unfold maxLen; omega) (Nat.le_refl _) ?_; intro w1 hown hg; have HO := Lib.hid (own_zeros hown); have HB := Lib.hid ((Below.refl w.heap.size w).grown hg (Nat.le_refl _) (fun k hk => by cases hk)); clear hown hg)
  go_loopw [6, 7] (fun cr i wr => ∃ (k c : Nat) (S : List Int), k ≤ M ∧ i = .int .i64 k ∧ cr = .int .u64 c ∧ c ≤ 1 ∧ S.length = M ∧ D32 S ∧
      wr.ownsRow w.heap.size 41 1 (.slice (some ⟨w.heap.size, 0, none⟩) M M) M (S.map (Value.int .u32)) ∧ Below w.heap.size w wr ∧
      val 4294967296 (S.take k) + 4294967296 ^ k * c = val 4294967296 (xs.take k) + val 4294967296 (ys.take k)) (fun _ i _ => M - (intOf i).toNat)
  case atStart => exact ⟨0, 0, List.replicate M 0, Nat.zero_le _, rfl, rfl, by omega, by simp, Dig.zeros (by omega) _, HO.out, HB.out, by simp [val]⟩
  case round =>
    obtain ⟨k, cc, S, hk, rfl, rfl, hc1, hSl, hSd, hown, hbw, hinv⟩ := hrel
    by_cases hlt : k < M
    · have hx2 := D32.get HD.out k
      have hy2 := D32.get HD'.out k
      obtain ⟨x, hx⟩ : ∃ x : Nat, xs.getD k 0 = x := ⟨(xs.getD k 0).toNat, by omega⟩
      obtain ⟨y, hy⟩ : ∃ y : Nat, ys.getD k 0 = y := ⟨(ys.getD k 0).toNat, by omega⟩
      rw [hx] at hx2
      rw [hy] at hy2
      have HAT : Hid (Calls Try.prog 39 #[.slice A xs.length c, .int .i64 (k : Int)] wr fun e w' => e = .returned (.int .u64 (x : Int)) ∧ wr = w') := Lib.hid (at_any A xs c k x wr ((H.out.below hbw).more hbw.size) HD.out (by omega) (by omega) hx)
      have HBT : Hid (Calls Try.prog 39 #[.slice B ys.length d, .int .i64 (k : Int)] wr fun e w' => e = .returned (.int .u64 (y : Int)) ∧ wr = w') := Lib.hid (at_any B ys d k y wr ((H'.out.below hbw).more hbw.size) HD'.out (by omega) (by omega) hy)
      have hfz := hown.frozenAt k
      have hcu := own_cell hown (j := k) (by omega)
      obtain ⟨u, hu⟩ : ∃ u, S.getD k 0 = u := ⟨_, rfl⟩
      rw [hu] at hcu
      obtain ⟨v, hv⟩ : ∃ v : Nat, (cc + x + y) % 4294967296 = v := ⟨_, rfl⟩
      obtain ⟨g, hg⟩ : ∃ g : Nat, (cc + x + y) / 4294967296 = g := ⟨_, rfl⟩
      have hv2 : ((x : Int) + y + cc) % 4294967296 = (v : Int) := by omega
      have hg2 : ((x : Int) + y + cc) / 4294967296 = (g : Int) := by omega
      have hv3 : (v : Int) < 4294967296 := by omega
      have hg3 : g ≤ 1 := by omega
      have HO := Lib.hid (own_set hown k (v : Int))
      have HBW := Lib.hid (hbw.setCell (p := ⟨w.heap.size, k, none⟩) (Nat.le_refl _) (.int .u32 (v : Int)))
      have HSD := Lib.hid (hSd.set_ (v := (v : Int)) (by omega) (by omega) k)
      have HSL : Hid ((S.set k (v : Int)).length = M) := Lib.hid (by simpa using hSl)
      have HINV : Hid (val 4294967296 ((S.set k (v : Int)).take (k + 1)) + 4294967296 ^ (k + 1) * g = val 4294967296 (xs.take (k + 1)) + val 4294967296 (ys.take (k + 1))) := Lib.hid (by
        rw [set_val (by omega), val_take_step, val_take_step, hx, hy, Nat.pow_succ, Int.toNat_natCast, Int.toNat_natCast, ← hv, ← hg]
        exact add_step (by omega) hinv)
      clear hx hy hown hbw hinv hSl hSd hv hg hu hL
      go_wp2_with (first
        | (go_at_call 39; (with_reducible refine HAT.out.mono ?_); rintro e w' ⟨rfl, rfl⟩)
        | (go_at_call 39; (with_reducible refine HBT.out.mono ?_); rintro e w' ⟨rfl, rfl⟩))
      go_roundw
      case rel => exact ⟨k + 1, g, _, by omega, by go_num, by first | rfl | (congr 1 <;> omega), by omega, HSL.out, HSD.out, HO.out, HBW.out, HINV.out⟩
      case measure => simp [intOf] <;> omega
    · obtain rfl : M = k := by omega
      have hval : nv S = nv xs + nv ys := by
        have hM := HM.out
        rw [val_take_all _ (by omega), val_take_all _ (by omega), val_take_all _ (by omega)] at hinv
        have h1 : val 4294967296 xs + val 4294967296 ys < 4294967296 ^ M := by
          have a1 := val_lt HD.out
          have a2 := val_lt HD'.out
          have b1 : 4294967296 ^ xs.length ≤ 4294967296 ^ L := Nat.pow_le_pow_right (by omega) hx1
          have b2 : 4294967296 ^ ys.length ≤ 4294967296 ^ L := Nat.pow_le_pow_right (by omega) hy1
          rw [hM, Nat.pow_succ]
          omega
        have h2 : cc = 0 := by
          rcases (show cc = 0 ∨ cc = 1 by omega) with h | h
          · exact h
          · rw [h, Nat.mul_one] at hinv; omega
        rw [h2, Nat.mul_zero] at hinv
        exact hinv
      obtain ⟨hrl, hrc, hrow⟩ := KL.of_own hown
      have HT : Hid _ := Lib.hid (reftrim_any (some ⟨w.heap.size, 0, none⟩) S M _ hrow hSd (by omega) (by omega))
      rw [hval, hSl] at HT
      have HBW := Lib.hid hbw
      clear hown hSd hbw hinv hval hSl hrl hrc hrow hL
      go_wp2_with (go_at_call 40; (with_reducible refine HT.out.mono ?_); rintro e w' ⟨A2, c2, rfl, hA, hc, hb⟩; have HA := Lib.hid hA; have HB2 := Lib.hid (below_chain HBW.out hb); clear hA hb)
      go_ret
      exact ⟨A2, c2, rfl, HA.out, hc, HB2.out⟩
theorem refadd_any (n m : Nat) (A B : Option Addr) (c d : Nat) (w : World) (h : KL .u32 w w.heap.size A (limbs n)) (h' : KL .u32 w w.heap.size B (limbs m)) (hxl : (limbs n).length ≤ 1000) (hyl : (limbs m).length ≤ 1000) :
    Calls Try.prog 17 #[.slice A (limbs n).length c, .slice B (limbs m).length d] w fun e w' => MadeN (n + m) w e w' := by
  have := refadd_lists A B (limbs n) (limbs m) c d (max (limbs n).length (limbs m).length) w h h' (limbs_dig n) (limbs_dig m) (by omega) (by omega) _ rfl
  rw [nv_limbs, nv_limbs] at this
  exact this
end Go.Proofs.Ytdflhidhnejbbaa
