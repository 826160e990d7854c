/- Contracts of the reference: Sub. -/
import Derived.Test.YtdflhidhnejbbaaRefC
namespace Go.Proofs.Ytdflhidhnejbbaa
open Go.RowKit

theorem sub_value {s x y P br : Nat} (hS : s < P) (h : s + y = x + P * br) (hle : y ≤ x) (hb : br ≤ 1) : s = x - y := by
  rcases (show br = 0 ∨ br = 1 by omega) with h0 | h0
  · rw [h0, Nat.mul_zero] at h; omega
  · rw [h0, Nat.mul_one] at h; omega

set_option maxHeartbeats 1000000 in
theorem refsub_lists (A B : Option Addr) (xs ys : List Int) (c d : Nat) (w : World) (h : KL .u32 w w.heap.size A xs) (h' : KL .u32 w w.heap.size B ys) (hd : D32 xs) (hd' : D32 ys) (hxl : xs.length ≤ 1000) (hyl : ys.length ≤ xs.length) (hle : nv ys ≤ nv xs) (r : Int) (hr : cmpV xs ys = r) (hr0 : 0 ≤ r) :
    Calls Try.prog 14 #[.slice A xs.length c, .slice B ys.length d] w fun e w' => MadeNV (nv xs - nv ys) (.bool true) w e w' := by
  obtain ⟨i0, hi0, hz0, hz1, hz2⟩ := info_parts u32_info
  have HC : Hid (Calls Try.prog 19 #[.slice A xs.length c, .slice B ys.length d] w fun e w' => e = .returned (.int .i64 r) ∧ ∃ n, w' = w.drewN n) :=
    Lib.hid (by rw [← hr]; exact refcmp_lists A B xs ys c d w h h' hd hd' (by omega) (by omega))
  have H := Lib.hid h; clear h
  have H' := Lib.hid h'; clear h'
  have HD := Lib.hid hd; clear hd
  have HD' := Lib.hid hd'; clear hd'
  have HLE := Lib.hid hle
  clear hle hr
  go_enter Try.func14, Try.ntmps14
  go_wp2_with (first
    | (go_at_call 19; (with_reducible refine HC.out.mono ?_); rintro e wc ⟨rfl, hdr⟩; have HBC := Lib.hid (below_of_drewN (Below.refl w.heap.size w) hdr); clear hdr)
    | (at_make; refine wpList_make_full _ rfl _ _ 22 rfl w.heap.size 41 i0 (.int .u32 0) 1 Try.underlying22 hi0 hz0 hz1 _ _ _ _ xs.length rfl rfl (by simp) (by simp) (by rw [hz2]; omega) (by unfold maxLen; omega) HBC.out.size ?_; intro w1 hown hg; have HO := Lib.hid (own_zeros hown); have HB := Lib.hid (HBC.out.grown hg HBC.out.size (fun k hk => by cases hk)); clear hown hg))
  go_loopw [7, 8] (fun cr i wr => ∃ (k c : Nat) (S : List Int), k ≤ xs.length ∧ i = .int .i64 k ∧ cr = .int .u64 c ∧ c ≤ 1 ∧ S.length = xs.length ∧ D32 S ∧
      wr.ownsRow w.heap.size 41 1 (.slice (some ⟨wc.heap.size, 0, none⟩) xs.length xs.length) xs.length (S.map (Value.int .u32)) ∧ Below w.heap.size w wr ∧
      val 4294967296 (S.take k) + val 4294967296 (ys.take k) = val 4294967296 (xs.take k) + 4294967296 ^ k * c) (fun _ i _ => xs.length - (intOf i).toNat)
  case atStart => exact ⟨0, 0, List.replicate xs.length 0, Nat.zero_le _, rfl, rfl, by omega, by simp, Dig.zeros (by omega) _, HO.out, HB.out, by simp [val]⟩
  case round =>
    obtain ⟨k, cc, S, hk, rfl, rfl, hc1, hSl, hSd, hown, hbw, hinv⟩ := hrel
    by_cases hlt : k < xs.length
    · have hx2 := D32.get HD.out k
      have hy2 := D32.get HD'.out k
      obtain ⟨x, hx⟩ : ∃ x : Nat, xs.getD k 0 = x := ⟨(xs.getD k 0).toNat, by omega⟩
      obtain ⟨y, hy⟩ : ∃ y : Nat, ys.getD k 0 = y := ⟨(ys.getD k 0).toNat, by omega⟩
      rw [hx] at hx2
      rw [hy] at hy2
      have HAT : Hid (Calls Try.prog 39 #[.slice A xs.length c, .int .i64 (k : Int)] wr fun e w' => e = .returned (.int .u64 (x : Int)) ∧ wr = w') := Lib.hid (at_any A xs c k x wr ((H.out.below hbw).more hbw.size) HD.out (by omega) (by omega) hx)
      have HBT : Hid (Calls Try.prog 39 #[.slice B ys.length d, .int .i64 (k : Int)] wr fun e w' => e = .returned (.int .u64 (y : Int)) ∧ wr = w') := Lib.hid (at_any B ys d k y wr ((H'.out.below hbw).more hbw.size) HD'.out (by omega) (by omega) hy)
      have hfz := hown.frozenAt k
      have hcu := own_cell hown (j := k) (by omega)
      obtain ⟨u, hu⟩ : ∃ u, S.getD k 0 = u := ⟨_, rfl⟩
      rw [hu] at hcu
      obtain ⟨t, ht⟩ : ∃ t : Nat, (4294967296 : Int) + x - y - cc = (t : Int) := ⟨(4294967296 + x - y - cc), by omega⟩
      obtain ⟨v, hv⟩ : ∃ v : Nat, t % 4294967296 = v := ⟨_, rfl⟩
      obtain ⟨f, hf⟩ : ∃ f : Nat, t / 4294967296 = f := ⟨_, rfl⟩
      have hf1 : f ≤ 1 := by omega
      obtain ⟨g, hg⟩ : ∃ g : Nat, (1 : Int) - f = (g : Int) := ⟨1 - f, by omega⟩
      have htb : t ≤ 8589934591 := by omega
      have hv2 : (t : Int) % 4294967296 = (v : Int) := by omega
      have hf2 : (t : Int) / 4294967296 = (f : Int) := by omega
      have hv3 : (v : Int) < 4294967296 := by omega
      have hg3 : g ≤ 1 := by omega
      have heq : v + cc + y = x + 4294967296 * g := by omega
      have HO := Lib.hid (own_set hown k (v : Int))
      have HBW := Lib.hid (hbw.setCell (p := ⟨wc.heap.size, k, none⟩) HBC.out.size (.int .u32 (v : Int)))
      have HSD := Lib.hid (hSd.set_ (v := (v : Int)) (by omega) (by omega) k)
      have HSL : Hid ((S.set k (v : Int)).length = xs.length) := Lib.hid (by simpa using hSl)
      have HINV : Hid (val 4294967296 ((S.set k (v : Int)).take (k + 1)) + val 4294967296 (ys.take (k + 1)) = val 4294967296 (xs.take (k + 1)) + 4294967296 ^ (k + 1) * g) := Lib.hid (by
        rw [set_val (by omega), val_take_step, val_take_step, hx, hy, Nat.pow_succ, Int.toNat_natCast, Int.toNat_natCast]
        exact sub_step hinv heq)
      clear hx hy hown hbw hinv hSl hSd hv hf hu heq
      go_wp2_with (first
        | (go_at_call 39; (with_reducible refine HAT.out.mono ?_); rintro e w' ⟨rfl, rfl⟩)
        | (go_at_call 39; (with_reducible refine HBT.out.mono ?_); rintro e w' ⟨rfl, rfl⟩))
      go_roundw
      case rel => exact ⟨k + 1, g, _, by omega, by go_num, by first | rfl | (congr 1 <;> omega), by omega, HSL.out, HSD.out, HO.out, HBW.out, HINV.out⟩
      case measure => simp [intOf] <;> omega
    · obtain hkx : k = xs.length := by omega
      have hval : nv S = nv xs - nv ys := by
        rw [val_take_all _ (by omega), val_take_all _ (by omega), val_take_all _ (by omega)] at hinv
        have h1 := val_lt hSd
        rw [hSl, ← hkx] at h1
        exact sub_value h1 hinv HLE.out hc1
      obtain ⟨hrl, hrc, hrow⟩ := KL.of_own hown
      have HT0 := reftrim_any (some ⟨wc.heap.size, 0, none⟩) S xs.length _ hrow hSd (by omega) (by omega)
      rw [hval, hSl] at HT0
      have HT := Lib.hid HT0
      have HBW := Lib.hid hbw
      clear hown hSd hbw hinv hval hSl hrl hrc hrow HT0
      go_wp2_with (go_at_call 40; (with_reducible refine HT.out.mono ?_); rintro e w' ⟨A2, c2, rfl, hA, hc, hb⟩; have HA := Lib.hid hA; have HB2 := Lib.hid (below_chain HBW.out hb); clear hA hb)
      go_ret2
      exact ⟨A2, c2, rfl, HA.out, hc, HB2.out⟩

set_option maxHeartbeats 400000 in
theorem refsub_no (n m : Nat) (A B : Option Addr) (c d : Nat) (w : World) (h : KL .u32 w w.heap.size A (limbs n)) (h' : KL .u32 w w.heap.size B (limbs m)) (hxl : (limbs n).length ≤ 1000) (hyl : (limbs m).length ≤ 1000) (hlt : n < m) :
    Calls Try.prog 14 #[.slice A (limbs n).length c, .slice B (limbs m).length d] w fun e w' => MadeNV 0 (.bool false) w e w' := by
  have hcmp := refcmp_lists A B (limbs n) (limbs m) c d w h h' (limbs_dig n) (limbs_dig m) (by omega) (by omega)
  have e : cmpV (limbs n) (limbs m) = -1 := by rw [cmpV_limbs]; unfold cmpN; rw [if_pos hlt]
  rw [e] at hcmp
  have HC := Lib.hid hcmp
  clear hcmp e h h' hlt
  go_enter Try.func14, Try.ntmps14
  go_wp2_with (go_at_call 19; (with_reducible refine HC.out.mono ?_); rintro e wc ⟨rfl, hdr⟩; have HBC := Lib.hid (below_of_drewN (Below.refl w.heap.size w) hdr); clear hdr)
  go_ret2
  exact ⟨none, 0, by rw [limbs_zero]; rfl, by rw [limbs_zero]; exact KL.nil_, by rw [limbs_zero]; decide, HBC.out⟩
theorem refsub_any (n m : Nat) (A B : Option Addr) (c d : Nat) (w : World) (h : KL .u32 w w.heap.size A (limbs n)) (h' : KL .u32 w w.heap.size B (limbs m)) (hxl : (limbs n).length ≤ 1000) (hyl : (limbs m).length ≤ 1000) :
    Calls Try.prog 14 #[.slice A (limbs n).length c, .slice B (limbs m).length d] w fun e w' => MadeNV (n - m) (.bool (decide (m ≤ n))) w e w' := by
  by_cases hle : m ≤ n
  · have := refsub_lists A B (limbs n) (limbs m) c d w h h' (limbs_dig n) (limbs_dig m) hxl (lens_of_le hle) (by rw [nv_limbs, nv_limbs]; exact hle) (cmpN n m) (cmpV_limbs n m) (by unfold cmpN; rw [if_neg (by omega)]; split <;> omega)
    rw [nv_limbs, nv_limbs] at this
    rw [decide_eq_true hle]
    exact this
  · rw [decide_eq_false hle, show n - m = 0 by omega]
    exact refsub_no n m A B c d w h h' hxl hyl (by omega)
end Go.Proofs.Ytdflhidhnejbbaa
