/- Contracts: Add. -/
import Derived.Test.YtdflhidhnejbbaaCmp
namespace Go.Proofs.Ytdflhidhnejbbaa
open Go.RowKit

theorem u32_info : (Try.prog.info? 41).map (fun i => (i.zero, i.size, i.bytes)) = some (some (.int .u32 0), 1, 4) := by kernel_rfl
theorem val_take_step {b : Nat} {xs : List Int} (k : Nat) : val b (xs.take (k + 1)) = val b (xs.take k) + b ^ k * (xs.getD k 0).toNat := by
  rcases Nat.lt_or_ge k xs.length with h | h
  · exact val_take_succ k h
  · rw [List.take_of_length_le (by omega), List.take_of_length_le h]
    simp [List.getD_eq_getElem?_getD, h]
theorem take_set_succ {S : List Int} {k : Nat} (h : k < S.length) (v : Int) : (S.set k v).take (k + 1) = S.take k ++ [v] := by
  rw [List.take_succ_eq_append_getElem (by simpa using h), List.take_set_of_le (by omega)]
  simp
theorem D32.set_ {S : List Int} (h : D32 S) {v : Int} (h0 : 0 ≤ v) (h1 : v < 4294967296) (k : Nat) : D32 (S.set k v) := fun x hx => by
  rcases List.mem_or_eq_of_mem_set hx with hx | rfl
  · exact h x hx
  · exact ⟨h0, by omega⟩
theorem add_step {B P c x y a b s : Nat} (_hB : 0 < B) (h : s + P * c = a + b) : s + P * ((c + x + y) % B) + P * B * ((c + x + y) / B) = a + P * x + (b + P * y) := by
  have h1 := Nat.mod_add_div (c + x + y) B
  have h2 : P * ((c + x + y) % B) + P * B * ((c + x + y) / B) = P * (c + x + y) := by rw [Nat.mul_assoc, ← Nat.mul_add, h1]
  have h3 : P * (c + x + y) = P * c + P * x + P * y := by rw [Nat.mul_add, Nat.mul_add]
  omega

set_option maxHeartbeats 1000000 in
theorem add_ge (A B : Option Addr) (xs ys : List Int) (c d : Nat) (w : World) (h : KL .u32 w w.heap.size A xs) (h' : KL .u32 w w.heap.size B ys) (hd : D32 xs) (hd' : D32 ys) (hxl : xs.length ≤ 1099511627776) (hyl : ys.length ≤ xs.length) :
    Calls Try.prog 16 #[.slice A xs.length c, .slice B ys.length d] w fun e w' => ∃ A c, e = .returned (.slice A (limbs (nv xs + nv ys)).length c) ∧ KL .u32 w' w'.heap.size A (limbs (nv xs + nv ys)) ∧ (limbs (nv xs + nv ys)).length ≤ c ∧ Below w.heap.size w w' := by
  obtain ⟨i0, hi0, hz0, hz1, hz2⟩ := info_parts u32_info
  have H := Lib.hid h; clear h
  have H' := Lib.hid h'; clear h'
  have HD := Lib.hid hd; clear hd
  have HD' := Lib.hid hd'; clear hd'
  go_enter Try.func16, Try.ntmps16
  go_wp2_with (at_make; refine wpList_make_full _ rfl _ _ 22 rfl w.heap.size 41 i0 (.int .u32 0) 1 Try.underlying22 hi0 hz0 hz1 _ _ _ _ (xs.length + 1) rfl rfl (by simp) (by simp) (by rw [hz2]; omega) (by unfold maxLen; omega) (Nat.le_refl _) ?_; intro w1 hown hg; have HO := Lib.hid (own_zeros hown); have HB := Lib.hid ((Below.refl w.heap.size w).grown hg (Nat.le_refl _) (fun k hk => by cases hk)); clear hown hg)
  go_loopw [6, 22] (fun cr i wr => ∃ (k c : Nat) (S : List Int), k ≤ xs.length ∧ i = .int .i64 k ∧ cr = .int .u64 c ∧ c ≤ 1 ∧ S.length = xs.length + 1 ∧ D32 S ∧
      wr.ownsRow w.heap.size 41 1 (.slice (some ⟨w.heap.size, 0, none⟩) (xs.length + 1) (xs.length + 1)) (xs.length + 1) (S.map (Value.int .u32)) ∧ Below w.heap.size w wr ∧
      val 4294967296 (S.take k) + 4294967296 ^ k * c = val 4294967296 (xs.take k) + val 4294967296 (ys.take k)) (fun _ i _ => xs.length - (intOf i).toNat)
  case atStart => exact ⟨0, 0, List.replicate (xs.length + 1) 0, Nat.zero_le _, rfl, rfl, by omega, by simp, Dig.zeros (by omega) _, HO.out, HB.out, by simp [val]⟩
  case round =>
    obtain ⟨k, cc, S, hk, rfl, rfl, hc1, hSl, hSd, hown, hbw, hinv⟩ := hrel
    by_cases hlt : k < xs.length
    · obtain ⟨ad, rfl, hab, hcc⟩ := (H.out.below hbw) (by omega)
      have hcell := hcc k hlt
      have hx1 := word_range HD.out hlt
      obtain ⟨x, hx⟩ : ∃ x : Nat, xs.getD k 0 = x := ⟨(xs.getD k 0).toNat, by omega⟩
      rw [hx] at hcell hx1
      have hfz := hown.frozenAt k
      have hcu := own_cell hown (j := k) (by omega)
      by_cases hlt2 : k < ys.length
      · obtain ⟨bd, rfl, hbb, hcc'⟩ := (H'.out.below hbw) (by omega)
        have hcell' := hcc' k hlt2
        have hy1 := word_range HD'.out hlt2
        obtain ⟨y, hy⟩ : ∃ y : Nat, ys.getD k 0 = y := ⟨(ys.getD k 0).toNat, by omega⟩
        rw [hy] at hcell' hy1
        have HO := Lib.hid (own_set hown k (((cc : Int) + x + y) % 4294967296))
        have HBW := Lib.hid (hbw.setCell (p := ⟨w.heap.size, k, none⟩) (Nat.le_refl _) (.int .u32 (((cc : Int) + x + y) % 4294967296)))
        have HSD := Lib.hid (hSd.set_ (v := ((cc : Int) + x + y) % 4294967296) (by omega) (by omega) k)
        have HSL : Hid ((S.set k (((cc : Int) + x + y) % 4294967296)).length = xs.length + 1) := Lib.hid (by simpa using hSl)
        have HINV : Hid (val 4294967296 ((S.set k (((cc : Int) + x + y) % 4294967296)).take (k + 1)) + 4294967296 ^ (k + 1) * ((cc + x + y) / 4294967296) = val 4294967296 (xs.take (k + 1)) + val 4294967296 (ys.take (k + 1))) := Lib.hid (by
          have e1 : (((cc : Int) + x + y) % 4294967296).toNat = (cc + x + y) % 4294967296 := by omega
          rw [take_set_succ (by omega), val_snoc, List.length_take, Nat.min_eq_left (by omega), e1, val_take_step, val_take_step, hx, hy, Nat.pow_succ, Int.toNat_natCast, Int.toNat_natCast]
          exact add_step (by omega) hinv)
        clear hcc hcc' hx hy hown hbw hinv hSl hSd
        go_wp2
        go_roundw
        case rel => exact ⟨k + 1, (cc + x + y) / 4294967296, _, by omega, by go_num, by congr 1 <;> omega, by omega, HSL.out, HSD.out, HO.out, HBW.out, HINV.out⟩
        case measure => simp [intOf] <;> omega
      · have hy : ys.getD k 0 = ((0 : Nat) : Int) := by simp [List.getD_eq_getElem?_getD, show ys.length ≤ k by omega]
        have HO := Lib.hid (own_set hown k (((cc : Int) + x) % 4294967296))
        have HBW := Lib.hid (hbw.setCell (p := ⟨w.heap.size, k, none⟩) (Nat.le_refl _) (.int .u32 (((cc : Int) + x) % 4294967296)))
        have HSD := Lib.hid (hSd.set_ (v := ((cc : Int) + x) % 4294967296) (by omega) (by omega) k)
        have HSL : Hid ((S.set k (((cc : Int) + x) % 4294967296)).length = xs.length + 1) := Lib.hid (by simpa using hSl)
        have HINV : Hid (val 4294967296 ((S.set k (((cc : Int) + x) % 4294967296)).take (k + 1)) + 4294967296 ^ (k + 1) * ((cc + x + 0) / 4294967296) = val 4294967296 (xs.take (k + 1)) + val 4294967296 (ys.take (k + 1))) := Lib.hid (by
          have e1 : (((cc : Int) + x) % 4294967296).toNat = (cc + x + 0) % 4294967296 := by omega
          rw [take_set_succ (by omega), val_snoc, List.length_take, Nat.min_eq_left (by omega), e1, val_take_step, val_take_step, hx, hy, Nat.pow_succ, Int.toNat_natCast, Int.toNat_natCast]
          exact add_step (by omega) hinv)
        clear hcc  hx hy hown hbw hinv hSl hSd
        go_wp2
        go_roundw
        case rel => exact ⟨k + 1, (cc + x + 0) / 4294967296, _, by omega, by go_num, by congr 1 <;> omega, by omega, HSL.out, HSD.out, HO.out, HBW.out, HINV.out⟩
        case measure => simp [intOf] <;> omega
    · obtain rfl : k = xs.length := by omega
      have hfz := hown.frozenAt xs.length
      have hcu := own_cell hown (j := xs.length) (by omega)
      have hown2 := own_set hown xs.length (cc : Int)
      have hSd2 := hSd.set_ (v := (cc : Int)) (by omega) (by omega) xs.length
      have hbw2 := hbw.setCell (p := ⟨w.heap.size, xs.length, none⟩) (Nat.le_refl _) (.int .u32 (cc : Int))
      have hval : nv (S.set xs.length (cc : Int)) = nv xs + nv ys := by
        have h1 := val_take_all (b := 4294967296) (xs := S.set xs.length (cc : Int)) (xs.length + 1) (by simp; omega)
        rw [take_set_succ (by omega), val_snoc, List.length_take, Nat.min_eq_left (by omega), Int.toNat_natCast, hinv, val_take_all _ (Nat.le_refl _), val_take_all _ (by omega)] at h1
        exact h1.symm
      have hmod : ((cc : Int) % 4294967296) = cc := by omega
      have hSl2 : (S.set xs.length (cc : Int)).length = xs.length + 1 := by simpa using hSl
      obtain ⟨hrl, hrc, hrow⟩ := KL.of_own hown2
      have HT : Hid _ := Lib.hid (trim_any (some ⟨w.heap.size, 0, none⟩) (S.set xs.length (cc : Int)) (xs.length + 1) _ hrow hSd2 (by omega) (by omega))
      have hkl := trim_KL hrow hSd2
      rw [hval, hSl2] at HT
      rw [hval] at hkl
      have HKL := Lib.hid hkl
      have HBW := Lib.hid hbw2
      clear hown hown2 hSd hSd2 hbw hbw2 hinv hval hSl hSl2 hrl hrc hrow hkl hyl
      go_wp2_with (go_at_call 38; (with_reducible refine HT.out.mono ?_); rintro e w' ⟨rfl, rfl⟩)
      go_ret
      exact ⟨_, _, rfl, HKL.out, Nat.le_refl _, HBW.out⟩

set_option maxHeartbeats 1000000 in
theorem add_lt (A B : Option Addr) (xs ys : List Int) (c d : Nat) (w : World) (h : KL .u32 w w.heap.size A xs) (h' : KL .u32 w w.heap.size B ys) (hd : D32 xs) (hd' : D32 ys) (hxl : xs.length ≤ 1099511627776) (hyl : ys.length < xs.length) :
    Calls Try.prog 16 #[.slice B ys.length d, .slice A xs.length c] w fun e w' => ∃ A c, e = .returned (.slice A (limbs (nv xs + nv ys)).length c) ∧ KL .u32 w' w'.heap.size A (limbs (nv xs + nv ys)) ∧ (limbs (nv xs + nv ys)).length ≤ c ∧ Below w.heap.size w w' := by
  obtain ⟨i0, hi0, hz0, hz1, hz2⟩ := info_parts u32_info
  have H := Lib.hid h; clear h
  have H' := Lib.hid h'; clear h'
  have HD := Lib.hid hd; clear hd
  have HD' := Lib.hid hd'; clear hd'
  go_enter Try.func16, Try.ntmps16
  go_wp2_with (at_make; refine wpList_make_full _ rfl _ _ 22 rfl w.heap.size 41 i0 (.int .u32 0) 1 Try.underlying22 hi0 hz0 hz1 _ _ _ _ (xs.length + 1) rfl rfl (by simp) (by simp) (by rw [hz2]; omega) (by unfold maxLen; omega) (Nat.le_refl _) ?_; intro w1 hown hg; have HO := Lib.hid (own_zeros hown); have HB := Lib.hid ((Below.refl w.heap.size w).grown hg (Nat.le_refl _) (fun k hk => by cases hk)); clear hown hg)
  go_loopw [6, 22] (fun cr i wr => ∃ (k c : Nat) (S : List Int), k ≤ xs.length ∧ i = .int .i64 k ∧ cr = .int .u64 c ∧ c ≤ 1 ∧ S.length = xs.length + 1 ∧ D32 S ∧
      wr.ownsRow w.heap.size 41 1 (.slice (some ⟨w.heap.size, 0, none⟩) (xs.length + 1) (xs.length + 1)) (xs.length + 1) (S.map (Value.int .u32)) ∧ Below w.heap.size w wr ∧
      val 4294967296 (S.take k) + 4294967296 ^ k * c = val 4294967296 (xs.take k) + val 4294967296 (ys.take k)) (fun _ i _ => xs.length - (intOf i).toNat)
  case atStart => exact ⟨0, 0, List.replicate (xs.length + 1) 0, Nat.zero_le _, rfl, rfl, by omega, by simp, Dig.zeros (by omega) _, HO.out, HB.out, by simp [val]⟩
  case round =>
    obtain ⟨k, cc, S, hk, rfl, rfl, hc1, hSl, hSd, hown, hbw, hinv⟩ := hrel
    by_cases hlt : k < xs.length
    · obtain ⟨ad, rfl, hab, hcc⟩ := (H.out.below hbw) (by omega)
      have hcell := hcc k hlt
      have hx1 := word_range HD.out hlt
      obtain ⟨x, hx⟩ : ∃ x : Nat, xs.getD k 0 = x := ⟨(xs.getD k 0).toNat, by omega⟩
      rw [hx] at hcell hx1
      have hfz := hown.frozenAt k
      have hcu := own_cell hown (j := k) (by omega)
      by_cases hlt2 : k < ys.length
      · obtain ⟨bd, rfl, hbb, hcc'⟩ := (H'.out.below hbw) (by omega)
        have hcell' := hcc' k hlt2
        have hy1 := word_range HD'.out hlt2
        obtain ⟨y, hy⟩ : ∃ y : Nat, ys.getD k 0 = y := ⟨(ys.getD k 0).toNat, by omega⟩
        rw [hy] at hcell' hy1
        have HO := Lib.hid (own_set hown k (((cc : Int) + x + y) % 4294967296))
        have HBW := Lib.hid (hbw.setCell (p := ⟨w.heap.size, k, none⟩) (Nat.le_refl _) (.int .u32 (((cc : Int) + x + y) % 4294967296)))
        have HSD := Lib.hid (hSd.set_ (v := ((cc : Int) + x + y) % 4294967296) (by omega) (by omega) k)
        have HSL : Hid ((S.set k (((cc : Int) + x + y) % 4294967296)).length = xs.length + 1) := Lib.hid (by simpa using hSl)
        have HINV : Hid (val 4294967296 ((S.set k (((cc : Int) + x + y) % 4294967296)).take (k + 1)) + 4294967296 ^ (k + 1) * ((cc + x + y) / 4294967296) = val 4294967296 (xs.take (k + 1)) + val 4294967296 (ys.take (k + 1))) := Lib.hid (by
          have e1 : (((cc : Int) + x + y) % 4294967296).toNat = (cc + x + y) % 4294967296 := by omega
          rw [take_set_succ (by omega), val_snoc, List.length_take, Nat.min_eq_left (by omega), e1, val_take_step, val_take_step, hx, hy, Nat.pow_succ, Int.toNat_natCast, Int.toNat_natCast]
          exact add_step (by omega) hinv)
        clear hcc hcc' hx hy hown hbw hinv hSl hSd
        go_wp2
        go_roundw
        case rel => exact ⟨k + 1, (cc + x + y) / 4294967296, _, by omega, by go_num, by congr 1 <;> omega, by omega, HSL.out, HSD.out, HO.out, HBW.out, HINV.out⟩
        case measure => simp [intOf] <;> omega
      · have hy : ys.getD k 0 = ((0 : Nat) : Int) := by simp [List.getD_eq_getElem?_getD, show ys.length ≤ k by omega]
        have HO := Lib.hid (own_set hown k (((cc : Int) + x) % 4294967296))
        have HBW := Lib.hid (hbw.setCell (p := ⟨w.heap.size, k, none⟩) (Nat.le_refl _) (.int .u32 (((cc : Int) + x) % 4294967296)))
        have HSD := Lib.hid (hSd.set_ (v := ((cc : Int) + x) % 4294967296) (by omega) (by omega) k)
        have HSL : Hid ((S.set k (((cc : Int) + x) % 4294967296)).length = xs.length + 1) := Lib.hid (by simpa using hSl)
        have HINV : Hid (val 4294967296 ((S.set k (((cc : Int) + x) % 4294967296)).take (k + 1)) + 4294967296 ^ (k + 1) * ((cc + x + 0) / 4294967296) = val 4294967296 (xs.take (k + 1)) + val 4294967296 (ys.take (k + 1))) := Lib.hid (by
          have e1 : (((cc : Int) + x) % 4294967296).toNat = (cc + x + 0) % 4294967296 := by omega
          rw [take_set_succ (by omega), val_snoc, List.length_take, Nat.min_eq_left (by omega), e1, val_take_step, val_take_step, hx, hy, Nat.pow_succ, Int.toNat_natCast, Int.toNat_natCast]
          exact add_step (by omega) hinv)
        clear hcc  hx hy hown hbw hinv hSl hSd
        go_wp2
        go_roundw
        case rel => exact ⟨k + 1, (cc + x + 0) / 4294967296, _, by omega, by go_num, by congr 1 <;> omega, by omega, HSL.out, HSD.out, HO.out, HBW.out, HINV.out⟩
        case measure => simp [intOf] <;> omega
    · obtain rfl : k = xs.length := by omega
      have hfz := hown.frozenAt xs.length
      have hcu := own_cell hown (j := xs.length) (by omega)
      have hown2 := own_set hown xs.length (cc : Int)
      have hSd2 := hSd.set_ (v := (cc : Int)) (by omega) (by omega) xs.length
      have hbw2 := hbw.setCell (p := ⟨w.heap.size, xs.length, none⟩) (Nat.le_refl _) (.int .u32 (cc : Int))
      have hval : nv (S.set xs.length (cc : Int)) = nv xs + nv ys := by
        have h1 := val_take_all (b := 4294967296) (xs := S.set xs.length (cc : Int)) (xs.length + 1) (by simp; omega)
        rw [take_set_succ (by omega), val_snoc, List.length_take, Nat.min_eq_left (by omega), Int.toNat_natCast, hinv, val_take_all _ (Nat.le_refl _), val_take_all _ (by omega)] at h1
        exact h1.symm
      have hmod : ((cc : Int) % 4294967296) = cc := by omega
      have hSl2 : (S.set xs.length (cc : Int)).length = xs.length + 1 := by simpa using hSl
      obtain ⟨hrl, hrc, hrow⟩ := KL.of_own hown2
      have HT : Hid _ := Lib.hid (trim_any (some ⟨w.heap.size, 0, none⟩) (S.set xs.length (cc : Int)) (xs.length + 1) _ hrow hSd2 (by omega) (by omega))
      have hkl := trim_KL hrow hSd2
      rw [hval, hSl2] at HT
      rw [hval] at hkl
      have HKL := Lib.hid hkl
      have HBW := Lib.hid hbw2
      clear hown hown2 hSd hSd2 hbw hbw2 hinv hval hSl hSl2 hrl hrc hrow hkl hyl
      go_wp2_with (go_at_call 38; (with_reducible refine HT.out.mono ?_); rintro e w' ⟨rfl, rfl⟩)
      go_ret
      exact ⟨_, _, rfl, HKL.out, Nat.le_refl _, HBW.out⟩

/-- A number that was made: a slice that reads as its limbs; nothing that was there has turned. -/
def MadeN (n : Nat) (w : World) (e : Ending) (w' : World) : Prop :=
  ∃ A c, e = .returned (.slice A (limbs n).length c) ∧ KL .u32 w' w'.heap.size A (limbs n) ∧ (limbs n).length ≤ c ∧ Below w.heap.size w w'

theorem add_any (n m : Nat) (A B : Option Addr) (c d : Nat) (w : World) (h : KL .u32 w w.heap.size A (limbs n)) (h' : KL .u32 w w.heap.size B (limbs m)) (hxl : (limbs n).length ≤ 1099511627776) (hyl : (limbs m).length ≤ 1099511627776) :
    Calls Try.prog 16 #[.slice A (limbs n).length c, .slice B (limbs m).length d] w fun e w' => MadeN (n + m) w e w' := by
  rcases Nat.lt_or_ge (limbs n).length (limbs m).length with hlt | hge
  · have := add_lt B A (limbs m) (limbs n) d c w h' h (limbs_dig m) (limbs_dig n) hyl hlt
    rw [nv_limbs, nv_limbs, Nat.add_comm m n] at this
    exact this
  · have := add_ge A B (limbs n) (limbs m) c d w h h' (limbs_dig n) (limbs_dig m) hxl hge
    rw [nv_limbs, nv_limbs] at this
    exact this
end Go.Proofs.Ytdflhidhnejbbaa
