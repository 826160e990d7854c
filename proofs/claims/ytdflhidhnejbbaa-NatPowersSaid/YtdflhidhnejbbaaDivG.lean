/- Contracts: divWords. -/
import Derived.Test.YtdflhidhnejbbaaDivF
import Derived.Deep.RegionWith
namespace Go.Proofs.Ytdflhidhnejbbaa
open Go.RowKit

/-- Words of a quotient and of a rest that were made. -/
def MadeWW (q r : Nat) (w : World) (e : Ending) (w' : World) : Prop :=
  ∃ (A B : Option Addr) (ws vs : List Int) (c d : Nat), e = .returned (.tuple #[.slice A ws.length c, .slice B vs.length d]) ∧ W64 ws ∧ W64 vs ∧ wv ws = q ∧ wv vs = r ∧ KL .u64 w' w'.heap.size A ws ∧ KL .u64 w' w'.heap.size B vs ∧ ws.length ≤ 1099511627776 ∧ vs.length ≤ 1099511627776 ∧ Below w.heap.size w w'

theorem drop_set_val {b : Nat} {Q : List Int} {j : Nat} (h : j < Q.length) (q : Nat) : val b ((Q.set j (q : Int)).drop j) = q + b * val b (Q.drop (j + 1)) := by
  rw [drop_at (by simpa using h), val_cons, getD_set _ h, if_pos rfl, List.drop_set_of_lt (by omega), Int.toNat_natCast]
theorem short_step {B H Qv x y r q r' : Nat} (h : H = Qv * y + r) (hq : (r * B + x) / y = q) (hr : (r * B + x) % y = r') : x + B * H = (q + B * Qv) * y + r' := by
  have h1 := Nat.div_add_mod (r * B + x) y
  rw [hq, hr] at h1
  rw [h, Nat.mul_add, Nat.add_mul, Nat.mul_assoc, Nat.mul_comm q y, Nat.mul_comm B r]
  omega

set_option maxHeartbeats 2000000 in
theorem divWords_one (A B : Option Addr) (xs ys : List Int) (c d : Nat) (w : World) (h : KL .u64 w w.heap.size A xs) (h' : KL .u64 w w.heap.size B ys) (hd : W64 xs) (hxl : xs.length ≤ 1099511627776) (hyl : ys.length = 1) (y : Nat) (hy : ys.getD 0 0 = y) (hy1 : 0 < y) (hy2 : y ≤ 18446744073709551615) :
    Calls Try.prog 42 #[.slice A xs.length c, .slice B 1 d] w fun e w' => MadeWW (wv xs / y) (wv xs % y) w e w' := by
  obtain ⟨i0, hi0, hz0, hz1, hz2⟩ := info_parts u64_info
  obtain ⟨bd, rfl, hbb, hbc⟩ := h' (by omega)
  have hcy := hbc 0 (by omega)
  rw [hy] at hcy
  have H := Lib.hid h
  have HD := Lib.hid hd
  have HCY : Hid (∀ W : World, Below w.heap.size w W → W.cell? (bd.add 0) = some (.int .u64 (y : Int))) := Lib.hid fun W hb => (hb.cell (by rw [block_of_add]; exact hbb)).trans hcy
  clear h h' hd hbc hcy hy hyl
  go_enter Try.func42, Try.ntmps42
  go_wp2_with (at_make; refine wpList_make_full _ rfl _ _ 47 rfl w.heap.size 36 i0 (.int .u64 0) 1 Try.underlying47 hi0 hz0 hz1 _ _ _ _ xs.length rfl rfl (by simp) (by simp) (by rw [hz2]; omega) (by unfold maxLen; omega) (Nat.le_refl _) ?_; intro w1 hown hg; have HO := Lib.hid (own_zeros hown); have HB := Lib.hid ((Below.refl w.heap.size w).grown hg (Nat.le_refl _) (fun k hk => by cases hk)); clear hown hg)
  go_loopg [6, 7] xs.length (fun gk rv iv wr => ∃ (k r : Nat) (Q : List Int), k ≤ xs.length ∧ iv = .int .i64 ((k : Int) - 1) ∧ rv = .int .u64 r ∧ r < y ∧ Q.length = xs.length ∧ W64 Q ∧ val 18446744073709551616 (xs.drop k) = val 18446744073709551616 (Q.drop k) * y + r ∧
      wr.ownsRow w.heap.size 36 1 (.slice (some ⟨w.heap.size, 0, none⟩) xs.length xs.length) xs.length (Q.map (Value.int .u64)) ∧ Below w.heap.size w wr ∧ k = gk)
  case atStart => exact ⟨xs.length, 0, _, Nat.le_refl _, rfl, rfl, hy1, by simp, Dig.zeros (by omega) _, by rw [List.drop_of_length_le (Nat.le_refl _), List.drop_of_length_le (by simp)]; simp [val], HO.out, HB.out, rfl⟩
  case round =>
    obtain ⟨k, r, Q, hk, rfl, rfl, hr, hQl, hQd, hinv, hown, hbw, hkg⟩ := hrel
    by_cases hk0 : 0 < k
    · obtain ⟨j, rfl⟩ : ∃ j, k = j + 1 := ⟨k - 1, by omega⟩
      have hki : ((j + 1 : Nat) : Int) - 1 = (j : Int) := by omega
      rw [hki]
      obtain ⟨ad, rfl, hab, hcc⟩ := (H.out.below hbw) (by omega)
      have hcell := hcc j (by omega)
      have hx1 := long_range HD.out (k := j) (by omega)
      obtain ⟨x, hx⟩ : ∃ x : Nat, xs.getD j 0 = x := ⟨(xs.getD j 0).toNat, by omega⟩
      rw [hx] at hcell hx1
      have hcy : wr.cell? bd = some (.int .u64 (y : Int)) := by simpa [Addr.add] using HCY.out _ hbw
      have hcq := own_cell hown (j := j) (by omega)
      obtain ⟨u, hu⟩ : ∃ u, Q.getD j 0 = u := ⟨_, rfl⟩
      rw [hu] at hcq
      have hfz := hown.frozenAt j
      obtain ⟨q, hq⟩ : ∃ q, (r * 18446744073709551616 + x) / y = q := ⟨_, rfl⟩
      obtain ⟨r', hr'⟩ : ∃ r', (r * 18446744073709551616 + x) % y = r' := ⟨_, rfl⟩
      have hqb : q < 18446744073709551616 := by
        rw [← hq, Nat.div_lt_iff_lt_mul hy1]
        have : (r + 1) * 18446744073709551616 ≤ y * 18446744073709551616 := Nat.mul_le_mul_right _ hr
        omega
      have hrb : r' < y := by rw [← hr']; exact Nat.mod_lt _ hy1
      have HDIV : Hid (∀ W : World, Calls Try.prog 50 #[.int .u64 (r : Int), .int .u64 (x : Int), .int .u64 (y : Int)] W fun e w' => e = .returned (.tuple #[.int .u64 (q : Int), .int .u64 (r' : Int)]) ∧ ∃ n, w' = W.drewN n) :=
        Lib.hid fun W => by rw [← hq, ← hr']; exact div64_any r x y W hr hy2 (by omega)
      have HO2 := Lib.hid (own_set hown j (q : Int))
      have HQL2 : Hid ((Q.set j (q : Int)).length = xs.length) := Lib.hid (by simpa using hQl)
      have HQD2 := Lib.hid (hQd.set_ (v := (q : Int)) (by omega) (by omega) j)
      have HINV2 : Hid (val 18446744073709551616 (xs.drop j) = val 18446744073709551616 ((Q.set j (q : Int)).drop j) * y + r') := Lib.hid (by
        rw [drop_set_val (by omega), drop_at (by omega), val_cons, hx, Int.toNat_natCast]
        exact short_step hinv hq hr')
      have HBW := Lib.hid hbw
      have HKG := Lib.hid hkg
      clear hcc hx hu hq hr' hinv hown hbw hQl hQd hkg hki
      go_wp2
      go_region_with ((go_at_call 50; (with_reducible refine (HDIV.out _).mono ?_); rintro e w' ⟨rfl, n, rfl⟩))
      all_goals
        go_wp2
        go_roundg j
        case measure => have := HKG.out; omega
        case rel => exact ⟨j, r', _, by omega, rfl, rfl, hrb, HQL2.out, HQD2.out, HINV2.out, HO2.out, by
          have hb := HBW.out.setCell (p := ⟨w.heap.size, j, none⟩) (Nat.le_refl _) (.int .u64 (q : Int))
          exact ⟨hb.os, hb.tape, hb.output, hb.size, hb.block⟩, rfl⟩
    · obtain rfl : k = 0 := by omega
      rw [List.drop_zero, List.drop_zero] at hinv
      have hq : val 18446744073709551616 Q = val 18446744073709551616 xs / y ∧ r = val 18446744073709551616 xs % y := by
        rw [hinv]
        refine ⟨?_, ?_⟩
        · rw [Nat.add_comm, Nat.add_mul_div_right _ _ hy1, Nat.div_eq_of_lt hr, Nat.zero_add]
        · rw [Nat.add_comm, Nat.add_mul_mod_self_right, Nat.mod_eq_of_lt hr]
      have HQ := Lib.hid hq
      have HQL := Lib.hid hQl
      have HQD := Lib.hid hQd
      have HO2 := Lib.hid hown
      have HB2 := Lib.hid hbw
      clear hq hinv hQl hQd hown hbw hkg
      rw [show ((0 : Nat) : Int) - 1 = -1 by rfl]
      go_wp2
      go_ret2
      have hro := (KL.of_own HO2.out).2.2
      have hal : Below wr.heap.size wr (wr.alloc (.cells #[.int .u64 (r : Int)] 36)) := (Below.refl _ _).alloc (Nat.le_refl _) _
      refine ⟨_, _, Q, [(r : Int)], xs.length, 1, by rw [HQL.out]; rfl, HQD.out, Dig.cons_ (by omega) (by omega) Dig.nil_, HQ.out.1, ?_, hro.up hal, KL_new (k := .u64) wr 36 #[.int .u64 (r : Int)] [(r : Int)] rfl, by rw [HQL.out]; omega, by simp, below_chain HB2.out hal⟩
      unfold wv
      rw [val_cons, val_nil, Nat.mul_zero, Nat.add_zero, Int.toNat_natCast]
      exact HQ.out.2
end Go.Proofs.Ytdflhidhnejbbaa
