/- Contracts of the reference: Of, Uint. -/
import Derived.Test.YtdflhidhnejbbaaRefA
namespace Go.Proofs.Ytdflhidhnejbbaa
open Go.RowKit

theorem reftrim_two (lo hi : Int) (w : World) (h0 : 0 ≤ lo) (h1 : lo < 4294967296) (h2 : 0 ≤ hi) (h3 : hi < 4294967296) (n : Nat) (hn : (n : Int) = lo + 4294967296 * hi) :
    Calls Try.prog 40 #[.slice (some ⟨w.heap.size, 0, none⟩) 2 2] (w.alloc (.cells #[.int .u32 lo, .int .u32 hi] 41)) fun e w' => MadeN n w e w' := by
  have hdg : D32 [lo, hi] := Dig.cons_ h0 (by omega) (Dig.cons_ h2 (by omega) Dig.nil_)
  have hk := KL_new (k := .u32) w 41 #[.int .u32 lo, .int .u32 hi] [lo, hi] rfl
  have hv : nv [lo, hi] = n := by
    unfold nv
    rw [val_cons, val_cons, val_nil]
    omega
  have ht := reftrim_any _ [lo, hi] 2 _ hk hdg (by simp) (by simp)
  rw [hv] at ht
  refine ht.mono fun e w' ⟨A, c, he, hA, hc, hb⟩ => ?_
  exact ⟨A, c, he, hA, hc, ((Below.refl w.heap.size w).alloc (Nat.le_refl _) _).trans (hb.mono (by simp))⟩
set_option maxHeartbeats 400000 in
theorem refof_any (n : Nat) (hn : n < 18446744073709551616) (w : World) : Calls Try.prog 35 #[.int .u64 (n : Int)] w fun e w' => MadeN n w e w' := by
  have HT : Hid (∀ W : World, Calls Try.prog 40 #[.slice (some ⟨W.heap.size, 0, none⟩) 2 2] (W.alloc (.cells #[.int .u32 ((n : Int) % 4294967296), .int .u32 ((n : Int) / 4294967296)] 41)) fun e w' => MadeN n W e w') :=
    Lib.hid fun W => reftrim_two _ _ W (by omega) (by omega) (by omega) (by omega) n (by omega)
  have hn1 : (n : Int) ≤ 18446744073709551615 := by omega
  go_enter Try.func35, Try.ntmps35
  go_wp2_with (go_at_call 40; (with_reducible refine (HT.out _).mono ?_); rintro e w3 ⟨A2, c2, rfl, hA, hc, hb⟩; have HA := Lib.hid hA; have HB := Lib.hid hb; clear hA hb)
  go_ret
  exact ⟨A2, c2, rfl, HA.out, hc, HB.out⟩

theorem drop_cons_val {b : Nat} {xs : List Int} {k : Nat} (h : k < xs.length) : val b (xs.drop k) = (xs.getD k 0).toNat + b * val b (xs.drop (k + 1)) := by rw [drop_at h, val_cons]
set_option maxHeartbeats 1000000 in
theorem refuint_lists (A : Option Addr) (xs : List Int) (c : Nat) (w : World) (h : KL .u32 w w.heap.size A xs) (hd : D32 xs) (hl : xs.length ≤ 2) :
    Calls Try.prog 37 #[.slice A xs.length c] w fun e w' => e = .returned (.tuple #[.int .u64 (nv xs : Nat), .bool true]) ∧ w = w' := by
  have H := Lib.hid h; clear h
  have HD := Lib.hid hd; clear hd
  go_enter Try.func37, Try.ntmps37
  go_wp2
  go_loop [4, 5] (fun n i => ∃ k m : Nat, k ≤ xs.length ∧ i = .int .i64 ((k : Int) - 1) ∧ n = .int .u64 m ∧ m = val 4294967296 (xs.drop k)) (fun _ i => ((intOf i) + 1).toNat)
  case atStart => exact ⟨xs.length, 0, Nat.le_refl _, rfl, rfl, by rw [List.drop_of_length_le (Nat.le_refl _)]; rfl⟩
  case round =>
    obtain ⟨k, m, hk, rfl, rfl, hm⟩ := hrel
    by_cases hk0 : 0 < k
    · obtain ⟨j, rfl⟩ : ∃ j, k = j + 1 := ⟨k - 1, by omega⟩
      obtain ⟨ad, rfl, _, hcc⟩ := H.out (by omega)
      have hcell := hcc j (by omega)
      have hr := word_range HD.out (k := j) (by omega)
      obtain ⟨x, hx⟩ : ∃ x : Nat, xs.getD j 0 = x := ⟨(xs.getD j 0).toNat, by omega⟩
      rw [hx] at hcell hr
      have hki : ((j + 1 : Nat) : Int) - 1 = (j : Int) := by omega
      have hm32 : m < 4294967296 := by
        have h1 := val_lt (HD.out.drop_ (j + 1))
        have h2 : 4294967296 ^ (xs.drop (j + 1)).length ≤ 4294967296 ^ 1 := Nat.pow_le_pow_right (by omega) (by rw [List.length_drop]; omega)
        omega
      have HV : Hid (m * 4294967296 + x = val 4294967296 (xs.drop j)) := Lib.hid (by rw [drop_cons_val (by omega), hx, ← hm, Int.toNat_natCast]; omega)
      rw [hki]
      clear hcc hx hm hki
      go_wp2
      go_round
      case rel => exact ⟨j, m * 4294967296 + x, by omega, by go_num, by congr 1 <;> omega, HV.out⟩
      case measure => simp [intOf] <;> omega
    · obtain rfl : k = 0 := by omega
      rw [List.drop_zero] at hm
      have HV : Hid (m = nv xs) := Lib.hid hm
      rw [show ((0 : Nat) : Int) - 1 = -1 by rfl]
      clear hm hk hk0
      go_wp2
      all_goals go_ret2
      all_goals
        exact ⟨by rw [HV.out]; rfl, rfl⟩
set_option maxHeartbeats 400000 in
theorem refuint_more (A : Option Addr) (n c : Nat) (w : World) (hn : 3 ≤ n) (hl : n ≤ 4611686018427387904) :
    Calls Try.prog 37 #[.slice A n c] w fun e w' => e = .returned (.tuple #[.int .u64 0, .bool false]) ∧ w = w' := by
  go_enter Try.func37, Try.ntmps37
  go_wp2
  go_ret2
  exact ⟨rfl, rfl⟩
end Go.Proofs.Ytdflhidhnejbbaa
