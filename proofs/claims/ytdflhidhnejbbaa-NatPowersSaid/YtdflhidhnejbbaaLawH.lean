/- The walk of NatShifts. -/
import Derived.Test.YtdflhidhnejbbaaLawL
import Derived.Test.YtdflhidhnejbbaaRefH
namespace Go.Proofs.Ytdflhidhnejbbaa
open Go.RowKit

theorem lawsame_far (u : Nat) (A B : Option Addr) (c d : Nat) (W : World) (hl : (limbs u).length ≤ 4611686018427387904) (h : KL .u32 W W.heap.size A (limbs u)) (h' : KL .u32 W W.heap.size B (limbs u)) :
    Calls Try.prog 15 #[.slice A (limbs u).length c, .slice B (limbs u).length d] W fun e w' => e = .returned (.bool true) ∧ Below W.heap.size W w' := by
  have := lawsame_any u u A B c d W h h' hl hl
  rw [decide_eq_true rfl] at this
  exact this
theorem two_pow_lt {k N : Nat} (h : k < 32 * N) : 2 ^ k < 4294967296 ^ N := by
  rw [show (4294967296 : Nat) = 2 ^ 32 by rfl, ← Nat.pow_mul]
  exact Nat.pow_lt_pow_right (by omega) h
theorem two_pow_len {k N : Nat} (hk : k < 32 * N) : (limbs (2 ^ k)).length ≤ N := limbs_len_le (two_pow_lt hk)
theorem shlN_len {m : Nat} (n : Int) (h : (limbs m).length ≤ 500) : (limbs (shlN m n)).length ≤ 4000 := by
  unfold shlN
  split
  · exact Nat.le_trans (mul_len h (two_pow_len (N := 3126) (by omega))) (by omega)
  · rw [limbs_zero]; simp
theorem shrN_len {m : Nat} (n : Int) (h : (limbs m).length ≤ 500) : (limbs (shrN m n)).length ≤ 500 := by
  unfold shrN
  split
  · exact Nat.le_trans (lens_of_le (Nat.div_le_self _ _)) h
  · rw [limbs_zero]; simp

set_option maxHeartbeats 4000000 in
theorem law_shifts_yes (m : Nat) (n : Int) (A : Option Addr) (c : Nat) (w : World) (h : KL .u32 w w.heap.size A (limbs m)) (hm : (limbs m).length ≤ 40) (hcap : (limbs m).length ≤ c) (hcm : c ≤ maxLen) (hm1 : mayB (limbs m) [] = true) :
    Calls Try.prog 5 #[.slice A (limbs m).length c, .int .i64 n] w fun e w' => e = .returned (.bool true) ∧ Below w.heap.size w w' := by
  have HA_0 : Hid _ := Lib.hid h
  have HB_0 : Hid _ := Lib.hid (Below.refl w.heap.size w)
  have HT : Hid (∀ W : World, KL .u32 W W.heap.size A (limbs m) → Calls Try.prog 11 #[.slice A (limbs m).length c, .slice none 0 0] W fun e w' => e = .returned (.bool true) ∧ W = w') :=
    Lib.hid fun W h => by rw [← hm1]; exact may_any A none (limbs m) [] c 0 W h KL.nil_ (by omega) (by simp)
  obtain ⟨s, hs⟩ : ∃ s, shlN m n = s := ⟨_, rfl⟩
  obtain ⟨t, ht⟩ : ∃ t, shrN m n = t := ⟨_, rfl⟩
  have hsl := shlN_len (m := m) n (by omega)
  have htl := shrN_len (m := m) n (by omega)
  rw [hs] at hsl
  rw [ht] at htl
  obtain ⟨L, hL⟩ : ∃ L, lenV (limbs m) = L := ⟨_, rfl⟩
  have CSHL : Hid (∀ W : World, KL .u32 W W.heap.size A (limbs m) → Calls Try.prog 24 #[.slice A (limbs m).length c, .int .i64 n] W fun e w' => MadeN s W e w') :=
    Lib.hid fun W h => by rw [← hs]; exact shl_any m A c n W h (by omega)
  have CRSHL : Hid (∀ W : World, KL .u32 W W.heap.size A (limbs m) → Calls Try.prog 25 #[.slice A (limbs m).length c, .int .i64 n] W fun e w' => MadeN s W e w') :=
    Lib.hid fun W h => by rw [← hs]; exact refshl_any m A c n W h (by omega)
  have CSHR : Hid (∀ W : World, KL .u32 W W.heap.size A (limbs m) → Calls Try.prog 26 #[.slice A (limbs m).length c, .int .i64 n] W fun e w' => MadeN t W e w') :=
    Lib.hid fun W h => by rw [← ht]; exact shr_any m A c n W h (by omega)
  have CRSHR : Hid (∀ W : World, KL .u32 W W.heap.size A (limbs m) → Calls Try.prog 27 #[.slice A (limbs m).length c, .int .i64 n] W fun e w' => MadeN t W e w') :=
    Lib.hid fun W h => by rw [← ht]; exact refshr_any m A c n W h (by omega) hcap hcm
  have CLEN : Hid (∀ W : World, KL .u32 W W.heap.size A (limbs m) → Calls Try.prog 28 #[.slice A (limbs m).length c] W fun e w' => e = .returned (.int .i64 (L : Nat)) ∧ W = w') :=
    Lib.hid fun W h => by rw [← hL]; exact len_any A (limbs m) c W h (limbs_dig m) (by omega)
  have CRLEN : Hid (∀ W : World, KL .u32 W W.heap.size A (limbs m) → Calls Try.prog 29 #[.slice A (limbs m).length c] W fun e w' => e = .returned (.int .i64 (L : Nat)) ∧ W = w') :=
    Lib.hid fun W h => by rw [← hL]; exact reflen_any A (limbs m) c W h (limbs_dig m) (by omega)
  clear h hm1 hs ht hL hcm
  go_enter Try.func5, Try.ntmps5
  go_wp2_with (first
    | (go_at_call 11; (with_reducible refine (HT.out _ HA_0.out).mono ?_); rintro e w' ⟨rfl, rfl⟩)
    | (go_at_call 12; (with_reducible refine (awake_any _).mono ?_); rintro e w1 ⟨rfl, hb⟩; have HA_1 := Lib.hid (HA_0.out.up hb); have HB_1 := Lib.hid (below_chain HB_0.out hb); clear hb)
    | (go_at_call 24; (with_reducible refine (CSHL.out _ HA_1.out).mono ?_); rintro e w2 ⟨AS, cS, rfl, hA, hcap, hb⟩; have HA_2 := Lib.hid (HA_1.out.up hb); have HB_2 := Lib.hid (below_chain HB_1.out hb); have HS_2 := Lib.hid hA; have HCS := Lib.hid hcap; clear hA hcap hb)
    | (go_at_call 25; (with_reducible refine (CRSHL.out _ HA_2.out).mono ?_); rintro e w3 ⟨AT, cT, rfl, hA, hcap, hb⟩; have HA_3 := Lib.hid (HA_2.out.up hb); have HS_3 := Lib.hid (HS_2.out.up hb); have HB_3 := Lib.hid (below_chain HB_2.out hb); have HT_3 := Lib.hid hA; have HCT := Lib.hid hcap; clear hA hcap hb)
    | (go_at_call 15; (with_reducible refine (lawsame_far s AS AT cS cT _ (by omega) HS_3.out HT_3.out).mono ?_); rintro e w4 ⟨rfl, hb⟩; have HA_4 := Lib.hid (HA_3.out.up hb); have HS_4 := Lib.hid (HS_3.out.up hb); have HT_4 := Lib.hid (HT_3.out.up hb); have HB_4 := Lib.hid (below_chain HB_3.out hb); clear hb)
    | (go_at_call 26; (with_reducible refine (CSHR.out _ HA_4.out).mono ?_); rintro e w5 ⟨AU, cU, rfl, hA, hcap, hb⟩; have HA_5 := Lib.hid (HA_4.out.up hb); have HB_5 := Lib.hid (below_chain HB_4.out hb); have HU_5 := Lib.hid hA; have HCU := Lib.hid hcap; clear hA hcap hb)
    | (go_at_call 27; (with_reducible refine (CRSHR.out _ HA_5.out).mono ?_); rintro e w6 ⟨AV, cV, rfl, hA, hcap, hb⟩; have HA_6 := Lib.hid (HA_5.out.up hb); have HU_6 := Lib.hid (HU_5.out.up hb); have HB_6 := Lib.hid (below_chain HB_5.out hb); have HV_6 := Lib.hid hA; have HCV := Lib.hid hcap; clear hA hcap hb)
    | (go_at_call 15; (with_reducible refine (lawsame_far t AU AV cU cV _ (by omega) HU_6.out HV_6.out).mono ?_); rintro e w7 ⟨rfl, hb⟩; have HA_7 := Lib.hid (HA_6.out.up hb); have HU_7 := Lib.hid (HU_6.out.up hb); have HV_7 := Lib.hid (HV_6.out.up hb); have HB_7 := Lib.hid (below_chain HB_6.out hb); clear hb)
    | (go_at_call 28; (with_reducible refine (CLEN.out _ HA_7.out).mono ?_); rintro e w' ⟨rfl, rfl⟩)
    | (go_at_call 29; (with_reducible refine (CRLEN.out _ HA_7.out).mono ?_); rintro e w' ⟨rfl, rfl⟩))
  go_ret
  exact ⟨ret_bool (by first | rfl | (simp; done)), HB_7.out⟩

theorem law_shifts (A : Option Addr) (xs : List Int) (c : Nat) (n : Int) (w : World) (h : KL .u32 w w.heap.size A xs) (hd : D32 xs) (hxl : xs.length ≤ 9223372036854775807) (hcap : xs.length ≤ c) (hcm : c ≤ maxLen) :
    Calls Try.prog 5 #[.slice A xs.length c, .int .i64 n] w fun e w' => e = .returned (.bool true) ∧ Below w.heap.size w w' := by
  by_cases hm1 : mayB xs [] = true
  · obtain ⟨m, _, rfl, _, hm, _⟩ := may_parts hm1 hd Dig.nil_
    exact law_shifts_yes m n A c w h hm hcap hcm hm1
  · have hm1' : mayB xs [] = false := by simpa using hm1
    have HT : Hid (∀ W : World, Calls Try.prog 11 #[.slice A xs.length c, .slice none 0 0] w fun e w' => e = .returned (.bool false) ∧ w = w') :=
      Lib.hid fun W => by rw [← hm1']; exact may_any A none xs [] c 0 w h KL.nil_ hxl (by simp)
    clear h hm1 hm1' hd hcm
    go_enter Try.func5, Try.ntmps5
    go_wp2_with (first
      | (go_at_call 11; (with_reducible refine (HT.out w).mono ?_); rintro e w' ⟨rfl, rfl⟩)
      | (go_at_call 12; (with_reducible refine (awake_any _).mono ?_); rintro e w1 ⟨rfl, hb⟩; have HB_1 := Lib.hid hb; clear hb))
    go_ret
    exact ⟨rfl, HB_1.out⟩
end Go.Proofs.Ytdflhidhnejbbaa
