/- The walk of NatPowers. -/
import Derived.Test.YtdflhidhnejbbaaLawH
import Derived.Test.YtdflhidhnejbbaaKarF
namespace Go.Proofs.Ytdflhidhnejbbaa
open Go.RowKit

theorem powN_len {m : Nat} {n : Int} (hm : (limbs m).length ≤ 2) (hn : n ≤ 120 ∨ 1000 < n) : (limbs (powN m n)).length ≤ 250 := by
  unfold powN
  split
  · exact Nat.le_trans (pow_lens hm) (by omega)
  · rw [limbs_zero]; simp
theorem powN_add {m a b : Nat} (ha : a ≤ 60) (hb : b ≤ 60) : powN m (a : Int) * powN m (b : Int) = powN m ((a : Int) + b) := by
  unfold powN
  rw [if_pos (by omega), if_pos (by omega), if_pos (by omega), Int.toNat_natCast, Int.toNat_natCast, show ((a : Int) + b).toNat = a + b by omega, Nat.pow_add]

set_option maxHeartbeats 4000000 in
theorem law_powers_yes (m a b : Nat) (A : Option Addr) (c : Nat) (w : World) (h : KL .u32 w w.heap.size A (limbs m)) (hm : (limbs m).length ≤ 2) (ha : a ≤ 60) (hb : b ≤ 60) :
    Calls Try.prog 6 #[.slice A (limbs m).length c, .int .i64 (a : Int), .int .i64 (b : Int)] w fun e w' => e = .returned (.bool true) ∧ Below w.heap.size w w' := by
  obtain ⟨x, hx⟩ : ∃ x : Int, (a : Int) = x := ⟨_, rfl⟩
  obtain ⟨y, hy⟩ : ∃ y : Int, (b : Int) = y := ⟨_, rfl⟩
  have e3 := powN_add (m := m) ha hb
  rw [hx, hy] at e3 ⊢
  have hx0 : 0 ≤ x := by omega
  have hy0 : 0 ≤ y := by omega
  have hx6 : x ≤ 60 := by omega
  have hy6 : y ≤ 60 := by omega
  obtain ⟨p, hp⟩ : ∃ p, powN m x = p := ⟨_, rfl⟩
  obtain ⟨q, hq⟩ : ∃ q, powN m y = q := ⟨_, rfl⟩
  obtain ⟨s, hs⟩ : ∃ s, powN m (x + y) = s := ⟨_, rfl⟩
  have hql := powN_len (n := y) hm (by omega)
  have hpl := powN_len (n := x) hm (by omega)
  have HA_0 : Hid _ := Lib.hid h
  have HB_0 : Hid _ := Lib.hid (Below.refl w.heap.size w)
  have CR : Hid (∀ W : World, KL .u32 W W.heap.size A (limbs m) → Calls Try.prog 30 #[.slice A (limbs m).length c] W fun e w' => e = .returned (.bool true) ∧ W = w') :=
    Lib.hid fun W h => by rw [← canB_limbs m]; exact refright_any A (limbs m) c W h (by omega)
  have CPX : Hid (∀ W : World, KL .u32 W W.heap.size A (limbs m) → Calls Try.prog 31 #[.slice A (limbs m).length c, .int .i64 x] W fun e w' => MadeN p W e w') :=
    Lib.hid fun W h => by rw [← hp]; exact pow_any m x A c W h hm
  have CRX : Hid (∀ W : World, KL .u32 W W.heap.size A (limbs m) → Calls Try.prog 32 #[.slice A (limbs m).length c, .int .i64 x] W fun e w' => MadeN p W e w') :=
    Lib.hid fun W h => by rw [← hp]; exact refpow_any m x A c W h hm (by omega)
  rw [hp] at hpl
  rw [hq] at hql
  have CPY : Hid (∀ W : World, KL .u32 W W.heap.size A (limbs m) → Calls Try.prog 31 #[.slice A (limbs m).length c, .int .i64 y] W fun e w' => MadeN q W e w') :=
    Lib.hid fun W h => by rw [← hq]; exact pow_any m y A c W h hm
  have hsl := powN_len (n := x + y) hm (by omega)
  have CPXY : Hid (∀ W : World, KL .u32 W W.heap.size A (limbs m) → Calls Try.prog 31 #[.slice A (limbs m).length c, .int .i64 (x + y)] W fun e w' => MadeN s W e w') :=
    Lib.hid fun W h => by rw [← hs]; exact pow_any m (x + y) A c W h hm
  have CMUL : Hid (∀ (W : World) (A B : Option Addr) (c d : Nat), KL .u32 W W.heap.size A (limbs p) → KL .u32 W W.heap.size B (limbs q) → Calls Try.prog 22 #[.slice A (limbs p).length c, .slice B (limbs q).length d] W fun e w' => MadeN s W e w') :=
    Lib.hid fun W A B c d h h' => by rw [← hs, ← e3, hp, hq]; exact mul_full p q A B c d W h h' (by omega) (by omega)
  rw [hs] at hsl
  clear e3 h hp hq hs hx hy
  go_enter Try.func6, Try.ntmps6
  go_wp2_with (first
    | (go_at_call 30; (with_reducible refine (CR.out _ HA_0.out).mono ?_); rintro e w' ⟨rfl, rfl⟩)
    | (go_at_call 31; (with_reducible refine (CPX.out _ HA_0.out).mono ?_); rintro e w1 ⟨AS, cS, rfl, hA, hcap, hb⟩; have HA_1 := Lib.hid (HA_0.out.up hb); have HB_1 := Lib.hid (below_chain HB_0.out hb); have HS_1 := Lib.hid hA; have HCS := Lib.hid hcap; clear hA hcap hb)
    | (go_at_call 32; (with_reducible refine (CRX.out _ HA_1.out).mono ?_); rintro e w2 ⟨AT, cT, rfl, hA, hcap, hb⟩; have HA_2 := Lib.hid (HA_1.out.up hb); have HS_2 := Lib.hid (HS_1.out.up hb); have HB_2 := Lib.hid (below_chain HB_1.out hb); have HT_2 := Lib.hid hA; have HCT := Lib.hid hcap; clear hA hcap hb)
    | (go_at_call 15; (with_reducible refine (lawsame_far p AS AT cS cT _ (by omega) HS_2.out HT_2.out).mono ?_); rintro e w3 ⟨rfl, hb⟩; have HA_3 := Lib.hid (HA_2.out.up hb); have HS_3 := Lib.hid (HS_2.out.up hb); have HT_3 := Lib.hid (HT_2.out.up hb); have HB_3 := Lib.hid (below_chain HB_2.out hb); clear hb)
    | (go_at_call 12; (with_reducible refine (awake_any _).mono ?_); rintro e w4 ⟨rfl, hb⟩; have HA_4 := Lib.hid (HA_3.out.up hb); have HB_4 := Lib.hid (below_chain HB_3.out hb); clear hb)
    | (go_at_call 31; (with_reducible refine (CPX.out _ HA_4.out).mono ?_); rintro e w5 ⟨AU, cU, rfl, hA, hcap, hb⟩; have HA_5 := Lib.hid (HA_4.out.up hb); have HB_5 := Lib.hid (below_chain HB_4.out hb); have HU_5 := Lib.hid hA; have HCU := Lib.hid hcap; clear hA hcap hb)
    | (go_at_call 31; (with_reducible refine (CPY.out _ HA_5.out).mono ?_); rintro e w6 ⟨AV, cV, rfl, hA, hcap, hb⟩; have HA_6 := Lib.hid (HA_5.out.up hb); have HU_6 := Lib.hid (HU_5.out.up hb); have HB_6 := Lib.hid (below_chain HB_5.out hb); have HV_6 := Lib.hid hA; have HCV := Lib.hid hcap; clear hA hcap hb)
    | (go_at_call 22; (with_reducible refine (CMUL.out _ AU AV cU cV HU_6.out HV_6.out).mono ?_); rintro e w7 ⟨AX, cX, rfl, hA, hcap, hb⟩; have HA_7 := Lib.hid (HA_6.out.up hb); have HU_7 := Lib.hid (HU_6.out.up hb); have HV_7 := Lib.hid (HV_6.out.up hb); have HB_7 := Lib.hid (below_chain HB_6.out hb); have HX_7 := Lib.hid hA; have HCX := Lib.hid hcap; clear hA hcap hb)
    | (go_at_call 31; (with_reducible refine (CPXY.out _ HA_7.out).mono ?_); rintro e w8 ⟨AY, cY, rfl, hA, hcap, hb⟩; have HA_8 := Lib.hid (HA_7.out.up hb); have HX_8 := Lib.hid (HX_7.out.up hb); have HB_8 := Lib.hid (below_chain HB_7.out hb); have HY_8 := Lib.hid hA; have HCY := Lib.hid hcap; clear hA hcap hb)
    | (go_at_call 15; (with_reducible refine (lawsame_far s AX AY cX cY _ (by omega) HX_8.out HY_8.out).mono ?_); rintro e w9 ⟨rfl, hb⟩; have HA_9 := Lib.hid (HA_8.out.up hb); have HX_9 := Lib.hid (HX_8.out.up hb); have HY_9 := Lib.hid (HY_8.out.up hb); have HB_9 := Lib.hid (below_chain HB_8.out hb); clear hb))
  go_ret
  exact ⟨ret_bool (by first | rfl | (simp; done)), HB_9.out⟩

set_option maxHeartbeats 4000000 in
theorem law_powers_out (m : Nat) (x y : Int) (A : Option Addr) (c : Nat) (w : World) (h : KL .u32 w w.heap.size A (limbs m)) (hm : (limbs m).length ≤ 2) (hx : x ≤ 60 ∨ 1000 < x) (hy : y ≤ 60 ∨ 1000 < y) (hxy : x < 0 ∨ y < 0 ∨ 60 < x ∨ 60 < y) :
    Calls Try.prog 6 #[.slice A (limbs m).length c, .int .i64 x, .int .i64 y] w fun e w' => e = .returned (.bool true) ∧ Below w.heap.size w w' := by
  obtain ⟨p, hp⟩ : ∃ p, powN m x = p := ⟨_, rfl⟩
  have hpl := powN_len (n := x) hm (by omega)
  have HA_0 : Hid _ := Lib.hid h
  have HB_0 : Hid _ := Lib.hid (Below.refl w.heap.size w)
  have CR : Hid (∀ W : World, KL .u32 W W.heap.size A (limbs m) → Calls Try.prog 30 #[.slice A (limbs m).length c] W fun e w' => e = .returned (.bool true) ∧ W = w') :=
    Lib.hid fun W h => by rw [← canB_limbs m]; exact refright_any A (limbs m) c W h (by omega)
  have CPX : Hid (∀ W : World, KL .u32 W W.heap.size A (limbs m) → Calls Try.prog 31 #[.slice A (limbs m).length c, .int .i64 x] W fun e w' => MadeN p W e w') :=
    Lib.hid fun W h => by rw [← hp]; exact pow_any m x A c W h hm
  have CRX : Hid (∀ W : World, KL .u32 W W.heap.size A (limbs m) → Calls Try.prog 32 #[.slice A (limbs m).length c, .int .i64 x] W fun e w' => MadeN p W e w') :=
    Lib.hid fun W h => by rw [← hp]; exact refpow_any m x A c W h hm (by omega)
  rw [hp] at hpl
  clear h hp
  rcases (show x < 0 ∨ (0 ≤ x ∧ x ≤ 60) ∨ 1000 < x by omega) with hx1 | ⟨hx1, hx2⟩ | hx1
  all_goals
    rcases (show y < 0 ∨ (0 ≤ y ∧ y ≤ 60) ∨ 1000 < y by omega) with hy1 | ⟨hy1, hy2⟩ | hy1
    all_goals
      first
        | (exfalso; omega)
        | (clear hx hy hxy
           go_enter Try.func6, Try.ntmps6
           go_wp2_with (first
             | (go_at_call 30; (with_reducible refine (CR.out _ HA_0.out).mono ?_); rintro e w' ⟨rfl, rfl⟩)
             | (go_at_call 31; (with_reducible refine (CPX.out _ HA_0.out).mono ?_); rintro e w1 ⟨AS, cS, rfl, hA, hcap, hb⟩; have HA_1 := Lib.hid (HA_0.out.up hb); have HB_1 := Lib.hid (below_chain HB_0.out hb); have HS_1 := Lib.hid hA; have HCS := Lib.hid hcap; clear hA hcap hb)
             | (go_at_call 32; (with_reducible refine (CRX.out _ HA_1.out).mono ?_); rintro e w2 ⟨AT, cT, rfl, hA, hcap, hb⟩; have HA_2 := Lib.hid (HA_1.out.up hb); have HS_2 := Lib.hid (HS_1.out.up hb); have HB_2 := Lib.hid (below_chain HB_1.out hb); have HT_2 := Lib.hid hA; have HCT := Lib.hid hcap; clear hA hcap hb)
             | (go_at_call 15; (with_reducible refine (lawsame_far p AS AT cS cT _ (by omega) HS_2.out HT_2.out).mono ?_); rintro e w3 ⟨rfl, hb⟩; have HA_3 := Lib.hid (HA_2.out.up hb); have HS_3 := Lib.hid (HS_2.out.up hb); have HT_3 := Lib.hid (HT_2.out.up hb); have HB_3 := Lib.hid (below_chain HB_2.out hb); clear hb)
             | (go_at_call 12; (with_reducible refine (awake_any _).mono ?_); rintro e w4 ⟨rfl, hb⟩; have HA_4 := Lib.hid (HA_3.out.up hb); have HB_4 := Lib.hid (below_chain HB_3.out hb); clear hb))
           go_ret
           exact ⟨ret_bool (by first | rfl | (simp; done)), HB_4.out⟩)

theorem law_powers_off (A : Option Addr) (xs : List Int) (x y : Int) (c : Nat) (w : World) (h : KL .u32 w w.heap.size A xs) (hxl : xs.length ≤ 9223372036854775807) (hoff : 2 < xs.length ∨ canB xs = false ∨ (60 < x ∧ x ≤ 1000) ∨ (60 < y ∧ y ≤ 1000)) :
    Calls Try.prog 6 #[.slice A xs.length c, .int .i64 x, .int .i64 y] w fun e w' => e = .returned (.bool true) ∧ Below w.heap.size w w' := by
  obtain ⟨r, hr⟩ : ∃ r, canB xs = r := ⟨_, rfl⟩
  have CR : Hid (∀ W : World, KL .u32 W W.heap.size A xs → Calls Try.prog 30 #[.slice A xs.length c] W fun e w' => e = .returned (.bool r) ∧ W = w') :=
    Lib.hid fun W h => by rw [← hr]; exact refright_any A xs c W h hxl
  rw [hr] at hoff
  have HA_0 : Hid _ := Lib.hid h
  clear h hr
  by_cases hl : 2 < xs.length
  · clear hoff
    go_enter Try.func6, Try.ntmps6
    go_wp2_with (go_at_call 12; (with_reducible refine (awake_any _).mono ?_); rintro e w1 ⟨rfl, hb⟩; have HB_1 := Lib.hid hb; clear hb)
    go_ret
    exact ⟨rfl, HB_1.out⟩
  · cases r with
    | false =>
      clear hoff
      go_enter Try.func6, Try.ntmps6
      go_wp2_with (first | (go_at_call 30; (with_reducible refine (CR.out _ HA_0.out).mono ?_); rintro e w' ⟨rfl, rfl⟩) | (go_at_call 12; (with_reducible refine (awake_any _).mono ?_); rintro e w1 ⟨rfl, hb⟩; have HB_1 := Lib.hid hb; clear hb))
      go_ret
      exact ⟨rfl, HB_1.out⟩
    | true =>
      by_cases hx : 60 < x ∧ x ≤ 1000
      · obtain ⟨hx1, hx2⟩ := hx
        clear hoff
        go_enter Try.func6, Try.ntmps6
        go_wp2_with (first | (go_at_call 30; (with_reducible refine (CR.out _ HA_0.out).mono ?_); rintro e w' ⟨rfl, rfl⟩) | (go_at_call 12; (with_reducible refine (awake_any _).mono ?_); rintro e w1 ⟨rfl, hb⟩; have HB_1 := Lib.hid hb; clear hb))
        go_ret
        exact ⟨rfl, HB_1.out⟩
      · obtain ⟨hy1, hy2⟩ : 60 < y ∧ y ≤ 1000 := by
          rcases hoff with h | h | h | h
          · omega
          · cases h
          · exact absurd h hx
          · exact h
        rcases (show x ≤ 60 ∨ 1000 < x by omega) with hx3 | hx3
        all_goals
          clear hx hoff
          go_enter Try.func6, Try.ntmps6
          go_wp2_with (first | (go_at_call 30; (with_reducible refine (CR.out _ HA_0.out).mono ?_); rintro e w' ⟨rfl, rfl⟩) | (go_at_call 12; (with_reducible refine (awake_any _).mono ?_); rintro e w1 ⟨rfl, hb⟩; have HB_1 := Lib.hid hb; clear hb))
          go_ret
          exact ⟨rfl, HB_1.out⟩

theorem law_powers (A : Option Addr) (xs : List Int) (c : Nat) (x y : Int) (w : World) (h : KL .u32 w w.heap.size A xs) (hd : D32 xs) (hxl : xs.length ≤ 9223372036854775807) :
    Calls Try.prog 6 #[.slice A xs.length c, .int .i64 x, .int .i64 y] w fun e w' => e = .returned (.bool true) ∧ Below w.heap.size w w' := by
  by_cases hoff : 2 < xs.length ∨ canB xs = false ∨ (60 < x ∧ x ≤ 1000) ∨ (60 < y ∧ y ≤ 1000)
  · exact law_powers_off A xs x y c w h hxl hoff
  · have hc : canB xs = true := by
      cases hcc : canB xs with
      | true => rfl
      | false => exact absurd (Or.inr (Or.inl hcc)) hoff
    have hl : xs.length ≤ 2 := by
      rcases Nat.lt_or_ge 2 xs.length with h1 | h1
      · exact absurd (Or.inl h1) hoff
      · exact h1
    have hx : x ≤ 60 ∨ 1000 < x := by
      by_cases h1 : 60 < x ∧ x ≤ 1000
      · exact absurd (Or.inr (Or.inr (Or.inl h1))) hoff
      · omega
    have hy : y ≤ 60 ∨ 1000 < y := by
      by_cases h1 : 60 < y ∧ y ≤ 1000
      · exact absurd (Or.inr (Or.inr (Or.inr h1))) hoff
      · omega
    have e := limbs_nv (canB_iff.1 hc) hd
    obtain ⟨m, rfl⟩ : ∃ m, xs = limbs m := ⟨nv xs, e.symm⟩
    by_cases hxy : x < 0 ∨ y < 0 ∨ 60 < x ∨ 60 < y
    · exact law_powers_out m x y A c w h hl hx hy hxy
    · obtain ⟨a, rfl⟩ : ∃ a : Nat, x = a := ⟨x.toNat, by omega⟩
      obtain ⟨b, rfl⟩ : ∃ b : Nat, y = b := ⟨y.toNat, by omega⟩
      exact law_powers_yes m a b A c w h hl (by omega) (by omega)
end Go.Proofs.Ytdflhidhnejbbaa
