/- The walk of MonoLattice. -/
import Derived.Test.YtflobccekfgiaaaLawT
namespace Go.Proofs.Ytflobccekfgiaaa
open Go.RowKit

section
variable {xs ys : List Int}
theorem lim_zip {f : Int → Int → Int} {m : Int} (h6 : xs.length ≤ 6) (h : ∀ k, k < xs.length → 0 ≤ f (xs.getD k 0) (ys.getD k 0) ∧ f (xs.getD k 0) (ys.getD k 0) ≤ m) : Lim m (zipL f xs ys) := by
  refine ⟨by rw [zipL_length]; exact h6, fun k hk => ?_⟩
  rw [zipL_length] at hk
  rw [zipL_getD hk]
  exact h k hk
theorem maxI_cases (x y : Int) : (y < x ∧ maxI x y = x) ∨ (x ≤ y ∧ maxI x y = y) := by unfold maxI; split <;> omega
theorem minI_cases (x y : Int) : (x < y ∧ minI x y = x) ∨ (y ≤ x ∧ minI x y = y) := by unfold minI; split <;> omega
theorem lim_max (hl : xs.length = ys.length) (hx : Lim 60 xs) (hy : Lim 60 ys) : Lim 60 (zipL maxI xs ys) :=
  lim_zip hx.1 fun k hk => by
    have h1 := hx.2 k hk
    have h2 := hy.2 k (by omega)
    have := maxI_cases (xs.getD k 0) (ys.getD k 0)
    omega
theorem lim_min (hl : xs.length = ys.length) (hx : Lim 60 xs) (hy : Lim 60 ys) : Lim 60 (zipL minI xs ys) :=
  lim_zip hx.1 fun k hk => by
    have h1 := hx.2 k hk
    have h2 := hy.2 k (by omega)
    have := minI_cases (xs.getD k 0) (ys.getD k 0)
    omega
theorem div_max1 : divB xs (zipL maxI xs ys) = true := (divB_yes fun k hk => by
  rw [zipL_getD hk]
  have := maxI_cases (xs.getD k 0) (ys.getD k 0)
  omega).symm
theorem div_max2 (hl : xs.length = ys.length) : divB ys (zipL maxI xs ys) = true := (divB_yes fun k hk => by
  rw [zipL_getD (by omega)]
  have := maxI_cases (xs.getD k 0) (ys.getD k 0)
  omega).symm
theorem div_min1 : divB (zipL minI xs ys) xs = true := (divB_yes fun k hk => by
  rw [zipL_length] at hk
  rw [zipL_getD hk]
  have := minI_cases (xs.getD k 0) (ys.getD k 0)
  omega).symm
theorem div_min2 : divB (zipL minI xs ys) ys = true := (divB_yes fun k hk => by
  rw [zipL_length] at hk
  rw [zipL_getD hk]
  have := minI_cases (xs.getD k 0) (ys.getD k 0)
  omega).symm
theorem take_zip {f : Int → Int → Int} (k : Nat) (h : k < xs.length) : (zipL f xs ys).take (k + 1) = (zipL f xs ys).take k ++ [f (xs.getD k 0) (ys.getD k 0)] := by
  rw [take_snoc (by rw [zipL_length]; exact h), zipL_getD h]
theorem deg_sum (hl : xs.length = ys.length) : degL (zipL maxI xs ys) + degL (zipL minI xs ys) = degL xs + degL ys := by
  have h : ∀ k, k ≤ xs.length → degL ((zipL maxI xs ys).take k) + degL ((zipL minI xs ys).take k) = degL (xs.take k) + degL (ys.take k) := by
    intro k
    induction k with
    | zero => intro _; simp [degL]
    | succ k ih =>
      intro hk
      have := ih (by omega)
      rw [take_zip k (by omega), take_zip k (by omega), take_snoc (show k < xs.length by omega), take_snoc (show k < ys.length by omega), degL_snoc, degL_snoc, degL_snoc, degL_snoc]
      have h1 := maxI_cases (xs.getD k 0) (ys.getD k 0)
      have h2 := minI_cases (xs.getD k 0) (ys.getD k 0)
      omega
  have := h xs.length (Nat.le_refl _)
  rwa [List.take_of_length_le (by rw [zipL_length]; omega), List.take_of_length_le (by rw [zipL_length]; omega), List.take_of_length_le (Nat.le_refl _), List.take_of_length_le (by omega)] at this
/-- The quotient, times the divisor again. -/
theorem back (hl : xs.length = ys.length) : zipL (fun x y => x + y) (zipL (fun x y => x - y) xs ys) ys = xs := by
  apply ext_getD
  · rw [zipL_length, zipL_length]
  · intro k hk
    rw [zipL_length, zipL_length] at hk
    rw [zipL_getD (by rw [zipL_length]; exact hk), zipL_getD hk]
    omega
theorem divides_same (hl : xs.length = ys.length) : divB xs ys = sameB (zipL maxI xs ys) ys := by
  unfold divB sameB
  rw [decide_eq_decide]
  constructor
  · intro h
    apply ext_getD (by rw [zipL_length]; exact hl)
    intro k hk
    rw [zipL_length] at hk
    rw [zipL_getD hk]
    have := h k hk
    have := maxI_cases (xs.getD k 0) (ys.getD k 0)
    omega
  · intro h k hk
    have e : (zipL maxI xs ys).getD k 0 = ys.getD k 0 := by rw [h]
    rw [zipL_getD hk] at e
    have := maxI_cases (xs.getD k 0) (ys.getD k 0)
    omega
end

set_option maxHeartbeats 2000000 in
theorem law_lattice (A B : Option Addr) (xs ys : List Int) (c d : Nat) (w : World) (h : IL w w.heap.size A xs) (h' : IL w w.heap.size B ys) (hxl : xs.length ≤ 9223372036854775807) (hyl : ys.length ≤ 9223372036854775807) :
    Calls Try.prog 8 #[.slice A xs.length c, .slice B ys.length d] w fun e w' => e = .returned (.bool true) ∧ Below w.heap.size w w' := by
  have HA_0 : Hid _ := Lib.hid h
  have HB2_0 : Hid _ := Lib.hid h'
  have HB_0 : Hid _ := Lib.hid (Below.refl w.heap.size w)
  have HT : Hid (∀ W : World, IL W W.heap.size A xs → IL W W.heap.size B ys → Calls Try.prog 15 #[.slice A xs.length c, .slice B ys.length d] W fun e w' => e = .returned (.bool (twoB xs ys)) ∧ W = w') :=
    Lib.hid fun W h h' => two_any A B xs ys c d W h h' hxl hyl
  by_cases ht : twoB xs ys = true
  · obtain ⟨hl, hx, hy⟩ := two_lim ht
    have h6 := hx.1
    have h6' := hy.1
    rw [ht] at HT
    obtain ⟨lz, hlz⟩ : ∃ z, zipL maxI xs ys = z := ⟨_, rfl⟩
    obtain ⟨gz, hgz⟩ : ∃ z, zipL minI xs ys = z := ⟨_, rfl⟩
    have hll : lz.length = xs.length := by rw [← hlz, zipL_length]
    have hgl : gz.length = xs.length := by rw [← hgz, zipL_length]
    have hL : Lim 60 lz := by rw [← hlz]; exact lim_max hl hx hy
    have hG : Lim 60 gz := by rw [← hgz]; exact lim_min hl hx hy
    have d1 : divB xs lz = true := by rw [← hlz]; exact div_max1
    have d2 : divB ys lz = true := by rw [← hlz]; exact div_max2 hl
    have d3 : divB gz xs = true := by rw [← hgz]; exact div_min1
    have d4 : divB gz ys = true := by rw [← hgz]; exact div_min2
    have hdeg : degL lz + degL gz = degL xs + degL ys := by rw [← hlz, ← hgz]; exact deg_sum hl
    obtain ⟨qz, hqz⟩ : ∃ z, zipL (fun x y => x - y) lz xs = z := ⟨_, rfl⟩
    have hql : qz.length = xs.length := by rw [← hqz, zipL_length, hll]
    have hback : zipL (fun x y => x + y) qz xs = lz := by rw [← hqz]; exact back hll
    have hQ : Lim 60 qz := by
      rw [← hqz]
      refine lim_zip hL.1 fun k hk => ?_
      have h1 := hL.2 k hk
      have h2 := hx.2 k (by omega)
      have h3 : xs.getD k 0 ≤ lz.getD k 0 := (of_decide_eq_true (by rw [← d1]; rfl) : ∀ k, k < xs.length → xs.getD k 0 ≤ lz.getD k 0) k (by omega)
      omega
    have hright : rightB qz.length (zipL (fun x y => x + y) qz xs) = true := by
      rw [hback]
      exact (rightB_yes ⟨by rw [hql, hll], hL.1⟩ hL.2).symm
    obtain ⟨p, hp⟩ : ∃ z, degL lz = z := ⟨_, rfl⟩
    obtain ⟨q, hq⟩ : ∃ z, degL gz = z := ⟨_, rfl⟩
    obtain ⟨r, hr⟩ : ∃ z, degL xs = z := ⟨_, rfl⟩
    obtain ⟨s, hs⟩ : ∃ z, degL ys = z := ⟨_, rfl⟩
    have b1 := hL.deg (by omega) (by omega)
    have b2 := hG.deg (by omega) (by omega)
    have b3 := hx.deg (by omega) (by omega)
    have b4 := hy.deg (by omega) (by omega)
    rw [hp] at b1 hdeg
    rw [hq] at b2 hdeg
    rw [hr] at b3 hdeg
    rw [hs] at b4 hdeg
    obtain ⟨dw, hdw⟩ : ∃ z, divB xs ys = z := ⟨_, rfl⟩
    have hdw2 : sameB lz ys = dw := by rw [← hdw, ← hlz]; exact (divides_same hl).symm
    have C7 : Hid (∀ W : World, IL W W.heap.size A xs → IL W W.heap.size B ys → Calls Try.prog 23 #[.slice A xs.length c, .slice B ys.length d] W fun e w' => Made lz W e w') :=
      Lib.hid fun W h h' => by rw [← hlz]; exact lcm_any A B xs ys c d W h h' hl hx hy
    have C9 : Hid (∀ W : World, IL W W.heap.size A xs → IL W W.heap.size B ys → Calls Try.prog 25 #[.slice A xs.length c, .slice B ys.length d] W fun e w' => Made gz W e w') :=
      Lib.hid fun W h h' => by rw [← hgz]; exact gcd_any A B xs ys c d W h h' hl hx hy
    have D1 : Hid (∀ (W : World) (L : Option Addr) (e : Nat), IL W W.heap.size A xs → IL W W.heap.size L lz → Calls Try.prog 21 #[.slice A xs.length c, .slice L lz.length e] W fun e w' => e = .returned (.bool true) ∧ W = w') :=
      Lib.hid fun W L e h h' => by rw [← d1]; exact divides_any A L xs lz c e W h h' hll.symm h6
    have D2 : Hid (∀ (W : World) (L : Option Addr) (e : Nat), IL W W.heap.size B ys → IL W W.heap.size L lz → Calls Try.prog 21 #[.slice B ys.length d, .slice L lz.length e] W fun e w' => e = .returned (.bool true) ∧ W = w') :=
      Lib.hid fun W L e h h' => by rw [← d2]; exact divides_any B L ys lz d e W h h' (by omega) h6'
    have D3 : Hid (∀ (W : World) (L : Option Addr) (e : Nat), IL W W.heap.size L gz → IL W W.heap.size A xs → Calls Try.prog 21 #[.slice L gz.length e, .slice A xs.length c] W fun e w' => e = .returned (.bool true) ∧ W = w') :=
      Lib.hid fun W L e h h' => by rw [← d3]; exact divides_any L A gz xs e c W h h' hgl hG.1
    have D4 : Hid (∀ (W : World) (L : Option Addr) (e : Nat), IL W W.heap.size L gz → IL W W.heap.size B ys → Calls Try.prog 21 #[.slice L gz.length e, .slice B ys.length d] W fun e w' => e = .returned (.bool true) ∧ W = w') :=
      Lib.hid fun W L e h h' => by rw [← d4]; exact divides_any L B gz ys e d W h h' (by omega) hG.1
    have E1 : Hid (∀ (W : World) (L : Option Addr) (e : Nat), IL W W.heap.size L lz → Calls Try.prog 27 #[.slice L lz.length e] W fun e w' => e = .returned (.int .i64 p) ∧ W = w') :=
      Lib.hid fun W L e h => by rw [← hp]; exact deg_any L lz e 60 W h hL (by omega) (by omega)
    have E2 : Hid (∀ (W : World) (L : Option Addr) (e : Nat), IL W W.heap.size L gz → Calls Try.prog 27 #[.slice L gz.length e] W fun e w' => e = .returned (.int .i64 q) ∧ W = w') :=
      Lib.hid fun W L e h => by rw [← hq]; exact deg_any L gz e 60 W h hG (by omega) (by omega)
    have E3 : Hid (∀ W : World, IL W W.heap.size A xs → Calls Try.prog 27 #[.slice A xs.length c] W fun e w' => e = .returned (.int .i64 r) ∧ W = w') :=
      Lib.hid fun W h => by rw [← hr]; exact deg_any A xs c 60 W h hx (by omega) (by omega)
    have E4 : Hid (∀ W : World, IL W W.heap.size B ys → Calls Try.prog 27 #[.slice B ys.length d] W fun e w' => e = .returned (.int .i64 s) ∧ W = w') :=
      Lib.hid fun W h => by rw [← hs]; exact deg_any B ys d 60 W h hy (by omega) (by omega)
    have F1 : Hid (∀ (W : World) (L : Option Addr) (e : Nat), IL W W.heap.size L lz → IL W W.heap.size A xs → Calls Try.prog 18 #[.slice L lz.length e, .slice A xs.length c] W fun e w' => MadeWith qz (.bool true) W e w') :=
      Lib.hid fun W L e h h' => by rw [← hqz]; exact div_yes L A lz xs e c W h h' hll hL hx d1
    have F2 : Hid (∀ (W : World) (L : Option Addr) (e : Nat), IL W W.heap.size L qz → IL W W.heap.size A xs → Calls Try.prog 16 #[.slice L qz.length e, .slice A xs.length c] W fun e w' => MadeWith lz (.int .i64 0) W e w') :=
      Lib.hid fun W L e h h' => by rw [← hback]; exact mul_yes L A qz xs e c W h h' hql hQ hx hright
    have S1 : Hid (∀ (W : World) (A B : Option Addr) (c d : Nat), IL W W.heap.size A lz → IL W W.heap.size B lz → Calls Try.prog 20 #[.slice A lz.length c, .slice B lz.length d] W fun e w' => e = .returned (.bool true) ∧ Below W.heap.size W w') :=
      Lib.hid fun W A B c d h h' => by rw [← sameB_self lz]; exact same_c A B lz lz c d W h h' (by omega) (by omega)
    have S2 : Hid (∀ (W : World) (L : Option Addr) (e : Nat), IL W W.heap.size L lz → IL W W.heap.size B ys → Calls Try.prog 20 #[.slice L lz.length e, .slice B ys.length d] W fun e w' => e = .returned (.bool dw) ∧ Below W.heap.size W w') :=
      Lib.hid fun W L e h h' => by rw [← hdw2]; exact same_c L B lz ys e d W h h' (by omega) (by omega)
    have D5 : Hid (∀ W : World, IL W W.heap.size A xs → IL W W.heap.size B ys → Calls Try.prog 21 #[.slice A xs.length c, .slice B ys.length d] W fun e w' => e = .returned (.bool dw) ∧ W = w') :=
      Lib.hid fun W h h' => by rw [← hdw]; exact divides_any A B xs ys c d W h h' hl h6
    have hne : (p + q != r + s) = false := by rw [hdeg]; simp
    clear h h' ht hl hx hy hlz hgz hL hG d1 d2 d3 d4 hdeg hqz hql hback hQ hright hp hq hr hs hdw hdw2 hll hgl
    go_enter Try.func8, Try.ntmps8
    go_wp2_with (first
      | (go_at_call 10; (with_reducible refine (awake_any _).mono ?_); rintro e w1 ⟨rfl, hb⟩; have HA_1 := Lib.hid (HA_0.out.up hb); have HB2_1 := Lib.hid (HB2_0.out.up hb); have HB_1 := Lib.hid (below_chain HB_0.out hb); clear hb)
      | (go_at_call 15; (with_reducible refine (HT.out _ HA_1.out HB2_1.out).mono ?_); rintro e w' ⟨rfl, rfl⟩)
      | (go_at_call 23; (with_reducible refine (C7.out _ HA_1.out HB2_1.out).mono ?_); rintro e w2 ⟨AL, cL, rfl, hA, hcap, hb⟩; have HA_2 := Lib.hid (HA_1.out.up hb); have HB2_2 := Lib.hid (HB2_1.out.up hb); have HB_2 := Lib.hid (below_chain HB_1.out hb); have HL_2 := Lib.hid hA; have HCL := Lib.hid hcap; clear hA hcap hb)
      | (go_at_call 25; (with_reducible refine (C9.out _ HA_2.out HB2_2.out).mono ?_); rintro e w3 ⟨AG, cG, rfl, hA, hcap, hb⟩; have HA_3 := Lib.hid (HA_2.out.up hb); have HB2_3 := Lib.hid (HB2_2.out.up hb); have HL_3 := Lib.hid (HL_2.out.up hb); have HB_3 := Lib.hid (below_chain HB_2.out hb); have HG_3 := Lib.hid hA; have HCG := Lib.hid hcap; clear hA hcap hb)
      | (go_at_call 21; (with_reducible refine (D1.out _ _ _ HA_3.out HL_3.out).mono ?_); rintro e w' ⟨rfl, rfl⟩)
      | (go_at_call 21; (with_reducible refine (D2.out _ _ _ HB2_3.out HL_3.out).mono ?_); rintro e w' ⟨rfl, rfl⟩)
      | (go_at_call 21; (with_reducible refine (D3.out _ _ _ HG_3.out HA_3.out).mono ?_); rintro e w' ⟨rfl, rfl⟩)
      | (go_at_call 21; (with_reducible refine (D4.out _ _ _ HG_3.out HB2_3.out).mono ?_); rintro e w' ⟨rfl, rfl⟩)
      | (go_at_call 27; (with_reducible refine (E1.out _ _ _ HL_3.out).mono ?_); rintro e w' ⟨rfl, rfl⟩)
      | (go_at_call 27; (with_reducible refine (E2.out _ _ _ HG_3.out).mono ?_); rintro e w' ⟨rfl, rfl⟩)
      | (go_at_call 27; (with_reducible refine (E3.out _ HA_3.out).mono ?_); rintro e w' ⟨rfl, rfl⟩)
      | (go_at_call 27; (with_reducible refine (E4.out _ HB2_3.out).mono ?_); rintro e w' ⟨rfl, rfl⟩)
      | (go_at_call 18; (with_reducible refine (F1.out _ _ _ HL_3.out HA_3.out).mono ?_); rintro e w4 ⟨AQ, cQ, rfl, hA, hcap, hb⟩; have HA_4 := Lib.hid (HA_3.out.up hb); have HB2_4 := Lib.hid (HB2_3.out.up hb); have HL_4 := Lib.hid (HL_3.out.up hb); have HG_4 := Lib.hid (HG_3.out.up hb); have HB_4 := Lib.hid (below_chain HB_3.out hb); have HQ_4 := Lib.hid hA; have HCQ := Lib.hid hcap; clear hA hcap hb)
      | (go_at_call 16; (with_reducible refine (F2.out _ _ _ HQ_4.out HA_4.out).mono ?_); rintro e w5 ⟨AP, cP, rfl, hA, hcap, hb⟩; have HA_5 := Lib.hid (HA_4.out.up hb); have HB2_5 := Lib.hid (HB2_4.out.up hb); have HL_5 := Lib.hid (HL_4.out.up hb); have HG_5 := Lib.hid (HG_4.out.up hb); have HQ_5 := Lib.hid (HQ_4.out.up hb); have HB_5 := Lib.hid (below_chain HB_4.out hb); have HP_5 := Lib.hid hA; have HCP := Lib.hid hcap; clear hA hcap hb)
      | (go_at_call 20; (with_reducible refine (S1.out _ _ _ _ _ HP_5.out HL_5.out).mono ?_); rintro e w6 ⟨rfl, hb⟩; have HA_6 := Lib.hid (HA_5.out.up hb); have HB2_6 := Lib.hid (HB2_5.out.up hb); have HL_6 := Lib.hid (HL_5.out.up hb); have HG_6 := Lib.hid (HG_5.out.up hb); have HQ_6 := Lib.hid (HQ_5.out.up hb); have HP_6 := Lib.hid (HP_5.out.up hb); have HB_6 := Lib.hid (below_chain HB_5.out hb); clear hb)
      | (go_at_call 21; (with_reducible refine (D5.out _ HA_6.out HB2_6.out).mono ?_); rintro e w' ⟨rfl, rfl⟩)
      | (go_at_call 20; (with_reducible refine (S2.out _ _ _ HL_6.out HB2_6.out).mono ?_); rintro e w7 ⟨rfl, hb⟩; have HA_7 := Lib.hid (HA_6.out.up hb); have HB2_7 := Lib.hid (HB2_6.out.up hb); have HL_7 := Lib.hid (HL_6.out.up hb); have HG_7 := Lib.hid (HG_6.out.up hb); have HQ_7 := Lib.hid (HQ_6.out.up hb); have HP_7 := Lib.hid (HP_6.out.up hb); have HB_7 := Lib.hid (below_chain HB_6.out hb); clear hb))
    go_ret
    exact ⟨rfl, HB_7.out⟩
  · have ht' : twoB xs ys = false := by simpa using ht
    rw [ht'] at HT
    clear h h' ht ht'
    go_enter Try.func8, Try.ntmps8
    go_wp2_with (first
      | (go_at_call 10; (with_reducible refine (awake_any _).mono ?_); rintro e w1 ⟨rfl, hb⟩; have HA_1 := Lib.hid (HA_0.out.up hb); have HB2_1 := Lib.hid (HB2_0.out.up hb); have HB_1 := Lib.hid (below_chain HB_0.out hb); clear hb)
      | (go_at_call 15; (with_reducible refine (HT.out _ HA_1.out HB2_1.out).mono ?_); rintro e w' ⟨rfl, rfl⟩))
    go_ret
    exact ⟨rfl, HB_1.out⟩
end Go.Proofs.Ytflobccekfgiaaa
