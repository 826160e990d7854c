/- An element's order, by what Factor hands back. -/
import Derived.Test.YtehlnkhbfbnadaaDoorFac
import Derived.Test.YtehlnkhbfbnadaaDoorFixC
namespace Go.Proofs.YtehlnkhbfbnadaaDoor
open Go.RowKit
def redO (p a q : Nat) : Nat → Nat → Nat
  | 0, o => o
  | t + 1, o => if a ^ (o / q) % p = 1 then redO p a q t (o / q) else o
def ordL (p a : Nat) : List Int → List Int → Nat → Nat
  | q :: qs, t :: ts, o => ordL p a qs ts (redO p a q.toNat t.toNat o)
  | _, _, o => o
def goodR (r : List Int × List Int) : Bool := decide (r.1.length = r.2.length) && decide (r.1.length ≤ 1000) && r.1.all (fun x => decide (2 ≤ x ∧ x ≤ 1099511627776)) && r.2.all (fun x => decide (0 ≤ x ∧ x ≤ 64))
theorem goodR_parts {r : List Int × List Int} (h : goodR r = true) : r.1.length = r.2.length ∧ r.1.length ≤ 1000 ∧ (∀ i, i < r.1.length → ∃ q : Nat, r.1.getD i 0 = (q : Int) ∧ 2 ≤ q ∧ q ≤ 1099511627776) ∧ (∀ i, i < r.2.length → ∃ t : Nat, r.2.getD i 0 = (t : Int) ∧ t ≤ 64) := by
  unfold goodR at h
  simp only [Bool.and_eq_true, decide_eq_true_eq, List.all_eq_true] at h
  obtain ⟨⟨⟨h1, h2⟩, h3⟩, h4⟩ := h
  refine ⟨h1, h2, fun i hi => ?_, fun i hi => ?_⟩
  · have := h3 _ (List.getElem_mem hi)
    rw [getD_of_lt hi]
    exact ⟨(r.1[i]).toNat, by omega, by omega, by omega⟩
  · have := h4 _ (List.getElem_mem hi)
    rw [getD_of_lt hi]
    exact ⟨(r.2[i]).toNat, by omega, by omega⟩
theorem ordL_step {p a : Nat} {xs ys : List Int} {i q t o : Nat} (h1 : i < xs.length) (h2 : i < ys.length) (hq : xs.getD i 0 = (q : Int)) (ht : ys.getD i 0 = (t : Int)) :
    ordL p a (xs.drop i) (ys.drop i) o = ordL p a (xs.drop (i + 1)) (ys.drop (i + 1)) (redO p a q t o) := by
  rw [List.drop_eq_getElem_cons h1, List.drop_eq_getElem_cons h2]
  rw [getD_of_lt h1] at hq
  rw [getD_of_lt h2] at ht
  show ordL p a _ _ (redO p a (xs[i]).toNat (ys[i]).toNat o) = _
  rw [hq, ht, Int.toNat_natCast, Int.toNat_natCast]
theorem redO_le (p a q : Nat) : ∀ (t o : Nat), redO p a q t o ≤ o
  | 0, o => Nat.le_refl _
  | t + 1, o => by
    unfold redO
    split
    · exact Nat.le_trans (redO_le p a q t _) (Nat.div_le_self _ _)
    · exact Nat.le_refl _
set_option maxHeartbeats 4000000 in
theorem order_run (Pre : World → Prop) (hPre : ∀ a b : World, Pre a → Below a.heap.size a b → Pre b) (isB : Nat → Option Bool) (IS : IsKnown Pre isB) (f p a : Nat) (r : List Int × List Int) (w : World) (hw : Pre w) (hr : facTop isB f (p - 1) = some r) (hg : goodR r = true) (hf : f ≤ 1000000) (hp : 2 ≤ p) (hpl : p ≤ 2147483647) (ha : a < p) (ha0 : 0 < a) :
    Calls Tryd.prog 25 #[.int .u32 (p : Int), .int .u32 (a : Int)] w fun e w' => e = .returned (.tuple #[.int .u64 ((ordL p a r.1 r.2 (p - 1) : Nat) : Int), .int .i64 0]) ∧ Below w.heap.size w w' := by
  obtain ⟨z, hz⟩ : ∃ z, ordL p a r.1 r.2 (p - 1) = z := ⟨_, rfl⟩
  obtain ⟨g1, g2, g3, g4⟩ := goodR_parts hg
  obtain ⟨p1, hp1⟩ : ∃ p1, p - 1 = p1 := ⟨_, rfl⟩
  have hsub : (p : Int) - 1 = (p1 : Int) := by omega
  have HFAC : Hid (∀ W : World, Below w.heap.size w W → Calls Tryd.prog 34 #[.int .u64 (p1 : Int)] W fun e w' => MadeF W r e w') := Lib.hid fun W hb => factor_any Pre hPre isB IS f p1 r W (hPre _ _ hw hb) (by rw [← hp1]; exact hr) hf (by omega) (by omega)
  have HPW : Hid (∀ (n x : Nat) (W : World), n ≤ 18446744073709551615 → a ^ n % p = x → Calls Tryd.prog 21 #[.int .u32 (p : Int), .int .u32 (a : Int), .int .u64 (n : Int)] W fun e w' => e = .returned (.int .u32 (x : Int)) ∧ W = w') := Lib.hid fun n x W hn hx => by rw [← hx]; exact mpow_any p a n W hpl hp ha hn
  rw [hz]
  rw [hp1] at hz
  have HZ := Lib.hid hz
  have HG := Lib.hid g3
  have HG' := Lib.hid g4
  have hp2 : ¬ (p : Int) < 2 := by omega
  have ha1 : ((a : Int) == 0) = false := by rw [beq_eq_false_iff_ne]; omega
  have hpu : (p1 : Int) ≤ 2147483647 := by omega
  have hpu0 : (0 : Int) ≤ (p1 : Int) := by omega
  have HP1 := Lib.hid hp1
  clear hr hg hz g3 g4 IS hp1 hw hPre
  go_enter Tryd.func25, Tryd.ntmps25
  go_wp2_with (go_at_call 34; (with_reducible refine (HFAC.out _ (Below.refl _ _)).mono ?_); rintro e w1 ⟨A, c, B, d, rfl, hA, hB, hc, hd, hb⟩; have HA := Lib.hid hA; have HB := Lib.hid hB; have HC := Lib.hid hc; have HD := Lib.hid hd; have HBE := Lib.hid hb; clear hA hB hc hd hb)
  go_loop [6, 25] (fun o i => ∃ x k : Nat, o = .int .u64 x ∧ i = .int .i64 k ∧ k ≤ r.1.length ∧ x ≤ p1 ∧ Hid (ordL p a (r.1.drop k) (r.2.drop k) x = z)) (fun _ i => r.1.length - (intOf i).toNat)
  case atStart => exact ⟨p1, 0, rfl, rfl, Nat.zero_le _, Nat.le_refl _, HZ⟩
  case round =>
    obtain ⟨x, k, rfl, rfl, hk, hx, HX⟩ := hrel
    by_cases hlt : k < r.1.length
    · obtain ⟨q, hq, hq2, hql⟩ := HG.out k hlt
      obtain ⟨t, ht, htl⟩ := HG'.out k (by omega)
      obtain ⟨ad, rfl, _, hcA⟩ := HA.out (by omega)
      obtain ⟨bd, rfl, _, hcB⟩ := HB.out (by omega)
      have c1 := hcA k hlt
      rw [hq] at c1
      have c2 := hcB k (by omega)
      rw [ht] at c2
      have hq0 : ((q : Int) == 0) = false := by rw [beq_eq_false_iff_ne]; omega
      have hi1 : (k : Int) < (r.1.length : Int) := by omega
      have hi2 : (k : Int) < (r.2.length : Int) := by omega
      have HS : Hid (ordL p a (r.1.drop (k + 1)) (r.2.drop (k + 1)) (redO p a q t x) = z) := Lib.hid (by rw [← ordL_step hlt (by omega) hq ht]; exact HX.out)
      clear hcA hcB hq ht HX
      go_wp2
      go_loop [34, 6] (fun c o => ∃ j y : Nat, c = .int .i64 j ∧ j ≤ t ∧ o = .int .u64 y ∧ y ≤ p1 ∧ Hid (redO p a q (t - j) y = redO p a q t x)) (fun c _ => t - (intOf c).toNat)
      case atStart => exact ⟨0, x, rfl, Nat.zero_le _, rfl, hx, Lib.hid (by rw [Nat.sub_zero])⟩
      case round =>
        obtain ⟨j, y, rfl, hj, rfl, hy, HY⟩ := hrel
        by_cases hjt : j < t
        · obtain ⟨y', hy'⟩ : ∃ y', y / q = y' := ⟨_, rfl⟩
          have hdv : (y : Int) / (q : Int) = (y' : Int) := by rw [← hy', Int.natCast_ediv]
          have hyl : y' ≤ y := by rw [← hy']; exact Nat.div_le_self _ _
          obtain ⟨v, hv⟩ : ∃ v, a ^ y' % p = v := ⟨_, rfl⟩
          have HV := Lib.hid hv
          have hstep : redO p a q (t - j) y = if v = 1 then redO p a q (t - (j + 1)) y' else y := by
            rw [show t - j = (t - (j + 1)) + 1 by omega]
            show (if a ^ (y / q) % p = 1 then redO p a q (t - (j + 1)) (y / q) else y) = _
            rw [hy', hv]
          have hjt' : (j : Int) < (t : Int) := by omega
          by_cases hv1 : v = 1
          · have HN : Hid (redO p a q (t - (j + 1)) y' = redO p a q t x) := Lib.hid (by rw [← HY.out, hstep, if_pos hv1])
            have hvb : ((v : Int) == 1) = true := by rw [hv1]; rfl
            have hvn : ((v : Int) != 1) = false := by rw [hv1]; rfl
            clear hy' hv hstep hv1
            go_wp2_with (go_at_call 21; (with_reducible refine (HPW.out y' v _ (by omega) HV.out).mono ?_); rintro e w' ⟨rfl, rfl⟩)
            go_round
            case rel => exact ⟨j + 1, y', by go_num, by omega, rfl, by omega, HN⟩
            case measure => simp [intOf]; omega
          · have HN : Hid (y = redO p a q t x) := Lib.hid (by rw [← HY.out, hstep, if_neg hv1])
            have hvb : ((v : Int) == 1) = false := by rw [beq_eq_false_iff_ne]; omega
            have hvn : ((v : Int) != 1) = true := by rw [bne_iff_ne]; omega
            clear hy' hv hstep hv1
            go_wp2_with (go_at_call 21; (with_reducible refine (HPW.out y' v _ (by omega) HV.out).mono ?_); rintro e w' ⟨rfl, rfl⟩)
            go_round
            case rel => exact ⟨y, k + 1, rfl, by go_num, by omega, hy, by rw [HN.out]; exact HS⟩
            case measure => simp [intOf]; omega
        · have hjt' : ¬ (j : Int) < (t : Int) := by omega
          have HN : Hid (y = redO p a q t x) := Lib.hid (by rw [← HY.out, show t - j = 0 by omega]; rfl)
          go_wp2
          go_round
          case rel => exact ⟨y, k + 1, rfl, by go_num, by omega, hy, by rw [HN.out]; exact HS⟩
          case measure => simp [intOf]; omega
    · have HE : Hid (x = z) := Lib.hid (by
        have := HX.out
        rw [List.drop_eq_nil_of_le (by omega), List.drop_eq_nil_of_le (by omega)] at this
        exact this)
      have hi1 : ¬ (k : Int) < (r.1.length : Int) := by omega
      clear HX
      go_wp2
      go_ret2
      exact ⟨ret_pair (by rw [HE.out]) rfl, HBE.out⟩
theorem order_72 (w : World) : Calls Tryd.prog 25 #[.int .u32 7, .int .u32 2] w fun e w' => e = .returned (.tuple #[.int .u64 3, .int .i64 0]) ∧ Below w.heap.size w w' := by
  have IS : IsKnown (fun _ => True) (fun q => if q = 3 then some true else none) := fun q b W _ h => by
    by_cases hq : q = 3
    · subst hq
      simp at h
      subst h
      exact is_3 W
    · simp [hq] at h
  have := order_run _ (fun _ _ _ _ => trivial) _ IS 5 7 2 ([2, 3], [1, 1]) w trivial (by decide +kernel) (by decide +kernel) (by omega) (by omega) (by omega) (by omega) (by omega)
  rw [show ordL 7 2 [2, 3] [1, 1] (7 - 1) = 3 by decide +kernel] at this
  exact this
end Go.Proofs.YtehlnkhbfbnadaaDoor
