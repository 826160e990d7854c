/- Square roots modulo p: Tonelli's way, the program's; Tonelli and Shanks, the document's. -/
import Derived.Test.YtehlnkhbfbnadaaDoorTab
import Derived.Test.YtehlnkhbfbnadaaDoorRPow
namespace Go.Proofs.YtehlnkhbfbnadaaDoor
open Go.RowKit
def MadeRoot (p a : Nat) (e : Ending) : Prop := ∃ r : Nat, e = .returned (.int .u32 (r : Int)) ∧ r < p ∧ r * r % p = a
set_option maxHeartbeats 8000000 in
theorem tonelli_any (p a : Nat) (w : World) (hg : Tab32 w) (hp : PrimeN p) (h3 : 3 ≤ p) (hpl : p ≤ 2147483647) (ha : a < p) (hae : a ^ ((p - 1) / 2) % p = 1) :
    Calls Tryd.prog 35 #[.int .u32 (p : Int), .int .u32 (a : Int)] w fun e w' => MadeRoot p a e ∧ w = w' := by
  obtain ⟨zn, hz2, hzp, hzn⟩ := hp.nonres h3
  obtain ⟨o, T, hoT, ho1⟩ := twos_of (p - 1) (by omega)
  have hodd := hp.odd h3
  have hT1 : 1 ≤ T := by
    rcases Nat.eq_zero_or_pos T with h0 | h0
    · subst h0
      rw [Nat.pow_zero, Nat.mul_one] at hoT
      omega
    · exact h0
  have hTl : T < 32 := by
    rcases Nat.lt_or_ge T 32 with h | h
    · exact h
    · have h1 := Nat.pow_le_pow_right (show 0 < 2 by omega) h
      have h2 : 1 * 2 ^ T ≤ o * 2 ^ T := Nat.mul_le_mul_right _ (by omega)
      omega
  have hol : o ≤ p - 1 := by
    have h1 : o * 1 ≤ o * 2 ^ T := Nat.mul_le_mul_left _ (Nat.pow_pos (by omega))
    omega
  have HST : Hid (∀ z, 2 ≤ z → z < p → z ^ ((p - 1) / 2) % p ≠ 1 → PT p a T (a ^ (o / 2 + 1) % p) (a ^ o % p) (z ^ o % p)) := Lib.hid fun z h1 h2 hne =>
    PT.start h3 hT1 hoT ho1 hae (by
      rcases hp.euler h3 (a := z) (by rw [Nat.mod_eq_of_lt h2]; omega) with h | h
      · exact absurd h hne
      · exact h)
  obtain ⟨h, hh⟩ : ∃ h, p / 2 = h := ⟨_, rfl⟩
  have hh2 : (p - 1) / 2 = h := by omega
  rw [hh2] at hzn HST
  have hhd : (p : Int) / 2 = (h : Int) := by omega
  obtain ⟨p1, hp1⟩ : ∃ p1, p - 1 = p1 := ⟨_, rfl⟩
  rw [hp1] at hoT
  have hsub : (p : Int) - 1 = (p1 : Int) := by omega
  have hsh : (p1 : Int) / 2 ^ T = (o : Int) := by
    rw [hoT, Int.natCast_mul, Int.natCast_pow]
    exact Int.mul_ediv_cancel _ (by have := Nat.pow_pos (n := T) (show 0 < 2 by omega); rw [← Int.natCast_pow]; omega)
  have HTZ : Hid (Calls Tryd.prog 40 #[.int .u32 (p1 : Int)] w fun e w' => e = .returned (.int .i64 (T : Int)) ∧ w = w') := Lib.hid (tz32 p1 o T w hg hoT ho1 (by omega))
  have HM : Hid (∀ (x y z : Nat) (W : World), x < p → y < p → x * y % p = z → Calls Tryd.prog 17 #[.int .u32 (p : Int), .int .u32 (x : Int), .int .u32 (y : Int)] W fun e w' => e = .returned (.int .u32 (z : Int)) ∧ W = w') :=
    Lib.hid fun x y z W hx hy hz => by rw [← hz]; exact mmul_any p x y W hpl (by omega) hx hy
  have HPW : Hid (∀ (x n z : Nat) (W : World), x < p → n ≤ 2147483647 → x ^ n % p = z → Calls Tryd.prog 21 #[.int .u32 (p : Int), .int .u32 (x : Int), .int .u64 (n : Int)] W fun e w' => e = .returned (.int .u32 (z : Int)) ∧ W = w') :=
    Lib.hid fun x n z W hx hn hz => by rw [← hz]; exact mpow_any p x n W hpl (by omega) hx (by omega)
  obtain ⟨o2, ho2⟩ : ∃ o2, o / 2 + 1 = o2 := ⟨_, rfl⟩
  rw [ho2] at HST
  have hod : (o : Int) / 2 + 1 = (o2 : Int) := by omega
  have ho2l : o2 ≤ 2147483647 := by omega
  have HP := Lib.hid hp
  have HZN := Lib.hid hzn
  have HSUB := Lib.hid hsub
  have HSH := Lib.hid hsh
  have HHD := Lib.hid hhd
  have HOD := Lib.hid hod
  have hp1l : (p1 : Int) ≤ 2147483647 := by omega
  have hTi : (T : Int) ≤ 31 := by omega
  have hT0 : (0 : Int) ≤ (T : Int) := by omega
  have hpi : (p : Int) ≤ 2147483647 := by omega
  have hpi3 : (3 : Int) ≤ (p : Int) := by omega
  clear hp hzn hoT ho1 hg hodd hae hh hp1 ho2 hod hh2 hhd
  go_enter Tryd.func35, Tryd.ntmps35
  go_wp2_with (go_at_call 40; (with_reducible refine HTZ.out.mono ?_); rintro e w' ⟨rfl, rfl⟩)
  have hhd := HHD.out
  clear hsub hsh
  go_loop [7] (fun x => ∃ z : Nat, x = .int .u32 z ∧ 2 ≤ z ∧ z ≤ zn) (fun x => p - (intOf x).toNat)
  case atStart => exact ⟨2, rfl, by omega, hz2⟩
  case round =>
    obtain ⟨z, rfl, hz1, hzl⟩ := hrel
    obtain ⟨v, hv⟩ : ∃ v, z ^ h % p = v := ⟨_, rfl⟩
    have HV := Lib.hid hv
    by_cases hv1 : v = 1
    · have hvi : ((v : Int) == 1) = true := by rw [hv1]; rfl
      have hlt : z < zn := by
        rcases Nat.lt_or_ge z zn with h4 | h4
        · exact h4
        · obtain rfl : z = zn := by omega
          rw [hv1] at hv
          exact absurd hv HZN.out
      clear hv hv1
      go_wp2_with (go_at_call 21; (with_reducible refine (HPW.out z h v _ (by omega) (by omega) HV.out).mono ?_); rintro e w' ⟨rfl, rfl⟩)
      go_round
      case rel => exact ⟨z + 1, by go_num, by omega, by omega⟩
      case measure => simp [intOf]; omega
    · have hvi : ((v : Int) == 1) = false := by rw [beq_eq_false_iff_ne]; omega
      have hPT := HST.out z hz1 (by omega) (by rw [hv]; exact hv1)
      obtain ⟨r0, hr0⟩ : ∃ r0, a ^ o2 % p = r0 := ⟨_, rfl⟩
      obtain ⟨w0, hw0⟩ : ∃ w0, a ^ o % p = w0 := ⟨_, rfl⟩
      obtain ⟨g0, hg0⟩ : ∃ g0, z ^ o % p = g0 := ⟨_, rfl⟩
      rw [hr0, hw0, hg0] at hPT
      have HR0 := Lib.hid hr0
      have HW0 := Lib.hid hw0
      have HG0 := Lib.hid hg0
      have HPT := Lib.hid hPT
      have hod := HOD.out
      clear hv hv1 hPT hr0 hw0 hg0
      go_wp2_with (first
        | (go_at_call 21; (with_reducible refine (HPW.out z h v _ (by omega) (by omega) HV.out).mono ?_); rintro e w' ⟨rfl, rfl⟩)
        | (go_at_call 21; (with_reducible refine (HPW.out z o g0 _ (by omega) (by omega) HG0.out).mono ?_); rintro e w' ⟨rfl, rfl⟩)
        | (go_at_call 21; (with_reducible refine (HPW.out a o2 r0 _ ha ho2l HR0.out).mono ?_); rintro e w' ⟨rfl, rfl⟩)
        | (go_at_call 21; (with_reducible refine (HPW.out a o w0 _ ha (by omega) HW0.out).mono ?_); rintro e w' ⟨rfl, rfl⟩))
      clear hod hhd
      go_loop [5, 8, 9, 10] (fun x1 x2 x3 x4 => ∃ L g r q : Nat, x1 = .int .i64 L ∧ x2 = .int .u32 g ∧ x3 = .int .u32 r ∧ x4 = .int .u32 q ∧ L ≤ T ∧ Hid (PT p a L r q g)) (fun x1 _ _ _ => (intOf x1).toNat)
      case atStart => exact ⟨T, g0, r0, w0, rfl, rfl, rfl, rfl, Nat.le_refl _, HPT⟩
      case round =>
        clear HPT HR0 HW0 HG0
        obtain ⟨L, g, r, q, rfl, rfl, rfl, rfl, hLT, HQ⟩ := hrel
        obtain ⟨hL1, hrp, hqp, hgp, _, hq1, _⟩ := HQ.out
        have HQ1 := Lib.hid hq1
        clear hq1
        by_cases hq : q = 1
        · have hqi : ((q : Int) == 1) = true := by rw [hq]; rfl
          have hqn : ((q : Int) != 1) = false := by rw [hq]; rfl
          have HE : Hid (MadeRoot p a (.returned (.int .u32 (r : Int)))) := Lib.hid ⟨r, rfl, hrp, by have := HQ.out; rw [hq] at this; exact this.done ha⟩
          clear hq
          go_wp2
          go_ret
          exact ⟨HE.out, rfl⟩
        · have hqi : ((q : Int) == 1) = false := by rw [beq_eq_false_iff_ne]; omega
          have hqn : ((q : Int) != 1) = true := by rw [bne_iff_ne]; omega
          have HQN := Lib.hid hq
          clear hq
          go_wp2
          go_loop [11, 12] (fun x1 x2 => ∃ l y : Nat, x1 = .int .i64 l ∧ x2 = .int .u32 y ∧ y < p ∧ l ≤ L - 1 ∧ Hid (y = q ^ 2 ^ l % p ∧ ∀ j, j < l → q ^ 2 ^ j % p ≠ 1)) (fun x1 _ => L - (intOf x1).toNat)
          case atStart => exact ⟨0, q, rfl, rfl, hqp, by omega, Lib.hid ⟨by rw [Nat.pow_zero, Nat.pow_one, Nat.mod_eq_of_lt hqp], fun j hj => by omega⟩⟩
          case round =>
            obtain ⟨l, y, rfl, rfl, hyp, hlL, HY⟩ := hrel
            by_cases hy : y = 1
            · have hyi : ((y : Int) == 1) = true := by rw [hy]; rfl
              have hyn : ((y : Int) != 1) = false := by rw [hy]; rfl
              have HL1 : Hid (q ^ 2 ^ l % p = 1) := Lib.hid (by rw [← HY.out.1, hy])
              have hllt : (l : Int) + 1 ≤ (L : Int) := by omega
              obtain ⟨n4, hn4⟩ : ∃ n4, L - l - 1 = n4 := ⟨_, rfl⟩
              have hn4i : (L : Int) - (l : Int) - 1 = (n4 : Int) := by omega
              have HN4 := Lib.hid hn4
              clear hy hn4
              go_wp2
              go_loop [60, 8] (fun x1 x2 => ∃ j y : Nat, x1 = .int .i64 j ∧ x2 = .int .u32 y ∧ j ≤ n4 ∧ y < p ∧ Hid (y = g ^ 2 ^ j % p)) (fun x1 _ => n4 - (intOf x1).toNat)
              case atStart => exact ⟨0, g, rfl, rfl, Nat.zero_le _, hgp, Lib.hid (by rw [Nat.pow_zero, Nat.pow_one, Nat.mod_eq_of_lt hgp])⟩
              case round =>
                obtain ⟨j, u, rfl, rfl, hjn, hup, HU⟩ := hrel
                obtain ⟨u2, hu2⟩ : ∃ u2, u * u % p = u2 := ⟨_, rfl⟩
                have hu2p : u2 < p := by rw [← hu2]; exact Nat.mod_lt _ (by omega)
                have HU2 := Lib.hid hu2
                by_cases hjlt : j < n4
                · have hji : (j : Int) < (n4 : Int) := by omega
                  have HUN : Hid (u2 = g ^ 2 ^ (j + 1) % p) := Lib.hid (by rw [← hu2, HU.out, ← Nat.mul_mod, ← Nat.pow_add, ← Nat.mul_two, ← Nat.pow_succ])
                  clear hu2
                  go_wp2_with (go_at_call 17; (with_reducible refine (HM.out u u u2 _ hup hup HU2.out).mono ?_); rintro e w' ⟨rfl, rfl⟩)
                  go_round
                  case rel => exact ⟨j + 1, u2, by go_num, rfl, by omega, hu2p, HUN⟩
                  case measure => simp [intOf]; omega
                · have hji : ¬ (j : Int) < (n4 : Int) := by omega
                  obtain ⟨r2, hr2⟩ : ∃ r2, r * u % p = r2 := ⟨_, rfl⟩
                  obtain ⟨q2, hq2⟩ : ∃ q2, q * u2 % p = q2 := ⟨_, rfl⟩
                  have HR2 := Lib.hid hr2
                  have HQ2 := Lib.hid hq2
                  have hnext := HQ.out.next HP.out HQN.out HL1.out HY.out.2 hlL (g' := u) (by rw [HU.out, show j = n4 by omega, ← HN4.out])
                  rw [hu2, hr2, hq2] at hnext
                  have HNX := Lib.hid hnext.2.2
                  have hl1 := hnext.1
                  have hl2 := hnext.2.1
                  clear hu2 hr2 hq2 hnext
                  go_wp2_with (first
                    | (go_at_call 17; (with_reducible refine (HM.out r u r2 _ hrp hup HR2.out).mono ?_); rintro e w' ⟨rfl, rfl⟩)
                    | (go_at_call 17; (with_reducible refine (HM.out u u u2 _ hup hup HU2.out).mono ?_); rintro e w' ⟨rfl, rfl⟩)
                    | (go_at_call 17; (with_reducible refine (HM.out q u2 q2 _ hqp hu2p HQ2.out).mono ?_); rintro e w' ⟨rfl, rfl⟩))
                  go_round
                  case rel => exact ⟨l, u2, r2, q2, rfl, rfl, rfl, rfl, by omega, HNX⟩
                  case measure => simp [intOf]; omega
            · have hyi : ((y : Int) == 1) = false := by rw [beq_eq_false_iff_ne]; omega
              have hyn : ((y : Int) != 1) = true := by rw [bne_iff_ne]; omega
              have hlt : l < L - 1 := by
                rcases Nat.lt_or_ge l (L - 1) with h4 | h4
                · exact h4
                · exfalso
                  have := HY.out.1
                  rw [show l = L - 1 by omega, HQ1.out] at this
                  exact hy this
              obtain ⟨y2, hy2⟩ : ∃ y2, y * y % p = y2 := ⟨_, rfl⟩
              have hy2p : y2 < p := by rw [← hy2]; exact Nat.mod_lt _ (by omega)
              have HY2 := Lib.hid hy2
              have HYN : Hid (y2 = q ^ 2 ^ (l + 1) % p ∧ ∀ j, j < l + 1 → q ^ 2 ^ j % p ≠ 1) := Lib.hid ⟨by rw [← hy2, HY.out.1, ← Nat.mul_mod, ← Nat.pow_add, ← Nat.mul_two, ← Nat.pow_succ], fun j hj => by
                rcases Nat.lt_or_ge j l with h4 | h4
                · exact HY.out.2 j h4
                · obtain rfl : j = l := by omega
                  rw [← HY.out.1]; exact hy⟩
              clear hy hy2
              go_wp2_with (go_at_call 17; (with_reducible refine (HM.out y y y2 _ hyp hyp HY2.out).mono ?_); rintro e w' ⟨rfl, rfl⟩)
              go_round
              case rel => exact ⟨l + 1, y2, by go_num, rfl, hy2p, by omega, HYN⟩
              case measure => simp [intOf]; omega
end Go.Proofs.YtehlnkhbfbnadaaDoor
