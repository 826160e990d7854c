/- Root, the program's and the document's. -/
import Derived.Test.YtehlnkhbfbnadaaDoorRoot
namespace Go.Proofs.YtehlnkhbfbnadaaDoor
open Go.RowKit
/-- A root, the lesser of the two. -/
def MadeMin (p a : Nat) (e : Ending) : Prop := ∃ r m : Nat, e = .returned (.tuple #[.int .u32 (m : Int), .int .i64 0]) ∧ r < p ∧ r * r % p = a ∧ m = min r (p - r)
theorem mroot_nought (p : Nat) (w : World) (hpl : p ≤ 2147483647) :
    Calls Tryd.prog 27 #[.int .u32 (p : Int), .int .u32 0] w fun e w' => e = .returned (.tuple #[.int .u32 0, .int .i64 0]) ∧ w = w' := by
  go_enter Tryd.func27, Tryd.ntmps27
  go_wp2
  go_ret2
  exact ⟨rfl, rfl⟩
theorem rroot_nought (p : Nat) (w : World) (hpl : p ≤ 2147483647) :
    Calls Tryd.prog 28 #[.int .u32 (p : Int), .int .u32 0] w fun e w' => e = .returned (.tuple #[.int .u32 0, .int .i64 0]) ∧ w = w' := by
  go_enter Tryd.func28, Tryd.ntmps28
  go_wp2
  go_ret2
  exact ⟨rfl, rfl⟩
theorem mroot_two (w : World) :
    Calls Tryd.prog 27 #[.int .u32 2, .int .u32 1] w fun e w' => e = .returned (.tuple #[.int .u32 1, .int .i64 0]) ∧ w = w' := by
  go_enter Tryd.func27, Tryd.ntmps27
  go_wp2
  go_ret2
  exact ⟨rfl, rfl⟩
theorem rroot_two (w : World) :
    Calls Tryd.prog 28 #[.int .u32 2, .int .u32 1] w fun e w' => e = .returned (.tuple #[.int .u32 1, .int .i64 0]) ∧ w = w' := by
  go_enter Tryd.func28, Tryd.ntmps28
  go_wp2
  go_ret2
  exact ⟨rfl, rfl⟩
set_option maxHeartbeats 1000000 in
theorem mroot_none (p a : Nat) (w : World) (h3 : 3 ≤ p) (hodd : p % 2 = 1) (hpl : p ≤ 2147483647) (ha : a < p) (ha0 : 0 < a) (hae : a ^ ((p - 1) / 2) % p ≠ 1) :
    Calls Tryd.prog 27 #[.int .u32 (p : Int), .int .u32 (a : Int)] w fun e w' => e = .returned (.tuple #[.int .u32 0, .int .i64 5]) ∧ w = w' := by
  obtain ⟨h, hh⟩ : ∃ h, p / 2 = h := ⟨_, rfl⟩
  rw [show (p - 1) / 2 = h by omega] at hae
  have hhd : (p : Int) / 2 = (h : Int) := by omega
  obtain ⟨v, hv⟩ : ∃ v, a ^ h % p = v := ⟨_, rfl⟩
  have HPW : Hid (∀ W : World, Calls Tryd.prog 21 #[.int .u32 (p : Int), .int .u32 (a : Int), .int .u64 (h : Int)] W fun e w' => e = .returned (.int .u32 (v : Int)) ∧ W = w') := Lib.hid fun W => by rw [← hv]; exact mpow_any p a h W hpl (by omega) ha (by omega)
  rw [hv] at hae
  have hvn : ((v : Int) != 1) = true := by rw [bne_iff_ne]; omega
  have ha1 : ((a : Int) == 0) = false := by rw [beq_eq_false_iff_ne]; omega
  have hp1 : ((p : Int) == 2) = false := by rw [beq_eq_false_iff_ne]; omega
  have hpi : (3 : Int) ≤ (p : Int) := by omega
  clear hv hh hodd hae
  go_enter Tryd.func27, Tryd.ntmps27
  go_wp2_with (go_at_call 21; (with_reducible refine (HPW.out _).mono ?_); rintro e w' ⟨rfl, rfl⟩)
  go_ret2
  exact ⟨rfl, rfl⟩
set_option maxHeartbeats 1000000 in
theorem mroot_some (p a : Nat) (w : World) (hg : Tab32 w) (hp : PrimeN p) (h3 : 3 ≤ p) (hpl : p ≤ 2147483647) (ha : a < p) (ha0 : 0 < a) (hae : a ^ ((p - 1) / 2) % p = 1) :
    Calls Tryd.prog 27 #[.int .u32 (p : Int), .int .u32 (a : Int)] w fun e w' => MadeMin p a e ∧ w = w' := by
  have hodd := hp.odd h3
  have HT := Lib.hid (tonelli_any p a w hg hp h3 hpl ha hae)
  obtain ⟨h, hh⟩ : ∃ h, p / 2 = h := ⟨_, rfl⟩
  rw [show (p - 1) / 2 = h by omega] at hae
  have hhd : (p : Int) / 2 = (h : Int) := by omega
  have HPW : Hid (∀ W : World, Calls Tryd.prog 21 #[.int .u32 (p : Int), .int .u32 (a : Int), .int .u64 (h : Int)] W fun e w' => e = .returned (.int .u32 1) ∧ W = w') := Lib.hid fun W => by have := mpow_any p a h W hpl (by omega) ha (by omega); rw [hae] at this; exact this
  have ha1 : ((a : Int) == 0) = false := by rw [beq_eq_false_iff_ne]; omega
  have hp1 : ((p : Int) == 2) = false := by rw [beq_eq_false_iff_ne]; omega
  have hpi : (3 : Int) ≤ (p : Int) := by omega
  clear hh hodd hae hg hp
  go_enter Tryd.func27, Tryd.ntmps27
  go_wp2_with (first
    | (go_at_call 21; (with_reducible refine (HPW.out _).mono ?_); rintro e w' ⟨rfl, rfl⟩)
    | (go_at_call 35; (with_reducible refine HT.out.mono ?_); rintro e w' ⟨⟨r, rfl, hr1, hr2⟩, rfl⟩; have HR := Lib.hid hr2; clear hr2))
  go_ret2
  exact ⟨⟨r, min r (p - r), ret_pair (by omega) rfl, hr1, HR.out, rfl⟩, rfl⟩
set_option maxHeartbeats 1000000 in
theorem rroot_none (p a : Nat) (w : World) (h3 : 3 ≤ p) (hodd : p % 2 = 1) (hpl : p ≤ 2147483647) (ha : a < p) (ha0 : 0 < a) (hae : a ^ ((p - 1) / 2) % p ≠ 1) :
    Calls Tryd.prog 28 #[.int .u32 (p : Int), .int .u32 (a : Int)] w fun e w' => e = .returned (.tuple #[.int .u32 0, .int .i64 5]) ∧ w = w' := by
  obtain ⟨h, hh⟩ : ∃ h, (p - 1) / 2 = h := ⟨_, rfl⟩
  rw [hh] at hae
  have hhd : ((p : Int) - 1) / 2 = (h : Int) := by omega
  obtain ⟨v, hv⟩ : ∃ v, a ^ h % p = v := ⟨_, rfl⟩
  have HPW : Hid (∀ W : World, Calls Tryd.prog 22 #[.int .u32 (p : Int), .int .u32 (a : Int), .int .u64 (h : Int)] W fun e w' => e = .returned (.int .u32 (v : Int)) ∧ W = w') := Lib.hid fun W => by rw [← hv]; exact rpow_any p a h W hpl (by omega) ha (by omega)
  rw [hv] at hae
  have hvn : ((v : Int) != 1) = true := by rw [bne_iff_ne]; omega
  have ha1 : ((a : Int) == 0) = false := by rw [beq_eq_false_iff_ne]; omega
  have hp1 : ((p : Int) == 2) = false := by rw [beq_eq_false_iff_ne]; omega
  have hpi : (3 : Int) ≤ (p : Int) := by omega
  clear hv hh hodd hae
  go_enter Tryd.func28, Tryd.ntmps28
  go_wp2_with (go_at_call 22; (with_reducible refine (HPW.out _).mono ?_); rintro e w' ⟨rfl, rfl⟩)
  go_ret2
  exact ⟨rfl, rfl⟩
set_option maxHeartbeats 8000000 in
theorem rroot_some (p a : Nat) (w : World) (hp : PrimeN p) (h3 : 3 ≤ p) (hpl : p ≤ 2147483647) (ha : a < p) (ha0 : 0 < a) (hae : a ^ ((p - 1) / 2) % p = 1) :
    Calls Tryd.prog 28 #[.int .u32 (p : Int), .int .u32 (a : Int)] w fun e w' => MadeMin p a e ∧ w = w' := by
  obtain ⟨zn, hz2, hzp, hzn⟩ := hp.nonres h3
  have hodd := hp.odd h3
  have HST : Hid (∀ z o T, 2 ≤ z → z < p → z ^ ((p - 1) / 2) % p ≠ 1 → p - 1 = o * 2 ^ T → o % 2 = 1 → 1 ≤ T → RT p a (T - 1) (a ^ ((o + 1) / 2) % p) (a ^ o % p) (z ^ o % p)) := Lib.hid fun z o T h1 h2 hne ho ho1 hT1 => by
    have h := PT.start h3 hT1 ho ho1 hae (z := z) (by
      rcases hp.euler h3 (a := z) (by rw [Nat.mod_eq_of_lt h2]; omega) with h | h
      · exact absurd h hne
      · exact h)
    rw [show o / 2 + 1 = (o + 1) / 2 by omega] at h
    exact ⟨h.2.1, h.2.2.1, h.2.2.2.1, h.2.2.2.2.1, h.2.2.2.2.2.1, h.2.2.2.2.2.2⟩
  obtain ⟨h, hh⟩ : ∃ h, (p - 1) / 2 = h := ⟨_, rfl⟩
  rw [hh] at hzn HST hae
  obtain ⟨p1, hp1⟩ : ∃ p1, p - 1 = p1 := ⟨_, rfl⟩
  have hsub : (p : Int) - 1 = (p1 : Int) := by omega
  have hhd : (p1 : Int) / 2 = (h : Int) := by omega
  rw [hp1] at HST
  have hp1e : p1 % 2 = 0 := by omega
  have HM : Hid (∀ (x y z : Nat) (W : World), x < p → y < p → x * y % p = z → Calls Tryd.prog 18 #[.int .u32 (p : Int), .int .u32 (x : Int), .int .u32 (y : Int)] W fun e w' => e = .returned (.int .u32 (z : Int)) ∧ W = w') :=
    Lib.hid fun x y z W hx hy hz => by rw [← hz]; exact rmul_any p x y W hpl (by omega) hx hy
  have HPW : Hid (∀ (x n z : Nat) (W : World), x < p → n ≤ 2147483647 → x ^ n % p = z → Calls Tryd.prog 22 #[.int .u32 (p : Int), .int .u32 (x : Int), .int .u64 (n : Int)] W fun e w' => e = .returned (.int .u32 (z : Int)) ∧ W = w') :=
    Lib.hid fun x n z W hx hn hz => by rw [← hz]; exact rpow_any p x n W hpl (by omega) hx (by omega)
  have HP := Lib.hid hp
  have HZN := Lib.hid hzn
  have HAE := Lib.hid hae
  have HHD := Lib.hid hhd
  have HSUB := Lib.hid hsub
  have HP1E := Lib.hid hp1e
  have hp1l : p1 ≤ 2147483647 := by omega
  have hp1p : 2 ≤ p1 := by omega
  have ha1 : ((a : Int) == 0) = false := by rw [beq_eq_false_iff_ne]; omega
  have hp2 : ((p : Int) == 2) = false := by rw [beq_eq_false_iff_ne]; omega
  have hpi : (3 : Int) ≤ (p : Int) := by omega
  have hhl : h ≤ 2147483647 := by omega
  clear hp hzn hodd hae hh hp1 hp1e
  go_enter Tryd.func28, Tryd.ntmps28
  go_wp2_with (go_at_call 22; (with_reducible refine (HPW.out a h 1 _ ha hhl HAE.out).mono ?_); rintro e w' ⟨rfl, rfl⟩)
  clear hhd ha1 hp2
  go_loop [7] (fun x => ∃ z : Nat, x = .int .u32 z ∧ 2 ≤ z ∧ z ≤ zn) (fun x => p - (intOf x).toNat)
  case atStart => exact ⟨2, rfl, by omega, hz2⟩
  case round =>
    obtain ⟨z, rfl, hz1, hzl⟩ := hrel
    obtain ⟨v, hv⟩ : ∃ v, z ^ h % p = v := ⟨_, rfl⟩
    have HV := Lib.hid hv
    by_cases hv1 : v = 1
    · have hvi : ((v : Int) == 1) = true := by rw [hv1]; rfl
      have hlt : z < zn := by
        rcases Nat.lt_or_ge z zn with h4 | h4
        · exact h4
        · obtain rfl : z = zn := by omega
          rw [hv1] at hv
          exact absurd hv HZN.out
      clear hv hv1
      go_wp2_with (go_at_call 22; (with_reducible refine (HPW.out z h v _ (by omega) hhl HV.out).mono ?_); rintro e w' ⟨rfl, rfl⟩)
      go_round
      case rel => exact ⟨z + 1, by go_num, by omega, by omega⟩
      case measure => simp [intOf]; omega
    · have hvi : ((v : Int) == 1) = false := by rw [beq_eq_false_iff_ne]; omega
      have HZ1 : Hid (z ^ h % p ≠ 1) := Lib.hid (by rw [hv]; exact hv1)
      clear hv hv1
      go_wp2_with (go_at_call 22; (with_reducible refine (HPW.out z h v _ (by omega) hhl HV.out).mono ?_); rintro e w' ⟨rfl, rfl⟩)
      go_loop [8, 9] (fun x1 x2 => ∃ o T : Nat, x1 = .int .u64 o ∧ x2 = .int .i64 T ∧ 0 < o ∧ o ≤ p1 ∧ T + o ≤ p1 ∧ Hid (p1 = o * 2 ^ T)) (fun x1 _ => (intOf x1).toNat)
      case atStart => exact ⟨p1, 0, rfl, rfl, by omega, Nat.le_refl _, by omega, Lib.hid (by rw [Nat.pow_zero, Nat.mul_one])⟩
      case round =>
        obtain ⟨o, T, rfl, rfl, ho0, hol, hTo, HO⟩ := hrel
        obtain ⟨t, ht⟩ : ∃ t, o % 2 = t := ⟨_, rfl⟩
        have htt : (o : Int) % 2 = (t : Int) := by omega
        by_cases ht0 : t = 0
        · have hti : ((t : Int) == 0) = true := by rw [ht0]; rfl
          obtain ⟨d, hd⟩ : ∃ d, o / 2 = d := ⟨_, rfl⟩
          have hdd : (o : Int) / 2 = (d : Int) := by omega
          have HD : Hid (p1 = d * 2 ^ (T + 1)) := Lib.hid (by
            rw [HO.out, Nat.pow_succ, ← Nat.mul_assoc, Nat.mul_right_comm, ← hd, show o / 2 * 2 = o by omega])
          have hd0 : 0 < d := by omega
          have hdl : d < o := by omega
          clear ht ht0 hd
          go_wp2
          go_round
          case rel => exact ⟨d, T + 1, rfl, by go_num, hd0, by omega, by omega, HD⟩
          case measure => simp [intOf]; omega
        · have hti : ((t : Int) == 0) = false := by rw [beq_eq_false_iff_ne]; omega
          have hT1 : 1 ≤ T := by
            rcases Nat.eq_zero_or_pos T with h0 | h0
            · have := HO.out
              have := HP1E.out
              rw [h0, Nat.pow_zero, Nat.mul_one] at *
              omega
            · exact h0
          obtain ⟨o2, ho2⟩ : ∃ o2, (o + 1) / 2 = o2 := ⟨_, rfl⟩
          have hod : ((o : Int) + 1) / 2 = (o2 : Int) := by omega
          have ho2l : o2 ≤ 2147483647 := by omega
          have hRT := HST.out z o T hz1 (by omega) HZ1.out HO.out (by omega) hT1
          rw [ho2] at hRT
          obtain ⟨x0, hx0⟩ : ∃ x0, a ^ o2 % p = x0 := ⟨_, rfl⟩
          obtain ⟨t0, ht0'⟩ : ∃ t0, a ^ o % p = t0 := ⟨_, rfl⟩
          obtain ⟨c0, hc0⟩ : ∃ c0, z ^ o % p = c0 := ⟨_, rfl⟩
          rw [hx0, ht0', hc0] at hRT
          obtain ⟨k0, hk0⟩ : ∃ k0, T - 1 = k0 := ⟨_, rfl⟩
          rw [hk0] at hRT
          have hTk : (T : Int) - 1 = (k0 : Int) := by omega
          have HX0 := Lib.hid hx0
          have HT0 := Lib.hid ht0'
          have HC0 := Lib.hid hc0
          have HRT := Lib.hid hRT
          have hk0l : k0 ≤ 2147483647 := by omega
          clear ht ht0 ho2 hRT hx0 ht0' hc0 hk0
          go_wp2_with (first
            | (go_at_call 22; (with_reducible refine (HPW.out z o c0 _ (by omega) (by omega) HC0.out).mono ?_); rintro e w' ⟨rfl, rfl⟩)
            | (go_at_call 22; (with_reducible refine (HPW.out a o2 x0 _ ha ho2l HX0.out).mono ?_); rintro e w' ⟨rfl, rfl⟩)
            | (go_at_call 22; (with_reducible refine (HPW.out a o t0 _ ha (by omega) HT0.out).mono ?_); rintro e w' ⟨rfl, rfl⟩))
          clear hTk hod
          go_loop [13, 10, 11, 12] (fun y1 y2 y3 y4 => ∃ k x t c : Nat, y1 = .int .i64 k ∧ y2 = .int .u32 x ∧ y3 = .int .u32 t ∧ y4 = .int .u32 c ∧ k ≤ k0 ∧ Hid (RT p a k x t c)) (fun y1 _ _ _ => (intOf y1).toNat)
          case atStart => exact ⟨k0, x0, t0, c0, rfl, rfl, rfl, rfl, Nat.le_refl _, HRT⟩
          case round =>
            clear HRT HX0 HT0 HC0
            obtain ⟨k, x, t1, c, rfl, rfl, rfl, rfl, hkk, HQ⟩ := hrel
            obtain ⟨hxp, htp, hcp, _⟩ := HQ.out
            by_cases hk : k = 0
            · subst hk
              have HE : Hid (x * x % p = a) := Lib.hid (HQ.out.done ha)
              go_wp2
              go_ret2
              exact ⟨⟨x, min x (p - x), ret_pair (by omega) rfl, hxp, HE.out, rfl⟩, rfl⟩
            · obtain ⟨k1, rfl⟩ : ∃ k1, k = k1 + 1 := ⟨k - 1, by omega⟩
              have hki : (1 : Int) ≤ ((k1 + 1 : Nat) : Int) := by omega
              obtain ⟨K, hK⟩ : ∃ K, k1 + 1 = K := ⟨_, rfl⟩
              have hKk : (K : Int) - 1 = (k1 : Int) := by omega
              have HK := Lib.hid hK
              rw [hK] at hki
              have hkK : k1 < K := by omega
              have hKK : K ≤ k0 := by omega
              have HQ' : Hid (RT p a (k1 + 1) x t1 c) := HQ
              rw [hK]
              clear HQ hK hk hkk
              go_wp2
              go_loop [15, 14] (fun y1 y2 => ∃ i s : Nat, y1 = .int .i64 i ∧ y2 = .int .u32 s ∧ 1 ≤ i ∧ i ≤ K ∧ s < p ∧ Hid (s = t1 ^ 2 ^ (i - 1) % p)) (fun y1 _ => K - (intOf y1).toNat)
              case atStart => exact ⟨1, t1, rfl, rfl, by omega, by omega, htp, Lib.hid (by rw [Nat.sub_self, Nat.pow_zero, Nat.pow_one, Nat.mod_eq_of_lt htp])⟩
              case round =>
                obtain ⟨i, s, rfl, rfl, hi1, hiK, hsp, HS⟩ := hrel
                by_cases hilt : i < K
                · have hii : (i : Int) < (K : Int) := by omega
                  obtain ⟨s2, hs2⟩ : ∃ s2, s * s % p = s2 := ⟨_, rfl⟩
                  have hs2p : s2 < p := by rw [← hs2]; exact Nat.mod_lt _ (by omega)
                  have HS2 := Lib.hid hs2
                  have HSN : Hid (s2 = t1 ^ 2 ^ (i + 1 - 1) % p) := Lib.hid (by rw [← hs2, HS.out, ← Nat.mul_mod, ← Nat.pow_add, ← Nat.mul_two, ← Nat.pow_succ]; congr 3; omega)
                  clear hs2
                  go_wp2_with (go_at_call 18; (with_reducible refine (HM.out s s s2 _ hsp hsp HS2.out).mono ?_); rintro e w' ⟨rfl, rfl⟩)
                  go_round
                  case rel => exact ⟨i + 1, s2, by go_num, rfl, by omega, by omega, hs2p, HSN⟩
                  case measure => simp [intOf]; omega
                · have hii : ¬ (i : Int) < (K : Int) := by omega
                  have HSE : Hid (s = t1 ^ 2 ^ k1 % p) := Lib.hid (by rw [HS.out, show i - 1 = k1 by omega])
                  obtain ⟨c2, hc2⟩ : ∃ c2, c * c % p = c2 := ⟨_, rfl⟩
                  have hc2p : c2 < p := by rw [← hc2]; exact Nat.mod_lt _ (by omega)
                  have HC2 := Lib.hid hc2
                  by_cases hs1 : s = 1
                  · have hsi : ((s : Int) != 1) = false := by rw [hs1]; rfl
                    have hsi2 : ((s : Int) == 1) = true := by rw [hs1]; rfl
                    have hN := HQ'.out.same HP.out (by rw [← HSE.out, hs1])
                    rw [hc2] at hN
                    have HN := Lib.hid hN
                    clear hs1 hN hc2
                    go_wp2_with (go_at_call 18; (with_reducible refine (HM.out c c c2 _ hcp hcp HC2.out).mono ?_); rintro e w' ⟨rfl, rfl⟩)
                    go_round
                    case rel => exact ⟨k1, x, t1, c2, rfl, rfl, rfl, rfl, by omega, HN⟩
                    case measure => simp [intOf]; omega
                  · have hsi : ((s : Int) != 1) = true := by rw [bne_iff_ne]; omega
                    have hsi2 : ((s : Int) == 1) = false := by rw [beq_eq_false_iff_ne]; omega
                    have hN := HQ'.out.turn HP.out (by rw [← HSE.out]; exact hs1)
                    obtain ⟨x2, hx2⟩ : ∃ x2, x * c % p = x2 := ⟨_, rfl⟩
                    rw [hc2] at hN
                    obtain ⟨t2, ht2⟩ : ∃ t2, t1 * c2 % p = t2 := ⟨_, rfl⟩
                    rw [hx2, ht2] at hN
                    have HN := Lib.hid hN
                    have HX2 := Lib.hid hx2
                    have HT2 := Lib.hid ht2
                    clear hs1 hN hc2 hx2 ht2
                    go_wp2_with (first
                      | (go_at_call 18; (with_reducible refine (HM.out x c x2 _ hxp hcp HX2.out).mono ?_); rintro e w' ⟨rfl, rfl⟩)
                      | (go_at_call 18; (with_reducible refine (HM.out c c c2 _ hcp hcp HC2.out).mono ?_); rintro e w' ⟨rfl, rfl⟩)
                      | (go_at_call 18; (with_reducible refine (HM.out t1 c2 t2 _ htp hc2p HT2.out).mono ?_); rintro e w' ⟨rfl, rfl⟩))
                    go_round
                    case rel => exact ⟨k1, x2, t2, c2, rfl, rfl, rfl, rfl, by omega, HN⟩
                    case measure => simp [intOf]; omega
end Go.Proofs.YtehlnkhbfbnadaaDoor
