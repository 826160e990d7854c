/- The document's Holds; the walk of PrimeHolds. -/
import Derived.Test.YtkcnigpajhmjiaaDoorRefH
namespace Go.Proofs.YtkcnigpajhmjiaaDoor
open Go.RowKit Go.Maps
theorem SF_two {l : List PSt} : ∀ i, i ≤ l.length → (∀ j, j < i → 3 ≤ (l.getD j PSt.nil).N) → ∀ q, SF l i q = true → 2 ≤ q
  | 0, _, _, q, h => by
    have : q = 2 := by simpa [SF] using h
    omega
  | i + 1, hi, hN, q, h => by
    rcases Bool.or_eq_true_iff.1 (show (decide (q = (l.getD i PSt.nil).N) || SF l i q) = true from h) with h1 | h1
    · have := of_decide_eq_true h1
      have := hN i (by omega)
      omega
    · exact SF_two i (by omega) (fun j hj => hN j (by omega)) q h1
theorem refholds_none (n : Nat) (A : Option Addr) (c : Nat) (w : World) : Calls Tryd.prog 8 #[.int .u64 (n : Int), .slice A 0 c] w fun e w' => e = .returned (.bool (decide (n = 2))) ∧ Below w.heap.size w w' := by
  by_cases h : n = 2
  · have h1 : ((n : Int) == 2) = true := by rw [h]; rfl
    have h2 : decide (n = 2) = true := by simp [h]
    rw [h2]
    clear h h2
    go_enter Tryd.func8, Tryd.ntmps8
    go_wp2
    go_ret
    exact ⟨rfl, Below.refl _ _⟩
  · have h1 : ((n : Int) == 2) = false := by rw [beq_eq_false_iff_ne]; omega
    have h2 : decide (n = 2) = false := by simp [h]
    rw [h2]
    clear h h2
    go_enter Tryd.func8, Tryd.ntmps8
    go_wp2
    go_ret
    exact ⟨rfl, Below.refl _ _⟩
set_option maxHeartbeats 4000000 in
theorem refholds_any (n : Nat) (A : Option Addr) (c : Nat) (l : List PSt) (w : World) (hn : n ≤ 18446744073709551615) (hl : l.length ≤ 20) (hl0 : 0 < l.length) (hc : l.length ≤ c) (hK : KP w w.heap.size A l) :
    Calls Tryd.prog 8 #[.int .u64 (n : Int), .slice A l.length c] w fun e w' => e = .returned (.bool (holdsB n l)) ∧ Below w.heap.size w w' := by
  obtain ⟨res, hres⟩ : ∃ res, holdsB n l = res := ⟨_, rfl⟩
  rw [hres]
  unfold holdsB at hres
  rw [if_neg (by omega)] at hres
  obtain ⟨R, hR⟩ : ∃ R, holdsL (SF l 0) l = R := ⟨_, rfl⟩
  have hR' : holdsL (fun x => decide (x = 2) || false) l = R := hR
  rw [hR'] at hres
  have HR0 : Hid (holdsL (SF l 0) (l.drop 0) = R ∧ ∀ j, j < 0 → 3 ≤ (l.getD j PSt.nil).N) := Lib.hid ⟨by rw [List.drop_zero]; exact hR, fun j hj => by omega⟩
  have HRES := Lib.hid hres
  have HK := Lib.hid hK
  have hlen : ((l.length : Int) == 0) = false := by rw [beq_eq_false_iff_ne]; omega
  clear hK hR hR' hres
  go_enter Tryd.func8, Tryd.ntmps8
  go_wp2
  go_loopw [5] (fun c wr => (∃ i : Nat, c = .int .i64 i ∧ i ≤ l.length ∧ Hid (holdsL (SF l i) (l.drop i) = R ∧ ∀ j, j < i → 3 ≤ (l.getD j PSt.nil).N)) ∧ Hid (Below w.heap.size w wr)) (fun c _ => l.length - (intOf c).toNat)
  case atStart => exact ⟨⟨0, rfl, Nat.zero_le _, HR0⟩, Lib.hid (Below.refl _ _)⟩
  case round =>
    clear HR0
    obtain ⟨⟨i, rfl, hi, HH⟩, HB⟩ := hrel
    obtain ⟨wo, rfl⟩ : ∃ wo : World, wo = wr := ⟨_, rfl⟩
    by_cases hlt : i < l.length
    · have hR := HH.out.1
      rw [holdsL_SF hlt] at hR
      obtain ⟨q1, hq1⟩ : ∃ q1, stepB (SF l i) (l.getD i PSt.nil).N (l.getD i PSt.nil).G (l.getD i PSt.nil).Q (l.getD i PSt.nil).E = q1 := ⟨_, rfl⟩
      have HST : Hid (Calls Tryd.prog 14 #[.slice A l.length c, .int .i64 (i : Int)] wo fun e w' => e = .returned (.bool q1) ∧ Below wo.heap.size wo w') := Lib.hid (by
        rw [← hq1]
        exact refstep_any A c l i wo hl hc hlt (HK.out.up HB.out) (SF_two i (by omega) HH.out.2))
      rw [hq1] at hR
      have HQ1 := Lib.hid hq1
      have hii : (i : Int) < (l.length : Int) := by omega
      clear hq1
      cases q1 with
      | false =>
        have HT : Hid (false = res) := Lib.hid (by rw [← HRES.out, ← hR]; rfl)
        clear hR
        go_wp2_with (go_at_call 14; (with_reducible refine HST.out.mono ?_); rintro e w2 ⟨rfl, hb2⟩; have HB2 := Lib.hid (below_chain HB.out hb2); clear hb2)
        go_ret
        exact ⟨ret_bool HT.out, HB2.out⟩
      | true =>
        have HN : Hid (holdsL (SF l (i + 1)) (l.drop (i + 1)) = R ∧ ∀ j, j < i + 1 → 3 ≤ (l.getD j PSt.nil).N) := Lib.hid ⟨hR, fun j hj => by
          rcases Nat.lt_or_ge j i with h | h
          · exact HH.out.2 j h
          · obtain rfl : j = i := by omega
            exact (stepB_two HQ1.out).1⟩
        clear hR
        go_wp2_with (go_at_call 14; (with_reducible refine HST.out.mono ?_); rintro e w2 ⟨rfl, hb2⟩; have HB2 := Lib.hid (below_chain HB.out hb2); clear hb2)
        go_roundw
        case rel => exact ⟨⟨i + 1, by go_num, by omega, HN⟩, HB2⟩
        case measure => simp [intOf]; omega
    · have hii : ¬ (i : Int) < (l.length : Int) := by omega
      have HRT : Hid (R = true) := Lib.hid (by rw [← HH.out.1, List.drop_eq_nil_of_le (by omega)]; rfl)
      obtain ⟨m, hm⟩ : ∃ m, l.length - 1 = m := ⟨_, rfl⟩
      obtain ⟨ad, rfl, had, hst⟩ := (HK.out.up HB.out) hl0
      obtain ⟨AQ, cQ, AE, cE, ⟨h1, _⟩, _, _, _, ⟨l5, _⟩, _⟩ := hst m (by omega)
      have hres := HRES.out
      rw [HRT.out, hm] at hres
      obtain ⟨s, hs⟩ : ∃ s, l.getD m PSt.nil = s := ⟨_, rfl⟩
      rw [hs] at h1 l5 hres
      obtain ⟨N, G, Q, E⟩ := s
      have hmi : (l.length : Int) - 1 = (m : Int) := by omega
      have hml : (m : Int) < (l.length : Int) := by omega
      clear hs hm hst
      by_cases hNn : N = n
      · have hni : ((N : Int) == (n : Int)) = true := by rw [hNn]; simp
        have HT : Hid (true = res) := Lib.hid (by rw [← hres]; simp [hNn])
        clear hres hNn
        go_wp2
        go_ret
        exact ⟨ret_bool HT.out, HB.out⟩
      · have hni : ((N : Int) == (n : Int)) = false := by rw [beq_eq_false_iff_ne]; omega
        have HT : Hid (false = res) := Lib.hid (by rw [← hres]; simp [hNn])
        clear hres hNn
        go_wp2
        go_ret
        exact ⟨ret_bool HT.out, HB.out⟩
theorem refholds_all (n : Nat) (A : Option Addr) (c : Nat) (l : List PSt) (w : World) (hn : n ≤ 18446744073709551615) (hl : l.length ≤ 20) (hc : l.length ≤ c) (hK : KP w w.heap.size A l) :
    Calls Tryd.prog 8 #[.int .u64 (n : Int), .slice A l.length c] w fun e w' => e = .returned (.bool (holdsB n l)) ∧ Below w.heap.size w w' := by
  by_cases h0 : l.length = 0
  · have : holdsB n l = decide (n = 2) := by unfold holdsB; rw [if_pos h0]
    rw [this, h0]
    exact refholds_none n A c w
  · exact refholds_any n A c l w hn hl (by omega) hc hK
set_option maxHeartbeats 4000000 in
theorem law_holds (n : Nat) (A : Option Addr) (c : Nat) (l : List PSt) (w : World) (hn : n ≤ 18446744073709551615) (hc : l.length ≤ c) (hll : l.length ≤ 9223372036854775807) (hK : KP w w.heap.size A l) :
    Calls Tryd.prog 3 #[.int .u64 (n : Int), .slice A l.length c] w fun e w' => e = .returned (.bool true) ∧ Below w.heap.size w w' := by
  have HK := Lib.hid hK
  clear hK
  by_cases h2 : 20 < l.length
  · have i2 : 20 < (l.length : Int) := by omega
    go_enter Tryd.func3, Tryd.ntmps3
    go_wp2_with (go_at_call 6; (with_reducible refine (alive_any _).mono ?_); rintro e w1 ⟨rfl, hb⟩; have HB := Lib.hid hb; clear hb)
    go_ret
    exact ⟨rfl, HB.out⟩
  · have i2 : ¬ 20 < (l.length : Int) := by omega
    obtain ⟨r, hr⟩ : ∃ r, holdsB n l = r := ⟨_, rfl⟩
    have HH1 : Hid (∀ W : World, Below w.heap.size w W → Calls Tryd.prog 7 #[.int .u64 (n : Int), .slice A l.length c] W fun e w' => e = .returned (.bool r) ∧ Below W.heap.size W w') := Lib.hid fun W hb => by
      rw [← hr]; exact holds_all n A c l W hn (by omega) hc (HK.out.up hb)
    have HH2 : Hid (∀ W : World, Below w.heap.size w W → Calls Tryd.prog 8 #[.int .u64 (n : Int), .slice A l.length c] W fun e w' => e = .returned (.bool r) ∧ Below W.heap.size W w') := Lib.hid fun W hb => by
      rw [← hr]; exact refholds_all n A c l W hn (by omega) hc (HK.out.up hb)
    clear hr
    go_enter Tryd.func3, Tryd.ntmps3
    go_wp2_with (go_at_call 6; (with_reducible refine (alive_any _).mono ?_); rintro e w1 ⟨rfl, hb⟩; have HB := Lib.hid hb; clear hb)
    go_loop [5] (fun c => ∃ i : Nat, c = .int .i64 i ∧ i ≤ l.length) (fun c => l.length - (intOf c).toNat)
    case atStart => exact ⟨0, rfl, Nat.zero_le _⟩
    case round =>
      obtain ⟨i, rfl, hi⟩ := hrel
      by_cases hlt : i < l.length
      · obtain ⟨ad, rfl, had, hst⟩ := (HK.out.up HB.out) (by omega)
        obtain ⟨AQ, cQ, AE, cE, ⟨h1, h2', h3, h4⟩, _, _, ⟨l1, l2, _, _⟩, _⟩ := hst i hlt
        replace h3 := addr_at (by decide) h3
        replace h4 := addr_at (by decide) h4
        obtain ⟨s, hs⟩ : ∃ s, l.getD i PSt.nil = s := ⟨_, rfl⟩
        rw [hs] at h3 h4 l1 l2
        obtain ⟨N, G, Q, E⟩ := s
        have l1' : Q.length ≤ 9223372036854775807 := l1
        have l2' : E.length ≤ 9223372036854775807 := l2
        have hii : (i : Int) < (l.length : Int) := by omega
        clear hs hst h1 h2' l1 l2
        by_cases hq : 20 < Q.length
        · have hqi : 20 < (Q.length : Int) := by omega
          go_wp2
          go_ret
          exact ⟨rfl, HB.out⟩
        · have hqi : ¬ 20 < (Q.length : Int) := by omega
          by_cases he : 20 < E.length
          · have hei : 20 < (E.length : Int) := by omega
            go_wp2
            go_ret
            exact ⟨rfl, HB.out⟩
          · have hei : ¬ 20 < (E.length : Int) := by omega
            go_wp2
            go_round
            case rel => exact ⟨i + 1, by go_num, by omega⟩
            case measure => simp [intOf]; omega
      · have hii : ¬ (i : Int) < (l.length : Int) := by omega
        go_wp2_with (first
          | (go_at_call 7; (with_reducible refine (HH1.out _ HB.out).mono ?_); rintro e w2 ⟨rfl, hb⟩; have HB2 := Lib.hid (below_chain HB.out hb); clear hb)
          | (go_at_call 8; (with_reducible refine (HH2.out _ HB2.out).mono ?_); rintro e w3 ⟨rfl, hb⟩; have HB3 := Lib.hid (below_chain HB2.out hb); clear hb))
        go_ret
        exact ⟨ret_bool (by cases r <;> rfl), HB3.out⟩
end Go.Proofs.YtkcnigpajhmjiaaDoor
