/- Contracts of the document's check of a paper: times, Power, step, Holds; the walk of PrimeHolds. -/
import Derived.Test.YtkcnigpajhmjiaaDoorShown
namespace Go.Proofs.YtkcnigpajhmjiaaDoor
open Go.RowKit Go.Maps
theorem dbl_half {x a b m r : Nat} (h : (x + a * b) % m = r) : (b % 2 = 1 → ((x + a) % m + ((a + a) % m) * (b / 2)) % m = r) ∧ (b % 2 = 0 → (x + ((a + a) % m) * (b / 2)) % m = r) := by
  have key : ∀ y, (y + ((a + a) % m) * (b / 2)) % m = (y + (a + a) * (b / 2)) % m := fun y => by
    rw [Nat.add_mod, Nat.mod_mul_mod, ← Nat.add_mod]
  have e2 : (a + a) * (b / 2) = a * (2 * (b / 2)) := by rw [← Nat.two_mul, Nat.mul_comm 2 a, Nat.mul_assoc]
  constructor
  · intro h1
    rw [key, Nat.mod_add_mod, e2, Nat.add_assoc, show a + a * (2 * (b / 2)) = a * (2 * (b / 2) + 1) by rw [Nat.mul_add]; omega, show 2 * (b / 2) + 1 = b by omega]
    exact h
  · intro h0
    rw [key, e2, show 2 * (b / 2) = b by omega]
    exact h
set_option maxHeartbeats 1000000 in
theorem rtimes_any (a b m : Nat) (w : World) (hm : m ≤ 9223372036854775807) (ha : a < m) (hb : b ≤ 18446744073709551615) :
    Calls Tryd.prog 22 #[.int .u64 (a : Int), .int .u64 (b : Int), .int .u64 (m : Int)] w fun e w' => e = .returned (.int .u64 ((a * b % m : Nat) : Int)) ∧ w = w' := by
  obtain ⟨z, hz⟩ : ∃ z, a * b % m = z := ⟨_, rfl⟩
  have HZ : Hid ((0 + a * b) % m = z) := Lib.hid (by rw [Nat.zero_add]; exact hz)
  rw [hz]
  have hm0 : ((m : Int) == 0) = false := by rw [beq_eq_false_iff_ne]; omega
  have hmz : (0 : Int) < (m : Int) := by omega
  clear hz
  go_enter Tryd.func22, Tryd.ntmps22
  go_wp2
  go_loop [7, 0, 1] (fun o x k => ∃ u v r : Nat, o = .int .u64 u ∧ x = .int .u64 v ∧ k = .int .u64 r ∧ u < m ∧ v < m ∧ r ≤ 18446744073709551615 ∧ Hid ((u + v * r) % m = z)) (fun _ _ k => (intOf k).toNat)
  case atStart => exact ⟨0, a, b, rfl, rfl, rfl, by omega, ha, hb, HZ⟩
  case round =>
    clear HZ
    obtain ⟨u, v, r, rfl, rfl, rfl, hu, hv, hr, HH⟩ := hrel
    by_cases h0 : r = 0
    · subst h0
      have HE : Hid (u = z) := Lib.hid (by have := HH.out; rw [Nat.mul_zero, Nat.add_zero, Nat.mod_eq_of_lt hu] at this; exact this)
      clear HH
      go_wp2
      go_ret
      exact ⟨ret_int (by rw [HE.out]), rfl⟩
    · have hN := dbl_half HH.out
      obtain ⟨v2, hv2⟩ : ∃ v2, (v + v) % m = v2 := ⟨_, rfl⟩
      have hv2l : v2 < m := by rw [← hv2]; exact Nat.mod_lt _ (by omega)
      obtain ⟨vv, hvv⟩ : ∃ vv, v + v = vv := ⟨_, rfl⟩
      have hvvi : (v : Int) + (v : Int) = (vv : Int) := by omega
      have hvvl : (vv : Int) ≤ 18446744073709551615 := by omega
      have hvm : (vv : Int) % (m : Int) = (v2 : Int) := by rw [← hv2, hvv, Int.natCast_emod]
      have hri : (0 : Int) < (r : Int) := by omega
      obtain ⟨t, ht⟩ : ∃ t, r % 2 = t := ⟨_, rfl⟩
      have htt : (r : Int) % 2 = (t : Int) := by omega
      obtain ⟨d, hd⟩ : ∃ d, r / 2 = d := ⟨_, rfl⟩
      have hdd : (r : Int) / 2 = (d : Int) := by omega
      have hdl : d < r := by omega
      rw [hv2, ht, hd] at hN
      by_cases h1 : t = 1
      · subst h1
        obtain ⟨uv, huv⟩ : ∃ uv, u + v = uv := ⟨_, rfl⟩
        obtain ⟨u2, hu2⟩ : ∃ u2, uv % m = u2 := ⟨_, rfl⟩
        have huvi : (u : Int) + (v : Int) = (uv : Int) := by omega
        have huvl : (uv : Int) ≤ 18446744073709551615 := by omega
        have hum : (uv : Int) % (m : Int) = (u2 : Int) := by rw [← hu2, Int.natCast_emod]
        have hu2l : u2 < m := by rw [← hu2]; exact Nat.mod_lt _ (by omega)
        have HN := Lib.hid (hN.1 rfl)
        rw [huv, hu2] at HN
        clear hN hv2 hvv ht hd HH huv hu2
        go_wp2
        go_round
        case rel => exact ⟨u2, v2, d, by rw [hum], by rw [hvm], rfl, hu2l, hv2l, by omega, HN⟩
        case measure => simp [intOf]; omega
      · obtain rfl : t = 0 := by omega
        have HN := Lib.hid (hN.2 rfl)
        clear hN hv2 hvv ht hd HH h1
        go_wp2
        go_round
        case rel => exact ⟨u, v2, d, rfl, by rw [hvm], rfl, hu, hv2l, by omega, HN⟩
        case measure => simp [intOf]; omega
set_option maxHeartbeats 1000000 in
theorem rPower_any (a n m : Nat) (w : World) (hm : m ≤ 9223372036854775807) (hm2 : 2 ≤ m) (hal : a ≤ 18446744073709551615) (hn : n ≤ 18446744073709551615) :
    Calls Tryd.prog 19 #[.int .u64 (a : Int), .int .u64 (n : Int), .int .u64 (m : Int)] w fun e w' => e = .returned (.int .u64 ((a ^ n % m : Nat) : Int)) ∧ w = w' := by
  obtain ⟨z, hz⟩ : ∃ z, a ^ n % m = z := ⟨_, rfl⟩
  obtain ⟨c, hc⟩ : ∃ c, a % m = c := ⟨_, rfl⟩
  have hcl : c < m := by rw [← hc]; exact Nat.mod_lt _ (by omega)
  have hcz : (a : Int) % (m : Int) = (c : Int) := by rw [← hc, Int.natCast_emod]
  have HZ : Hid (1 * c ^ n % m = z) := Lib.hid (by rw [Nat.one_mul, ← hc, ← Nat.pow_mod]; exact hz)
  have HT : Hid (∀ (x y r : Nat) (W : World), x < m → y < m → x * y % m = r → Calls Tryd.prog 22 #[.int .u64 (x : Int), .int .u64 (y : Int), .int .u64 (m : Int)] W fun e w' => e = .returned (.int .u64 (r : Int)) ∧ W = w') := Lib.hid fun x y r W hx hy hr => by rw [← hr]; exact rtimes_any x y m W hm hx (by omega)
  rw [hz]
  have hm0 : ((m : Int) == 0) = false := by rw [beq_eq_false_iff_ne]; omega
  have hmz : (0 : Int) < (m : Int) := by omega
  have h1m : (1 : Int) % (m : Int) = 1 := Int.emod_eq_of_lt (by omega) (by omega)
  clear hz hc
  go_enter Tryd.func19, Tryd.ntmps19
  go_wp2
  go_loop [7, 0, 1] (fun o b k => ∃ x y r : Nat, o = .int .u64 x ∧ b = .int .u64 y ∧ k = .int .u64 r ∧ x < m ∧ y < m ∧ r ≤ 18446744073709551615 ∧ Hid (x * y ^ r % m = z)) (fun _ _ k => (intOf k).toNat)
  case atStart => exact ⟨1, c, n, by rw [h1m]; rfl, by rw [hcz], rfl, by omega, hcl, hn, HZ⟩
  case round =>
    clear HZ hcz h1m
    obtain ⟨x, y, r, rfl, rfl, rfl, hx, hy, hr, HH⟩ := hrel
    by_cases h0 : r = 0
    · subst h0
      have HE : Hid (x = z) := Lib.hid (by have := HH.out; rw [Nat.pow_zero, Nat.mul_one, Nat.mod_eq_of_lt hx] at this; exact this)
      clear HH
      go_wp2
      go_ret
      exact ⟨ret_int (by rw [HE.out]), rfl⟩
    · have hN := pow_half HH.out
      obtain ⟨y2, hy2⟩ : ∃ y2, y * y % m = y2 := ⟨_, rfl⟩
      have hy2l : y2 < m := by rw [← hy2]; exact Nat.mod_lt _ (by omega)
      have HY := Lib.hid hy2
      have hri : (0 : Int) < (r : Int) := by omega
      obtain ⟨t, ht⟩ : ∃ t, r % 2 = t := ⟨_, rfl⟩
      have htt : (r : Int) % 2 = (t : Int) := by omega
      obtain ⟨d, hd⟩ : ∃ d, r / 2 = d := ⟨_, rfl⟩
      have hdd : (r : Int) / 2 = (d : Int) := by omega
      have hdl : d < r := by omega
      rw [hy2, ht, hd] at hN
      by_cases h1 : t = 1
      · subst h1
        obtain ⟨x2, hx2⟩ : ∃ x2, x * y % m = x2 := ⟨_, rfl⟩
        have hx2l : x2 < m := by rw [← hx2]; exact Nat.mod_lt _ (by omega)
        have HX := Lib.hid hx2
        have HN := Lib.hid (hN.1 rfl)
        rw [hx2] at HN
        clear hN hx2 hy2 ht hd HH
        go_wp2_with (first
          | (go_at_call 22; (with_reducible refine (HT.out x y x2 _ hx hy HX.out).mono ?_); rintro e w' ⟨rfl, rfl⟩)
          | (go_at_call 22; (with_reducible refine (HT.out y y y2 _ hy hy HY.out).mono ?_); rintro e w' ⟨rfl, rfl⟩))
        go_round
        case rel => exact ⟨x2, y2, d, rfl, rfl, rfl, hx2l, hy2l, by omega, HN⟩
        case measure => simp [intOf]; omega
      · obtain rfl : t = 0 := by omega
        have HN := Lib.hid (hN.2 rfl)
        clear hN hy2 ht hd HH h1
        go_wp2_with (go_at_call 22; (with_reducible refine (HT.out y y y2 _ hy hy HY.out).mono ?_); rintro e w' ⟨rfl, rfl⟩)
        go_round
        case rel => exact ⟨x, y2, d, rfl, rfl, rfl, hx, hy2l, by omega, HN⟩
        case measure => simp [intOf]; omega
/-- What is shown ahead of a step. -/
def SF (l : List PSt) : Nat → Nat → Bool
  | 0, x => decide (x = 2) || false
  | i + 1, x => decide (x = (l.getD i PSt.nil).N) || SF l i x
theorem holdsL_SF {l : List PSt} {i : Nat} (h : i < l.length) : holdsL (SF l i) (l.drop i) = if stepB (SF l i) (l.getD i PSt.nil).N (l.getD i PSt.nil).G (l.getD i PSt.nil).Q (l.getD i PSt.nil).E = true then holdsL (SF l (i + 1)) (l.drop (i + 1)) else false := holdsL_step h
theorem alloc_cell {w : World} {cs : Array Value} {t : TypeId} (j : Nat) : (w.alloc (.cells cs t)).cell? ⟨w.heap.size, j, none⟩ = cs[j]? := by
  have e : (w.alloc (.cells cs t)).heap[w.heap.size]? = some (.cells cs t) := heap_alloc_new w _
  unfold World.cell?
  simp only [e]
  rfl
theorem genB_none {N G : Nat} : ∀ (Q : List Int) (i : Nat), i < Q.length → G ^ ((N - 1) / (Q.getD i 0).toNat) % N = 1 → genB N G Q = false
  | [], i, h, _ => absurd h (by simp)
  | q :: qs, 0, _, h => by
    unfold genB
    rw [if_pos (by simpa using h)]
  | q :: qs, i + 1, hi, h => by
    unfold genB
    by_cases hc : G ^ ((N - 1) / q.toNat) % N = 1
    · rw [if_pos hc]
    · rw [if_neg hc]
      exact genB_none qs i (by simpa using hi) (by simpa using h)
theorem genB_yes {N G : Nat} : ∀ (Q : List Int), (∀ i, i < Q.length → G ^ ((N - 1) / (Q.getD i 0).toNat) % N ≠ 1) → genB N G Q = true
  | [], _ => rfl
  | q :: qs, h => by
    unfold genB
    rw [if_neg (by simpa using h 0 (by simp))]
    exact genB_yes qs fun i hi => by simpa using h (i + 1) (by simpa using hi)
theorem lastB_gen {N G : Nat} {Q : List Int} {R : Option Nat} (h : genB N G Q = false) : lastB N G Q R = false := by
  unfold lastB
  cases R with
  | none => rfl
  | some x => simp [h]
set_option maxHeartbeats 2000000 in
theorem refstep_bad (A : Option Addr) (c : Nat) (l : List PSt) (k : Nat) (w : World) (hl : l.length ≤ 20) (hc : l.length ≤ c) (hk : k < l.length) (hK : KP w w.heap.size A l)
    (N G : Nat) (Q E : List Int) (hs : l.getD k PSt.nil = ⟨N, G, Q, E⟩) (hbad : N < 3 ∨ 9223372036854775808 ≤ N ∨ G < 1 ∨ N ≤ G ∨ Q.length ≠ E.length) :
    Calls Tryd.prog 14 #[.slice A l.length c, .int .i64 (k : Int)] w fun e w' => e = .returned (.bool false) ∧ Below w.heap.size w w' := by
  obtain ⟨ad, rfl, had, hst⟩ := hK (by omega)
  obtain ⟨AQ, cQ, AE, cE, ⟨h1, h2, h3, h4⟩, hQ, hE, ⟨l1, l2, l3, l4⟩, ⟨l5, l6⟩, rQ, rE⟩ := hst k hk
  rw [hs] at h1 h2 h3 h4 hQ hE l1 l2 l3 l4 l5 l6 rQ rE
  replace h2 := addr_at (by decide) h2
  replace h3 := addr_at (by decide) h3
  replace h4 := addr_at (by decide) h4
  have hki : (k : Int) < (l.length : Int) := by omega
  have l1' : Q.length ≤ 9223372036854775807 := l1
  have l2' : E.length ≤ 9223372036854775807 := l2
  clear hQ hE rQ rE hst hs l1 l2 l3 l4 l5 l6
  by_cases hc1 : N < 3
  · have ic1 : (N : Int) < 3 := by omega
    clear hbad
    go_enter Tryd.func14, Tryd.ntmps14
    go_wp2
    go_ret
    exact ⟨rfl, by go_grown⟩
  · have ic1 : ¬ (N : Int) < 3 := by omega
    by_cases hc2 : 9223372036854775808 ≤ N
    · have ic2 : 9223372036854775808 ≤ (N : Int) := by omega
      clear hbad
      go_enter Tryd.func14, Tryd.ntmps14
      go_wp2
      go_ret
      exact ⟨rfl, by go_grown⟩
    · have ic2 : ¬ 9223372036854775808 ≤ (N : Int) := by omega
      by_cases hc3 : G < 1
      · have ic3 : (G : Int) < 1 := by omega
        clear hbad
        go_enter Tryd.func14, Tryd.ntmps14
        go_wp2
        go_ret
        exact ⟨rfl, by go_grown⟩
      · have ic3 : ¬ (G : Int) < 1 := by omega
        by_cases hc4 : N ≤ G
        · have ic4 : (N : Int) ≤ (G : Int) := by omega
          clear hbad
          go_enter Tryd.func14, Tryd.ntmps14
          go_wp2
          go_ret
          exact ⟨rfl, by go_grown⟩
        · have ic4 : ¬ (N : Int) ≤ (G : Int) := by omega
          have i5 : ((Q.length : Int) == (E.length : Int)) = false := by rw [beq_eq_false_iff_ne]; omega
          have i6 : ((Q.length : Int) != (E.length : Int)) = true := by rw [bne_iff_ne]; omega
          clear hbad
          go_enter Tryd.func14, Tryd.ntmps14
          go_wp2
          go_ret
          exact ⟨rfl, by go_grown⟩
set_option maxRecDepth 100000 in
set_option maxHeartbeats 16000000 in
theorem refstep_good (A : Option Addr) (c : Nat) (l : List PSt) (k : Nat) (w : World) (hl : l.length ≤ 20) (hc : l.length ≤ c) (hk : k < l.length) (hK : KP w w.heap.size A l)
    (N G : Nat) (Q E : List Int) (hs : l.getD k PSt.nil = ⟨N, G, Q, E⟩) (hSS : ∀ q, SF l k q = true → 2 ≤ q) (h3N : 3 ≤ N) (hN63 : N ≤ 9223372036854775807) (hG1 : 1 ≤ G) (hGN : G < N) (hle : Q.length = E.length) :
    Calls Tryd.prog 14 #[.slice A l.length c, .int .i64 (k : Int)] w fun e w' => e = .returned (.bool (lastB N G Q (goQ (SF l k) true 0 Q E (N - 1)))) ∧ Below w.heap.size w w' := by
  obtain ⟨ad, rfl, had, hst⟩ := hK (by omega)
  obtain ⟨AQ, cQ, AE, cE, ⟨h1, h2, h3, h4⟩, hQ, hE, ⟨l1, l2, l3, l4⟩, ⟨l5, l6⟩, rQ, rE⟩ := hst k hk
  rw [hs] at h1 h2 h3 h4 hQ hE l1 l2 l3 l4 l5 l6 rQ rE
  replace h2 := addr_at (by decide) h2
  replace h3 := addr_at (by decide) h3
  replace h4 := addr_at (by decide) h4
  have hki : (k : Int) < (l.length : Int) := by omega
  obtain ⟨R, hR0⟩ : ∃ R, goQ (SF l k) true 0 Q E (N - 1) = R := ⟨_, rfl⟩
  obtain ⟨res, hres⟩ : ∃ res, lastB N G Q R = res := ⟨_, rfl⟩
  obtain ⟨N1, hN1⟩ : ∃ N1, N - 1 = N1 := ⟨_, rfl⟩
  have hsub : (N : Int) - 1 = (N1 : Int) := by omega
  rw [hR0, hres]
  have HRES := Lib.hid hres
  rw [hN1] at hR0
  have HR0 : Hid (goQ (SF l k) (firstF 0) (prevF Q 0) (Q.drop 0) (E.drop 0) N1 = R) := Lib.hid (by
    rw [List.drop_zero, List.drop_zero, ← hR0]
    cases Q with
    | nil => rfl
    | cons q qs => cases E with
      | nil => rfl
      | cons e es => simp [goQ, firstF])
  obtain ⟨ob, hob⟩ : ∃ ob : Obj, Obj.cells #[.int .u64 (N : Int), .int .u64 (G : Int), .slice AQ Q.length cQ, .slice AE E.length cE] 28 = ob := ⟨_, rfl⟩
  have hB1 : Below w.heap.size w (w.alloc ob) := (Below.refl _ _).alloc (Nat.le_refl _) ob
  have HST : Hid (∀ j, j < l.length → (w.alloc ob).cell? (ad.add (j * 4)) = some (.int .u64 ((l.getD j PSt.nil).N : Int))) := Lib.hid fun j hj => by
    obtain ⟨_, _, _, _, ⟨g1, _⟩, _⟩ := (hst j hj).up had hB1
    exact g1
  have HQ := Lib.hid (hQ.up hB1)
  have HE := Lib.hid (hE.up hB1)
  have HS := Lib.hid hSS
  have HRQ := Lib.hid rQ
  have HRE := Lib.hid rE
  have HN1 := Lib.hid hN1
  rw [← hob] at HST HQ HE
  have c1 : ¬ (N : Int) < 3 := by omega
  have c2 : ¬ 9223372036854775808 ≤ (N : Int) := by omega
  have c3 : ¬ (G : Int) < 1 := by omega
  have c4 : ¬ (N : Int) ≤ (G : Int) := by omega
  have c5 : ((Q.length : Int) != (E.length : Int)) = false := by rw [hle]; simp
  have c6 : ((Q.length : Int) == (E.length : Int)) = true := by rw [hle]; simp
  have HLE := Lib.hid hle
  have hN1l : N1 ≤ 9223372036854775807 := by omega
  have hN1p : 0 < N1 := by omega
  have l1' : Q.length ≤ 9223372036854775807 := l1
  have l2' : E.length ≤ 9223372036854775807 := l2
  have HPW : Hid (∀ (n z : Nat) (W : World), n ≤ 9223372036854775807 → G ^ n % N = z → Calls Tryd.prog 19 #[.int .u64 (G : Int), .int .u64 (n : Int), .int .u64 (N : Int)] W fun e w' => e = .returned (.int .u64 (z : Int)) ∧ W = w') := Lib.hid fun n z W hn hz => by rw [← hz]; exact rPower_any G n N W hN63 (by omega) (by omega) (by omega)
  clear hR0 hres hN1 hQ hE hSS rQ rE hB1 hle hob hst hs l1 l2 l3 l4 l5 l6
  obtain ⟨W1, hW1⟩ : ∃ W1, w.alloc (.cells #[.int .u64 (N : Int), .int .u64 (G : Int), .slice AQ Q.length cQ, .slice AE E.length cE] 28) = W1 := ⟨_, rfl⟩
  have hBW1 : Below w.heap.size w W1 := by rw [← hW1]; exact (Below.refl _ _).alloc (Nat.le_refl _) _
  have hb0 : W1.cell? ⟨w.heap.size, 0, none⟩ = some (.int .u64 (N : Int)) := by rw [← hW1, alloc_cell]; rfl
  have hb1 : W1.cell? ⟨w.heap.size, 1, none⟩ = some (.int .u64 (G : Int)) := by rw [← hW1, alloc_cell]; rfl
  have hb2 : W1.cell? ⟨w.heap.size, 2, none⟩ = some (.slice AQ Q.length cQ) := by rw [← hW1, alloc_cell]; rfl
  have hb3 : W1.cell? ⟨w.heap.size, 3, none⟩ = some (.slice AE E.length cE) := by rw [← hW1, alloc_cell]; rfl
  have hsz : w.heap.size < W1.heap.size := by rw [← hW1]; simp
  have HW1 := Lib.hid hW1
  rw [hW1] at HST HQ HE
  have HBX := Lib.hid (And.intro hb0 (And.intro hb1 (And.intro hb2 hb3)))
  have HBW1 := Lib.hid hBW1
  clear hW1 hb0 hb1 hb2 hb3 hBW1
  go_enter Tryd.func14, Tryd.ntmps14
  go_wp2
  clear c1 c2 c3 c4 c5 c6 h1 h2 h3 h4
  go_loopw [7, 6] (fun c x wr => (∃ i left : Nat, c = .int .i64 i ∧ i ≤ Q.length ∧ x = .int .u64 left ∧ left ≤ 9223372036854775807 ∧ 0 < left ∧ Hid (goQ (SF l k) (firstF i) (prevF Q i) (Q.drop i) (E.drop i) left = R ∧ ∀ j, j < i → G ^ ((N - 1) / (Q.getD j 0).toNat) % N ≠ 1)) ∧ Hid (∃ n, wr = W1.drewN n)) (fun c _ _ => Q.length - (intOf c).toNat)
  case atStart => exact ⟨⟨0, N1, rfl, Nat.zero_le _, rfl, hN1l, hN1p, Lib.hid ⟨HR0.out, fun j hj => by omega⟩⟩, Lib.hid ⟨0, by rw [← HW1.out]; rfl⟩⟩
  case round =>
    clear HR0
    obtain ⟨⟨i, left, rfl, hi, rfl, hleft, hlp, HR⟩, HW⟩ := hrel
    obtain ⟨wo, rfl⟩ : ∃ wo : World, wo = wr := ⟨_, rfl⟩
    have hB1o : Below W1.heap.size W1 wo := by obtain ⟨n0, h⟩ := HW.out; rw [h]; exact below_drewN (Below.refl _ _) n0
    have HBW : Hid (Below w.heap.size w wo) := Lib.hid (below_chain HBW1.out hB1o)
    have hb0 := (hB1o.cell (p := ⟨w.heap.size, 0, none⟩) hsz).trans HBX.out.1
    have hb1 := (hB1o.cell (p := ⟨w.heap.size, 1, none⟩) hsz).trans HBX.out.2.1
    have hb2 := (hB1o.cell (p := ⟨w.heap.size, 2, none⟩) hsz).trans HBX.out.2.2.1
    have hb3 := (hB1o.cell (p := ⟨w.heap.size, 3, none⟩) hsz).trans HBX.out.2.2.2
    by_cases hlt : i < Q.length
    · have hle := HLE.out
      obtain ⟨q, hqi, hql⟩ := HRQ.out i hlt
      obtain ⟨he2, he3⟩ := HRE.out i (by omega)
      obtain ⟨e, hei⟩ : ∃ e, E.getD i 0 = e := ⟨_, rfl⟩
      rw [hei] at he2 he3
      have HQI := Lib.hid hqi
      obtain ⟨qd, rfl, hqb, hcA⟩ := (HQ.out.up hB1o) (by omega)
      obtain ⟨ed, rfl, heb, hcB⟩ := (HE.out.up hB1o) (by omega)
      have hcQi := hcA i hlt
      rw [hqi] at hcQi
      have hcEi := hcB i (by omega)
      rw [hei] at hcEi
      have hR := HR.out.1
      rw [goQ_step hlt (by omega) hqi hei] at hR
      have HR' := Lib.hid hR
      have hii : (i : Int) < (Q.length : Int) := by omega
      have hie : (i : Int) < (E.length : Int) := by omega
      have HCA := Lib.hid hcA
      have hads : ad.block < W1.heap.size := Nat.lt_of_lt_of_le had HBW1.out.size
      have HSTo : Hid (∀ j, j < l.length → wo.cell? (ad.add (j * 4)) = some (.int .u64 ((l.getD j PSt.nil).N : Int))) := Lib.hid fun j hj => (hB1o.cell (p := ad.add (j * 4)) (by rw [block_of_add]; exact hads)).trans (HST.out j hj)
      obtain ⟨k0, hk0⟩ : ∃ k0 : Bool, ((q : Int) == 2) = k0 := ⟨_, rfl⟩
      have HK0 : Hid (SF l 0 q = k0) := Lib.hid (by rw [← hk0, Bool.eq_iff_iff]; simp [SF]; omega)
      clear hle hqi hei hR hcA hcB hB1o
      go_wp2
      go_loop [9, 10] (fun x c => ∃ (κ : Bool) (j : Nat), x = .bool κ ∧ c = .int .i64 j ∧ j ≤ k ∧ Hid (SF l j q = κ)) (fun _ c => k - (intOf c).toNat)
      case atStart => exact ⟨k0, 0, rfl, rfl, Nat.zero_le _, HK0⟩
      case round =>
        clear HK0 hk0
        obtain ⟨κ, j, rfl, rfl, hjk, HKN⟩ := hrel
        by_cases hjlt : j < k
        · have hji : (j : Int) < (k : Int) := by omega
          have hjl : (j : Int) < (l.length : Int) := by omega
          have hcj := HSTo.out j (by omega)
          obtain ⟨Nj, hNj⟩ : ∃ Nj, (l.getD j PSt.nil).N = Nj := ⟨_, rfl⟩
          rw [hNj] at hcj
          have HNJ := Lib.hid hNj
          clear hNj
          cases κ with
          | true =>
            have HN : Hid (SF l (j + 1) q = true) := Lib.hid (by show (decide _ || SF l j q) = true; rw [HKN.out, Bool.or_true])
            go_wp2
            go_round
            case rel => exact ⟨true, j + 1, rfl, by go_num, by omega, HN⟩
            case measure => simp [intOf]; omega
          | false =>
            obtain ⟨x, hx⟩ : ∃ x : Bool, ((Nj : Int) == (q : Int)) = x := ⟨_, rfl⟩
            have HN : Hid (SF l (j + 1) q = x) := Lib.hid (by
              show (decide (q = (l.getD j PSt.nil).N) || SF l j q) = x
              rw [HKN.out, Bool.or_false, HNJ.out, ← hx, Bool.eq_iff_iff]
              simp
              omega)
            go_wp2
            go_round
            case rel => exact ⟨x, j + 1, rfl, by go_num, by omega, HN⟩
            case measure => simp [intOf]; omega
        · have hji : ¬ (j : Int) < (k : Int) := by omega
          obtain rfl : k = j := by omega
          clear HSTo hjlt hjk
          cases κ with
          | false =>
            have HF : Hid (R = none) := Lib.hid (by rw [← HR'.out, if_pos (.inr (.inl HKN.out))])
            have HT : Hid (false = res) := Lib.hid (by rw [← HRES.out, HF.out]; rfl)
            go_wp2
            go_ret
            exact ⟨ret_bool HT.out, HBW.out⟩
          | true =>
            by_cases hi0 : i = 0
            · have hi0i : ¬ (0 : Int) < (i : Int) := by omega
              have hff : firstF i = true := by simp [firstF, hi0]
              have HFF := Lib.hid hff
              clear hi0 hff
              by_cases he1 : e < 1
              · have HF : Hid (R = none) := Lib.hid (by rw [← HR'.out, if_pos (.inr (.inr he1))])
                have HT : Hid (false = res) := Lib.hid (by rw [← HRES.out, HF.out]; rfl)
                go_wp2
                go_ret
                exact ⟨ret_bool HT.out, HBW.out⟩
              · have hR2 := HR'.out
                rw [if_neg (by
                    rintro (h | h | h)
                    · rw [HFF.out] at h; cases h.1
                    · rw [HKN.out] at h; cases h
                    · exact he1 h)] at hR2
                obtain ⟨ee, hee⟩ : ∃ ee : Nat, e.toNat = ee := ⟨_, rfl⟩
                have heei : e = (ee : Int) := by omega
                have hq2 := HS.out q HKN.out
                rw [hee, divE_min hq2 hlp (by omega)] at hR2
                obtain ⟨R1, hR1⟩ : ∃ R1, divE q ee left = R1 := ⟨_, rfl⟩
                rw [hR1] at hR2
                have HR2 := Lib.hid hR2
                have HR1 : Hid (divE q (ee - 0) left = R1) := Lib.hid (by rw [Nat.sub_zero]; exact hR1)
                have hq0 : ((q : Int) == 0) = false := by rw [beq_eq_false_iff_ne]; omega
                have HQN : Hid (firstF (i + 1) = false ∧ prevF Q (i + 1) = q) := Lib.hid ⟨by simp [firstF], by unfold prevF; rw [Nat.add_sub_cancel, HQI.out, Int.toNat_natCast]⟩
                have heel : (ee : Int) ≤ 9223372036854775807 := by omega
                rw [heei] at hcEi
                have he1i : ¬ (ee : Int) < 1 := by omega
                obtain ⟨d, hd⟩ : ∃ d, N1 / q = d := ⟨_, rfl⟩
                have hdi : (N1 : Int) / (q : Int) = (d : Int) := by rw [← hd, Int.natCast_ediv]
                have hdl : d ≤ N1 := by rw [← hd]; exact Nat.div_le_self _ _
                obtain ⟨z, hz⟩ : ∃ z, G ^ d % N = z := ⟨_, rfl⟩
                have HZ := Lib.hid hz
                have HZQ : Hid (G ^ ((N - 1) / (Q.getD i 0).toNat) % N = z) := Lib.hid (by rw [HQI.out, Int.toNat_natCast, HN1.out, hd]; exact hz)
                have HDI := Lib.hid hdi
                clear hR2 hR1 hee he1 heei hd hz he2 he3 hdi
                go_wp2
                go_loop [11, 6] (fun c x => ∃ j y : Nat, c = .int .i64 j ∧ j ≤ ee ∧ x = .int .u64 y ∧ y ≤ 9223372036854775807 ∧ 0 < y ∧ Hid (divE q (ee - j) y = R1)) (fun _ x => (intOf x).toNat)
                case atStart => exact ⟨0, left, rfl, Nat.zero_le _, rfl, hleft, hlp, HR1⟩
                case round =>
                  obtain ⟨j, y, rfl, hj, rfl, hy, hyp, HD⟩ := hrel
                  by_cases hje : j < ee
                  · have hji : (j : Int) < (ee : Int) := by omega
                    have hd : divE q (ee - j) y = if y % q ≠ 0 then none else divE q (ee - (j + 1)) (y / q) := by
                      rw [show ee - j = (ee - (j + 1)) + 1 by omega]
                      rfl
                    rw [HD.out] at hd
                    by_cases hzz : y % q ≠ 0
                    · have hzi : ((y : Int) % (q : Int) == 0) = false := by rw [beq_eq_false_iff_ne, ← Int.natCast_emod]; omega
                      have hzn : ((y : Int) % (q : Int) != 0) = true := by rw [bne_iff_ne, ← Int.natCast_emod]; omega
                      have HF : Hid (R = none) := Lib.hid (by rw [← HR2.out, hd, if_pos hzz])
                      have HT : Hid (false = res) := Lib.hid (by rw [← HRES.out, HF.out]; rfl)
                      clear hd hzz
                      go_wp2
                      go_ret
                      exact ⟨ret_bool HT.out, HBW.out⟩
                    · have hz0 : y % q = 0 := by omega
                      have hzi : ((y : Int) % (q : Int) == 0) = true := by rw [← Int.natCast_emod, hz0]; rfl
                      have hzn : ((y : Int) % (q : Int) != 0) = false := by rw [← Int.natCast_emod, hz0]; rfl
                      have hdm := Nat.div_add_mod y q
                      obtain ⟨y2, hy2⟩ : ∃ y2, y / q = y2 := ⟨_, rfl⟩
                      have hyi : (y : Int) / (q : Int) = (y2 : Int) := by rw [← hy2, Int.natCast_ediv]
                      rw [hy2, hz0] at hdm
                      have hy2p : 0 < y2 := by
                        rcases Nat.eq_zero_or_pos y2 with h5 | h5
                        · rw [h5, Nat.mul_zero] at hdm; omega
                        · exact h5
                      have hy2l : y2 < y := by
                        have : 2 * y2 ≤ q * y2 := Nat.mul_le_mul_right _ hq2
                        omega
                      have HN : Hid (divE q (ee - (j + 1)) y2 = R1) := Lib.hid (by rw [hd, if_neg hzz, hy2])
                      clear hd hzz hz0 hy2 hdm
                      go_wp2
                      go_round
                      case rel => exact ⟨j + 1, y2, by go_num, by omega, rfl, by omega, hy2p, HN⟩
                      case measure => simp [intOf]; omega
                  · have hji : ¬ (j : Int) < (ee : Int) := by omega
                    have hN1g : goQ (SF l k) (firstF (i + 1)) (prevF Q (i + 1)) (Q.drop (i + 1)) (E.drop (i + 1)) y = R := by
                      have h5 : some y = R1 := by rw [← HD.out, show ee - j = 0 by omega]; rfl
                      rw [HQN.out.1, HQN.out.2, ← HR2.out, ← h5]
                    have HNG := Lib.hid hN1g
                    have hdi := HDI.out
                    clear hcQi hN1g
                    by_cases hz1 : z = 1
                    · have hzi : ((z : Int) == 1) = true := by rw [hz1]; rfl
                      have HT : Hid (false = res) := Lib.hid (by rw [← HRES.out, lastB_gen (genB_none Q i hlt (by rw [HZQ.out, hz1]))])
                      clear hz1
                      go_wp2
                      go_quiet ((go_at_call 19; first | exact quiet_left (HPW.out d z _ (by omega) HZ.out) | exact quiet_add_left (HPW.out d z _ (by omega) HZ.out)))
                      go_wp2
                      go_ret
                      exact ⟨ret_bool HT.out, below_drewN HBW.out _⟩
                    · have hzi : ((z : Int) == 1) = false := by rw [beq_eq_false_iff_ne]; omega
                      have HPREV : Hid (∀ j, j < i + 1 → G ^ ((N - 1) / (Q.getD j 0).toNat) % N ≠ 1) := Lib.hid fun j' hj' => by
                        rcases Nat.lt_or_ge j' i with h5 | h5
                        · exact HR.out.2 j' h5
                        · obtain rfl : j' = i := by omega
                          rw [HZQ.out]; exact hz1
                      clear hz1
                      go_wp2
                      go_quiet ((go_at_call 19; first | exact quiet_left (HPW.out d z _ (by omega) HZ.out) | exact quiet_add_left (HPW.out d z _ (by omega) HZ.out)))
                      clear hdi hb0 hb1 hb2 hb3 hcEi hq0 he1i hji hie hi0i heel hsub
                      go_wp2
                      go_roundw
                      case rel => exact ⟨⟨i + 1, y, by go_num, by omega, rfl, hy, hyp, Lib.hid ⟨HNG.out, HPREV.out⟩⟩, Lib.hid (by (obtain ⟨n0, h⟩ := HW.out; exact ⟨_, by rw [h, World.drewN_drewN]⟩))⟩
                      case measure => simp [intOf]; omega
            · have hi0i : (0 : Int) < (i : Int) := by omega
              have hff : firstF i = false := by simp [firstF, hi0]
              obtain ⟨qp, hqp, hqpl⟩ := HRQ.out (i - 1) (by omega)
              have hpv : prevF Q i = qp := by unfold prevF; rw [hqp, Int.toNat_natCast]
              have hcP := HCA.out (i - 1) (by omega)
              rw [hqp] at hcP
              obtain ⟨ip, hip⟩ : ∃ ip, i - 1 = ip := ⟨_, rfl⟩
              rw [hip] at hcP
              have hipi : (i : Int) - 1 = (ip : Int) := by omega
              have hipl : (ip : Int) < (Q.length : Int) := by omega
              rw [hff, hpv] at HR'
              clear hqp hip hpv hff
              by_cases hqq : q ≤ qp
              · have hqqi : (q : Int) ≤ (qp : Int) := by omega
                have HF : Hid (R = none) := Lib.hid (by rw [← HR'.out, if_pos (.inl ⟨rfl, hqq⟩)])
                have HT : Hid (false = res) := Lib.hid (by rw [← HRES.out, HF.out]; rfl)
                go_wp2
                go_ret
                exact ⟨ret_bool HT.out, HBW.out⟩
              · have hqqi : ¬ (q : Int) ≤ (qp : Int) := by omega
                by_cases he1 : e < 1
                · have HF : Hid (R = none) := Lib.hid (by rw [← HR'.out, if_pos (.inr (.inr he1))])
                  have HT : Hid (false = res) := Lib.hid (by rw [← HRES.out, HF.out]; rfl)
                  go_wp2
                  go_ret
                  exact ⟨ret_bool HT.out, HBW.out⟩
                · have hR2 := HR'.out
                  rw [if_neg (by
                      rintro (h | h | h)
                      · exact hqq h.2
                      · rw [HKN.out] at h; cases h
                      · exact he1 h)] at hR2
                  obtain ⟨ee, hee⟩ : ∃ ee : Nat, e.toNat = ee := ⟨_, rfl⟩
                  have heei : e = (ee : Int) := by omega
                  have hq2 := HS.out q HKN.out
                  rw [hee, divE_min hq2 hlp (by omega)] at hR2
                  obtain ⟨R1, hR1⟩ : ∃ R1, divE q ee left = R1 := ⟨_, rfl⟩
                  rw [hR1] at hR2
                  have HR2 := Lib.hid hR2
                  have HR1 : Hid (divE q (ee - 0) left = R1) := Lib.hid (by rw [Nat.sub_zero]; exact hR1)
                  have hq0 : ((q : Int) == 0) = false := by rw [beq_eq_false_iff_ne]; omega
                  have HQN : Hid (firstF (i + 1) = false ∧ prevF Q (i + 1) = q) := Lib.hid ⟨by simp [firstF], by unfold prevF; rw [Nat.add_sub_cancel, HQI.out, Int.toNat_natCast]⟩
                  have heel : (ee : Int) ≤ 9223372036854775807 := by omega
                  rw [heei] at hcEi
                  have he1i : ¬ (ee : Int) < 1 := by omega
                  obtain ⟨d, hd⟩ : ∃ d, N1 / q = d := ⟨_, rfl⟩
                  have hdi : (N1 : Int) / (q : Int) = (d : Int) := by rw [← hd, Int.natCast_ediv]
                  have hdl : d ≤ N1 := by rw [← hd]; exact Nat.div_le_self _ _
                  obtain ⟨z, hz⟩ : ∃ z, G ^ d % N = z := ⟨_, rfl⟩
                  have HZ := Lib.hid hz
                  have HZQ : Hid (G ^ ((N - 1) / (Q.getD i 0).toNat) % N = z) := Lib.hid (by rw [HQI.out, Int.toNat_natCast, HN1.out, hd]; exact hz)
                  have HDI := Lib.hid hdi
                  clear hR2 hR1 hee he1 heei hd hz he2 he3 hdi
                  go_wp2
                  go_loop [11, 6] (fun c x => ∃ j y : Nat, c = .int .i64 j ∧ j ≤ ee ∧ x = .int .u64 y ∧ y ≤ 9223372036854775807 ∧ 0 < y ∧ Hid (divE q (ee - j) y = R1)) (fun _ x => (intOf x).toNat)
                  case atStart => exact ⟨0, left, rfl, Nat.zero_le _, rfl, hleft, hlp, HR1⟩
                  case round =>
                    obtain ⟨j, y, rfl, hj, rfl, hy, hyp, HD⟩ := hrel
                    by_cases hje : j < ee
                    · have hji : (j : Int) < (ee : Int) := by omega
                      have hd : divE q (ee - j) y = if y % q ≠ 0 then none else divE q (ee - (j + 1)) (y / q) := by
                        rw [show ee - j = (ee - (j + 1)) + 1 by omega]
                        rfl
                      rw [HD.out] at hd
                      by_cases hzz : y % q ≠ 0
                      · have hzi : ((y : Int) % (q : Int) == 0) = false := by rw [beq_eq_false_iff_ne, ← Int.natCast_emod]; omega
                        have hzn : ((y : Int) % (q : Int) != 0) = true := by rw [bne_iff_ne, ← Int.natCast_emod]; omega
                        have HF : Hid (R = none) := Lib.hid (by rw [← HR2.out, hd, if_pos hzz])
                        have HT : Hid (false = res) := Lib.hid (by rw [← HRES.out, HF.out]; rfl)
                        clear hd hzz
                        go_wp2
                        go_ret
                        exact ⟨ret_bool HT.out, HBW.out⟩
                      · have hz0 : y % q = 0 := by omega
                        have hzi : ((y : Int) % (q : Int) == 0) = true := by rw [← Int.natCast_emod, hz0]; rfl
                        have hzn : ((y : Int) % (q : Int) != 0) = false := by rw [← Int.natCast_emod, hz0]; rfl
                        have hdm := Nat.div_add_mod y q
                        obtain ⟨y2, hy2⟩ : ∃ y2, y / q = y2 := ⟨_, rfl⟩
                        have hyi : (y : Int) / (q : Int) = (y2 : Int) := by rw [← hy2, Int.natCast_ediv]
                        rw [hy2, hz0] at hdm
                        have hy2p : 0 < y2 := by
                          rcases Nat.eq_zero_or_pos y2 with h5 | h5
                          · rw [h5, Nat.mul_zero] at hdm; omega
                          · exact h5
                        have hy2l : y2 < y := by
                          have : 2 * y2 ≤ q * y2 := Nat.mul_le_mul_right _ hq2
                          omega
                        have HN : Hid (divE q (ee - (j + 1)) y2 = R1) := Lib.hid (by rw [hd, if_neg hzz, hy2])
                        clear hd hzz hz0 hy2 hdm
                        go_wp2
                        go_round
                        case rel => exact ⟨j + 1, y2, by go_num, by omega, rfl, by omega, hy2p, HN⟩
                        case measure => simp [intOf]; omega
                    · have hji : ¬ (j : Int) < (ee : Int) := by omega
                      have hN1g : goQ (SF l k) (firstF (i + 1)) (prevF Q (i + 1)) (Q.drop (i + 1)) (E.drop (i + 1)) y = R := by
                        have h5 : some y = R1 := by rw [← HD.out, show ee - j = 0 by omega]; rfl
                        rw [HQN.out.1, HQN.out.2, ← HR2.out, ← h5]
                      have HNG := Lib.hid hN1g
                      have hdi := HDI.out
                      clear hcQi hN1g
                      by_cases hz1 : z = 1
                      · have hzi : ((z : Int) == 1) = true := by rw [hz1]; rfl
                        have HT : Hid (false = res) := Lib.hid (by rw [← HRES.out, lastB_gen (genB_none Q i hlt (by rw [HZQ.out, hz1]))])
                        clear hz1
                        go_wp2
                        go_quiet ((go_at_call 19; first | exact quiet_left (HPW.out d z _ (by omega) HZ.out) | exact quiet_add_left (HPW.out d z _ (by omega) HZ.out)))
                        go_wp2
                        go_ret
                        exact ⟨ret_bool HT.out, below_drewN HBW.out _⟩
                      · have hzi : ((z : Int) == 1) = false := by rw [beq_eq_false_iff_ne]; omega
                        have HPREV : Hid (∀ j, j < i + 1 → G ^ ((N - 1) / (Q.getD j 0).toNat) % N ≠ 1) := Lib.hid fun j' hj' => by
                          rcases Nat.lt_or_ge j' i with h5 | h5
                          · exact HR.out.2 j' h5
                          · obtain rfl : j' = i := by omega
                            rw [HZQ.out]; exact hz1
                        clear hz1
                        go_wp2
                        go_quiet ((go_at_call 19; first | exact quiet_left (HPW.out d z _ (by omega) HZ.out) | exact quiet_add_left (HPW.out d z _ (by omega) HZ.out)))
                        clear hdi hb0 hb1 hb2 hb3 hcEi hq0 he1i hji hie hi0i heel hsub
                        go_wp2
                        go_roundw
                        case rel => exact ⟨⟨i + 1, y, by go_num, by omega, rfl, hy, hyp, Lib.hid ⟨HNG.out, HPREV.out⟩⟩, Lib.hid (by (obtain ⟨n0, h⟩ := HW.out; exact ⟨_, by rw [h, World.drewN_drewN]⟩))⟩
                        case measure => simp [intOf]; omega
    · have hii : ¬ (i : Int) < (Q.length : Int) := by omega
      have HL : Hid (R = some left) := Lib.hid (by rw [← HR.out.1, List.drop_eq_nil_of_le (by omega)]; rfl)
      have hgen : genB N G Q = true := genB_yes Q fun j hj => HR.out.2 j (by omega)
      obtain ⟨z, hz⟩ : ∃ z, G ^ N1 % N = z := ⟨_, rfl⟩
      have HZ := Lib.hid hz
      have hlast : (decide (left = 1) && decide (z = 1)) = res := by
        rw [← HRES.out, HL.out, ← hz]
        unfold lastB
        rw [HN1.out, hgen, Bool.and_true]
      clear HR hz hgen
      by_cases hl1 : left = 1
      · have hl1i : ((left : Int) == 1) = true := by rw [hl1]; rfl
        by_cases hz1 : z = 1
        · have hz1i : ((z : Int) == 1) = true := by rw [hz1]; rfl
          have HT : Hid (true = res) := Lib.hid (by rw [← hlast]; simp [hl1, hz1])
          clear hlast hl1 hz1
          go_wp2_with (go_at_call 19; (with_reducible refine (HPW.out N1 z _ hN1l HZ.out).mono ?_); rintro e w' ⟨rfl, rfl⟩)
          go_ret
          exact ⟨ret_bool HT.out, HBW.out⟩
        · have hz1i : ((z : Int) == 1) = false := by rw [beq_eq_false_iff_ne]; omega
          have HT : Hid (false = res) := Lib.hid (by rw [← hlast]; simp [hz1])
          clear hlast hl1 hz1
          go_wp2_with (go_at_call 19; (with_reducible refine (HPW.out N1 z _ hN1l HZ.out).mono ?_); rintro e w' ⟨rfl, rfl⟩)
          go_ret
          exact ⟨ret_bool HT.out, HBW.out⟩
      · have hl1i : ((left : Int) == 1) = false := by rw [beq_eq_false_iff_ne]; omega
        have HT : Hid (false = res) := Lib.hid (by rw [← hlast]; simp [hl1])
        clear hlast hl1
        go_wp2
        go_ret
        exact ⟨ret_bool HT.out, HBW.out⟩
theorem refstep_any (A : Option Addr) (c : Nat) (l : List PSt) (k : Nat) (w : World) (hl : l.length ≤ 20) (hc : l.length ≤ c) (hk : k < l.length) (hK : KP w w.heap.size A l) (hSS : ∀ q, SF l k q = true → 2 ≤ q) :
    Calls Tryd.prog 14 #[.slice A l.length c, .int .i64 (k : Int)] w fun e w' => e = .returned (.bool (stepB (SF l k) (l.getD k PSt.nil).N (l.getD k PSt.nil).G (l.getD k PSt.nil).Q (l.getD k PSt.nil).E)) ∧ Below w.heap.size w w' := by
  obtain ⟨s, hs⟩ : ∃ s, l.getD k PSt.nil = s := ⟨_, rfl⟩
  rw [hs]
  obtain ⟨N, G, Q, E⟩ := s
  show Calls _ _ _ _ fun e w' => e = .returned (.bool (stepB (SF l k) N G Q E)) ∧ _
  by_cases hbad : N < 3 ∨ 9223372036854775808 ≤ N ∨ G < 1 ∨ N ≤ G ∨ Q.length ≠ E.length
  · have : stepB (SF l k) N G Q E = false := by unfold stepB; rw [if_pos hbad]
    rw [this]
    exact refstep_bad A c l k w hl hc hk hK N G Q E hs hbad
  · have : stepB (SF l k) N G Q E = lastB N G Q (goQ (SF l k) true 0 Q E (N - 1)) := by unfold stepB; rw [if_neg hbad]
    rw [this]
    exact refstep_good A c l k w hl hc hk hK N G Q E hs hSS (by omega) (by omega) (by omega) (by omega) (by omega)
end Go.Proofs.YtkcnigpajhmjiaaDoor
