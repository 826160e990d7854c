/- prime.stepHolds: whether a step of a paper holds, by those that are shown. -/
import Derived.Test.YtkcnigpajhmjiaaDoorGen
namespace Go.Proofs.YtkcnigpajhmjiaaDoor
open Go.RowKit Go.Maps
def goQ (S : Nat → Bool) : Bool → Nat → List Int → List Int → Nat → Option Nat
  | _, _, [], _, left => some left
  | _, _, _ :: _, [], _ => none
  | first, prev, q :: qs, e :: es, left =>
    if (first = false ∧ q.toNat ≤ prev) ∨ S q.toNat = false ∨ e < 1 then none
    else match divE q.toNat (min e.toNat 64) left with
      | none => none
      | some l => goQ S false q.toNat qs es l
def lastB (N G : Nat) (Q : List Int) : Option Nat → Bool
  | none => false
  | some left => decide (left = 1) && (decide (G ^ (N - 1) % N = 1) && genB N G Q)
def stepB (S : Nat → Bool) (N G : Nat) (Q E : List Int) : Bool :=
  if N < 3 ∨ 9223372036854775808 ≤ N ∨ G < 1 ∨ N ≤ G ∨ Q.length ≠ E.length then false else lastB N G Q (goQ S true 0 Q E (N - 1))
theorem goQ_step {S : Nat → Bool} {f : Bool} {p i q left : Nat} {e : Int} {Q E : List Int} (h1 : i < Q.length) (h2 : i < E.length) (hq : Q.getD i 0 = (q : Int)) (he : E.getD i 0 = e) :
    goQ S f p (Q.drop i) (E.drop i) left = if (f = false ∧ q ≤ p) ∨ S q = false ∨ e < 1 then none else match divE q (min e.toNat 64) left with
      | none => none
      | some l => goQ S false q (Q.drop (i + 1)) (E.drop (i + 1)) l := by
  rw [List.drop_eq_getElem_cons h1, List.drop_eq_getElem_cons h2]
  rw [getD_of_lt h1] at hq
  rw [getD_of_lt h2] at he
  show (if (f = false ∧ (Q[i]).toNat ≤ p) ∨ S (Q[i]).toNat = false ∨ E[i] < 1 then none else match divE (Q[i]).toNat (min (E[i]).toNat 64) left with
      | none => none
      | some l => goQ S false (Q[i]).toNat (Q.drop (i + 1)) (E.drop (i + 1)) l) = _
  rw [hq, he, Int.toNat_natCast]
theorem goQ_shown {S : Nat → Bool} : ∀ (Q E : List Int) (f : Bool) (p l r : Nat), goQ S f p Q E l = some r → ∀ x ∈ Q, S x.toNat = true
  | [], _, _, _, _, _, _, x, hx => by cases hx
  | q :: qs, [], f, p, l, r, h, x, hx => by simp [goQ] at h
  | q :: qs, e :: es, f, p, l, r, h, x, hx => by
    unfold goQ at h
    by_cases hc : (f = false ∧ q.toNat ≤ p) ∨ S q.toNat = false ∨ e < 1
    · rw [if_pos hc] at h; cases h
    · rw [if_neg hc] at h
      rcases hd : divE q.toNat (min e.toNat 64) l with _ | l'
      · rw [hd] at h; cases h
      · rw [hd] at h
        rcases List.mem_cons.1 hx with rfl | hx
        · rcases hS : S x.toNat with _ | _
          · exact absurd (.inr (.inl hS)) hc
          · rfl
        · exact goQ_shown qs es false q.toNat l' r h x hx
def firstF (i : Nat) : Bool := decide (i = 0)
def prevF (Q : List Int) (i : Nat) : Nat := (Q.getD (i - 1) 0).toNat
set_option maxHeartbeats 2000000 in
theorem step_bad (N G : Nat) (AQ AE : Option Addr) (cQ cE b n : Nat) (Q E : List Int) (S : Nat → Bool) (w : World) (hN : N ≤ 18446744073709551615) (hG : G ≤ 18446744073709551615) (hlQ : Q.length ≤ 9223372036854775807) (hlE : E.length ≤ 9223372036854775807)
    (hbad : N < 3 ∨ 9223372036854775808 ≤ N ∨ G < 1 ∨ N ≤ G ∨ Q.length ≠ E.length) :
    Calls Tryd.prog 13 #[.agg #[.int .u64 (N : Int), .int .u64 (G : Int), .slice AQ Q.length cQ, .slice AE E.length cE], .map (some b)] w fun e w' => e = .returned (.bool false) ∧ Below w.heap.size w w' := by
  by_cases hc1 : N < 3
  · have ic1 : (N : Int) < 3 := by omega
    clear hbad
    go_enter Tryd.func13, Tryd.ntmps13
    go_wp2
    go_ret
    exact ⟨rfl, by go_grown⟩
  · have ic1 : ¬ (N : Int) < 3 := by omega
    by_cases hc2 : 9223372036854775808 ≤ N
    · have ic2 : 9223372036854775808 ≤ (N : Int) := by omega
      clear hbad
      go_enter Tryd.func13, Tryd.ntmps13
      go_wp2
      go_ret
      exact ⟨rfl, by go_grown⟩
    · have ic2 : ¬ 9223372036854775808 ≤ (N : Int) := by omega
      by_cases hc3 : G < 1
      · have ic3 : (G : Int) < 1 := by omega
        clear hbad
        go_enter Tryd.func13, Tryd.ntmps13
        go_wp2
        go_ret
        exact ⟨rfl, by go_grown⟩
      · have ic3 : ¬ (G : Int) < 1 := by omega
        by_cases hc4 : N ≤ G
        · have ic4 : (N : Int) ≤ (G : Int) := by omega
          clear hbad
          go_enter Tryd.func13, Tryd.ntmps13
          go_wp2
          go_ret
          exact ⟨rfl, by go_grown⟩
        · have ic4 : ¬ (N : Int) ≤ (G : Int) := by omega
          have i5 : ((Q.length : Int) == (E.length : Int)) = false := by rw [beq_eq_false_iff_ne]; omega
          have i6 : ((Q.length : Int) != (E.length : Int)) = true := by rw [bne_iff_ne]; omega
          clear hbad
          go_enter Tryd.func13, Tryd.ntmps13
          go_wp2
          go_ret
          exact ⟨rfl, by go_grown⟩
set_option maxHeartbeats 16000000 in
theorem step_good (N G : Nat) (AQ AE : Option Addr) (cQ cE b n : Nat) (Q E : List Int) (S : Nat → Bool) (w : World) (hN : N ≤ 18446744073709551615) (hG : G ≤ 18446744073709551615) (hM : MapS w b n S) (hb : b < w.heap.size) (hS : ∀ q, S q = true → 2 ≤ q)
    (hQ : KL .u64 w w.heap.size AQ Q) (hE : KL .i64 w w.heap.size AE E) (hlQ : Q.length ≤ 9223372036854775807) (hcQ : Q.length ≤ cQ) (hcE : E.length ≤ cE)
    (rQ : ∀ i, i < Q.length → ∃ q : Nat, Q.getD i 0 = (q : Int) ∧ q ≤ 18446744073709551615) (rE : ∀ i, i < E.length → E.getD i 0 ≤ 9223372036854775807 ∧ -9223372036854775808 ≤ E.getD i 0)
    (h3 : 3 ≤ N) (hN63 : N ≤ 9223372036854775807) (hG1 : 1 ≤ G) (hGN : G < N) (hle : Q.length = E.length) :
    Calls Tryd.prog 13 #[.agg #[.int .u64 (N : Int), .int .u64 (G : Int), .slice AQ Q.length cQ, .slice AE E.length cE], .map (some b)] w fun e w' => e = .returned (.bool (lastB N G Q (goQ S true 0 Q E (N - 1)))) ∧ Below w.heap.size w w' := by
  obtain ⟨R, hR0⟩ : ∃ R, goQ S true 0 Q E (N - 1) = R := ⟨_, rfl⟩
  obtain ⟨res, hres⟩ : ∃ res, lastB N G Q R = res := ⟨_, rfl⟩
  obtain ⟨N1, hN1⟩ : ∃ N1, N - 1 = N1 := ⟨_, rfl⟩
  have hsub : (N : Int) - 1 = (N1 : Int) := by omega
  rw [hR0, hres]
  have HRES := Lib.hid hres
  rw [hN1] at hR0
  have HR0 : Hid (goQ S (firstF 0) (prevF Q 0) (Q.drop 0) (E.drop 0) N1 = R) := Lib.hid (by
    rw [List.drop_zero, List.drop_zero, ← hR0]
    cases Q with
    | nil => rfl
    | cons q qs => cases E with
      | nil => rfl
      | cons e es => simp [goQ, firstF])
  have HR00 := Lib.hid hR0
  obtain ⟨ob, hob⟩ : ∃ ob : Obj, Obj.cells #[.int .u64 (N : Int), .int .u64 (G : Int), .slice AQ Q.length cQ, .slice AE E.length cE] 28 = ob := ⟨_, rfl⟩
  have hB1 : Below w.heap.size w (w.alloc ob) := (Below.refl _ _).alloc (Nat.le_refl _) ob
  have hM1 : MapS (w.alloc ob) b n S := hM.up hb hB1
  have HM := Lib.hid hM1
  have HQ := Lib.hid (hQ.up hB1)
  have HE := Lib.hid (hE.up hB1)
  have HS := Lib.hid hS
  have HRQ := Lib.hid rQ
  have HRE := Lib.hid rE
  have HN1 := Lib.hid hN1
  rw [← hob] at HM HQ HE
  have c1 : ¬ (N : Int) < 3 := by omega
  have c2 : ¬ 9223372036854775808 ≤ (N : Int) := by omega
  have c3 : ¬ (G : Int) < 1 := by omega
  have c4 : ¬ (N : Int) ≤ (G : Int) := by omega
  have c5 : ((Q.length : Int) != (E.length : Int)) = false := by rw [hle]; simp
  have c6 : ((Q.length : Int) == (E.length : Int)) = true := by rw [hle]; simp
  have HLE := Lib.hid hle
  have hN1l : N1 ≤ 9223372036854775807 := by omega
  have hlEE : E.length ≤ 9223372036854775807 := by omega
  have hPW : ∀ (W : World) (z : Nat), G ^ N1 % N = z → Calls Tryd.prog 17 #[.int .u64 (G : Int), .int .u64 (N1 : Int), .int .u64 (N : Int)] W fun e w' => e = .returned (.int .u64 (z : Int)) ∧ ∃ k, w' = W.drewN k := fun W z hz => by rw [← hz]; exact power_any G N1 N W (by omega) (by omega) (by omega) (by omega)
  have HPW := Lib.hid hPW
  clear hR0 hres hN1 hM hQ hE hS rQ rE hB1 hM1 hle hob hPW
  go_enter Tryd.func13, Tryd.ntmps13
  go_wp2
  clear c1 c2 c3 c4 c5 c6
  go_loop [43, 5] (fun c x => ∃ i left : Nat, c = .int .i64 i ∧ i ≤ Q.length ∧ x = .int .u64 left ∧ left ≤ 9223372036854775807 ∧ Hid (goQ S (firstF i) (prevF Q i) (Q.drop i) (E.drop i) left = R)) (fun c _ => Q.length - (intOf c).toNat)
  case atStart => exact ⟨0, N1, rfl, Nat.zero_le _, rfl, hN1l, HR0⟩
  case round =>
    clear HR0
    obtain ⟨i, left, rfl, hi, rfl, hleft, HR⟩ := hrel
    by_cases hlt : i < Q.length
    · have hle := HLE.out
      obtain ⟨q, hqi, hql⟩ := HRQ.out i hlt
      obtain ⟨he2, he3⟩ := HRE.out i (by omega)
      obtain ⟨e, hei⟩ : ∃ e, E.getD i 0 = e := ⟨_, rfl⟩
      rw [hei] at he2 he3
      have HQI := Lib.hid hqi
      obtain ⟨ad, rfl, _, hcA⟩ := HQ.out (by omega)
      obtain ⟨bd, rfl, _, hcB⟩ := HE.out (by omega)
      have hcQi := hcA i hlt
      rw [hqi] at hcQi
      have hcEi := hcB i (by omega)
      rw [hei] at hcEi
      have hlook := HM.out.look (q := q) (by omega)
      have hR := HR.out
      rw [goQ_step hlt (by omega) hqi hei] at hR
      have hii : (i : Int) < (Q.length : Int) := by omega
      have hie : (i : Int) < (E.length : Int) := by omega
      clear hle hqi hei
      by_cases hi0 : i = 0
      · have hi0i : ¬ (0 : Int) < (i : Int) := by omega
        have hff : firstF i = true := by simp [firstF, hi0]
        clear hcA hcB hi0
        by_cases hSq : S q = true
        · rw [hSq] at hlook
          by_cases he1 : e < 1
          · have HF : Hid (R = none) := Lib.hid (by rw [← hR, if_pos (.inr (.inr he1))])
            have HT : Hid (false = res) := Lib.hid (by rw [← HRES.out, HF.out]; rfl)
            clear hR HR
            go_wp2
            go_ret
            exact ⟨ret_bool HT.out, by go_grown⟩
          · have hR2 : (match divE q (min e.toNat 64) left with
                | none => none
                | some l => goQ S false q (Q.drop (i + 1)) (E.drop (i + 1)) l) = R := by
              rw [← hR, if_neg (by
                rintro (h | h | h)
                · rw [hff] at h; cases h.1
                · rw [hSq] at h; cases h
                · exact he1 h)]
            obtain ⟨R1, hR1⟩ : ∃ R1, divE q (min e.toNat 64) left = R1 := ⟨_, rfl⟩
            rw [hR1] at hR2
            obtain ⟨mm, hmm⟩ : ∃ mm, min e.toNat 64 = mm := ⟨_, rfl⟩
            rw [hmm] at hR1
            have hmi : min e 64 = (mm : Int) := by omega
            have hmm64 : mm ≤ 64 := by omega
            have HR2 := Lib.hid hR2
            have HR1 : Hid (divE q (mm - 0) left = R1) := Lib.hid (by rw [Nat.sub_zero]; exact hR1)
            have hq2 := HS.out q hSq
            have hq0 : ((q : Int) == 0) = false := by rw [beq_eq_false_iff_ne]; omega
            have HQN : Hid (firstF (i + 1) = false ∧ prevF Q (i + 1) = q) := Lib.hid ⟨by simp [firstF], by unfold prevF; rw [Nat.add_sub_cancel, HQI.out, Int.toNat_natCast]⟩
            clear hR HR hR2 hR1 hmm
            go_wp2
            go_loop [80, 5] (fun c x => ∃ j l : Nat, c = .int .i64 j ∧ j ≤ mm ∧ x = .int .u64 l ∧ l ≤ 9223372036854775807 ∧ Hid (divE q (mm - j) l = R1)) (fun c _ => mm - (intOf c).toNat)
            case atStart => exact ⟨0, left, rfl, Nat.zero_le _, rfl, hleft, HR1⟩
            case round =>
              obtain ⟨j, l, rfl, hj, rfl, hl, HD⟩ := hrel
              by_cases hjm : j < mm
              · have hji : (j : Int) < (mm : Int) := by omega
                have hd : divE q (mm - j) l = if l % q ≠ 0 then none else divE q (mm - (j + 1)) (l / q) := by
                  rw [show mm - j = (mm - (j + 1)) + 1 by omega]
                  rfl
                rw [HD.out] at hd
                by_cases hz : l % q ≠ 0
                · have hzi : ((l : Int) % (q : Int) == 0) = false := by rw [beq_eq_false_iff_ne, ← Int.natCast_emod]; omega
                  have hzn : ((l : Int) % (q : Int) != 0) = true := by rw [bne_iff_ne, ← Int.natCast_emod]; omega
                  have HF : Hid (R = none) := Lib.hid (by rw [← HR2.out, hd, if_pos hz])
                  have HT : Hid (false = res) := Lib.hid (by rw [← HRES.out, HF.out]; rfl)
                  clear hd hz
                  go_wp2
                  go_ret
                  exact ⟨ret_bool HT.out, by go_grown⟩
                · have hz0 : l % q = 0 := by omega
                  have hzi : ((l : Int) % (q : Int) == 0) = true := by rw [← Int.natCast_emod, hz0]; rfl
                  have hzn : ((l : Int) % (q : Int) != 0) = false := by rw [← Int.natCast_emod, hz0]; rfl
                  obtain ⟨l2, hl2⟩ : ∃ l2, l / q = l2 := ⟨_, rfl⟩
                  have hli : (l : Int) / (q : Int) = (l2 : Int) := by rw [← hl2, Int.natCast_ediv]
                  have hl2l : l2 ≤ l := by rw [← hl2]; exact Nat.div_le_self _ _
                  have HN : Hid (divE q (mm - (j + 1)) l2 = R1) := Lib.hid (by rw [hd, if_neg hz, hl2])
                  clear hd hz hz0 hl2
                  go_wp2
                  go_round
                  case rel => exact ⟨j + 1, l2, by go_num, by omega, rfl, by omega, HN⟩
                  case measure => simp [intOf]; omega
              · have hji : ¬ (j : Int) < (mm : Int) := by omega
                have HN : Hid (goQ S (firstF (i + 1)) (prevF Q (i + 1)) (Q.drop (i + 1)) (E.drop (i + 1)) l = R) := Lib.hid (by
                  have h1 : some l = R1 := by rw [← HD.out, show mm - j = 0 by omega]; rfl
                  rw [HQN.out.1, HQN.out.2, ← HR2.out, ← h1])
                clear hlook hcQi hcEi
                go_wp2
                go_round
                case rel => exact ⟨i + 1, l, by go_num, by omega, rfl, hl, HN⟩
                case measure => simp [intOf]; omega
        · have hSf : S q = false := by simpa using hSq
          rw [hSf] at hlook
          have HF : Hid (R = none) := Lib.hid (by rw [← hR, if_pos (.inr (.inl hSf))])
          have HT : Hid (false = res) := Lib.hid (by rw [← HRES.out, HF.out]; rfl)
          clear hR HR
          go_wp2
          go_ret
          exact ⟨ret_bool HT.out, by go_grown⟩
      · have hi0i : (0 : Int) < (i : Int) := by omega
        have hff : firstF i = false := by simp [firstF, hi0]
        obtain ⟨qp, hqp, hqpl⟩ := HRQ.out (i - 1) (by omega)
        have hpv : prevF Q i = qp := by unfold prevF; rw [hqp, Int.toNat_natCast]
        have hcP := hcA (i - 1) (by omega)
        rw [hqp] at hcP
        obtain ⟨ip, hip⟩ : ∃ ip, i - 1 = ip := ⟨_, rfl⟩
        rw [hip] at hcP
        have hipi : (i : Int) - 1 = (ip : Int) := by omega
        have hipl : (ip : Int) < (Q.length : Int) := by omega
        rw [hff, hpv] at hR
        clear hcA hcB hqp hip hpv
        by_cases hqq : q ≤ qp
        · have hqqi : (q : Int) ≤ (qp : Int) := by omega
          have HF : Hid (R = none) := Lib.hid (by rw [← hR, if_pos (.inl ⟨rfl, hqq⟩)])
          have HT : Hid (false = res) := Lib.hid (by rw [← HRES.out, HF.out]; rfl)
          clear hR HR
          go_wp2
          go_ret
          exact ⟨ret_bool HT.out, by go_grown⟩
        · have hqqi : ¬ (q : Int) ≤ (qp : Int) := by omega
          by_cases hSq : S q = true
          · rw [hSq] at hlook
            by_cases he1 : e < 1
            · have HF : Hid (R = none) := Lib.hid (by rw [← hR, if_pos (.inr (.inr he1))])
              have HT : Hid (false = res) := Lib.hid (by rw [← HRES.out, HF.out]; rfl)
              clear hR HR
              go_wp2
              go_ret
              exact ⟨ret_bool HT.out, by go_grown⟩
            · have hR2 : (match divE q (min e.toNat 64) left with
                  | none => none
                  | some l => goQ S false q (Q.drop (i + 1)) (E.drop (i + 1)) l) = R := by
                rw [← hR, if_neg (by
                  rintro (h | h | h)
                  · exact hqq h.2
                  · rw [hSq] at h; cases h
                  · exact he1 h)]
              obtain ⟨R1, hR1⟩ : ∃ R1, divE q (min e.toNat 64) left = R1 := ⟨_, rfl⟩
              rw [hR1] at hR2
              obtain ⟨mm, hmm⟩ : ∃ mm, min e.toNat 64 = mm := ⟨_, rfl⟩
              rw [hmm] at hR1
              have hmi : min e 64 = (mm : Int) := by omega
              have hmm64 : mm ≤ 64 := by omega
              have HR2 := Lib.hid hR2
              have HR1 : Hid (divE q (mm - 0) left = R1) := Lib.hid (by rw [Nat.sub_zero]; exact hR1)
              have hq2 := HS.out q hSq
              have hq0 : ((q : Int) == 0) = false := by rw [beq_eq_false_iff_ne]; omega
              have HQN : Hid (firstF (i + 1) = false ∧ prevF Q (i + 1) = q) := Lib.hid ⟨by simp [firstF], by unfold prevF; rw [Nat.add_sub_cancel, HQI.out, Int.toNat_natCast]⟩
              clear hR HR hR2 hR1 hmm
              go_wp2
              go_loop [80, 5] (fun c x => ∃ j l : Nat, c = .int .i64 j ∧ j ≤ mm ∧ x = .int .u64 l ∧ l ≤ 9223372036854775807 ∧ Hid (divE q (mm - j) l = R1)) (fun c _ => mm - (intOf c).toNat)
              case atStart => exact ⟨0, left, rfl, Nat.zero_le _, rfl, hleft, HR1⟩
              case round =>
                obtain ⟨j, l, rfl, hj, rfl, hl, HD⟩ := hrel
                by_cases hjm : j < mm
                · have hji : (j : Int) < (mm : Int) := by omega
                  have hd : divE q (mm - j) l = if l % q ≠ 0 then none else divE q (mm - (j + 1)) (l / q) := by
                    rw [show mm - j = (mm - (j + 1)) + 1 by omega]
                    rfl
                  rw [HD.out] at hd
                  by_cases hz : l % q ≠ 0
                  · have hzi : ((l : Int) % (q : Int) == 0) = false := by rw [beq_eq_false_iff_ne, ← Int.natCast_emod]; omega
                    have hzn : ((l : Int) % (q : Int) != 0) = true := by rw [bne_iff_ne, ← Int.natCast_emod]; omega
                    have HF : Hid (R = none) := Lib.hid (by rw [← HR2.out, hd, if_pos hz])
                    have HT : Hid (false = res) := Lib.hid (by rw [← HRES.out, HF.out]; rfl)
                    clear hd hz
                    go_wp2
                    go_ret
                    exact ⟨ret_bool HT.out, by go_grown⟩
                  · have hz0 : l % q = 0 := by omega
                    have hzi : ((l : Int) % (q : Int) == 0) = true := by rw [← Int.natCast_emod, hz0]; rfl
                    have hzn : ((l : Int) % (q : Int) != 0) = false := by rw [← Int.natCast_emod, hz0]; rfl
                    obtain ⟨l2, hl2⟩ : ∃ l2, l / q = l2 := ⟨_, rfl⟩
                    have hli : (l : Int) / (q : Int) = (l2 : Int) := by rw [← hl2, Int.natCast_ediv]
                    have hl2l : l2 ≤ l := by rw [← hl2]; exact Nat.div_le_self _ _
                    have HN : Hid (divE q (mm - (j + 1)) l2 = R1) := Lib.hid (by rw [hd, if_neg hz, hl2])
                    clear hd hz hz0 hl2
                    go_wp2
                    go_round
                    case rel => exact ⟨j + 1, l2, by go_num, by omega, rfl, by omega, HN⟩
                    case measure => simp [intOf]; omega
                · have hji : ¬ (j : Int) < (mm : Int) := by omega
                  have HN : Hid (goQ S (firstF (i + 1)) (prevF Q (i + 1)) (Q.drop (i + 1)) (E.drop (i + 1)) l = R) := Lib.hid (by
                    have h1 : some l = R1 := by rw [← HD.out, show mm - j = 0 by omega]; rfl
                    rw [HQN.out.1, HQN.out.2, ← HR2.out, ← h1])
                  clear hlook hcQi hcEi
                  go_wp2
                  go_round
                  case rel => exact ⟨i + 1, l, by go_num, by omega, rfl, hl, HN⟩
                  case measure => simp [intOf]; omega
          · have hSf : S q = false := by simpa using hSq
            rw [hSf] at hlook
            have HF : Hid (R = none) := Lib.hid (by rw [← hR, if_pos (.inr (.inl hSf))])
            have HT : Hid (false = res) := Lib.hid (by rw [← HRES.out, HF.out]; rfl)
            clear hR HR
            go_wp2
            go_ret
            exact ⟨ret_bool HT.out, by go_grown⟩
    · have hii : ¬ (i : Int) < (Q.length : Int) := by omega
      have HL : Hid (R = some left) := Lib.hid (by rw [← HR.out, List.drop_eq_nil_of_le (by omega)]; rfl)
      have hall : ∀ j, j < Q.length → ∃ q : Nat, Q.getD j 0 = (q : Int) ∧ 2 ≤ q ∧ q ≤ 18446744073709551615 := fun j hj => by
        obtain ⟨q, h1, h2⟩ := HRQ.out j hj
        have hm : Q.getD j 0 ∈ Q := by rw [getD_of_lt hj]; exact List.getElem_mem hj
        have := goQ_shown Q E true 0 N1 left (HR00.out.trans HL.out) _ hm
        rw [h1, Int.toNat_natCast] at this
        exact ⟨q, h1, HS.out q this, h2⟩
      obtain ⟨z, hz⟩ : ∃ z, G ^ N1 % N = z := ⟨_, rfl⟩
      have HZ := Lib.hid hz
      have hlast : (decide (left = 1) && (decide (z = 1) && genB N G Q)) = res := by
        rw [← HRES.out, HL.out, ← hz]
        unfold lastB
        rw [HN1.out]
      clear HR hz
      by_cases hl1 : left = 1
      · have hl1i : ((left : Int) == 1) = true := by rw [hl1]; rfl
        by_cases hz1 : z = 1
        · have hz1i : ((z : Int) == 1) = true := by rw [hz1]; rfl
          have HT : Hid (genB N G Q = res) := Lib.hid (by rw [← hlast]; simp [hl1, hz1])
          have HALL := Lib.hid hall
          clear hlast hl1 hz1 hall
          go_wp2_with (first
            | (go_at_call 17; (with_reducible refine (HPW.out _ z HZ.out).mono ?_); rintro e w' ⟨rfl, n2, rfl⟩)
            | (go_at_call 18; (with_reducible refine (generates_any G N AQ cQ Q _ (HQ.out.up (below_drewN (Below.refl _ _) _)) hlQ hcQ hN63 (by omega) (by omega) HALL.out).mono ?_); rintro e w' ⟨rfl, n3, rfl⟩))
          go_ret
          exact ⟨ret_bool HT.out, below_drewN (by go_grown) _⟩
        · have hz1i : ((z : Int) == 1) = false := by rw [beq_eq_false_iff_ne]; omega
          have HT : Hid (false = res) := Lib.hid (by rw [← hlast]; simp [hz1])
          clear hlast hl1 hz1 hall
          go_wp2_with (go_at_call 17; (with_reducible refine (HPW.out _ z HZ.out).mono ?_); rintro e w' ⟨rfl, n2, rfl⟩)
          go_ret
          exact ⟨ret_bool HT.out, below_drewN (by go_grown) _⟩
      · have hl1i : ((left : Int) == 1) = false := by rw [beq_eq_false_iff_ne]; omega
        have HT : Hid (false = res) := Lib.hid (by rw [← hlast]; simp [hl1])
        clear hlast hl1 hall
        go_wp2
        go_ret
        exact ⟨ret_bool HT.out, by go_grown⟩
end Go.Proofs.YtkcnigpajhmjiaaDoor
