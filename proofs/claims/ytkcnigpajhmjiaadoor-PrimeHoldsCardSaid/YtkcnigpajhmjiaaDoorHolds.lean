/- prime.Holds: whether a paper shows a number. -/
import Derived.Test.YtkcnigpajhmjiaaDoorStep
namespace Go.Proofs.YtkcnigpajhmjiaaDoor
open Go.RowKit Go.Maps
theorem step_any (N G : Nat) (AQ AE : Option Addr) (cQ cE b n : Nat) (Q E : List Int) (S : Nat → Bool) (w : World) (hN : N ≤ 18446744073709551615) (hG : G ≤ 18446744073709551615) (hM : MapS w b n S) (hb : b < w.heap.size) (hS : ∀ q, S q = true → 2 ≤ q)
    (hQ : KL .u64 w w.heap.size AQ Q) (hE : KL .i64 w w.heap.size AE E) (hlQ : Q.length ≤ 9223372036854775807) (hlE : E.length ≤ 9223372036854775807) (hcQ : Q.length ≤ cQ) (hcE : E.length ≤ cE)
    (rQ : ∀ i, i < Q.length → ∃ q : Nat, Q.getD i 0 = (q : Int) ∧ q ≤ 18446744073709551615) (rE : ∀ i, i < E.length → E.getD i 0 ≤ 9223372036854775807 ∧ -9223372036854775808 ≤ E.getD i 0) :
    Calls Tryd.prog 13 #[.agg #[.int .u64 (N : Int), .int .u64 (G : Int), .slice AQ Q.length cQ, .slice AE E.length cE], .map (some b)] w fun e w' => e = .returned (.bool (stepB S N G Q E)) ∧ Below w.heap.size w w' := by
  by_cases hbad : N < 3 ∨ 9223372036854775808 ≤ N ∨ G < 1 ∨ N ≤ G ∨ Q.length ≠ E.length
  · have : stepB S N G Q E = false := by unfold stepB; rw [if_pos hbad]
    rw [this]
    exact step_bad N G AQ AE cQ cE b n Q E S w hN hG hlQ hlE hbad
  · have : stepB S N G Q E = lastB N G Q (goQ S true 0 Q E (N - 1)) := by unfold stepB; rw [if_neg hbad]
    rw [this]
    exact step_good N G AQ AE cQ cE b n Q E S w hN hG hM hb hS hQ hE hlQ hcQ hcE rQ rE (by omega) (by omega) (by omega) (by omega) (by omega)
theorem stepB_two {S : Nat → Bool} {N G : Nat} {Q E : List Int} (h : stepB S N G Q E = true) : 3 ≤ N ∧ N < 9223372036854775808 := by
  unfold stepB at h
  by_cases hbad : N < 3 ∨ 9223372036854775808 ≤ N ∨ G < 1 ∨ N ≤ G ∨ Q.length ≠ E.length
  · rw [if_pos hbad] at h; cases h
  · omega
structure PSt where
  N : Nat
  G : Nat
  Q : List Int
  E : List Int
/-- A step at a place of a paper that came in. -/
def StepAt (w : World) (B : Nat) (ad : Addr) (i : Nat) (s : PSt) : Prop :=
  ∃ AQ cQ AE cE, (w.cell? (ad.add (i * 4)) = some (.int .u64 (s.N : Int)) ∧ w.cell? (ad.add (i * 4 + 1)) = some (.int .u64 (s.G : Int)) ∧ w.cell? (ad.add (i * 4 + 2)) = some (.slice AQ s.Q.length cQ) ∧ w.cell? (ad.add (i * 4 + 3)) = some (.slice AE s.E.length cE)) ∧
    KL .u64 w B AQ s.Q ∧ KL .i64 w B AE s.E ∧ (s.Q.length ≤ 9223372036854775807 ∧ s.E.length ≤ 9223372036854775807 ∧ s.Q.length ≤ cQ ∧ s.E.length ≤ cE) ∧
    (s.N ≤ 18446744073709551615 ∧ s.G ≤ 18446744073709551615) ∧ (∀ i, i < s.Q.length → ∃ q : Nat, s.Q.getD i 0 = (q : Int) ∧ q ≤ 18446744073709551615) ∧ (∀ i, i < s.E.length → s.E.getD i 0 ≤ 9223372036854775807 ∧ -9223372036854775808 ≤ s.E.getD i 0)
def PSt.nil : PSt := ⟨0, 0, [], []⟩
/-- A paper that came in. -/
def KP (w : World) (B : Nat) (A : Option Addr) (l : List PSt) : Prop := 0 < l.length → ∃ ad, A = some ad ∧ ad.block < B ∧ ∀ i, i < l.length → StepAt w B ad i (l.getD i PSt.nil)
theorem StepAt.up {w w' : World} {ad : Addr} {i : Nat} {s : PSt} (h : StepAt w w.heap.size ad i s) (ha : ad.block < w.heap.size) (hb : Below w.heap.size w w') : StepAt w' w'.heap.size ad i s := by
  obtain ⟨AQ, cQ, AE, cE, ⟨h1, h2, h3, h4⟩, h5, h6, h7⟩ := h
  have key : ∀ (k : Nat) (v : Value), w.cell? (ad.add k) = some v → w'.cell? (ad.add k) = some v := fun k v hk => (hb.cell (p := ad.add k) (by rw [block_of_add]; exact ha)).trans hk
  exact ⟨AQ, cQ, AE, cE, ⟨key _ _ h1, key _ _ h2, key _ _ h3, key _ _ h4⟩, h5.up hb, h6.up hb, h7⟩
def holdsL (S : Nat → Bool) : List PSt → Bool
  | [] => true
  | s :: r => if stepB S s.N s.G s.Q s.E = true then holdsL (fun x => decide (x = s.N) || S x) r else false
def holdsB (n : Nat) (l : List PSt) : Bool :=
  if l.length = 0 then decide (n = 2) else holdsL (fun x => decide (x = 2) || false) l && decide ((l.getD (l.length - 1) PSt.nil).N = n)
theorem holdsL_step {S : Nat → Bool} {l : List PSt} {i : Nat} (h : i < l.length) : holdsL S (l.drop i) = if stepB S (l.getD i PSt.nil).N (l.getD i PSt.nil).G (l.getD i PSt.nil).Q (l.getD i PSt.nil).E = true then holdsL (fun x => decide (x = (l.getD i PSt.nil).N) || S x) (l.drop (i + 1)) else false := by
  rw [List.drop_eq_getElem_cons h, show l.getD i PSt.nil = l[i] by simp [List.getD_eq_getElem?_getD, h]]
  rfl
theorem holds_none (n : Nat) (A : Option Addr) (c : Nat) (w : World) : Calls Tryd.prog 7 #[.int .u64 (n : Int), .slice A 0 c] w fun e w' => e = .returned (.bool (decide (n = 2))) ∧ Below w.heap.size w w' := by
  by_cases h : n = 2
  · have h1 : ((n : Int) == 2) = true := by rw [h]; rfl
    have h2 : decide (n = 2) = true := by simp [h]
    rw [h2]
    clear h h2
    go_enter Tryd.func7, Tryd.ntmps7
    go_wp2
    go_ret
    exact ⟨rfl, Below.refl _ _⟩
  · have h1 : ((n : Int) == 2) = false := by rw [beq_eq_false_iff_ne]; omega
    have h2 : decide (n = 2) = false := by simp [h]
    rw [h2]
    clear h h2
    go_enter Tryd.func7, Tryd.ntmps7
    go_wp2
    go_ret
    exact ⟨rfl, Below.refl _ _⟩
theorem addr_at {w : World} {ad : Addr} {m k : Nat} {v : Value} (hk : k ≠ 0) (h : w.cell? (ad.add (m + k)) = some v) : w.cell? ⟨(ad.add m).block, (ad.add m).off + k, none⟩ = some v := by
  rw [← add_of_add] at h
  have e : (ad.add m).add k = ⟨(ad.add m).block, (ad.add m).off + k, none⟩ := by
    generalize ad.add m = p
    unfold Addr.add
    rw [if_neg hk]
  rwa [e] at h
set_option maxHeartbeats 8000000 in
theorem holds_any (n : Nat) (A : Option Addr) (c : Nat) (l : List PSt) (w : World) (hn : n ≤ 18446744073709551615) (hl : l.length ≤ 20) (hl0 : 0 < l.length) (hc : l.length ≤ c) (hK : KP w w.heap.size A l) :
    Calls Tryd.prog 7 #[.int .u64 (n : Int), .slice A l.length c] w fun e w' => e = .returned (.bool (holdsB n l)) ∧ Below w.heap.size w w' := by
  obtain ⟨res, hres⟩ : ∃ res, holdsB n l = res := ⟨_, rfl⟩
  rw [hres]
  unfold holdsB at hres
  rw [if_neg (by omega)] at hres
  obtain ⟨R, hR⟩ : ∃ R, holdsL (fun x => decide (x = 2) || false) l = R := ⟨_, rfl⟩
  rw [hR] at hres
  obtain ⟨w1, hins, hM1, hg1⟩ := (MapS.made w).put (q := 2) (by omega) (by omega)
  have hins' : (Instr.mapUpdate 39 (.map (some w.heap.size)) (.int .u64 2) (.bool true)).run Tryd.prog (w.alloc (.map #[] 0)) = .ok () w1 := hins
  have hB1 : Below w.heap.size w w1 := ((Below.refl w.heap.size w).alloc (Nat.le_refl _) _).grown hg1 (by simp) (fun k hk => by cases hk; exact Nat.le_refl _)
  have hs1 : w.heap.size < w1.heap.size := by have := hg1.size; simp at this; omega
  have hmm := @run_makeMap Tryd.prog
  obtain ⟨ad, rfl, had, hst⟩ := hK hl0
  have HST := Lib.hid hst
  have HR0 : Hid (holdsL (fun x => decide (x = 2) || false) (l.drop 0) = R) := Lib.hid (by rw [List.drop_zero]; exact hR)
  have HRES := Lib.hid hres
  have HM1 := Lib.hid hM1
  have HB1 := Lib.hid hB1
  have hlen : ((l.length : Int) == 0) = false := by rw [beq_eq_false_iff_ne]; omega
  clear hins hM1 hg1 hB1 hK hst hR hres
  go_enter Tryd.func7, Tryd.ntmps7
  go_wp2
  go_loopw [17] (fun c wr => (∃ (i : Nat) (S : Nat → Bool), c = .int .i64 i ∧ i ≤ l.length ∧ Hid (MapS wr w.heap.size (i + 1) S ∧ (∀ q, S q = true → 2 ≤ q) ∧ holdsL S (l.drop i) = R)) ∧ Hid (Below w.heap.size w wr) ∧ w.heap.size < wr.heap.size) (fun c _ => l.length - (intOf c).toNat)
  case atStart => exact ⟨⟨0, _, rfl, Nat.zero_le _, Lib.hid ⟨HM1.out, fun q h => by simp at h; omega, HR0.out⟩⟩, HB1, hs1⟩
  case round =>
    clear HR0 HM1 HB1 hs1 hins' hmm
    obtain ⟨⟨i, S, rfl, hi, HH⟩, HB, hsz⟩ := hrel
    obtain ⟨wo, rfl⟩ : ∃ wo : World, wo = wr := ⟨_, rfl⟩
    by_cases hlt : i < l.length
    · obtain ⟨AQ, cQ, AE, cE, ⟨h1, h2, h3, h4⟩, hQ, hE, ⟨l1, l2, l3, l4⟩, ⟨l5, l6⟩, rQ, rE⟩ := (HST.out i hlt).up had HB.out
      obtain ⟨s, hs⟩ : ∃ s, l.getD i PSt.nil = s := ⟨_, rfl⟩
      have hR := HH.out.2.2
      rw [holdsL_step hlt] at hR
      rw [hs] at h1 h2 h3 h4 hQ hE l1 l2 l3 l4 l5 l6 rQ rE hR
      obtain ⟨N, G, Q, E⟩ := s
      replace h2 := addr_at (by decide) h2
      replace h3 := addr_at (by decide) h3
      replace h4 := addr_at (by decide) h4
      have hii : (i : Int) < (l.length : Int) := by omega
      have l5' : N ≤ 18446744073709551615 := l5
      have HQ := Lib.hid hQ
      have HE := Lib.hid hE
      have RQ := Lib.hid rQ
      have RE := Lib.hid rE
      have HSI := Lib.hid hs
      obtain ⟨q1, hq1⟩ : ∃ q1, stepB S N G Q E = q1 := ⟨_, rfl⟩
      rw [hq1] at hR
      have HST2 : Hid (∀ W : World, Below wo.heap.size wo W → Calls Tryd.prog 13 #[.agg #[.int .u64 (N : Int), .int .u64 (G : Int), .slice AQ Q.length cQ, .slice AE E.length cE], .map (some w.heap.size)] W fun e w' => e = .returned (.bool q1) ∧ Below W.heap.size W w') := Lib.hid fun W hb => by
        rw [← hq1]
        exact step_any N G AQ AE cQ cE w.heap.size (i + 1) Q E S W l5 l6 (HH.out.1.up hsz hb) (Nat.lt_of_lt_of_le hsz hb.size) HH.out.2.1 (hQ.up hb) (hE.up hb) l1 l2 l3 l4 rQ rE
      have HQ1 := Lib.hid hq1
      clear hQ hE rQ rE hs hq1
      cases q1 with
      | false =>
        have HT : Hid (false = res) := Lib.hid (by rw [← HRES.out, ← hR]; rfl)
        clear hR
        go_wp2_with (go_at_call 13; (with_reducible refine (HST2.out _ (by go_grown)).mono ?_); rintro e w2 ⟨rfl, hb2⟩; have HB2 : Hid (Below wo.heap.size wo w2) := Lib.hid (((Below.refl wo.heap.size wo).alloc (Nat.le_refl _) _).trans (hb2.mono (by simp))); clear hb2)
        go_ret
        exact ⟨ret_bool HT.out, below_chain HB.out HB2.out⟩
      | true =>
        have HN : Hid (holdsL (fun x => decide (x = N) || S x) (l.drop (i + 1)) = R) := Lib.hid hR
        have hN3 := (stepB_two HQ1.out).1
        clear hR
        go_wp2_with (go_at_call 13; (with_reducible refine (HST2.out _ (by go_grown)).mono ?_); rintro e w2 ⟨rfl, hb2⟩; have HB2 : Hid (Below wo.heap.size wo w2) := Lib.hid (((Below.refl wo.heap.size wo).alloc (Nat.le_refl _) _).trans (hb2.mono (by simp))); have hc0 := (hb2.cell (p := ⟨wo.heap.size, 0, none⟩) (by simp)).trans (show _ = some (Value.int .u64 (N : Int)) by go_cell); (obtain ⟨w3, hput, hM3, hg3⟩ := (HH.out.1.up hsz HB2.out).put (q := N) (by omega) (by omega)); have HM3 := Lib.hid hM3; have HG3 := Lib.hid hg3; clear hb2 hM3 hg3)
        go_roundw
        case rel => exact ⟨⟨i + 1, _, by go_num, by omega, Lib.hid ⟨HM3.out, fun q h => by
          rcases Bool.or_eq_true_iff.1 h with h | h
          · have := of_decide_eq_true h; omega
          · exact HH.out.2.1 q h, HN.out⟩⟩, Lib.hid ((below_chain HB.out HB2.out).grown HG3.out (Nat.le_trans (Nat.le_of_lt hsz) HB2.out.size) (fun k hk => by cases hk; exact Nat.le_refl _)), Nat.lt_of_lt_of_le (Nat.lt_of_lt_of_le hsz HB2.out.size) HG3.out.size⟩
        case measure => simp [intOf]; omega
    · have hii : ¬ (i : Int) < (l.length : Int) := by omega
      have HRT : Hid (R = true) := Lib.hid (by rw [← HH.out.2.2, List.drop_eq_nil_of_le (by omega)]; rfl)
      obtain ⟨m, hm⟩ : ∃ m, l.length - 1 = m := ⟨_, rfl⟩
      obtain ⟨AQ, cQ, AE, cE, ⟨h1, _⟩, _, _, _, ⟨l5, _⟩, _⟩ := (HST.out m (by omega)).up had HB.out
      have hres := HRES.out
      rw [HRT.out, hm] at hres
      obtain ⟨s, hs⟩ : ∃ s, l.getD m PSt.nil = s := ⟨_, rfl⟩
      rw [hs] at h1 l5 hres
      obtain ⟨N, G, Q, E⟩ := s
      have hmi : (l.length : Int) - 1 = (m : Int) := by omega
      have hml : (m : Int) < (l.length : Int) := by omega
      clear hs hm
      by_cases hNn : N = n
      · have hni : ((N : Int) == (n : Int)) = true := by rw [hNn]; simp
        have HT : Hid (true = res) := Lib.hid (by rw [← hres]; simp [hNn])
        clear hres hNn
        go_wp2
        go_ret
        exact ⟨ret_bool HT.out, HB.out⟩
      · have hni : ((N : Int) == (n : Int)) = false := by rw [beq_eq_false_iff_ne]; omega
        have HT : Hid (false = res) := Lib.hid (by rw [← hres]; simp [hNn])
        clear hres hNn
        go_wp2
        go_ret
        exact ⟨ret_bool HT.out, HB.out⟩
end Go.Proofs.YtkcnigpajhmjiaaDoor
