/- Factor, where it asks Is of numbers whose answer is known; no condition but that. -/
import Derived.Test.YtehlnkhbfbnadaaDoorTk
namespace Go.Proofs.YtehlnkhbfbnadaaDoor
open Go.RowKit
def stripF : Nat → Nat → Nat → Nat × Nat
  | 0, _, q => (q, 0)
  | f + 1, p, q => if q % p = 0 then ((stripF f p (q / p)).1, (stripF f p (q / p)).2 + 1) else (q, 0)
def finF (q : Nat) (ps ts : List Int) : List Int × List Int := if q ≤ 1 then (ps, ts) else (ps ++ [(q : Int)], ts ++ [1])
def okF (p q m k : Nat) (ps ts : List Int) : Bool := decide (m % p ≠ 0) && decide (q = m * p ^ k) && decide (k ≤ 64) && decide (ps.length ≤ 90) && decide (ts.length ≤ 90)
def facRun (isB : Nat → Option Bool) : Nat → Nat → Nat → List Int → List Int → Option (List Int × List Int)
  | 0, _, _, _, _ => none
  | f + 1, p, q, ps, ts =>
    match isB q with
    | none => none
    | some b => if q ≤ 1 ∨ b = true then (if ps.length ≤ 90 ∧ ts.length ≤ 90 then some (finF q ps ts) else none)
      else if okF p q (stripF 64 p q).1 (stripF 64 p q).2 ps ts = true then
        (if (stripF 64 p q).2 = 0 then facRun isB f (p + 2) q ps ts else facRun isB f (p + 2) (stripF 64 p q).1 (ps ++ [(p : Int)]) (ts ++ [((stripF 64 p q).2 : Int)]))
      else none
def facTop (isB : Nat → Option Bool) (f n : Nat) : Option (List Int × List Int) :=
  if okF 2 n (stripF 64 2 n).1 (stripF 64 2 n).2 [] [] = true then
    (if (stripF 64 2 n).2 = 0 then facRun isB f 3 n [] [] else facRun isB f 3 (stripF 64 2 n).1 [2] [((stripF 64 2 n).2 : Int)])
  else none
theorem okF_parts {p q m k : Nat} {ps ts : List Int} (h : okF p q m k ps ts = true) : m % p ≠ 0 ∧ q = m * p ^ k ∧ k ≤ 64 ∧ ps.length ≤ 90 ∧ ts.length ≤ 90 := by
  unfold okF at h
  simp only [Bool.and_eq_true, decide_eq_true_eq] at h
  exact ⟨h.1.1.1.1, h.1.1.1.2, h.1.1.2, h.1.2, h.2⟩
theorem Two.up {an ap at_ base : Nat} {m : Int} {ps ts : List Int} {w w' : World} (h : Two an ap at_ base m ps ts w) (z1 : an < base) (z2 : ap < base) (z3 : at_ < base) (hb : Below w.heap.size w w') : Two an ap at_ base m ps ts w' := by
  obtain ⟨vP, vT, ⟨⟨h1, h2, h3⟩, f1, f2, f3⟩, oP, oT, hd, hB⟩ := h
  exact ⟨vP, vT, ⟨⟨(hb.cell (p := ⟨an, 0, none⟩) (by show an < _; omega)).trans h1, (hb.cell (p := ⟨ap, 0, none⟩) (by show ap < _; omega)).trans h2, (hb.cell (p := ⟨at_, 0, none⟩) (by show at_ < _; omega)).trans h3⟩,
    (hb.frozen (p := ⟨an, 0, none⟩) (by show an < _; omega)).trans f1, (hb.frozen (p := ⟨ap, 0, none⟩) (by show ap < _; omega)).trans f2, (hb.frozen (p := ⟨at_, 0, none⟩) (by show at_ < _; omega)).trans f3⟩,
    own_up oP hb, own_up oT hb, hd, Nat.le_trans hB hb.size⟩
/-- What Factor hands back. -/
def MadeF (w : World) (r : List Int × List Int) (e : Ending) (w' : World) : Prop :=
  ∃ A c B d, e = .returned (.tuple #[.slice A r.1.length c, .slice B r.2.length d, .int .i64 0]) ∧ KL .u64 w' w'.heap.size A r.1 ∧ KL .i64 w' w'.heap.size B r.2 ∧ r.1.length ≤ c ∧ r.2.length ≤ d ∧ Below w.heap.size w w'
theorem madeF_of {an ap at_ base : Nat} {m : Int} {ps ts : List Int} {w w' : World} (h : Two an ap at_ base m ps ts w') (hb : Below w.heap.size w w') :
    ∃ A c B d, Vars an ap at_ m (.slice A ps.length c) (.slice B ts.length d) w' ∧ KL .u64 w' w'.heap.size A ps ∧ KL .i64 w' w'.heap.size B ts ∧ ps.length ≤ c ∧ ts.length ≤ d := by
  obtain ⟨vP, vT, hv, oP, oT, hd, hB⟩ := h
  have key : ∀ {k : IntKind} {e : TypeId} {v : Value} {xs : List Int}, w'.ownsRow base e 1 v xs.length (xs.map (Value.int k)) → ∃ A c, v = .slice A xs.length c ∧ KL k w' w'.heap.size A xs ∧ xs.length ≤ c := by
    intro k e v xs ho
    rcases ho.2 with ⟨rfl, h0⟩ | ⟨g, cap, cur, rfl, _⟩
    · have : xs = [] := List.eq_nil_of_length_eq_zero h0
      subst this
      exact ⟨none, 0, rfl, KL.nil_, Nat.le_refl _⟩
    · obtain ⟨_, h2, h3⟩ := KL.of_own ho
      exact ⟨_, _, rfl, h3, h2⟩
  obtain ⟨A, c, rfl, h1, h2⟩ := key oP
  obtain ⟨B, d, rfl, h3, h4⟩ := key oT
  exact ⟨A, c, B, d, hv, h1, h3, h2, h4⟩
def IsKnown (Pre : World → Prop) (isB : Nat → Option Bool) : Prop := ∀ (q : Nat) (b : Bool) (W : World), Pre W → isB q = some b → Calls Tryd.prog 36 #[.int .u64 (q : Int)] W fun e w' => e = .returned (.bool b) ∧ Below W.heap.size W w'
theorem two_start {w : World} {n : Int} {W : World} (h1 : W.cell? ⟨w.heap.size, 0, none⟩ = some (.int .u64 n)) (h2 : W.cell? ⟨w.heap.size + 1, 0, none⟩ = some (.slice none 0 0)) (h3 : W.cell? ⟨w.heap.size + 1 + 1, 0, none⟩ = some (.slice none 0 0))
    (f1 : W.frozen? ⟨w.heap.size, 0, none⟩ = false) (f2 : W.frozen? ⟨w.heap.size + 1, 0, none⟩ = false) (f3 : W.frozen? ⟨w.heap.size + 1 + 1, 0, none⟩ = false) (hs : W.heap.size = w.heap.size + 1 + 1 + 1) :
    Two w.heap.size (w.heap.size + 1) (w.heap.size + 1 + 1) (w.heap.size + 1 + 1 + 1) n [] [] W :=
  ⟨_, _, ⟨⟨h1, h2, h3⟩, f1, f2, f3⟩, World.ownsRow_nil _ _ _ _, World.ownsRow_nil _ _ _ _, fun g hg => by simp [Value.ownBlock] at hg, by omega⟩
def psF (k : Nat) (x : Int) (ps : List Int) : List Int := if k = 0 then ps else ps ++ [x]
theorem take_gen (p m k q an ap at_ base : Nat) (ps ts : List Int) (w : World) (hT : Two an ap at_ base (q : Int) ps ts w) (hok : okF p q m k ps ts = true)
    (n1 : an ≠ ap) (n2 : an ≠ at_) (n3 : ap ≠ at_) (z1 : an < base) (z2 : ap < base) (z3 : at_ < base)
    (hp : 2 ≤ p) (hpl : p ≤ 18446744073709551615) (hq : q ≤ 18446744073709551615) :
    Calls Tryd.prog 39 #[.int .u64 p, .pointer (some ⟨an, 0, none⟩), .pointer (some ⟨ap, 0, none⟩), .pointer (some ⟨at_, 0, none⟩)] w fun e w' => e = .returned (.bool (decide (0 < k))) ∧ Two an ap at_ base m (psF k p ps) (psF k k ts) w' ∧ ∀ B, B ≤ an → B ≤ ap → B ≤ at_ → B ≤ base → Below B w w' := by
  obtain ⟨hm, hqe, hk64, lp, lt⟩ := okF_parts hok
  by_cases hk : k = 0
  · subst hk
    rw [Nat.pow_zero, Nat.mul_one] at hqe
    subst hqe
    exact (take_none p q an ap at_ base ps ts w hT hp hpl hq hm).mono fun e w' ⟨he, hw⟩ => by
      subst hw
      exact ⟨he, hT, fun B _ _ _ _ => Below.refl B w⟩
  · have hk0 : 0 < k := by omega
    subst hqe
    refine (take_any p m k an ap at_ base ps ts w hT (by omega) (by omega) n1 n2 n3 z1 z2 z3 hp hpl hm hk0 hk64 hq).mono fun e w' ⟨he, h1, h2⟩ => ⟨?_, ?_, h2⟩
    · rw [he]; simp [hk0]
    · unfold psF
      rw [if_neg hk, if_neg hk]
      exact h1
theorem facRun_some {isB : Nat → Option Bool} {f p q : Nat} {ps ts : List Int} {r : List Int × List Int} (h : facRun isB f p q ps ts = some r) : ∃ b f', f = f' + 1 ∧ isB q = some b ∧
    (((q ≤ 1 ∨ b = true) ∧ (ps.length ≤ 90 ∧ ts.length ≤ 90) ∧ r = finF q ps ts) ∨ (1 < q ∧ b = false ∧ ∃ m k, okF p q m k ps ts = true ∧ facRun isB f' (p + 2) m (psF k p ps) (psF k k ts) = some r)) := by
  cases f with
  | zero => cases h
  | succ f' =>
    unfold facRun at h
    rcases hb : isB q with _ | b
    · rw [hb] at h; cases h
    · rw [hb] at h
      refine ⟨b, f', rfl, rfl, ?_⟩
      dsimp only at h
      by_cases hq : q ≤ 1 ∨ b = true
      · rw [if_pos hq] at h
        by_cases hl : ps.length ≤ 90 ∧ ts.length ≤ 90
        · rw [if_pos hl] at h
          exact .inl ⟨hq, hl, (Option.some.inj h).symm⟩
        · rw [if_neg hl] at h; cases h
      · rw [if_neg hq] at h
        right
        refine ⟨by omega, by cases b <;> simp_all, ?_⟩
        by_cases ho : okF p q (stripF 64 p q).1 (stripF 64 p q).2 ps ts = true
        · rw [if_pos ho] at h
          refine ⟨_, _, ho, ?_⟩
          by_cases hk : (stripF 64 p q).2 = 0
          · rw [if_pos hk] at h
            have : (stripF 64 p q).1 = q := by
              have := (okF_parts ho).2.1
              rw [hk, Nat.pow_zero, Nat.mul_one] at this
              exact this.symm
            unfold psF
            rw [if_pos hk, if_pos hk, this]
            exact h
          · rw [if_neg hk] at h
            unfold psF
            rw [if_neg hk, if_neg hk]
            exact h
        · rw [if_neg ho] at h; cases h
theorem facTop_some {isB : Nat → Option Bool} {f n : Nat} {r : List Int × List Int} (h : facTop isB f n = some r) : ∃ m k, okF 2 n m k [] [] = true ∧ facRun isB f 3 m (psF k 2 []) (psF k k []) = some r := by
  unfold facTop at h
  by_cases ho : okF 2 n (stripF 64 2 n).1 (stripF 64 2 n).2 [] [] = true
  · rw [if_pos ho] at h
    refine ⟨_, _, ho, ?_⟩
    by_cases hk : (stripF 64 2 n).2 = 0
    · rw [if_pos hk] at h
      have : (stripF 64 2 n).1 = n := by
        have := (okF_parts ho).2.1
        rw [hk, Nat.pow_zero, Nat.mul_one] at this
        exact this.symm
      unfold psF
      rw [if_pos hk, if_pos hk, this]
      exact h
    · rw [if_neg hk] at h
      unfold psF
      rw [if_neg hk, if_neg hk]
      exact h
  · rw [if_neg ho] at h; cases h
theorem okF_le {p q m k : Nat} {ps ts : List Int} (h : okF p q m k ps ts = true) (hp : 2 ≤ p) : m ≤ q := by
  rw [(okF_parts h).2.1]
  exact Nat.le_mul_of_pos_right _ (Nat.pow_pos (by omega))
def LoopF (isB : Nat → Option Bool) (C : Nat) (r : List Int × List Int) (w : World) (rest p : Value) (wr : World) : Prop :=
  ∃ (b : Bool) (pn q f : Nat) (ps ts : List Int), rest = .bool b ∧ p = .int .u64 (pn : Int) ∧ Two w.heap.size (w.heap.size + 1) (w.heap.size + 1 + 1) (w.heap.size + 1 + 1 + 1) (q : Int) ps ts wr ∧ Below w.heap.size w wr ∧ isB q = some b ∧ facRun isB f pn q ps ts = some r ∧ pn + 2 * f = C ∧ 3 ≤ pn ∧ q ≤ 1099511627776
theorem two_n {an ap at_ base : Nat} {m : Int} {ps ts : List Int} {w : World} (h : Two an ap at_ base m ps ts w) : w.cell? ⟨an, 0, none⟩ = some (.int .u64 m) := by
  obtain ⟨_, _, ⟨⟨h1, _, _⟩, _⟩, _⟩ := h
  exact h1
theorem madeF_end {an ap at_ base : Nat} {m : Int} {r : List Int × List Int} {w w1 W : World} (h : Two an ap at_ base m r.1 r.2 w1) (hb : Below w.heap.size w w1) (A B : Option Addr) (c d : Nat)
    (hA : KL .u64 w1 w1.heap.size A r.1) (hB : KL .i64 w1 w1.heap.size B r.2) (hc : r.1.length ≤ c) (hd : r.2.length ≤ d) (hW : ∃ n, W = w1.drewN n) :
    MadeF w r (.returned (.tuple #[.slice A r.1.length c, .slice B r.2.length d, .int .i64 0])) W := by
  obtain ⟨n, rfl⟩ := hW
  exact ⟨A, c, B, d, rfl, hA, hB, hc, hd, below_drewN hb n⟩
set_option maxHeartbeats 4000000 in
theorem factor_any (Pre : World → Prop) (hPre : ∀ a b : World, Pre a → Below a.heap.size a b → Pre b) (isB : Nat → Option Bool) (IS : IsKnown Pre isB) (f n : Nat) (r : List Int × List Int) (w : World) (hw : Pre w) (hr : facTop isB f n = some r) (hf : f ≤ 1000000) (hn : 1 ≤ n) (hnl : n ≤ 1099511627776) :
    Calls Tryd.prog 34 #[.int .u64 (n : Int)] w fun e w' => MadeF w r e w' := by
  obtain ⟨m0, k0, ho0, hr0⟩ := facTop_some hr
  have hm0 : m0 ≤ n := okF_le ho0 (by omega)
  obtain ⟨b0, f0, hf0, hb0, _⟩ := facRun_some hr0
  have HO0 := Lib.hid ho0
  have HR0 := Lib.hid hr0
  have HI0 := Lib.hid hb0
  have HIS : Hid (∀ (q : Nat) (b : Bool) (W : World), Below w.heap.size w W → isB q = some b → Calls Tryd.prog 36 #[.int .u64 (q : Int)] W fun e w' => e = .returned (.bool b) ∧ Below W.heap.size W w') := Lib.hid fun q b W hb h => IS q b W (hPre _ _ hw hb) h
  have HTK : Hid (∀ W : World, Two w.heap.size (w.heap.size + 1) (w.heap.size + 1 + 1) (w.heap.size + 1 + 1 + 1) (n : Int) [] [] W → Calls Tryd.prog 39 #[.int .u64 2, .pointer (some ⟨w.heap.size, 0, none⟩), .pointer (some ⟨w.heap.size + 1, 0, none⟩), .pointer (some ⟨w.heap.size + 1 + 1, 0, none⟩)] W fun e w' => e = .returned (.bool (decide (0 < k0))) ∧ Two w.heap.size (w.heap.size + 1) (w.heap.size + 1 + 1) (w.heap.size + 1 + 1 + 1) m0 (psF k0 2 []) (psF k0 k0 []) w' ∧ Below w.heap.size W w') := Lib.hid fun W hW =>
    (take_gen 2 m0 k0 n w.heap.size (w.heap.size + 1) (w.heap.size + 1 + 1) (w.heap.size + 1 + 1 + 1) [] [] W hW ho0 (by omega) (by omega) (by omega) (by omega) (by omega) (by omega) (by omega) (by omega) (by omega)).mono fun e w' ⟨h1, h2, h3⟩ => ⟨h1, h2, h3 w.heap.size (by omega) (by omega) (by omega) (by omega)⟩
  clear hr IS ho0 hr0 hb0 hf0 hw hPre
  have c1 : ¬ (n : Int) < 1 := by omega
  have c2 : ¬ 1099511627776 < (n : Int) := by omega
  go_enter Tryd.func34, Tryd.ntmps34
  go_wp2_with (first
    | (go_at_call 39; (with_reducible refine (HTK.out _ (two_start (by go_cell) (by go_cell) (by go_cell) (by go_cell) (by go_cell) (by go_cell) (by simp))).mono ?_); rintro e w1 ⟨rfl, hT1, hb1⟩; have HT1 := Lib.hid hT1; have n1 := two_n hT1; have HB1 := Lib.hid (((((Below.refl w.heap.size w).alloc (Nat.le_refl _) _).alloc (by simp) _).alloc (by simp; omega) _).trans hb1); clear hT1 hb1)
    | (go_at_call 36; (with_reducible refine (HIS.out m0 b0 _ HB1.out HI0.out).mono ?_); rintro e w2 ⟨rfl, hb2⟩; have HT2 := Lib.hid (HT1.out.up (by omega) (by omega) (by omega) hb2); have HB2 := Lib.hid (below_chain HB1.out hb2); clear hb2))
  go_loopw [8, 9] (fun rest p wr => LoopF isB (3 + 2 * f) r w rest p wr) (fun _ p _ => 3 + 2 * f - (intOf p).toNat)
  case atStart => exact ⟨b0, 3, m0, f, _, _, rfl, rfl, HT2.out, HB2.out, HI0.out, HR0.out, rfl, Nat.le_refl _, by omega⟩
  case round =>
    clear HT2 HB2 HT1 HB1 n1 HTK
    obtain ⟨b, pn, q, g, ps, ts, rfl, rfl, hT, hB, hb, hrun, hC, hp3, hq⟩ := hrel
    obtain ⟨b', g', rfl, hb', hcase⟩ := facRun_some hrun
    obtain rfl : b = b' := Option.some.inj (hb.symm.trans hb')
    have n1 := two_n hT
    have HT := Lib.hid hT
    have HB := Lib.hid hB
    rcases hcase with ⟨hstop, ⟨lp, lt⟩, hfin⟩ | ⟨hq1, rfl, m, k, hok, hnext⟩
    · by_cases hq1 : q ≤ 1
      · obtain ⟨rfl, rfl⟩ : ps = r.1 ∧ ts = r.2 := by rw [hfin]; unfold finF; rw [if_pos hq1]; exact ⟨rfl, rfl⟩
        have cq : ¬ 1 < (q : Int) := by omega
        obtain ⟨A, c, B, d, ⟨⟨k1, k2, k3⟩, l1, l2, l3⟩, hA, hB', hc, hd⟩ := madeF_of hT hB
        have HA := Lib.hid hA
        have HBB := Lib.hid hB'
        have HC := Lib.hid hc
        have HD := Lib.hid hd
        clear hA hB' hc hd hstop hq1 hrun hb hb' hT hB hfin
        go_wp2
        go_quiet (fail)
        go_wp2
        go_ret3
        exact madeF_end HT.out HB.out A B c d HA.out HBB.out HC.out HD.out ⟨_, rfl⟩
      · obtain rfl : b = true := by rcases hstop with h | h; exact absurd h hq1; exact h
        have hr1 : ps ++ [(q : Int)] = r.1 ∧ ts ++ [1] = r.2 := by rw [hfin]; unfold finF; rw [if_neg hq1]; exact ⟨rfl, rfl⟩
        have HR1 := Lib.hid hr1
        have cq : 1 < (q : Int) := by omega
        have HTK : Hid (∀ W : World, Two w.heap.size (w.heap.size + 1) (w.heap.size + 1 + 1) (w.heap.size + 1 + 1 + 1) (q : Int) ps ts W → Calls Tryd.prog 39 #[.int .u64 (q : Int), .pointer (some ⟨w.heap.size, 0, none⟩), .pointer (some ⟨w.heap.size + 1, 0, none⟩), .pointer (some ⟨w.heap.size + 1 + 1, 0, none⟩)] W fun e w' => e = .returned (.bool true) ∧ Two w.heap.size (w.heap.size + 1) (w.heap.size + 1 + 1) (w.heap.size + 1 + 1 + 1) 1 r.1 r.2 w' ∧ Below w.heap.size W w') := Lib.hid fun W hW => by
          have h := take_any q 1 1 w.heap.size (w.heap.size + 1) (w.heap.size + 1 + 1) (w.heap.size + 1 + 1 + 1) ps ts W (by rw [Nat.one_mul, Nat.pow_one]; exact hW) (by omega) (by omega) (by omega) (by omega) (by omega) (by omega) (by omega) (by omega) (by omega) (by omega) (by rw [Nat.mod_eq_of_lt (by omega)]; omega) (by omega) (by omega) (by rw [Nat.one_mul, Nat.pow_one]; omega)
          exact h.mono fun e w' ⟨h1, h2, h3⟩ => ⟨h1, by rw [← hr1.1, ← hr1.2]; exact h2, h3 w.heap.size (by omega) (by omega) (by omega) (by omega)⟩
        clear hstop hq1 hrun hb hb' hT hB hfin hr1
        go_wp2_with (go_at_call 39; (with_reducible refine (HTK.out _ HT.out).mono ?_); rintro e w1 ⟨rfl, hT1, hb1⟩; have HT1 := Lib.hid hT1; have HB1 := Lib.hid (HB.out.trans hb1); obtain ⟨A, c, B, d, ⟨⟨k1, k2, k3⟩, l1, l2, l3⟩, hA, hB', hc, hd⟩ := madeF_of hT1 HB1.out; have HA := Lib.hid hA; have HBB := Lib.hid hB'; have HC := Lib.hid hc; have HD := Lib.hid hd; clear hA hB' hc hd hT1 hb1)
        go_quiet (fail)
        go_wp2
        go_ret3
        exact madeF_end HT1.out HB1.out A B c d HA.out HBB.out HC.out HD.out ⟨_, rfl⟩
    · have hm := okF_le hok (by omega)
      have cq : 1 < (q : Int) := by omega
      obtain ⟨b2, g2, hg2, hb2, _⟩ := facRun_some hnext
      have HI2 := Lib.hid hb2
      have HN := Lib.hid hnext
      have HB0 := Lib.hid hb
      have HTK : Hid (∀ W : World, Two w.heap.size (w.heap.size + 1) (w.heap.size + 1 + 1) (w.heap.size + 1 + 1 + 1) (q : Int) ps ts W → Calls Tryd.prog 39 #[.int .u64 (pn : Int), .pointer (some ⟨w.heap.size, 0, none⟩), .pointer (some ⟨w.heap.size + 1, 0, none⟩), .pointer (some ⟨w.heap.size + 1 + 1, 0, none⟩)] W fun e w' => e = .returned (.bool (decide (0 < k))) ∧ Two w.heap.size (w.heap.size + 1) (w.heap.size + 1 + 1) (w.heap.size + 1 + 1 + 1) m (psF k pn ps) (psF k k ts) w' ∧ Below w.heap.size W w') := Lib.hid fun W hW =>
        (take_gen pn m k q w.heap.size (w.heap.size + 1) (w.heap.size + 1 + 1) (w.heap.size + 1 + 1 + 1) ps ts W hW hok (by omega) (by omega) (by omega) (by omega) (by omega) (by omega) (by omega) (by omega) (by omega)).mono fun e w' ⟨h1, h2, h3⟩ => ⟨h1, h2, h3 w.heap.size (by omega) (by omega) (by omega) (by omega)⟩
      have hml : m ≤ 1099511627776 := by omega
      by_cases hk : k = 0
      · have HQM : Hid (m = q) := Lib.hid (by have := (okF_parts hok).2.1; rw [hk, Nat.pow_zero, Nat.mul_one] at this; exact this.symm)
        have hkd : decide (0 < k) = false := by simp [hk]
        rw [hkd] at HTK
        clear hok hnext hb2 hb hb' hrun hT hB hk hkd
        go_wp2_with (go_at_call 39; (with_reducible refine (HTK.out _ HT.out).mono ?_); rintro e w1 ⟨rfl, hT1, hb1⟩; have HT1 := Lib.hid hT1; have HB1 := Lib.hid (HB.out.trans hb1); clear hT1 hb1)
        go_roundw
        case rel => exact ⟨false, pn + 2, m, g', _, _, rfl, by go_num, HT1.out, HB1.out, by rw [HQM.out]; exact HB0.out, HN.out, by omega, by omega, hml⟩
        case measure => simp [intOf]; omega
      · have hkd : decide (0 < k) = true := by simp; omega
        rw [hkd] at HTK
        clear hok hnext hb2 hb hb' hrun hT hB hk hkd
        go_wp2_with (first
          | (go_at_call 39; (with_reducible refine (HTK.out _ HT.out).mono ?_); rintro e w1 ⟨rfl, hT1, hb1⟩; have HT1 := Lib.hid hT1; have n2 := two_n hT1; have HB1 := Lib.hid (HB.out.trans hb1); clear hT1 hb1)
          | (go_at_call 36; (with_reducible refine (HIS.out m b2 _ HB1.out HI2.out).mono ?_); rintro e w2 ⟨rfl, hb3⟩; have HT2 := Lib.hid (HT1.out.up (by omega) (by omega) (by omega) hb3); have HB2 := Lib.hid (below_chain HB1.out hb3); clear hb3))
        go_roundw
        case rel => exact ⟨b2, pn + 2, m, g', _, _, rfl, by go_num, HT2.out, HB2.out, HI2.out, HN.out, by omega, by omega, hml⟩
        case measure => simp [intOf]; omega
end Go.Proofs.YtehlnkhbfbnadaaDoor
