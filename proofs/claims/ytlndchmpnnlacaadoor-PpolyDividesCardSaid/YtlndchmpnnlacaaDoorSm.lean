/- Contracts: Deg, Same, Cmp, the program's and the document's. Contracts: Right, Fair, Pair: which polynomials may be. Contracts: constant, Monic, rest, divides. -/
import Derived.Test.YtlndchmpnnlacaaDoorDivM
import Derived.Test.YtlndchmpnnlacaaDoorTabG
namespace Go.Proofs.YtlndchmpnnlacaaDoor
open Go.RowKit

/-- A polynomial laid by a function that only reads it. -/
def Box1 (w : World) (p : Nat) (v : Value) (W : World) : Prop :=
  (W.cell? ⟨w.heap.size, 0, none⟩ = some (.int .u32 (p : Int)) ∧ W.cell? ⟨w.heap.size, 1, none⟩ = some v) ∧ w.heap.size + 1 ≤ W.heap.size ∧ Below w.heap.size w W
theorem Box1.up {w : World} {p : Nat} {v : Value} {W W' : World} (h : Box1 w p v W) (hb : Below (w.heap.size + 1) W W') : Box1 w p v W' := by
  obtain ⟨⟨h1, h2⟩, h3, h4⟩ := h
  exact ⟨⟨(hb.cell (p := ⟨w.heap.size, 0, none⟩) (by show w.heap.size < _; omega)).trans h1, (hb.cell (p := ⟨w.heap.size, 1, none⟩) (by show w.heap.size < _; omega)).trans h2⟩, Nat.le_trans h3 hb.size, h4.trans (hb.mono (by omega))⟩
theorem box1_start (w : World) (p : Nat) (v : Value) (T : TypeId) : Box1 w p v (w.alloc (.cells #[.int .u32 (p : Int), v] T)) := ⟨⟨by go_cell, by go_cell⟩, by simp, (Below.refl _ _).alloc (Nat.le_refl _) _⟩
def Box2 (w : World) (p q : Nat) (v u : Value) (W : World) : Prop :=
  (W.cell? ⟨w.heap.size, 0, none⟩ = some (.int .u32 (p : Int)) ∧ W.cell? ⟨w.heap.size, 1, none⟩ = some v) ∧
  (W.cell? ⟨w.heap.size + 1, 0, none⟩ = some (.int .u32 (q : Int)) ∧ W.cell? ⟨w.heap.size + 1, 1, none⟩ = some u) ∧ w.heap.size + 1 + 1 ≤ W.heap.size ∧ Below w.heap.size w W
theorem Box2.up {w : World} {p q : Nat} {v u : Value} {W W' : World} (h : Box2 w p q v u W) (hb : Below (w.heap.size + 1 + 1) W W') : Box2 w p q v u W' := by
  obtain ⟨⟨h1, h2⟩, ⟨k1, k2⟩, h3, h4⟩ := h
  have c : ∀ b o, b < w.heap.size + 1 + 1 → W'.cell? ⟨b, o, none⟩ = W.cell? ⟨b, o, none⟩ := fun b o h => hb.cell (p := ⟨b, o, none⟩) h
  exact ⟨⟨(c _ _ (by omega)).trans h1, (c _ _ (by omega)).trans h2⟩, ⟨(c _ _ (by omega)).trans k1, (c _ _ (by omega)).trans k2⟩, Nat.le_trans h3 hb.size, h4.trans (hb.mono (by omega))⟩
theorem box2_start (w : World) (p q : Nat) (v u : Value) (T T' : TypeId) : Box2 w p q v u ((w.alloc (.cells #[.int .u32 (p : Int), v] T)).alloc (.cells #[.int .u32 (q : Int), u] T')) :=
  ⟨⟨by go_cell, by go_cell⟩, ⟨by go_cell, by go_cell⟩, by simp, ((Below.refl _ _).alloc (Nat.le_refl _) _).alloc (by simp) _⟩
theorem Box1.drewN {w : World} {p : Nat} {v : Value} {W : World} (h : Box1 w p v W) (n : Nat) : Box1 w p v (W.drewN n) := h.up (below_drewN (Below.refl _ _) n)
theorem Box2.drewN {w : World} {p q : Nat} {v u : Value} {W : World} (h : Box2 w p q v u W) (n : Nat) : Box2 w p q v u (W.drewN n) := h.up (below_drewN (Below.refl _ _) n)
def eqP (p q : Nat) (xs ys : List Int) : Bool := decide (p = q ∧ xs = ys)
theorem eqP_self (p : Nat) (xs : List Int) : eqP p p xs xs = true := by unfold eqP; simp
theorem list_next {xs ys : List Int} {k : Nat} (h : ∀ j, j < k → xs.getD j 0 = ys.getD j 0) (e : xs.getD k 0 = ys.getD k 0) : ∀ j, j < k + 1 → xs.getD j 0 = ys.getD j 0 := fun j hj => by
  rcases Nat.lt_or_ge j k with h1 | h1
  · exact h j h1
  · rw [show j = k by omega]; exact e
theorem list_eq {xs ys : List Int} (hl : xs.length = ys.length) (h : ∀ j, j < xs.length → xs.getD j 0 = ys.getD j 0) : xs = ys := by
  apply List.ext_getElem hl
  intro i h1 h2
  have := h i h1
  simpa [List.getD_eq_getElem?_getD, h1, h2] using this
theorem deg_any (p : Nat) (A : Option Addr) (n c : Nat) (w : World) (hl : n ≤ 1099511627776) :
    Calls Tryd.prog 18 #[.agg #[.int .u32 (p : Int), .slice A n c]] w fun e w' => e = .returned (.int .i64 ((n : Int) - 1)) ∧ Below w.heap.size w w' := by
  go_enter Tryd.func18, Tryd.ntmps18
  go_wp2
  go_ret
  exact ⟨rfl, by go_grown⟩
theorem rdeg_any (p : Nat) (A : Option Addr) (n c : Nat) (w : World) (hl : n ≤ 1099511627776) :
    Calls Tryd.prog 19 #[.agg #[.int .u32 (p : Int), .slice A n c]] w fun e w' => e = .returned (.int .i64 ((n : Int) - 1)) ∧ Below w.heap.size w w' := by
  go_enter Tryd.func19, Tryd.ntmps19
  go_wp2
  go_ret
  exact ⟨rfl, by go_grown⟩
set_option maxHeartbeats 2000000 in
theorem equal_any (A B : Option Addr) (xs ys : List Int) (c d : Nat) (w : World) (h : KL .u32 w w.heap.size A xs) (h' : KL .u32 w w.heap.size B ys) (hd : Dig 4294967296 xs) (hd' : Dig 4294967296 ys) (hl : xs.length ≤ 1099511627776) (hl' : ys.length ≤ 1099511627776) :
    Calls Tryd.prog 56 #[.slice A xs.length c, .slice B ys.length d] w fun e w' => e = .returned (.bool (eqP 0 0 xs ys)) ∧ ∃ n, w' = w.drewN n := by
  by_cases hne : xs.length = ys.length
  · have hb : ((xs.length : Int) == (ys.length : Int)) = true := by rw [beq_iff_eq]; omega
    have hb2 : ((xs.length : Int) != (ys.length : Int)) = false := by rw [bne_eq_false_iff_eq]; omega
    have HNE := Lib.hid hne
    have H := Lib.hid h; clear h
    have H' := Lib.hid h'; clear h'
    have HD := Lib.hid hd; clear hd
    have HD' := Lib.hid hd'; clear hd' hne
    go_enter Tryd.func56, Tryd.ntmps56
    go_wp2
    go_loopw [13] (fun i wr => ∃ k : Nat, k ≤ xs.length ∧ i = .int .i64 k ∧ Hid (∀ j, j < k → xs.getD j 0 = ys.getD j 0) ∧ ∃ n, wr = w.drewN n) (fun i _ => xs.length - (intOf i).toNat)
    case atStart => exact ⟨0, Nat.zero_le _, rfl, Lib.hid (fun j hj => by omega), 0, rfl⟩
    case round =>
      obtain ⟨k, hk, rfl, HE, m, rfl⟩ := hrel
      by_cases hlt : k < xs.length
      · have hlt2 : k < ys.length := by have := HNE.out; omega
        obtain ⟨ad, rfl, _, hc⟩ := H.out (by omega)
        obtain ⟨bd, rfl, _, hc'⟩ := H'.out (by omega)
        have c1 := hc k hlt
        have c2 := hc' k hlt2
        have r1 := HD.out.at_ hlt
        have r2 := HD'.out.at_ hlt2
        obtain ⟨x, hx⟩ : ∃ x : Nat, xs.getD k 0 = x := ⟨(xs.getD k 0).toNat, by omega⟩
        obtain ⟨y, hy⟩ : ∃ y : Nat, ys.getD k 0 = y := ⟨(ys.getD k 0).toNat, by omega⟩
        rw [hx] at c1
        rw [hy] at c2
        have i1 : (k : Int) < (xs.length : Int) := by omega
        have i2 : (k : Int) < (ys.length : Int) := by omega
        have i3 : (0 : Int) ≤ (k : Int) := by omega
        by_cases hxy : x = y
        · subst hxy
          have HE2 : Hid (∀ j, j < k + 1 → xs.getD j 0 = ys.getD j 0) := Lib.hid (list_next HE.out (by rw [hx, hy]))
          clear hc hc' hx hy r1 r2
          go_wp2
          go_quiet (fail)
          go_wp2
          go_roundw
          case rel => exact ⟨k + 1, by omega, by go_num, HE2, by first | exact ⟨_, rfl⟩ | exact ⟨_, World.drewN_drewN _ _ _⟩⟩
          case measure => simp [intOf]; omega
        · have hn : ((x : Int) == (y : Int)) = false := by rw [beq_eq_false_iff_ne]; omega
          have hn2 : ((x : Int) != (y : Int)) = true := by rw [bne_iff_ne]; omega
          have HN : Hid (false = eqP 0 0 xs ys) := Lib.hid (by unfold eqP; symm; rw [decide_eq_false_iff_not]; intro ⟨_, e⟩; rw [e, hy] at hx; omega)
          clear hc hc' hx hy r1 r2
          go_wp2
          go_quiet (fail)
          go_wp2
          go_ret
          exact ⟨ret_bool HN.out, by first | exact ⟨_, rfl⟩ | exact ⟨_, World.drewN_drewN _ _ _⟩⟩
      · have HN : Hid (true = eqP 0 0 xs ys) := Lib.hid (by rw [list_eq HNE.out (fun j hj => HE.out j (by omega)), eqP_self])
        have i1 : ¬ (k : Int) < (xs.length : Int) := by omega
        go_wp2
        go_ret
        exact ⟨ret_bool HN.out, _, rfl⟩
  · have hb : ((xs.length : Int) == (ys.length : Int)) = false := by rw [beq_eq_false_iff_ne]; omega
    have hb2 : ((xs.length : Int) != (ys.length : Int)) = true := by rw [bne_iff_ne]; omega
    have HN : Hid (false = eqP 0 0 xs ys) := Lib.hid (by unfold eqP; symm; rw [decide_eq_false_iff_not]; intro ⟨_, e⟩; exact hne (by rw [e]))
    clear h h' hd hd' hne
    go_enter Tryd.func56, Tryd.ntmps56
    go_wp2
    go_ret
    exact ⟨ret_bool HN.out, 0, rfl⟩
theorem eqP_zero (p : Nat) (xs ys : List Int) : eqP 0 0 xs ys = eqP p p xs ys := by unfold eqP; simp
set_option maxHeartbeats 1000000 in
theorem same_any (p q : Nat) (A B : Option Addr) (xs ys : List Int) (c d : Nat) (w : World) (h : KL .u32 w w.heap.size A xs) (h' : KL .u32 w w.heap.size B ys) (hd : Dig 4294967296 xs) (hd' : Dig 4294967296 ys) (hl : xs.length ≤ 1099511627776) (hl' : ys.length ≤ 1099511627776) :
    Calls Tryd.prog 15 #[.agg #[.int .u32 (p : Int), .slice A xs.length c], .agg #[.int .u32 (q : Int), .slice B ys.length d]] w fun e w' => e = .returned (.bool (eqP p q xs ys)) ∧ Below w.heap.size w w' := by
  obtain ⟨b, hb⟩ : ∃ b, eqP p q xs ys = b := ⟨_, rfl⟩
  by_cases hpq : p = q
  · subst hpq
    have hb1 : ((p : Int) == (p : Int)) = true := by simp
    have HB := Lib.hid (box2_start w p p (.slice A xs.length c) (.slice B ys.length d) 25 25)
    have HEQ : Hid (∀ W : World, Box2 w p p (.slice A xs.length c) (.slice B ys.length d) W → Calls Tryd.prog 56 #[.slice A xs.length c, .slice B ys.length d] W fun e w' => e = .returned (.bool b) ∧ ∃ n, w' = W.drewN n) := Lib.hid fun W hW => by
      rw [← hb, ← eqP_zero]
      exact equal_any A B xs ys c d W ((h.below hW.2.2.2).more hW.2.2.2.size) ((h'.below hW.2.2.2).more hW.2.2.2.size) hd hd' hl hl'
    rw [hb]
    clear h h' hd hd' hb
    go_enter Tryd.func15, Tryd.ntmps15
    go_wp2_with (go_at_call 56; (with_reducible refine (HEQ.out _ HB.out).mono ?_); rintro e w2 ⟨rfl, n, rfl⟩)
    go_ret
    exact ⟨ret_bool (by simp), (HB.out.drewN n).2.2.2⟩
  · have hb1 : ((p : Int) == (q : Int)) = false := by rw [beq_eq_false_iff_ne]; omega
    have HN : Hid (false = b) := Lib.hid (by rw [← hb]; unfold eqP; symm; rw [decide_eq_false_iff_not]; intro ⟨e, _⟩; exact hpq e)
    rw [hb]
    clear h h' hd hd' hb hpq
    go_enter Tryd.func15, Tryd.ntmps15
    go_wp2
    go_ret
    exact ⟨ret_bool HN.out, by go_grown⟩
set_option maxHeartbeats 4000000 in
theorem rsame_any (p q : Nat) (A B : Option Addr) (xs ys : List Int) (c d : Nat) (w : World) (h : KL .u32 w w.heap.size A xs) (h' : KL .u32 w w.heap.size B ys) (hd : Dig 4294967296 xs) (hd' : Dig 4294967296 ys) (hl : xs.length ≤ 1099511627776) (hl' : ys.length ≤ 1099511627776) :
    Calls Tryd.prog 16 #[.agg #[.int .u32 (p : Int), .slice A xs.length c], .agg #[.int .u32 (q : Int), .slice B ys.length d]] w fun e w' => e = .returned (.bool (eqP p q xs ys)) ∧ Below w.heap.size w w' := by
  by_cases hpq : p = q
  · subst hpq
    have hb1 : ((p : Int) == (p : Int)) = true := by simp
    have hb3 : ((p : Int) != (p : Int)) = false := by simp
    by_cases hne : xs.length = ys.length
    · have hb2 : ((xs.length : Int) != (ys.length : Int)) = false := by rw [bne_eq_false_iff_eq]; omega
      have hb4 : ((xs.length : Int) == (ys.length : Int)) = true := by rw [beq_iff_eq]; omega
      have HNE := Lib.hid hne
      have H := Lib.hid h; clear h
      have H' := Lib.hid h'; clear h'
      have HD := Lib.hid hd; clear hd
      have HD' := Lib.hid hd'; clear hd' hne
      have HB := Lib.hid (box2_start w p p (.slice A xs.length c) (.slice B ys.length d) 25 25)
      go_enter Tryd.func16, Tryd.ntmps16
      go_wp2
      go_loopw [5] (fun i wr => ∃ k : Nat, k ≤ xs.length ∧ i = .int .i64 k ∧ Hid (∀ j, j < k → xs.getD j 0 = ys.getD j 0) ∧ Box2 w p p (.slice A xs.length c) (.slice B ys.length d) wr) (fun i _ => xs.length - (intOf i).toNat)
      case atStart => exact ⟨0, Nat.zero_le _, rfl, Lib.hid (fun j hj => by omega), HB.out⟩
      case round =>
        clear HB
        obtain ⟨k, hk, rfl, HE, hB⟩ := hrel
        have HB := Lib.hid hB
        obtain ⟨⟨b0, b1⟩, ⟨b2, b3⟩, hs, hbw⟩ := hB
        by_cases hlt : k < xs.length
        · have hlt2 : k < ys.length := by have := HNE.out; omega
          obtain ⟨ad, rfl, _, hc⟩ := (H.out.below hbw) (by omega)
          obtain ⟨bd, rfl, _, hc'⟩ := (H'.out.below hbw) (by omega)
          have c1 := hc k hlt
          have c2 := hc' k hlt2
          have r1 := HD.out.at_ hlt
          have r2 := HD'.out.at_ hlt2
          obtain ⟨x, hx⟩ : ∃ x : Nat, xs.getD k 0 = x := ⟨(xs.getD k 0).toNat, by omega⟩
          obtain ⟨y, hy⟩ : ∃ y : Nat, ys.getD k 0 = y := ⟨(ys.getD k 0).toNat, by omega⟩
          rw [hx] at c1
          rw [hy] at c2
          have i1 : (k : Int) < (xs.length : Int) := by omega
          have i2 : (k : Int) < (ys.length : Int) := by omega
          have i3 : (0 : Int) ≤ (k : Int) := by omega
          by_cases hxy : x = y
          · subst hxy
            have HE2 : Hid (∀ j, j < k + 1 → xs.getD j 0 = ys.getD j 0) := Lib.hid (list_next HE.out (by rw [hx, hy]))
            clear hc hc' hx hy r1 r2 hbw
            go_wp2
            go_quiet (fail)
            go_wp2
            go_roundw
            case rel => exact ⟨k + 1, by omega, by go_num, HE2, HB.out.drewN _⟩
            case measure => simp [intOf]; omega
          · have hn : ((x : Int) == (y : Int)) = false := by rw [beq_eq_false_iff_ne]; omega
            have hn2 : ((x : Int) != (y : Int)) = true := by rw [bne_iff_ne]; omega
            have HN : Hid (false = eqP p p xs ys) := Lib.hid (by unfold eqP; symm; rw [decide_eq_false_iff_not]; intro ⟨_, e⟩; rw [e, hy] at hx; omega)
            clear hc hc' hx hy r1 r2 hbw
            go_wp2
            go_quiet (fail)
            go_wp2
            go_ret
            exact ⟨ret_bool HN.out, (HB.out.drewN _).2.2.2⟩
        · have HN : Hid (true = eqP p p xs ys) := Lib.hid (by rw [list_eq HNE.out (fun j hj => HE.out j (by omega)), eqP_self])
          have i1 : ¬ (k : Int) < (xs.length : Int) := by omega
          clear hbw
          go_wp2
          go_ret
          exact ⟨ret_bool HN.out, HB.out.2.2.2⟩
    · have hb2 : ((xs.length : Int) != (ys.length : Int)) = true := by rw [bne_iff_ne]; omega
      have hb4 : ((xs.length : Int) == (ys.length : Int)) = false := by rw [beq_eq_false_iff_ne]; omega
      have HN : Hid (false = eqP p p xs ys) := Lib.hid (by unfold eqP; symm; rw [decide_eq_false_iff_not]; intro ⟨_, e⟩; exact hne (by rw [e]))
      clear h h' hd hd' hne
      go_enter Tryd.func16, Tryd.ntmps16
      go_wp2
      go_ret
      exact ⟨ret_bool HN.out, by go_grown⟩
  · have hb1 : ((p : Int) == (q : Int)) = false := by rw [beq_eq_false_iff_ne]; omega
    have hb3 : ((p : Int) != (q : Int)) = true := by rw [bne_iff_ne]; omega
    have HN : Hid (false = eqP p q xs ys) := Lib.hid (by unfold eqP; symm; rw [decide_eq_false_iff_not]; intro ⟨e, _⟩; exact hpq e)
    clear h h' hd hd' hpq
    go_enter Tryd.func16, Tryd.ntmps16
    go_wp2
    go_ret
    exact ⟨ret_bool HN.out, by go_grown⟩
/-- The order of two polynomials of one length, from the top. -/
def cmpT (xs ys : List Int) : Nat → Int
  | 0 => 0
  | n + 1 => if xs.getD n 0 < ys.getD n 0 then -1 else if ys.getD n 0 < xs.getD n 0 then 1 else cmpT xs ys n
def cmpL (xs ys : List Int) : Int := if xs.length < ys.length then -1 else if ys.length < xs.length then 1 else cmpT xs ys xs.length
set_option maxHeartbeats 4000000 in
theorem cmp_any (p q : Nat) (A B : Option Addr) (xs ys : List Int) (c d : Nat) (w : World) (h : KL .u32 w w.heap.size A xs) (h' : KL .u32 w w.heap.size B ys) (hd : Dig 4294967296 xs) (hd' : Dig 4294967296 ys) (hl : xs.length ≤ 1099511627776) (hl' : ys.length ≤ 1099511627776) :
    Calls Tryd.prog 20 #[.agg #[.int .u32 (p : Int), .slice A xs.length c], .agg #[.int .u32 (q : Int), .slice B ys.length d]] w fun e w' => e = .returned (.int .i64 (cmpL xs ys)) ∧ Below w.heap.size w w' := by
  by_cases hne : xs.length = ys.length
  · have hb2 : ((xs.length : Int) != (ys.length : Int)) = false := by rw [bne_eq_false_iff_eq]; omega
    have hb4 : ((xs.length : Int) == (ys.length : Int)) = true := by rw [beq_iff_eq]; omega
    obtain ⟨z, hz⟩ : ∃ z, cmpL xs ys = z := ⟨_, rfl⟩
    have HZ : Hid (cmpT xs ys xs.length = z) := Lib.hid (by rw [← hz]; unfold cmpL; rw [if_neg (by omega), if_neg (by omega)])
    rw [hz]
    have HNE := Lib.hid hne
    have H := Lib.hid h; clear h
    have H' := Lib.hid h'; clear h'
    have HD := Lib.hid hd; clear hd
    have HD' := Lib.hid hd'; clear hd' hne hz
    have HB := Lib.hid (box2_start w p q (.slice A xs.length c) (.slice B ys.length d) 25 25)
    go_enter Tryd.func20, Tryd.ntmps20
    go_wp2
    go_loopw [5] (fun i wr => ∃ k : Nat, (k = 0 ∧ i = .int .i64 (-1) ∨ ∃ i' : Nat, k = i' + 1 ∧ i = .int .i64 i') ∧ k ≤ xs.length ∧ Hid (cmpT xs ys k = z) ∧ Box2 w p q (.slice A xs.length c) (.slice B ys.length d) wr) (fun i _ => ((intOf i) + 1).toNat)
    case atStart => exact ⟨xs.length, by
      by_cases h0 : xs.length = 0
      · exact .inl ⟨h0, by rw [h0]; rfl⟩
      · exact .inr ⟨xs.length - 1, by omega, by rw [show ((xs.length : Int) - 1) = ((xs.length - 1 : Nat) : Int) by omega]⟩, Nat.le_refl _, HZ, HB.out⟩
    case round =>
      clear HB HZ
      obtain ⟨k, hk, hkl, HZ, hB⟩ := hrel
      have HB := Lib.hid hB
      obtain ⟨⟨b0, b1⟩, ⟨b2, b3⟩, hs, hbw⟩ := hB
      rcases hk with ⟨rfl, rfl⟩ | ⟨i, rfl, rfl⟩
      · have HE : Hid (0 = z) := HZ
        clear HZ hbw
        go_wp2
        go_ret
        exact ⟨ret_int HE.out, HB.out.2.2.2⟩
      · have hlt2 : i < ys.length := by have := HNE.out; omega
        obtain ⟨ad, rfl, _, hc⟩ := (H.out.below hbw) (by omega)
        obtain ⟨bd, rfl, _, hc'⟩ := (H'.out.below hbw) (by omega)
        have c1 := hc i (by omega)
        have c2 := hc' i hlt2
        have r1 := HD.out.at_ (k := i) (by omega)
        have r2 := HD'.out.at_ hlt2
        obtain ⟨x, hx⟩ : ∃ x : Nat, xs.getD i 0 = x := ⟨(xs.getD i 0).toNat, by omega⟩
        obtain ⟨y, hy⟩ : ∃ y : Nat, ys.getD i 0 = y := ⟨(ys.getD i 0).toNat, by omega⟩
        rw [hx] at c1
        rw [hy] at c2
        have hzz : (if (x : Int) < (y : Int) then -1 else if (y : Int) < (x : Int) then 1 else cmpT xs ys i) = z := by
          have := HZ.out
          unfold cmpT at this
          rwa [hx, hy] at this
        have i1 : (i : Int) < (xs.length : Int) := by omega
        have i2 : (i : Int) < (ys.length : Int) := by omega
        have i3 : (0 : Int) ≤ (i : Int) := by omega
        clear hc hc' hx hy r1 r2 hbw HZ
        rcases Nat.lt_trichotomy x y with hxy | hxy | hxy
        · have HE : Hid (-1 = z) := Lib.hid (by rw [if_pos (by omega)] at hzz; exact hzz)
          have j1 : (x : Int) < (y : Int) := by omega
          have hn : ((x : Int) == (y : Int)) = false := by rw [beq_eq_false_iff_ne]; omega
          have hn2 : ((x : Int) != (y : Int)) = true := by rw [bne_iff_ne]; omega
          clear hzz
          go_wp2
          go_quiet (fail)
          go_wp2
          (try (go_quiet (fail); go_wp2))
          go_ret
          exact ⟨ret_int HE.out, by first | exact (HB.out.drewN _).2.2.2 | exact ((HB.out.drewN _).drewN _).2.2.2⟩
        · subst hxy
          have HE : Hid (cmpT xs ys i = z) := Lib.hid (by rw [if_neg (by omega), if_neg (by omega)] at hzz; exact hzz)
          have j1 : ¬ (x : Int) < (x : Int) := by omega
          have hn : ((x : Int) == (x : Int)) = true := by simp
          have hn2 : ((x : Int) != (x : Int)) = false := by simp
          clear hzz
          go_wp2
          go_quiet (fail)
          go_wp2
          (try (go_quiet (fail); go_wp2))
          go_roundw
          case rel => exact ⟨i, by
            rcases Nat.eq_zero_or_pos i with h0 | h0
            · exact .inl ⟨h0, by rw [h0]; rfl⟩
            · exact .inr ⟨i - 1, by omega, by rw [show ((i : Int) - 1) = ((i - 1 : Nat) : Int) by omega]⟩, by omega, HE, by first | exact HB.out.drewN _ | exact (HB.out.drewN _).drewN _⟩
          case measure => simp [intOf]
        · have HE : Hid (1 = z) := Lib.hid (by rw [if_neg (by omega), if_pos (by omega)] at hzz; exact hzz)
          have j1 : ¬ (x : Int) < (y : Int) := by omega
          have j2 : (y : Int) < (x : Int) := by omega
          have hn : ((x : Int) == (y : Int)) = false := by rw [beq_eq_false_iff_ne]; omega
          have hn2 : ((x : Int) != (y : Int)) = true := by rw [bne_iff_ne]; omega
          clear hzz
          go_wp2
          go_quiet (fail)
          go_wp2
          (try (go_quiet (fail); go_wp2))
          go_ret
          exact ⟨ret_int HE.out, by first | exact (HB.out.drewN _).2.2.2 | exact ((HB.out.drewN _).drewN _).2.2.2⟩
  · have hb2 : ((xs.length : Int) != (ys.length : Int)) = true := by rw [bne_iff_ne]; omega
    have hb4 : ((xs.length : Int) == (ys.length : Int)) = false := by rw [beq_eq_false_iff_ne]; omega
    by_cases hlt : xs.length < ys.length
    · have HE : Hid (-1 = cmpL xs ys) := Lib.hid (by unfold cmpL; rw [if_pos hlt])
      have j1 : (xs.length : Int) < (ys.length : Int) := by omega
      clear h h' hd hd' hne
      go_enter Tryd.func20, Tryd.ntmps20
      go_wp2
      go_ret
      exact ⟨ret_int HE.out, by go_grown⟩
    · have HE : Hid (1 = cmpL xs ys) := Lib.hid (by unfold cmpL; rw [if_neg hlt, if_pos (by omega)])
      have j1 : ¬ (xs.length : Int) < (ys.length : Int) := by omega
      clear h h' hd hd' hne
      go_enter Tryd.func20, Tryd.ntmps20
      go_wp2
      go_ret
      exact ⟨ret_int HE.out, by go_grown⟩
set_option maxHeartbeats 4000000 in
theorem rcmp_any (p q : Nat) (A B : Option Addr) (xs ys : List Int) (c d : Nat) (w : World) (h : KL .u32 w w.heap.size A xs) (h' : KL .u32 w w.heap.size B ys) (hd : Dig 4294967296 xs) (hd' : Dig 4294967296 ys) (hl : xs.length ≤ 1099511627776) (hl' : ys.length ≤ 1099511627776) :
    Calls Tryd.prog 21 #[.agg #[.int .u32 (p : Int), .slice A xs.length c], .agg #[.int .u32 (q : Int), .slice B ys.length d]] w fun e w' => e = .returned (.int .i64 (cmpL xs ys)) ∧ Below w.heap.size w w' := by
  by_cases hne : xs.length = ys.length
  · have hb2 : ((xs.length : Int) != (ys.length : Int)) = false := by rw [bne_eq_false_iff_eq]; omega
    have hb4 : ((xs.length : Int) == (ys.length : Int)) = true := by rw [beq_iff_eq]; omega
    obtain ⟨z, hz⟩ : ∃ z, cmpL xs ys = z := ⟨_, rfl⟩
    have HZ : Hid (cmpT xs ys xs.length = z) := Lib.hid (by rw [← hz]; unfold cmpL; rw [if_neg (by omega), if_neg (by omega)])
    rw [hz]
    have HNE := Lib.hid hne
    have H := Lib.hid h; clear h
    have H' := Lib.hid h'; clear h'
    have HD := Lib.hid hd; clear hd
    have HD' := Lib.hid hd'; clear hd' hne hz
    have HB := Lib.hid (box2_start w p q (.slice A xs.length c) (.slice B ys.length d) 25 25)
    go_enter Tryd.func21, Tryd.ntmps21
    go_wp2
    go_loopw [5] (fun i wr => ∃ k : Nat, (k = 0 ∧ i = .int .i64 (-1) ∨ ∃ i' : Nat, k = i' + 1 ∧ i = .int .i64 i') ∧ k ≤ xs.length ∧ Hid (cmpT xs ys k = z) ∧ Box2 w p q (.slice A xs.length c) (.slice B ys.length d) wr) (fun i _ => ((intOf i) + 1).toNat)
    case atStart => exact ⟨xs.length, by
      by_cases h0 : xs.length = 0
      · exact .inl ⟨h0, by rw [h0]; rfl⟩
      · exact .inr ⟨xs.length - 1, by omega, by rw [show ((xs.length : Int) - 1) = ((xs.length - 1 : Nat) : Int) by omega]⟩, Nat.le_refl _, HZ, HB.out⟩
    case round =>
      clear HB HZ
      obtain ⟨k, hk, hkl, HZ, hB⟩ := hrel
      have HB := Lib.hid hB
      obtain ⟨⟨b0, b1⟩, ⟨b2, b3⟩, hs, hbw⟩ := hB
      rcases hk with ⟨rfl, rfl⟩ | ⟨i, rfl, rfl⟩
      · have HE : Hid (0 = z) := HZ
        clear HZ hbw
        go_wp2
        go_ret
        exact ⟨ret_int HE.out, HB.out.2.2.2⟩
      · have hlt2 : i < ys.length := by have := HNE.out; omega
        obtain ⟨ad, rfl, _, hc⟩ := (H.out.below hbw) (by omega)
        obtain ⟨bd, rfl, _, hc'⟩ := (H'.out.below hbw) (by omega)
        have c1 := hc i (by omega)
        have c2 := hc' i hlt2
        have r1 := HD.out.at_ (k := i) (by omega)
        have r2 := HD'.out.at_ hlt2
        obtain ⟨x, hx⟩ : ∃ x : Nat, xs.getD i 0 = x := ⟨(xs.getD i 0).toNat, by omega⟩
        obtain ⟨y, hy⟩ : ∃ y : Nat, ys.getD i 0 = y := ⟨(ys.getD i 0).toNat, by omega⟩
        rw [hx] at c1
        rw [hy] at c2
        have hzz : (if (x : Int) < (y : Int) then -1 else if (y : Int) < (x : Int) then 1 else cmpT xs ys i) = z := by
          have := HZ.out
          unfold cmpT at this
          rwa [hx, hy] at this
        have i1 : (i : Int) < (xs.length : Int) := by omega
        have i2 : (i : Int) < (ys.length : Int) := by omega
        have i3 : (0 : Int) ≤ (i : Int) := by omega
        clear hc hc' hx hy r1 r2 hbw HZ
        rcases Nat.lt_trichotomy x y with hxy | hxy | hxy
        · have HE : Hid (-1 = z) := Lib.hid (by rw [if_pos (by omega)] at hzz; exact hzz)
          have j1 : (x : Int) < (y : Int) := by omega
          have hn : ((x : Int) == (y : Int)) = false := by rw [beq_eq_false_iff_ne]; omega
          have hn2 : ((x : Int) != (y : Int)) = true := by rw [bne_iff_ne]; omega
          clear hzz
          go_wp2
          go_quiet (fail)
          go_wp2
          (try (go_quiet (fail); go_wp2))
          go_ret
          exact ⟨ret_int HE.out, by first | exact (HB.out.drewN _).2.2.2 | exact ((HB.out.drewN _).drewN _).2.2.2⟩
        · subst hxy
          have HE : Hid (cmpT xs ys i = z) := Lib.hid (by rw [if_neg (by omega), if_neg (by omega)] at hzz; exact hzz)
          have j1 : ¬ (x : Int) < (x : Int) := by omega
          have hn : ((x : Int) == (x : Int)) = true := by simp
          have hn2 : ((x : Int) != (x : Int)) = false := by simp
          clear hzz
          go_wp2
          go_quiet (fail)
          go_wp2
          (try (go_quiet (fail); go_wp2))
          go_roundw
          case rel => exact ⟨i, by
            rcases Nat.eq_zero_or_pos i with h0 | h0
            · exact .inl ⟨h0, by rw [h0]; rfl⟩
            · exact .inr ⟨i - 1, by omega, by rw [show ((i : Int) - 1) = ((i - 1 : Nat) : Int) by omega]⟩, by omega, HE, by first | exact HB.out.drewN _ | exact (HB.out.drewN _).drewN _⟩
          case measure => simp [intOf]
        · have HE : Hid (1 = z) := Lib.hid (by rw [if_neg (by omega), if_pos (by omega)] at hzz; exact hzz)
          have j1 : ¬ (x : Int) < (y : Int) := by omega
          have j2 : (y : Int) < (x : Int) := by omega
          have hn : ((x : Int) == (y : Int)) = false := by rw [beq_eq_false_iff_ne]; omega
          have hn2 : ((x : Int) != (y : Int)) = true := by rw [bne_iff_ne]; omega
          clear hzz
          go_wp2
          go_quiet (fail)
          go_wp2
          (try (go_quiet (fail); go_wp2))
          go_ret
          exact ⟨ret_int HE.out, by first | exact (HB.out.drewN _).2.2.2 | exact ((HB.out.drewN _).drewN _).2.2.2⟩
  · have hb2 : ((xs.length : Int) != (ys.length : Int)) = true := by rw [bne_iff_ne]; omega
    have hb4 : ((xs.length : Int) == (ys.length : Int)) = false := by rw [beq_eq_false_iff_ne]; omega
    by_cases hlt : xs.length < ys.length
    · have HE : Hid (-1 = cmpL xs ys) := Lib.hid (by unfold cmpL; rw [if_pos hlt])
      have j1 : (xs.length : Int) < (ys.length : Int) := by omega
      clear h h' hd hd' hne
      go_enter Tryd.func21, Tryd.ntmps21
      go_wp2
      go_ret
      exact ⟨ret_int HE.out, by go_grown⟩
    · have HE : Hid (1 = cmpL xs ys) := Lib.hid (by unfold cmpL; rw [if_neg hlt, if_pos (by omega)])
      have j1 : ¬ (xs.length : Int) < (ys.length : Int) := by omega
      clear h h' hd hd' hne
      go_enter Tryd.func21, Tryd.ntmps21
      go_wp2
      go_ret
      exact ⟨ret_int HE.out, by go_grown⟩
end Go.Proofs.YtlndchmpnnlacaaDoor

namespace Go.Proofs.YtlndchmpnnlacaaDoor
open Go.RowKit

def MayP (p : Nat) (xs : List Int) : Prop := FieldP p ∧ Pol p xs
/-- Told whether a polynomial may be. -/
def ToldP (p : Nat) (xs : List Int) (w : World) (e : Ending) (w' : World) : Prop := (∃ b : Bool, e = .returned (.bool b) ∧ (b = true ↔ MayP p xs)) ∧ Below w.heap.size w w'
theorem dig_upto {p : Nat} {xs : List Int} (h : ∀ j, j < xs.length → 0 ≤ xs.getD j 0 ∧ xs.getD j 0 < (p : Int)) : Dig p xs := fun x hx => by
  obtain ⟨i, hi, rfl⟩ := List.getElem_of_mem hx
  have := h i hi
  simpa [List.getD_eq_getElem?_getD, hi] using this
theorem not_may_big {p : Nat} {xs : List Int} {k : Nat} (hk : k < xs.length) (h : (p : Int) ≤ xs.getD k 0) : ¬ MayP p xs := fun ⟨_, h2, _⟩ => by have := h2.at_ hk; omega
theorem not_may_last {p : Nat} {xs : List Int} {k : Nat} (hk : k + 1 = xs.length) (h : xs.getD k 0 = 0) : ¬ MayP p xs := fun ⟨_, _, h3⟩ => h3 k hk h
theorem may_of {p : Nat} {xs : List Int} (hf : FieldP p) (h : ∀ j, j < xs.length → 0 ≤ xs.getD j 0 ∧ xs.getD j 0 < (p : Int)) (hl : ∀ k, k + 1 = xs.length → xs.getD k 0 ≠ 0) : MayP p xs := ⟨hf, dig_upto h, hl⟩
theorem told_yes {p : Nat} {xs : List Int} {w W : World} (h : MayP p xs) (hb : Below w.heap.size w W) : ToldP p xs w (.returned (.bool true)) W := ⟨⟨true, rfl, fun _ => h, fun _ => rfl⟩, hb⟩
theorem told_no {p : Nat} {xs : List Int} {w W : World} (h : ¬ MayP p xs) (hb : Below w.heap.size w W) : ToldP p xs w (.returned (.bool false)) W := ⟨⟨false, rfl, fun h1 => (by cases h1), fun h1 => absurd h1 h⟩, hb⟩
set_option maxHeartbeats 4000000 in
theorem right_any (p : Nat) (A : Option Addr) (xs : List Int) (c : Nat) (w : World) (hg : TabG w) (h : KL .u32 w w.heap.size A xs) (hp : p ≤ 4294967295) (hd : Dig 4294967296 xs) (hl : xs.length ≤ 1099511627776) :
    Calls Tryd.prog 13 #[.agg #[.int .u32 (p : Int), .slice A xs.length c]] w fun e w' => ToldP p xs w e w' := by
  have HB := Lib.hid (box1_start w p (.slice A xs.length c) 25)
  have HB0 := Lib.hid HB.out.2.2
  have HF : ∃ k : Int, (∀ W : World, Below w.heap.size w W → Calls Tryd.prog 55 #[.int .u32 (p : Int)] W fun e w' => e = .returned (.int .i64 k) ∧ Below W.heap.size W w') ∧ ((k = 0 ∧ FieldP p) ∨ (k = 6 ∧ ¬ FieldP p)) := by
    by_cases hf : FieldP p
    · exact ⟨0, fun W hW => (mfield_any p W (hg.up hW) hp).mono fun e w' ⟨⟨k, h1, h2⟩, h3⟩ => ⟨by rcases h2 with ⟨rfl, _⟩ | ⟨_, h4⟩; exact h1; exact absurd hf h4, h3⟩, .inl ⟨rfl, hf⟩⟩
    · exact ⟨6, fun W hW => (mfield_any p W (hg.up hW) hp).mono fun e w' ⟨⟨k, h1, h2⟩, h3⟩ => ⟨by rcases h2 with ⟨_, h4⟩ | ⟨rfl, _⟩; exact absurd h4 hf; exact h1, h3⟩, .inr ⟨rfl, hf⟩⟩
  obtain ⟨kf, hkf, hcase⟩ := HF
  have HF := Lib.hid hkf
  clear hkf
  have H := Lib.hid h; clear h
  have HD := Lib.hid hd; clear hd hg
  rcases hcase with ⟨rfl, hk⟩ | ⟨rfl, hk⟩
  · have HK := Lib.hid hk
    clear hk
    go_enter Tryd.func13, Tryd.ntmps13
    go_wp2_with (go_at_call 55; (with_reducible refine (HF.out _ HB0.out).mono ?_); rintro e w1 ⟨rfl, hb1⟩; have HB1 := Lib.hid (HB.out.up (hb1.mono (by simp))); obtain ⟨⟨b0, b1⟩, hs, hbw⟩ := HB1.out; clear hbw hb1)
    go_loop [12] (fun i => ∃ k : Nat, k ≤ xs.length ∧ i = .int .i64 k ∧ Hid (∀ j, j < k → 0 ≤ xs.getD j 0 ∧ xs.getD j 0 < (p : Int))) (fun i => xs.length - (intOf i).toNat)
    case atStart => exact ⟨0, Nat.zero_le _, rfl, Lib.hid (fun j hj => by omega)⟩
    case round =>
      obtain ⟨k, hk, rfl, HE⟩ := hrel
      by_cases hlt : k < xs.length
      · obtain ⟨ad, rfl, _, hc⟩ := (H.out.below HB1.out.2.2) (by omega)
        have c1 := hc k hlt
        have r1 := HD.out.at_ hlt
        obtain ⟨x, hx⟩ : ∃ x : Nat, xs.getD k 0 = x := ⟨(xs.getD k 0).toNat, by omega⟩
        rw [hx] at c1
        have i1 : (k : Int) < (xs.length : Int) := by omega
        by_cases hxp : x < p
        · have HE2 : Hid (∀ j, j < k + 1 → 0 ≤ xs.getD j 0 ∧ xs.getD j 0 < (p : Int)) := Lib.hid fun j hj => by
            rcases Nat.lt_or_ge j k with h1 | h1
            · exact HE.out j h1
            · rw [show j = k by omega, hx]; omega
          have i2 : ¬ (p : Int) ≤ (x : Int) := by omega
          clear hc hx r1
          go_wp2
          go_round
          case rel => exact ⟨k + 1, by omega, by go_num, HE2⟩
          case measure => simp [intOf]; omega
        · have HN := Lib.hid (not_may_big (p := p) hlt (by rw [hx]; omega))
          have i2 : (p : Int) ≤ (x : Int) := by omega
          clear hc hx r1
          go_wp2
          go_ret
          exact told_no HN.out HB1.out.2.2
      · have i1 : ¬ (k : Int) < (xs.length : Int) := by omega
        obtain rfl : k = xs.length := by omega
        by_cases h0 : xs.length = 0
        · have j1 : ((xs.length : Int) == 0) = true := by rw [beq_iff_eq]; omega
          have HN : Hid (MayP p xs) := Lib.hid (may_of HK.out (fun j hj => by omega) (fun k hk => by omega))
          go_wp2
          go_ret
          exact told_yes HN.out HB1.out.2.2
        · have j1 : ((xs.length : Int) == 0) = false := by rw [beq_eq_false_iff_ne]; omega
          obtain ⟨m, hm⟩ : ∃ m, m + 1 = xs.length := ⟨xs.length - 1, by omega⟩
          have j2 : (xs.length : Int) - 1 = (m : Int) := by omega
          obtain ⟨ad, rfl, _, hc⟩ := (H.out.below HB1.out.2.2) (by omega)
          have c1 := hc m (by omega)
          have r1 := HD.out.at_ (k := m) (by omega)
          obtain ⟨x, hx⟩ : ∃ x : Nat, xs.getD m 0 = x := ⟨(xs.getD m 0).toNat, by omega⟩
          rw [hx] at c1
          have j3 : (m : Int) < (xs.length : Int) := by omega
          by_cases hx0 : x = 0
          · have HN := Lib.hid (not_may_last (p := p) hm (by rw [hx, hx0]; rfl))
            have j4 : ((x : Int) != 0) = false := by rw [bne_eq_false_iff_eq]; omega
            have j5 : ((x : Int) == 0) = true := by rw [beq_iff_eq]; omega
            clear hc hx r1 hm hx0
            go_wp2
            go_ret
            exact told_no HN.out HB1.out.2.2
          · have HN : Hid (MayP p xs) := Lib.hid (may_of HK.out (fun j hj => HE.out j hj) (fun k hk => by rw [show k = m by omega, hx]; omega))
            have j4 : ((x : Int) != 0) = true := by rw [bne_iff_ne]; omega
            have j5 : ((x : Int) == 0) = false := by rw [beq_eq_false_iff_ne]; omega
            clear hc hx r1 hm
            go_wp2
            go_ret
            exact told_yes HN.out HB1.out.2.2
  · have HN : Hid (¬ MayP p xs) := Lib.hid fun h => hk h.1
    clear hk
    go_enter Tryd.func13, Tryd.ntmps13
    go_wp2_with (go_at_call 55; (with_reducible refine (HF.out _ HB0.out).mono ?_); rintro e w1 ⟨rfl, hb1⟩; have HB1 := Lib.hid (HB.out.up (hb1.mono (by simp))); clear hb1)
    go_ret
    exact told_no HN.out HB1.out.2.2
set_option maxHeartbeats 4000000 in
theorem rright_any (p : Nat) (A : Option Addr) (xs : List Int) (c : Nat) (w : World) (h : KL .u32 w w.heap.size A xs) (hp : p ≤ 4294967295) (hd : Dig 4294967296 xs) (hl : xs.length ≤ 1099511627776) :
    Calls Tryd.prog 14 #[.agg #[.int .u32 (p : Int), .slice A xs.length c]] w fun e w' => ToldP p xs w e w' := by
  have HB := Lib.hid (box1_start w p (.slice A xs.length c) 25)
  have HB0 := Lib.hid HB.out.2.2
  have HF : ∃ k : Int, (∀ W : World, Calls Tryd.prog 36 #[.int .u32 (p : Int)] W fun e w' => e = .returned (.int .i64 k) ∧ W = w') ∧ ((k = 0 ∧ FieldP p) ∨ (k = 6 ∧ ¬ FieldP p)) := by
    by_cases hf : FieldP p
    · exact ⟨0, fun W => (rfield_any p W hp).mono fun e w' ⟨⟨k, h1, h2⟩, h3⟩ => ⟨by rcases h2 with ⟨rfl, _⟩ | ⟨_, h4⟩; exact h1; exact absurd hf h4, h3⟩, .inl ⟨rfl, hf⟩⟩
    · exact ⟨6, fun W => (rfield_any p W hp).mono fun e w' ⟨⟨k, h1, h2⟩, h3⟩ => ⟨by rcases h2 with ⟨_, h4⟩ | ⟨rfl, _⟩; exact absurd h4 hf; exact h1, h3⟩, .inr ⟨rfl, hf⟩⟩
  obtain ⟨kf, hkf, hcase⟩ := HF
  have HF := Lib.hid hkf
  have HCASE := Lib.hid hcase
  clear hkf hcase
  have H := Lib.hid h; clear h
  have HD := Lib.hid hd; clear hd
  go_enter Tryd.func14, Tryd.ntmps14
  go_wp2
  go_loopw [3] (fun i wr => ∃ k : Nat, k ≤ xs.length ∧ i = .int .i64 k ∧ Hid (∀ j, j < k → 0 ≤ xs.getD j 0 ∧ xs.getD j 0 < (p : Int)) ∧ Box1 w p (.slice A xs.length c) wr) (fun i _ => xs.length - (intOf i).toNat)
  case atStart => exact ⟨0, Nat.zero_le _, rfl, Lib.hid (fun j hj => by omega), HB.out⟩
  case round =>
    clear HB
    obtain ⟨k, hk, rfl, HE, hB⟩ := hrel
    have HB := Lib.hid hB
    obtain ⟨⟨b0, b1⟩, hs, hbw⟩ := hB
    by_cases hlt : k < xs.length
    · obtain ⟨ad, rfl, _, hc⟩ := (H.out.below hbw) (by omega)
      have c1 := hc k hlt
      have r1 := HD.out.at_ hlt
      obtain ⟨x, hx⟩ : ∃ x : Nat, xs.getD k 0 = x := ⟨(xs.getD k 0).toNat, by omega⟩
      rw [hx] at c1
      have i1 : (k : Int) < (xs.length : Int) := by omega
      have i3 : (0 : Int) ≤ (k : Int) := by omega
      by_cases hxp : x < p
      · have HE2 : Hid (∀ j, j < k + 1 → 0 ≤ xs.getD j 0 ∧ xs.getD j 0 < (p : Int)) := Lib.hid fun j hj => by
          rcases Nat.lt_or_ge j k with h1 | h1
          · exact HE.out j h1
          · rw [show j = k by omega, hx]; omega
        have i2 : ¬ (p : Int) ≤ (x : Int) := by omega
        clear hc hx r1 hbw
        go_wp2
        go_quiet (fail)
        go_wp2
        go_roundw
        case rel => exact ⟨k + 1, by omega, by go_num, HE2, HB.out.drewN _⟩
        case measure => simp [intOf]; omega
      · have HN := Lib.hid (not_may_big (p := p) hlt (by rw [hx]; omega))
        have i2 : (p : Int) ≤ (x : Int) := by omega
        clear hc hx r1 hbw
        go_wp2
        go_quiet (fail)
        go_wp2
        go_ret
        exact told_no HN.out (HB.out.drewN _).2.2
    · have i1 : ¬ (k : Int) < (xs.length : Int) := by omega
      obtain rfl : k = xs.length := by omega
      by_cases h0 : xs.length = 0
      · have j1 : ((xs.length : Int) == 0) = true := by rw [beq_iff_eq]; omega
        clear hbw
        rcases HCASE.out with ⟨rfl, hk⟩ | ⟨rfl, hk⟩
        · have HK := Lib.hid hk
          clear hk
          go_wp2_with (go_at_call 36; (with_reducible refine (HF.out _).mono ?_); rintro e w1 ⟨rfl, rfl⟩)
          go_ret
          exact told_yes (may_of HK.out (fun j hj => by omega) (fun k hk => by omega)) HB.out.2.2
        · have HK := Lib.hid hk
          clear hk
          go_wp2_with (go_at_call 36; (with_reducible refine (HF.out _).mono ?_); rintro e w1 ⟨rfl, rfl⟩)
          go_ret
          exact told_no (fun h => HK.out h.1) HB.out.2.2
      · have j1 : ((xs.length : Int) == 0) = false := by rw [beq_eq_false_iff_ne]; omega
        obtain ⟨m, hm⟩ : ∃ m, m + 1 = xs.length := ⟨xs.length - 1, by omega⟩
        have j2 : (xs.length : Int) - 1 = (m : Int) := by omega
        obtain ⟨ad, rfl, _, hc⟩ := (H.out.below hbw) (by omega)
        have c1 := hc m (by omega)
        have r1 := HD.out.at_ (k := m) (by omega)
        obtain ⟨x, hx⟩ : ∃ x : Nat, xs.getD m 0 = x := ⟨(xs.getD m 0).toNat, by omega⟩
        rw [hx] at c1
        have j3 : (m : Int) < (xs.length : Int) := by omega
        by_cases hx0 : x = 0
        · have HN := Lib.hid (not_may_last (p := p) hm (by rw [hx, hx0]; rfl))
          have j4 : ((x : Int) != 0) = false := by rw [bne_eq_false_iff_eq]; omega
          have j5 : ((x : Int) == 0) = true := by rw [beq_iff_eq]; omega
          clear hc hx r1 hm hx0 hbw
          go_wp2
          go_ret
          exact told_no HN.out HB.out.2.2
        · have HX : Hid (xs.getD m 0 = (x : Int)) := Lib.hid hx
          have HM := Lib.hid hm
          have j4 : ((x : Int) != 0) = true := by rw [bne_iff_ne]; omega
          have j5 : ((x : Int) == 0) = false := by rw [beq_eq_false_iff_ne]; omega
          clear hc hx r1 hm hbw
          rcases HCASE.out with ⟨rfl, hk⟩ | ⟨rfl, hk⟩
          · have HK := Lib.hid hk
            clear hk
            go_wp2_with (go_at_call 36; (with_reducible refine (HF.out _).mono ?_); rintro e w1 ⟨rfl, rfl⟩)
            go_ret
            exact told_yes (may_of HK.out (fun j hj => HE.out j hj) (fun k hk => by rw [show k = m by have := HM.out; omega, HX.out]; omega)) HB.out.2.2
          · have HK := Lib.hid hk
            clear hk
            go_wp2_with (go_at_call 36; (with_reducible refine (HF.out _).mono ?_); rintro e w1 ⟨rfl, rfl⟩)
            go_ret
            exact told_no (fun h => HK.out h.1) HB.out.2.2
/-- Of a degree up to most. -/
def ToldF (p : Nat) (xs : List Int) (most : Nat) (w : World) (e : Ending) (w' : World) : Prop := (∃ b : Bool, e = .returned (.bool b) ∧ (b = true ↔ xs.length ≤ most + 1 ∧ MayP p xs)) ∧ Below w.heap.size w w'
set_option maxHeartbeats 1000000 in
theorem fair_any (p most : Nat) (A : Option Addr) (xs : List Int) (c : Nat) (w : World) (h : KL .u32 w w.heap.size A xs) (hp : p ≤ 4294967295) (hd : Dig 4294967296 xs) (hl : xs.length ≤ 1099511627776) (hm : most ≤ 1000) :
    Calls Tryd.prog 40 #[.agg #[.int .u32 (p : Int), .slice A xs.length c], .int .i64 (most : Int)] w fun e w' => ToldF p xs most w e w' := by
  have HB := Lib.hid (box1_start w p (.slice A xs.length c) 25)
  have HB0 := Lib.hid HB.out.2.2
  have HR : Hid (∀ W : World, Below w.heap.size w W → Calls Tryd.prog 14 #[.agg #[.int .u32 (p : Int), .slice A xs.length c]] W fun e w' => ToldP p xs W e w') := Lib.hid fun W hW => rright_any p A xs c W ((h.below hW).more hW.size) hp hd hl
  clear h hd
  by_cases hle : xs.length ≤ most + 1
  · have i1 : (xs.length : Int) ≤ (most : Int) + 1 := by omega
    have hd1 : decide ((xs.length : Int) ≤ (most : Int) + 1) = true := by simpa using i1
    go_enter Tryd.func40, Tryd.ntmps40
    go_wp2_with (go_at_call 14; (with_reducible refine (HR.out _ HB0.out).mono ?_); rintro e w1 ⟨⟨b, rfl, hb⟩, hb1⟩; have HBB := Lib.hid hb; have HB1 := Lib.hid (HB.out.up (hb1.mono (by simp))); clear hb hb1)
    go_ret
    exact ⟨⟨b, ret_bool (by simp), fun h => ⟨hle, HBB.out.1 h⟩, fun h => HBB.out.2 h.2⟩, HB1.out.2.2⟩
  · have i1 : ¬ (xs.length : Int) ≤ (most : Int) + 1 := by omega
    have hd1 : decide ((xs.length : Int) ≤ (most : Int) + 1) = false := by simpa using i1
    go_enter Tryd.func40, Tryd.ntmps40
    go_wp2
    go_ret
    exact ⟨⟨false, ret_bool (by first | rfl | simp), fun h => (by cases h), fun h => absurd h.1 hle⟩, HB.out.2.2⟩
def ToldQ (p q : Nat) (xs ys : List Int) (most : Nat) (w : World) (e : Ending) (w' : World) : Prop := (∃ b : Bool, e = .returned (.bool b) ∧ (b = true ↔ p = q ∧ (xs.length ≤ most + 1 ∧ MayP p xs) ∧ (ys.length ≤ most + 1 ∧ MayP q ys))) ∧ Below w.heap.size w w'
set_option maxHeartbeats 2000000 in
theorem pair_any (p q most : Nat) (A B : Option Addr) (xs ys : List Int) (c d : Nat) (w : World) (h : KL .u32 w w.heap.size A xs) (h' : KL .u32 w w.heap.size B ys) (hp : p ≤ 4294967295) (hq : q ≤ 4294967295) (hd : Dig 4294967296 xs) (hd' : Dig 4294967296 ys) (hl : xs.length ≤ 1099511627776) (hl' : ys.length ≤ 1099511627776) (hm : most ≤ 1000) :
    Calls Tryd.prog 17 #[.agg #[.int .u32 (p : Int), .slice A xs.length c], .agg #[.int .u32 (q : Int), .slice B ys.length d], .int .i64 (most : Int)] w fun e w' => ToldQ p q xs ys most w e w' := by
  have HB := Lib.hid (box2_start w p q (.slice A xs.length c) (.slice B ys.length d) 25 25)
  have HB0 := Lib.hid HB.out.2.2.2
  have HR : Hid (∀ W : World, Below w.heap.size w W → Calls Tryd.prog 40 #[.agg #[.int .u32 (p : Int), .slice A xs.length c], .int .i64 (most : Int)] W fun e w' => ToldF p xs most W e w') := Lib.hid fun W hW => fair_any p most A xs c W ((h.below hW).more hW.size) hp hd hl hm
  have HR' : Hid (∀ W : World, Below w.heap.size w W → Calls Tryd.prog 40 #[.agg #[.int .u32 (q : Int), .slice B ys.length d], .int .i64 (most : Int)] W fun e w' => ToldF q ys most W e w') := Lib.hid fun W hW => fair_any q most B ys d W ((h'.below hW).more hW.size) hq hd' hl' hm
  clear h h' hd hd'
  by_cases hpq : p = q
  · have HPQ := Lib.hid hpq
    have i1 : ((p : Int) == (q : Int)) = true := by rw [beq_iff_eq]; omega
    clear hpq
    by_cases hm1 : xs.length ≤ most + 1 ∧ MayP p xs
    · have HN := Lib.hid hm1
      have HR2 : Hid (∀ W : World, Below w.heap.size w W → Calls Tryd.prog 40 #[.agg #[.int .u32 (p : Int), .slice A xs.length c], .int .i64 (most : Int)] W fun e w' => e = .returned (.bool true) ∧ Below W.heap.size W w') := Lib.hid fun W hW => (HR.out W hW).mono fun e w' ⟨⟨b, h1, h2⟩, h3⟩ => ⟨by rw [h1, h2.2 hm1], h3⟩
      clear hm1
      go_enter Tryd.func17, Tryd.ntmps17
      go_wp2_with (first
        | (go_at_call 40; (with_reducible refine (HR2.out _ HB0.out).mono ?_); rintro e w1 ⟨rfl, hb1⟩; have HB1 := Lib.hid (HB.out.up (hb1.mono (by simp))); obtain ⟨⟨b0, b1⟩, ⟨b2, b3⟩, hs, hbw⟩ := HB1.out; have HB10 := Lib.hid hbw; clear hb1 hbw)
        | (go_at_call 40; (with_reducible refine (HR'.out _ HB10.out).mono ?_); rintro e w2 ⟨⟨b, rfl, hb⟩, hb2⟩; have HBB := Lib.hid hb; have HB2 := Lib.hid (HB1.out.up (hb2.mono hs)); clear hb hb2))
      go_ret
      exact ⟨⟨b, ret_bool (by simp), fun h => ⟨HPQ.out, HN.out, HBB.out.1 h⟩, fun h => HBB.out.2 h.2.2⟩, HB2.out.2.2.2⟩
    · have HN := Lib.hid hm1
      have HR2 : Hid (∀ W : World, Below w.heap.size w W → Calls Tryd.prog 40 #[.agg #[.int .u32 (p : Int), .slice A xs.length c], .int .i64 (most : Int)] W fun e w' => e = .returned (.bool false) ∧ Below W.heap.size W w') := Lib.hid fun W hW => (HR.out W hW).mono fun e w' ⟨⟨b, h1, h2⟩, h3⟩ => ⟨by
        cases b with
        | false => exact h1
        | true => exact absurd (h2.1 rfl) hm1, h3⟩
      clear hm1
      go_enter Tryd.func17, Tryd.ntmps17
      go_wp2_with (go_at_call 40; (with_reducible refine (HR2.out _ HB0.out).mono ?_); rintro e w1 ⟨rfl, hb1⟩; have HB1 := Lib.hid (HB.out.up (hb1.mono (by simp))); obtain ⟨⟨b0, b1⟩, ⟨b2, b3⟩, hs, hbw⟩ := HB1.out; clear hb1 hbw)
      go_ret
      exact ⟨⟨false, ret_bool (by first | rfl | simp), fun h => (by cases h), fun h => absurd h.2.1 HN.out⟩, HB1.out.2.2.2⟩
  · have i1 : ((p : Int) == (q : Int)) = false := by rw [beq_eq_false_iff_ne]; omega
    have HPQ := Lib.hid hpq
    clear hpq
    go_enter Tryd.func17, Tryd.ntmps17
    go_wp2
    go_ret
    exact ⟨⟨false, ret_bool (by first | rfl | simp), fun h => (by cases h), fun h => absurd h.1 HPQ.out⟩, HB.out.2.2.2⟩
end Go.Proofs.YtlndchmpnnlacaaDoor

namespace Go.Proofs.YtlndchmpnnlacaaDoor
open Go.RowKit

/-- A slice that reads as numbers, in memory apart from the blocks bs. -/
def KO (k : IntKind) (w : World) (bs : List Nat) (A : Option Addr) (xs : List Int) : Prop :=
  0 < xs.length → ∃ ad, A = some ad ∧ ad.block < w.heap.size ∧ (∀ b ∈ bs, ad.block ≠ b) ∧ ∀ j, j < xs.length → w.cell? (ad.add j) = some (.int k (xs.getD j 0))
section
variable {k : IntKind} {w w' : World} {bs : List Nat} {A : Option Addr} {xs : List Int}
theorem KO.kl (h : KO k w bs A xs) : KL k w w.heap.size A xs := fun hn => by
  obtain ⟨ad, e, h1, _, h3⟩ := h hn
  exact ⟨ad, e, h1, h3⟩
theorem KO.below (h : KO k w bs A xs) (hb : Below w.heap.size w w') : KO k w' bs A xs := fun hn => by
  obtain ⟨ad, e, h1, h2, h3⟩ := h hn
  exact ⟨ad, e, Nat.lt_of_lt_of_le h1 hb.size, h2, fun j hj => (hb.cell (by rw [block_of_add]; exact h1)).trans (h3 j hj)⟩
theorem KO.setCell {p : Addr} {v : Value} (h : KO k w bs A xs) (hp : p.block ∈ bs) : KO k (w.setCell p v) bs A xs := fun hn => by
  obtain ⟨ad, e, h1, h2, h3⟩ := h hn
  exact ⟨ad, e, by simpa [World.setCell] using h1, h2, fun j hj => (World.cell?_setCell_other _ _ _ _ (ne_of_block (by rw [block_of_add]; exact (h2 _ hp).symm))).trans (h3 j hj)⟩
theorem KO.of_kf {base : Nat} (h : KF k w base w.heap.size A xs) (hb : ∀ b ∈ bs, b < base) : KO k w bs A xs := fun hn => by
  obtain ⟨ad, e, h1, h2, h3⟩ := h hn
  exact ⟨ad, e, h2, fun b hb' => by have := hb b hb'; omega, h3⟩
theorem KO.of_kl {B : Nat} (h : KL k w B A xs) (hB : B ≤ w.heap.size) (hb : ∀ b ∈ bs, B ≤ b) : KO k w bs A xs := fun hn => by
  obtain ⟨ad, e, h2, h3⟩ := h hn
  exact ⟨ad, e, by omega, fun b hb' => by have := hb b hb'; omega, h3⟩
theorem KO.more {cs : List Nat} (h : KO k w bs A xs) (hc : ∀ b ∈ cs, b ∈ bs ∨ w.heap.size ≤ b) : KO k w cs A xs := fun hn => by
  obtain ⟨ad, e, h1, h2, h3⟩ := h hn
  exact ⟨ad, e, h1, fun b hb' => by
    rcases hc b hb' with h4 | h4
    · exact h2 b h4
    · omega, h3⟩
theorem KO.drewN (h : KO k w bs A xs) (n : Nat) : KO k (w.drewN n) bs A xs := h
end
/-- Old cells behind two new blocks. -/
theorem two_new {w : World} {p : Addr} {v : Value} (h : w.cell? p = some v) (hf : w.frozen? p = false) (hp : p.block < w.heap.size) : (∀ a b : Obj, ((w.alloc a).alloc b).cell? p = some v) ∧ ∀ a b : Obj, ((w.alloc a).alloc b).frozen? p = false :=
  ⟨fun a b => (((((Below.refl w.heap.size w).alloc (Nat.le_refl _) a).alloc (by simp) b)).cell hp).trans h, fun a b => (((((Below.refl w.heap.size w).alloc (Nat.le_refl _) a).alloc (by simp) b)).frozen hp).trans hf⟩
theorem trim_one {p c : Nat} (hc : c < p) : trimZ [(c : Int)] = conP p (c : Int) := trimZ_cano (n := 1) rfl fun i hi => by
  obtain rfl : i = 0 := by omega
  show (c : Int) = mono1 0 (c : Int) 0 % (p : Int)
  unfold mono1
  rw [if_pos rfl, Int.emod_eq_of_lt (by omega) (by omega)]
set_option maxHeartbeats 1000000 in
theorem constant_any (p c : Nat) (w : World) (hp : p ≤ 2147483647) (hc : c < p) :
    Calls Tryd.prog 75 #[.int .u32 (p : Int), .int .u32 (c : Int)] w fun e w' => MadeP p (conP p c) w e w' := by
  have HT : Hid (∀ W : World, W.cell? ⟨w.heap.size + 1, 0, none⟩ = some (.int .u32 (c : Int)) → w.heap.size + 1 < W.heap.size → Calls Tryd.prog 63 #[.int .u32 (p : Int), .slice (some ⟨w.heap.size + 1, 0, none⟩) 1 1] W fun e w' => e = .returned (.agg #[.int .u32 (p : Int), .slice (some ⟨w.heap.size + 1, 0, none⟩) (conP p c).length (conP p c).length]) ∧ Below W.heap.size W w') := Lib.hid fun W hW hs => by
    have h := trim_any p (some ⟨w.heap.size + 1, 0, none⟩) [(c : Int)] 1 W (fun _ => ⟨_, rfl, hs, fun j hj => by
      obtain rfl : j = 0 := by simpa using hj
      simpa [Addr.add] using hW⟩) (fun x hx => by simp at hx; subst hx; omega) (by simp) (by omega)
    rw [trim_one hc] at h
    exact h
  have HLN : Hid ((conP p c).length ≤ 1) := Lib.hid (cano_len _ _ _)
  have HCO : Hid ((conP p c).length = 1 → co (conP p c) 0 = (c : Int)) := Lib.hid fun _ => by
    show co (cano p 1 _) 0 = _
    rw [co_cano, if_pos (by omega)]
    unfold mono1
    rw [if_pos rfl, Int.emod_eq_of_lt (by omega) (by omega)]
  go_enter Tryd.func75, Tryd.ntmps75
  go_wp2_with (go_at_call 63; (with_reducible refine (HT.out _ (by go_cell) (by simp)).mono ?_); rintro e w1 ⟨rfl, hb⟩; have c0 := (hb.cell (p := ⟨w.heap.size, 0, none⟩) (by (simp only [World.size_alloc]; omega))).trans (show _ = some (Value.int .u32 0) by go_cell); have c1 := (hb.cell (p := ⟨w.heap.size, 1, none⟩) (by (simp only [World.size_alloc]; omega))).trans (show _ = some (Value.slice none 0 0) by go_cell); have f0 := (hb.frozen (p := ⟨w.heap.size, 0, none⟩) (by (simp only [World.size_alloc]; omega))).trans (show _ = false by go_cell); have f1 := (hb.frozen (p := ⟨w.heap.size, 1, none⟩) (by (simp only [World.size_alloc]; omega))).trans (show _ = false by go_cell); have d0 := (hb.cell (p := ⟨w.heap.size + 1, 0, none⟩) (by (simp only [World.size_alloc]; omega))).trans (show _ = some (Value.int .u32 (c : Int)) by go_cell); have hsz : w.heap.size + 1 + 1 ≤ w1.heap.size := (by (have := hb.size; simp only [World.size_alloc] at this; omega)); have HBL : Hid (Below w.heap.size w w1) := Lib.hid ((((Below.refl _ _).alloc (Nat.le_refl _) _).alloc (by simp) _).trans (hb.mono (by (simp only [World.size_alloc]; omega)))); clear hb)
  obtain ⟨q0, q1⟩ := cells_two (u := .int .u32 (p : Int)) (v := .slice (some ⟨w.heap.size + 1, 0, none⟩) (conP p c).length (conP p c).length) c0 c1
  refine bodyPost_ret (v := .agg #[.int .u32 (p : Int), .slice (some ⟨w.heap.size + 1, 0, none⟩) (conP p c).length (conP p c).length]) (by simp [results, Tryd.results75, go_sem, q0, q1]) rfl ?_
  refine madeP_end (base := w.heap.size + 1) HBL.out (Nat.le_refl _) (fun hn => ⟨_, rfl, Nat.le_refl _, (show w.heap.size + 1 < w1.heap.size by omega), fun j hj => ?_⟩) (by omega) (Nat.le_refl _)
  have hl := HLN.out
  obtain rfl : j = 0 := by omega
  have hco := HCO.out (by omega)
  unfold co at hco
  rw [hco]
  simpa [Addr.add] using d0
set_option maxHeartbeats 2000000 in
theorem rest_any (p : Nat) (A B : Option Addr) (xs ys : List Int) (c d : Nat) (w : World) (h : KL .u32 w w.heap.size A xs) (h' : KL .u32 w w.heap.size B ys) (hp : p ≤ 2147483647) (hpr : PrimeN p)
    (hx : Pol p xs) (hy : Pol p ys) (ny : ys ≠ []) (hxl : xs.length ≤ 549755813888) (hyl : ys.length ≤ 549755813888) :
    Calls Tryd.prog 80 #[.agg #[.int .u32 (p : Int), .slice A xs.length c], .agg #[.int .u32 (p : Int), .slice B ys.length d]] w fun e w' => MadeP p (modP p xs ys) w e w' := by
  have HL := Lib.hid (laid2_start w p p (.slice A xs.length c) (.slice B ys.length d) (.int .u32 0) (.slice none 0 0) 25 25 25)
  have HD : Hid (∀ W : World, Laid2 w p p (.slice A xs.length c) (.slice B ys.length d) W → Calls Tryd.prog 46 #[.agg #[.int .u32 (p : Int), .slice A xs.length c], .agg #[.int .u32 (p : Int), .slice B ys.length d]] W fun e w' => MadeD p (divP p xs ys) (modP p xs ys) W e w') := Lib.hid fun W hW =>
    divmod_yes p A B xs ys c d W ((h.below hW.2.2.2.2.2).more hW.2.2.2.2.2.size) ((h'.below hW.2.2.2.2.2).more hW.2.2.2.2.2.size) hp hpr hx hy ny hxl hyl
  obtain ⟨q, hq⟩ : ∃ q, divP p xs ys = q := ⟨_, rfl⟩
  obtain ⟨r, hr⟩ : ∃ r, modP p xs ys = r := ⟨_, rfl⟩
  rw [hq, hr] at HD
  rw [hr]
  clear h h' hx hy hq hr
  go_enter Tryd.func80, Tryd.ntmps80
  go_wp2_with (go_at_call 46; (with_reducible refine (HD.out _ HL.out).mono ?_); rintro e w2 ⟨A2, c2, B2, d2, rfl, hA2, hB2, hc2, hd2, hb2⟩; have HL2 := Lib.hid (HL.out.up (hb2.mono (by simp))); have HG2 := Lib.hid (hB2.less (base' := w.heap.size + 1 + 1 + 1) (by simp) (Nat.le_refl _)); have HC2 := Lib.hid hd2; clear hb2 hA2 hB2 hc2 hd2; obtain ⟨⟨k0, k1⟩, ⟨k2, k3⟩, ⟨v0, v1, m0, m1⟩, ⟨n0, n1⟩, hsz2, hbw2⟩ := HL2.out; have HBW2 := Lib.hid hbw2; obtain ⟨e0, e1⟩ := two_new m0 n0 (by show w.heap.size + 1 + 1 < _; omega); obtain ⟨e2, e3⟩ := two_new m1 n1 (by show w.heap.size + 1 + 1 < _; omega); clear hbw2)
  obtain ⟨q0, q1⟩ := cells_two (u := .int .u32 (p : Int)) (v := .slice B2 r.length d2) (e0 (.cells #[.int .u32 (p : Int), .slice A2 q.length c2] 25) (.cells #[.int .u32 (p : Int), .slice B2 r.length d2] 25)) (e2 (.cells #[.int .u32 (p : Int), .slice A2 q.length c2] 25) (.cells #[.int .u32 (p : Int), .slice B2 r.length d2] 25))
  refine bodyPost_ret (v := .agg #[.int .u32 (p : Int), .slice B2 r.length d2]) (by simp [results, Tryd.results80, go_sem, q0, q1]) rfl ?_
  have hb3 : Below w2.heap.size w2 ((w2.alloc (.cells #[.int .u32 (p : Int), .slice A2 q.length c2] 25)).alloc (.cells #[.int .u32 (p : Int), .slice B2 r.length d2] 25)) := ((Below.refl _ _).alloc (Nat.le_refl _) _).alloc (by simp) _
  exact madeP_end (g := w.heap.size + 1 + 1) (HBW2.out.trans (hb3.mono (by omega))) (by omega) (HG2.out.below hb3) (by omega) HC2.out
/-- Whether one divides another one. -/
def dvB (p : Nat) (d f : List Int) : Bool := if d = [] then decide (f = []) else decide (modP p f d = [])
theorem dvB_iff {p : Nat} (hp : PrimeN p) {d f : List Int} (hf : Pol p f) (hd : Pol p d) : dvB p d f = true ↔ DvdP p d f := by
  unfold dvB
  by_cases h : d = []
  · rw [if_pos h, decide_eq_true_iff, h]
    exact ⟨fun e => by rw [e]; exact DvdP.nil_ p [], fun k => k.of_nil⟩
  · rw [if_neg h, decide_eq_true_iff]
    exact (dvdP_iff hp hf hd h).symm
theorem nil_beq (xs : List Int) : ((xs.length : Int) == 0) = decide (xs = []) := by
  cases xs with
  | nil => rfl
  | cons x xs => simp; omega
set_option maxHeartbeats 2000000 in
theorem divides_any (p : Nat) (A B : Option Addr) (ds fs : List Int) (c d : Nat) (w : World) (h : KL .u32 w w.heap.size A ds) (h' : KL .u32 w w.heap.size B fs) (hp : p ≤ 2147483647) (hpr : PrimeN p)
    (hd : Pol p ds) (hf : Pol p fs) (hdl : ds.length ≤ 549755813888) (hfl : fs.length ≤ 549755813888) :
    Calls Tryd.prog 77 #[.agg #[.int .u32 (p : Int), .slice A ds.length c], .agg #[.int .u32 (p : Int), .slice B fs.length d]] w fun e w' => e = .returned (.bool (dvB p ds fs)) ∧ Below w.heap.size w w' := by
  obtain ⟨b, hb⟩ : ∃ b, dvB p ds fs = b := ⟨_, rfl⟩
  have HBX := Lib.hid (box2_start w p p (.slice A ds.length c) (.slice B fs.length d) 25 25)
  by_cases hn : ds = []
  · have HE : Hid (((fs.length : Int) == 0) = b) := Lib.hid (by rw [nil_beq, ← hb]; unfold dvB; rw [if_pos hn])
    have i1 : ((ds.length : Int) == 0) = true := by rw [hn]; rfl
    rw [hb]
    clear h h' hd hf hn hb
    go_enter Tryd.func77, Tryd.ntmps77
    go_wp2
    go_ret
    exact ⟨ret_bool (by first | exact HE.out | (rw [← HE.out]; simp)), HBX.out.2.2.2⟩
  · have HD : Hid (∀ W : World, Box2 w p p (.slice A ds.length c) (.slice B fs.length d) W → Calls Tryd.prog 46 #[.agg #[.int .u32 (p : Int), .slice B fs.length d], .agg #[.int .u32 (p : Int), .slice A ds.length c]] W fun e w' => MadeD p (divP p fs ds) (modP p fs ds) W e w') := Lib.hid fun W hW =>
      divmod_yes p B A fs ds d c W ((h'.below hW.2.2.2).more hW.2.2.2.size) ((h.below hW.2.2.2).more hW.2.2.2.size) hp hpr hf hd hn hfl hdl
    obtain ⟨q, hq⟩ : ∃ q, divP p fs ds = q := ⟨_, rfl⟩
    obtain ⟨r, hr⟩ : ∃ r, modP p fs ds = r := ⟨_, rfl⟩
    have HE : Hid (((r.length : Int) == 0) = b) := Lib.hid (by rw [nil_beq, ← hb, ← hr]; unfold dvB; rw [if_neg hn])
    have i1 : ((ds.length : Int) == 0) = false := by rw [nil_beq]; simp [hn]
    rw [hq, hr] at HD
    rw [hb]
    clear h h' hd hf hq hr hn hb
    go_enter Tryd.func77, Tryd.ntmps77
    go_wp2_with (go_at_call 46; (with_reducible refine (HD.out _ HBX.out).mono ?_); rintro e w2 ⟨A2, c2, B2, d2, rfl, hA2, hB2, hc2, hd2, hb2⟩; have HB2 := Lib.hid (HBX.out.up (hb2.mono (by simp))); clear hb2 hA2 hB2 hc2 hd2)
    go_ret
    exact ⟨ret_bool (by first | exact HE.out | (rw [← HE.out]; simp)), (((HB2.out.2.2.2).alloc HB2.out.2.2.2.size _).alloc (by have := HB2.out.2.2.2.size; simp; omega) _)⟩
/-- A call hands back a number and a polynomial. -/
def MadeU (p : Nat) (u : Int) (xs : List Int) (w : World) (e : Ending) (w' : World) : Prop :=
  ∃ A c, e = .returned (.tuple #[.int .u32 u, .agg #[.int .u32 (p : Int), .slice A xs.length c]]) ∧ KF .u32 w' w.heap.size w'.heap.size A xs ∧ xs.length ≤ c ∧ Below w.heap.size w w'
set_option maxHeartbeats 2000000 in
theorem monic_any (p : Nat) (A : Option Addr) (xs : List Int) (c : Nat) (w : World) (h : KL .u32 w w.heap.size A xs) (hp : p ≤ 2147483647) (hpr : PrimeN p) (hx : Pol p xs) (hl : xs.length ≤ 1099511627776) :
    Calls Tryd.prog 22 #[.agg #[.int .u32 (p : Int), .slice A xs.length c]] w fun e w' => MadeU p (lead xs) (monP p xs) w e w' := by
  by_cases hn : xs = []
  · subst hn
    have i1 : ((([] : List Int).length : Int) == 0) = true := rfl
    have HE : Hid (lead [] = 0) := Lib.hid rfl
    clear h hx
    go_enter Tryd.func22, Tryd.ntmps22
    go_wp2
    go_region
    all_goals
      go_wp2
      refine bodyPost_ret (v := .tuple #[.int .u32 0, .agg #[.int .u32 (p : Int), .slice none 0 0]]) (by simp [results, Tryd.results22, go_sem]) rfl ?_
      rw [HE.out]
      exact ⟨none, 0, rfl, fun h => absurd h (by simp [monP_nil]), by simp [monP_nil], by go_grown⟩
  · have hb := hx.lead_bd hn
    obtain ⟨ld, hld⟩ : ∃ ld : Nat, lead xs = ld := ⟨(lead xs).toNat, by omega⟩
    obtain ⟨m, hm⟩ : ∃ m, m + 1 = xs.length := ⟨xs.length - 1, by have := List.length_pos_iff.2 hn; omega⟩
    have hlm : xs.getD m 0 = (ld : Int) := by rw [← hld]; unfold lead co; rw [show xs.length - 1 = m by omega]
    rw [hld] at hb
    obtain ⟨iv, hiv⟩ : ∃ iv, ld ^ (p - 2) % p = iv := ⟨_, rfl⟩
    have hivp : iv < p := by rw [← hiv]; exact Nat.mod_lt _ hpr.pos
    have HIV : Hid (∀ W : World, Calls Tryd.prog 57 #[.int .u32 (p : Int), .int .u32 (ld : Int)] W fun e w' => e = .returned (.tuple #[.int .u32 (iv : Int), .int .i64 0]) ∧ W = w') := Lib.hid fun W => by rw [← hiv]; exact minv_any p ld W hpr hp (by omega) (by omega)
    have hmon : monP p xs = scaleP p (iv : Int) xs := by
      unfold monP invN
      rw [hld, Int.toNat_natCast, hiv]
    have HL := Lib.hid (laid_start w p (.slice A xs.length c) (.int .u32 0) (.slice none 0 0) 25 25)
    have HSC : Hid (∀ W : World, Laid w p (.slice A xs.length c) W → Calls Tryd.prog 28 #[.agg #[.int .u32 (p : Int), .slice A xs.length c], .int .u32 (iv : Int)] W fun e w' => MadeP p (scaleP p iv xs) W e w') := Lib.hid fun W hW => scale_any p iv A xs c W ((h.below hW.2.2.2.2).more hW.2.2.2.2.size) hp hpr.pos hx.1 hivp hl
    obtain ⟨rs, hrs⟩ : ∃ rs, scaleP p (iv : Int) xs = rs := ⟨_, rfl⟩
    rw [hrs] at HSC
    rw [hmon, hrs, hld]
    obtain ⟨ad, rfl, hab, hcc⟩ := h (by omega)
    have hcell := hcc m (by omega)
    rw [hlm] at hcell
    have hc0 : ((w.alloc (.cells #[.int .u32 (p : Int), .slice (some ad) xs.length c] 25)).alloc (.cells #[.int .u32 0, .slice none 0 0] 25)).cell? (ad.add m) = some (.int .u32 (ld : Int)) := (((((Below.refl w.heap.size w).alloc (Nat.le_refl _) _).alloc (by simp) _)).cell (by rw [block_of_add]; exact hab)).trans hcell
    have i1 : ((xs.length : Int) == 0) = false := by rw [nil_beq]; simp [hn]
    have i2 : (xs.length : Int) - 1 = (m : Int) := by omega
    have i3 : (m : Int) < (xs.length : Int) := by omega
    clear h hx hcc hcell hld hlm hiv hmon hrs hm hn
    go_enter Tryd.func22, Tryd.ntmps22
    go_wp2_with (first
      | (go_at_call 57; (with_reducible refine (HIV.out _).mono ?_); rintro e w' ⟨rfl, rfl⟩)
      | (go_at_call 28; (with_reducible refine (HSC.out _ HL.out).mono ?_); rintro e w2 ⟨A2, c2, rfl, hA2, hc2, hb2⟩; have HL2 := Lib.hid (HL.out.up (hb2.mono (by simp))); have HG2 := Lib.hid (hA2.less (base' := w.heap.size + 1 + 1) (by simp) (Nat.le_refl _)); have HC2 := Lib.hid hc2; clear hb2 hA2 hc2; obtain ⟨⟨k0, k1⟩, ⟨v0, v1, m0, m1⟩, ⟨n0, n1⟩, hsz2, hbw2⟩ := HL2.out; have HBW2 := Lib.hid hbw2; clear hbw2))
    obtain ⟨q0, q1⟩ := cells_two (u := .int .u32 (p : Int)) (v := .slice A2 rs.length c2) m0 m1
    refine bodyPost_ret (v := .tuple #[.int .u32 (ld : Int), .agg #[.int .u32 (p : Int), .slice A2 rs.length c2]]) (by simp [results, Tryd.results22, go_sem, q0, q1]) rfl ?_
    obtain ⟨A', c', h1, h2, h3, h4⟩ := madeP_end (p := p) (g := w.heap.size + 1) (u := .int .u32 (p : Int)) (v := .slice A2 rs.length c2) HBW2.out (by omega) HG2.out (by omega) HC2.out
    injection h1 with h1
    injection h1 with h1
    injection h1 with h1
    have h5 := congrArg (fun l => l) h1
    simp at h5
    obtain ⟨rfl, rfl⟩ := h5
    exact ⟨A2, c2, rfl, h2, h3, h4⟩
end Go.Proofs.YtlndchmpnnlacaaDoor
