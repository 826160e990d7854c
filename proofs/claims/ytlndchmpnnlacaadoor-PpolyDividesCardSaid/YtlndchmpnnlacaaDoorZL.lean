/- Contracts: nat.Of, whole.Of: no condition but a bound on the number. Contracts: lifted, Up, Sym: no condition but bounds on the prime. -/
import Derived.Test.YtlndchmpnnlacaaDoorSm
namespace Go.Proofs.YtlndchmpnnlacaaDoor
open Go.RowKit

theorem word_range {xs : List Int} (h : D32 xs) {k : Nat} (hk : k < xs.length) : 0 ≤ xs.getD k 0 ∧ xs.getD k 0 < 4294967296 := by
  have := h.at_ hk
  omega
set_option maxHeartbeats 400000 in
theorem ntrim_any (A : Option Addr) (xs : List Int) (c : Nat) (w : World) (h : KL .u32 w w.heap.size A xs) (hd : D32 xs) (hc : xs.length ≤ c) (hl : c ≤ 4611686018427387904) :
    Calls Tryd.prog 94 #[.slice A xs.length c] w fun e w' => e = .returned (.slice A (limbs (nv xs)).length (limbs (nv xs)).length) ∧ w = w' := by
  have H := Lib.hid h; clear h
  have HD := Lib.hid hd; clear hd
  go_enter Tryd.func94, Tryd.ntmps94
  go_wp2
  go_loop [3] (fun i => ∃ k : Nat, k ≤ xs.length ∧ i = .int .i64 k ∧ ∀ j, k ≤ j → j < xs.length → xs.getD j 0 = 0) (fun i => (intOf i).toNat)
  case atStart => exact ⟨xs.length, Nat.le_refl _, rfl, fun j hj hjl => by omega⟩
  case round =>
    obtain ⟨k, hk, rfl, hall⟩ := hrel
    have HA := Lib.hid hall; clear hall
    by_cases hk0 : 0 < k
    · obtain ⟨j, hj⟩ : ∃ j, k = j + 1 := ⟨k - 1, by omega⟩
      subst hj
      obtain ⟨ad, rfl, _, hcc⟩ := H.out (by omega)
      have hcell := hcc j (by omega)
      have hr := word_range HD.out (k := j) (by omega)
      obtain ⟨x, hx⟩ : ∃ x, xs.getD j 0 = x := ⟨_, rfl⟩
      rw [hx] at hcell hr
      have HX := Lib.hid hx
      have e1 : (((j + 1 : Nat) : Int)) - 1 = (j : Int) := by omega
      clear hcc hx
      by_cases hx0 : x = 0
      · have hb : (x == 0) = true := by simp [hx0]
        have HX0 := Lib.hid hx0; clear hx0
        go_wp2
        go_round
        case rel => exact ⟨j, by omega, by simp, fun i hi hil => by
          by_cases e : i = j
          · rw [e, HX.out]; exact HX0.out
          · exact HA.out i (by omega) hil⟩
        case measure => simp [intOf] <;> omega
      · have hb : (x == 0) = false := by simp [hx0]
        have HX0 := Lib.hid hx0; clear hx0
        go_wp2
        go_ret
        have ht := trim_limbs HD.out hk (fun i hi hil => HA.out i hi hil) (fun i hi => by rw [show i = j by omega, HX.out]; exact HX0.out)
        have hlen : (limbs (nv xs)).length = j + 1 := by rw [← ht, List.length_take]; omega
        exact ⟨by rw [hlen]; first | rfl | simp, rfl⟩
    · obtain rfl : k = 0 := by omega
      go_wp2
      go_ret
      have ht := trim_limbs HD.out hk (fun i hi hil => HA.out i hi hil) (fun i hi => by omega)
      have hlen : (limbs (nv xs)).length = 0 := by rw [← ht]; simp
      exact ⟨by rw [hlen]; first | rfl | simp, rfl⟩

/-- A number that was made in memory of the call's own. -/
def MadeNF (n : Nat) (w : World) (e : Ending) (w' : World) : Prop :=
  ∃ A c, e = .returned (.slice A (limbs n).length c) ∧ KF .u32 w' w.heap.size w'.heap.size A (limbs n) ∧ (limbs n).length ≤ c ∧ Below w.heap.size w w'
theorem ntrim_two (lo hi : Int) (w : World) (h0 : 0 ≤ lo) (h1 : lo < 4294967296) (h2 : 0 ≤ hi) (h3 : hi < 4294967296) (n : Nat) (hn : (n : Int) = lo + 4294967296 * hi) :
    Calls Tryd.prog 94 #[.slice (some ⟨w.heap.size, 0, none⟩) 2 2] (w.alloc (.cells #[.int .u32 lo, .int .u32 hi] 22)) fun e w' => MadeNF n w e w' := by
  have hd : D32 [lo, hi] := Dig.cons_ h0 (by omega) (Dig.cons_ h2 (by omega) Dig.nil_)
  have hk : ∀ j, j < 2 → (w.alloc (.cells #[.int .u32 lo, .int .u32 hi] 22)).cell? ((⟨w.heap.size, 0, none⟩ : Addr).add j) = some (.int .u32 ([lo, hi].getD j 0)) := fun j hj => by
    rcases (show j = 0 ∨ j = 1 by omega) with rfl | rfl
    · simp [Addr.add]
    · simp [Addr.add]
  have hv : nv [lo, hi] = n := by
    obtain ⟨a, rfl⟩ : ∃ a : Nat, lo = a := ⟨lo.toNat, by omega⟩
    obtain ⟨b, rfl⟩ : ∃ b : Nat, hi = b := ⟨hi.toNat, by omega⟩
    simp [nv, val]
    omega
  have ht := ntrim_any (some ⟨w.heap.size, 0, none⟩) [lo, hi] 2 (w.alloc (.cells #[.int .u32 lo, .int .u32 hi] 22)) (fun _ => ⟨_, rfl, by simp, hk⟩) hd (by simp) (by omega)
  rw [hv] at ht
  refine ht.mono fun e w' ⟨he, hw⟩ => ?_
  subst hw
  refine ⟨_, _, he, fun hn0 => ⟨_, rfl, Nat.le_refl _, by simp, fun j hj => ?_⟩, Nat.le_refl _, (Below.refl _ _).alloc (Nat.le_refl _) _⟩
  obtain ⟨m, hm, e1, e2⟩ := trim_exists [lo, hi]
  have e3 := trim_limbs hd hm e1 e2
  rw [hv] at e3
  rw [← e3, List.length_take] at hj
  have hj2 : j < 2 := by simp at hj; omega
  rw [hk j hj2, ← e3]
  have : j < m := by omega
  simp [List.getD_eq_getElem?_getD, this]

set_option maxHeartbeats 400000 in
theorem nof_any (n : Nat) (hn : n < 18446744073709551616) (w : World) : Calls Tryd.prog 90 #[.int .u64 (n : Int)] w fun e w' => MadeNF n w e w' := by
  have hn' : (n : Int) ≤ 18446744073709551615 := by omega
  have HC := Lib.hid (ntrim_two ((n : Int) % 4294967296) ((n : Int) / 4294967296) w (by omega) (by omega) (by omega) (by omega) n (by omega))
  go_enter Tryd.func90, Tryd.ntmps90
  go_wp2_with (go_at_call 94; (with_reducible refine HC.out.mono ?_); rintro e w' ⟨A2, c2, rfl, hA, hc, hb⟩; have HA := Lib.hid hA; have HB := Lib.hid hb; clear hA hb)
  go_ret
  exact ⟨_, _, rfl, HA.out, hc, HB.out⟩

/-- A whole number that was made. -/
def MadeZ (z : Int) (w : World) (e : Ending) (w' : World) : Prop :=
  ∃ A c, e = .returned (.agg #[.bool (decide (z < 0)), .slice A (limbs z.natAbs).length c]) ∧ KF .u32 w' w.heap.size w'.heap.size A (limbs z.natAbs) ∧ (limbs z.natAbs).length ≤ c ∧ Below w.heap.size w w'
set_option maxHeartbeats 1000000 in
theorem wof_pos (n : Nat) (hn : n ≤ 4294967296) (w : World) : Calls Tryd.prog 84 #[.int .i64 (n : Int)] w fun e w' => MadeZ (n : Int) w e w' := by
  have HN : Hid (∀ W : World, Calls Tryd.prog 90 #[.int .u64 (n : Int)] W fun e w' => MadeNF n W e w') := Lib.hid fun W => nof_any n (by omega) W
  have i0 : decide ((n : Int) < 0) = false := by simp
  go_enter Tryd.func84, Tryd.ntmps84
  go_wp2_with (go_at_call 90; (with_reducible refine (HN.out _).mono ?_); rintro e w1 ⟨A2, c2, rfl, hA, hc, hb⟩; have c0 := (hb.cell (p := ⟨w.heap.size, 0, none⟩) (by simp)).trans (show _ = some (Value.bool false) by go_cell); have c1 := (hb.cell (p := ⟨w.heap.size, 1, none⟩) (by simp)).trans (show _ = some (Value.slice none 0 0) by go_cell); have f0 := (hb.frozen (p := ⟨w.heap.size, 0, none⟩) (by simp)).trans (show _ = false by go_cell); have f1 := (hb.frozen (p := ⟨w.heap.size, 1, none⟩) (by simp)).trans (show _ = false by go_cell); have HA := Lib.hid (hA.less (base' := w.heap.size + 1) (by simp) (Nat.le_refl _)); have HC := Lib.hid hc; have hsz : w.heap.size + 1 ≤ w1.heap.size := (by (have := hb.size; simp only [World.size_alloc] at this; omega)); have HB := Lib.hid (((Below.refl w.heap.size w).alloc (Nat.le_refl _) _).trans (hb.mono (by simp))); clear hb hA hc)
  obtain ⟨q0, q1⟩ := cells_two (u := .bool false) (v := .slice A2 (limbs n).length c2) c0 c1
  refine bodyPost_ret (v := .agg #[.bool false, .slice A2 (limbs n).length c2]) (by simp [results, Tryd.results84, go_sem, q0, q1]) rfl ?_
  refine ⟨A2, c2, by simp, ?_, by simpa using HC.out, (HB.out.setCell (Nat.le_refl _) _).setCell (Nat.le_refl _) _⟩
  have h1 := (HA.out.setCell (p := ⟨w.heap.size, 0, none⟩) (v := .bool false) (by simp)).setCell (p := ⟨w.heap.size, 1, none⟩) (v := .slice A2 (limbs n).length c2) (by simp)
  exact h1.less (by omega) (by simp [World.setCell])
set_option maxHeartbeats 1000000 in
theorem wof_neg (n : Nat) (h0 : 0 < n) (hn : n ≤ 4294967296) (w : World) : Calls Tryd.prog 84 #[.int .i64 (-(n : Int))] w fun e w' => MadeZ (-(n : Int)) w e w' := by
  have HN : Hid (∀ W : World, Calls Tryd.prog 90 #[.int .u64 (n : Int)] W fun e w' => MadeNF n W e w') := Lib.hid fun W => nof_any n (by omega) W
  obtain ⟨z, hz⟩ : ∃ z : Int, -(n : Int) = z := ⟨_, rfl⟩
  have i0 : decide (z < 0) = true := by simp; omega
  have i1 : IntKind.u64.wrap (-(IntKind.u64.wrap z)) = (n : Int) := by
    rw [← hz, IntKind.wrap_u64, IntKind.wrap_u64]
    omega
  rw [hz]
  have HZ := Lib.hid hz
  have hzr : -4294967296 ≤ z ∧ z < 0 := by omega
  clear hz
  go_enter Tryd.func84, Tryd.ntmps84
  go_wp2_with (go_at_call 90; (with_reducible refine (HN.out _).mono ?_); rintro e w1 ⟨A2, c2, rfl, hA, hc, hb⟩; have c0 := (hb.cell (p := ⟨w.heap.size, 0, none⟩) (by simp)).trans (show _ = some (Value.bool false) by go_cell); have c1 := (hb.cell (p := ⟨w.heap.size, 1, none⟩) (by simp)).trans (show _ = some (Value.slice none 0 0) by go_cell); have f0 := (hb.frozen (p := ⟨w.heap.size, 0, none⟩) (by simp)).trans (show _ = false by go_cell); have f1 := (hb.frozen (p := ⟨w.heap.size, 1, none⟩) (by simp)).trans (show _ = false by go_cell); have HA := Lib.hid (hA.less (base' := w.heap.size + 1) (by simp) (Nat.le_refl _)); have HC := Lib.hid hc; have hsz : w.heap.size + 1 ≤ w1.heap.size := (by (have := hb.size; simp only [World.size_alloc] at this; omega)); have HB := Lib.hid (((Below.refl w.heap.size w).alloc (Nat.le_refl _) _).trans (hb.mono (by simp))); clear hb hA hc)
  obtain ⟨q0, q1⟩ := cells_two (u := .bool true) (v := .slice A2 (limbs n).length c2) c0 c1
  refine bodyPost_ret (v := .agg #[.bool true, .slice A2 (limbs n).length c2]) (by simp [results, Tryd.results84, go_sem, q0, q1]) rfl ?_
  have hab : z.natAbs = n := by have := HZ.out; omega
  refine ⟨A2, c2, by rw [hab, i0], ?_, by rw [hab]; exact HC.out, (HB.out.setCell (Nat.le_refl _) _).setCell (Nat.le_refl _) _⟩
  have h1 := (HA.out.setCell (p := ⟨w.heap.size, 0, none⟩) (v := .bool true) (by simp)).setCell (p := ⟨w.heap.size, 1, none⟩) (v := .slice A2 (limbs n).length c2) (by simp)
  rw [hab]
  exact h1.less (by omega) (by simp [World.setCell])
theorem wof_any (z : Int) (h1 : -4294967296 ≤ z) (h2 : z ≤ 4294967296) (w : World) : Calls Tryd.prog 84 #[.int .i64 z] w fun e w' => MadeZ z w e w' := by
  rcases Int.lt_or_le z 0 with h | h
  · obtain ⟨n, rfl⟩ : ∃ n : Nat, z = -(n : Int) := ⟨z.natAbs, by omega⟩
    exact wof_neg n (by omega) (by omega) w
  · obtain ⟨n, rfl⟩ : ∃ n : Nat, z = (n : Int) := ⟨z.natAbs, by omega⟩
    exact wof_pos n (by omega) w
end Go.Proofs.YtlndchmpnnlacaaDoor

namespace Go.Proofs.YtlndchmpnnlacaaDoor
open Go.RowKit

/-- A slice of whole numbers, in memory from block base on, below B: each its sign and its limbs. -/
def ZL (w : World) (base B : Nat) (A : Option Addr) (rs : List (Bool × List Int)) : Prop :=
  0 < rs.length → ∃ ad, A = some ad ∧ base ≤ ad.block ∧ ad.block < B ∧ ∀ j, j < rs.length → w.cell? (ad.add (j * 2)) = some (.bool (rs.getD j (false, [])).1) ∧
    ∃ Aj cj, w.cell? (ad.add (j * 2 + 1)) = some (.slice Aj (rs.getD j (false, [])).2.length cj) ∧ (rs.getD j (false, [])).2.length ≤ cj ∧ KF .u32 w base B Aj (rs.getD j (false, [])).2
def zrow (z : Int) : Bool × List Int := (decide (z < 0), limbs z.natAbs)
theorem ZL.keep {w w' : World} {base B : Nat} {A : Option Addr} {rs : List (Bool × List Int)} (h : ZL w base B A rs) (hk : ∀ p : Addr, base ≤ p.block → p.block < B → w'.cell? p = w.cell? p) : ZL w' base B A rs := fun hn => by
  obtain ⟨ad, e, h1, h2, hc⟩ := h hn
  refine ⟨ad, e, h1, h2, fun j hj => ?_⟩
  obtain ⟨h3, Aj, cj, h4, h5, h6⟩ := hc j hj
  exact ⟨(hk _ (by rw [block_of_add]; exact h1) (by rw [block_of_add]; exact h2)).trans h3, Aj, cj, (hk _ (by rw [block_of_add]; exact h1) (by rw [block_of_add]; exact h2)).trans h4, h5, h6.keep hk⟩
theorem ZL.less {w : World} {base base' B B' : Nat} {A : Option Addr} {rs : List (Bool × List Int)} (h : ZL w base B A rs) (hb : base' ≤ base) (hB : B ≤ B') : ZL w base' B' A rs := fun hn => by
  obtain ⟨ad, e, h1, h2, hc⟩ := h hn
  refine ⟨ad, e, by omega, by omega, fun j hj => ?_⟩
  obtain ⟨h3, Aj, cj, h4, h5, h6⟩ := hc j hj
  exact ⟨h3, Aj, cj, h4, h5, h6.less hb hB⟩
theorem ZL.below {w w' : World} {base : Nat} {A : Option Addr} {rs : List (Bool × List Int)} (h : ZL w base w.heap.size A rs) (hb : Below w.heap.size w w') : ZL w' base w'.heap.size A rs :=
  (h.keep fun _ _ hp => hb.cell hp).less (Nat.le_refl _) hb.size
/-- A call hands back whole numbers in memory of its own. -/
def MadeZs (rs : List (Bool × List Int)) (w : World) (e : Ending) (w' : World) : Prop :=
  ∃ A c, e = .returned (.slice A rs.length c) ∧ ZL w' w.heap.size w'.heap.size A rs ∧ rs.length ≤ c ∧ Below w.heap.size w w'
/-- The row of a call's own as far as it is filled. -/
def ZRow (w : World) (base n k : Nat) (rs : List (Bool × List Int)) (vs : List Value) : Prop :=
  vs.length = n * 2 ∧ ∀ j, j < k → vs[j * 2]? = some (.bool (rs.getD j (false, [])).1) ∧
    ∃ Aj cj, vs[j * 2 + 1]? = some (.slice Aj (rs.getD j (false, [])).2.length cj) ∧ (rs.getD j (false, [])).2.length ≤ cj ∧ KF .u32 w base w.heap.size Aj (rs.getD j (false, [])).2
theorem ZRow.below {w w' : World} {base n k : Nat} {rs : List (Bool × List Int)} {vs : List Value} (h : ZRow w base n k rs vs) (hb : Below w.heap.size w w') : ZRow w' base n k rs vs :=
  ⟨h.1, fun j hj => by
    obtain ⟨h3, Aj, cj, h4, h5, h6⟩ := h.2 j hj
    exact ⟨h3, Aj, cj, h4, h5, h6.below hb⟩⟩
theorem ZRow.setCell {w : World} {base n k : Nat} {rs : List (Bool × List Int)} {vs : List Value} {p : Addr} {v : Value} (h : ZRow w base n k rs vs) (hp : p.block < base) : ZRow (w.setCell p v) base n k rs vs :=
  ⟨h.1, fun j hj => by
    obtain ⟨h3, Aj, cj, h4, h5, h6⟩ := h.2 j hj
    exact ⟨h3, Aj, cj, h4, h5, (h6.setCell hp).less (Nat.le_refl _) (by simp [World.setCell])⟩⟩
theorem ZRow.next {w : World} {base n k : Nat} {rs : List (Bool × List Int)} {vs : List Value} {A : Option Addr} {c : Nat} {b : Bool} {xs : List Int} (h : ZRow w base n k rs vs) (hk : k < n) (hb : rs.getD k (false, []) = (b, xs)) (hc : xs.length ≤ c) (hA : KF .u32 w base w.heap.size A xs) :
    ZRow w base n (k + 1) rs ((vs.set (k * 2) (.bool b)).set (k * 2 + 1) (.slice A xs.length c)) := by
  refine ⟨by simpa using h.1, fun j hj => ?_⟩
  have hl := h.1
  by_cases e : j = k
  · subst e
    rw [hb]
    refine ⟨?_, A, c, ?_, hc, hA⟩
    · rw [List.getElem?_set_ne (by omega), List.getElem?_set_self (by omega)]
    · rw [List.getElem?_set_self (by rw [List.length_set]; omega)]
  · obtain ⟨h3, Aj, cj, h4, h5, h6⟩ := h.2 j (by omega)
    refine ⟨?_, Aj, cj, ?_, h5, h6⟩
    · rw [List.getElem?_set_ne (by omega), List.getElem?_set_ne (by omega)]; exact h3
    · rw [List.getElem?_set_ne (by omega), List.getElem?_set_ne (by omega)]; exact h4
theorem ZRow.zl {w : World} {base n : Nat} {rs : List (Bool × List Int)} {vs : List Value} {g : Nat} {e : TypeId} (h : ZRow w base n n rs vs) (hr : rs.length = n) (hown : w.ownsRow g e 2 (.slice (some ⟨g, 0, none⟩) n n) n vs) (hg : g ≤ base) : ZL w g w.heap.size (some ⟨g, 0, none⟩) rs := fun hn => by
  have hcell : ∀ j, j < n * 2 → w.cell? ⟨g, j, none⟩ = vs[j]? := fun j hj => hown.cellAt j hj
  have hadd : ∀ j, (⟨g, 0, none⟩ : Addr).add j = ⟨g, j, none⟩ := fun j => by
    unfold Addr.add
    by_cases h0 : j = 0 <;> simp [h0]
  refine ⟨_, rfl, Nat.le_refl _, ?_, fun j hj => ?_⟩
  · have h0 : w.cell? ⟨g, 0, none⟩ = vs[0]? := hcell 0 (by omega)
    have hv : 0 < vs.length := by rw [h.1]; omega
    exact World.block_lt_of_cell? w _ (h0.trans (List.getElem?_eq_getElem hv))
  · obtain ⟨h3, Aj, cj, h4, h5, h6⟩ := h.2 j (by omega)
    refine ⟨by rw [hadd, hcell _ (by omega), h3], Aj, cj, by rw [hadd, hcell _ (by omega), h4], h5, h6.less hg (Nat.le_refl _)⟩
theorem int_info : (Tryd.prog.info? 44).map (fun i => (i.zero, i.size, i.bytes)) = some (some (.agg #[.bool false, .slice none 0 0]), 2, 32) := by kernel_rfl
/-- What a coefficient is lifted to. -/
def liftN (p b : Nat) (x : Int) : Int := if (b : Int) < x then x - p else x
def liftP (p b : Nat) (xs : List Int) : List (Bool × List Int) := xs.map fun x => zrow (liftN p b x)
theorem liftP_at {p b : Nat} {xs : List Int} {j : Nat} (hj : j < xs.length) : (liftP p b xs).getD j (false, []) = zrow (liftN p b (xs.getD j 0)) := by
  unfold liftP
  simp [List.getD_eq_getElem?_getD, hj]
theorem own_pair {w : World} {base : Nat} {e : TypeId} {g n c : Nat} {vs : List Value} (h : w.ownsRow base e 2 (.slice (some ⟨g, 0, none⟩) n c) n vs) (j : Nat) (u v : Value) :
    ((w.setCell ⟨g, j, none⟩ u).setCell ⟨g, j + 1, none⟩ v).ownsRow base e 2 (.slice (some ⟨g, 0, none⟩) n c) n ((vs.set j u).set (j + 1) v) := ((h.stored j u).1.stored (j + 1) v).1
theorem own_two {w : World} {base : Nat} {e : TypeId} {g n c : Nat} {vs : List Value} (h : w.ownsRow base e 2 (.slice (some ⟨g, 0, none⟩) n c) n vs) {j : Nat} (hj : j < n) : (∃ u, w.cell? ⟨g, j * 2, none⟩ = some u) ∧ ∃ u, w.cell? ⟨g, j * 2 + 1, none⟩ = some u := by
  have hl : vs.length = n * 2 := h.1
  exact ⟨⟨vs[j * 2], by rw [h.cellAt _ (by omega), List.getElem?_eq_getElem (by omega)]⟩, ⟨vs[j * 2 + 1], by rw [h.cellAt _ (by omega), List.getElem?_eq_getElem (by omega)]⟩⟩
/-- A whole number that was made, by its sign and its limbs. -/
def MadeR (b : Bool) (L : List Int) (w : World) (e : Ending) (w' : World) : Prop :=
  ∃ A c, e = .returned (.agg #[.bool b, .slice A L.length c]) ∧ KF .u32 w' w.heap.size w'.heap.size A L ∧ L.length ≤ c ∧ Below w.heap.size w w'
theorem lift_step {w wr w1 : World} {p n j c2 : Nat} {A2 : Option Addr} {rs : List (Bool × List Int)} {vs : List Value} {bz : Bool} {L : List Int} {T : TypeId} {v : Value}
    (HO : wr.ownsRow (w.heap.size + 1) T 2 (.slice (some ⟨w.heap.size + 1, 0, none⟩) n n) n vs) (HS : ZRow wr (w.heap.size + 1 + 1) n j rs vs) (HB : Below w.heap.size w wr)
    (hb : wr.cell? ⟨w.heap.size, 0, none⟩ = some (.int .u32 (p : Int)) ∧ wr.cell? ⟨w.heap.size, 1, none⟩ = some v) (hsz : w.heap.size + 1 + 1 ≤ wr.heap.size) (hlt : j < n) (hat : rs.getD j (false, []) = (bz, L))
    (hA : KF .u32 w1 wr.heap.size w1.heap.size A2 L) (hc : L.length ≤ c2) (hw : Below wr.heap.size wr w1) :
    ZRow ((w1.setCell ⟨w.heap.size + 1, j * 2, none⟩ (.bool bz)).setCell ⟨w.heap.size + 1, j * 2 + 1, none⟩ (.slice A2 L.length c2)) (w.heap.size + 1 + 1) n (j + 1) rs ((vs.set (j * 2) (.bool bz)).set (j * 2 + 1) (.slice A2 L.length c2)) ∧
    ((w1.setCell ⟨w.heap.size + 1, j * 2, none⟩ (.bool bz)).setCell ⟨w.heap.size + 1, j * 2 + 1, none⟩ (.slice A2 L.length c2)).ownsRow (w.heap.size + 1) T 2 (.slice (some ⟨w.heap.size + 1, 0, none⟩) n n) n ((vs.set (j * 2) (.bool bz)).set (j * 2 + 1) (.slice A2 L.length c2)) ∧
    (((w1.setCell ⟨w.heap.size + 1, j * 2, none⟩ (.bool bz)).setCell ⟨w.heap.size + 1, j * 2 + 1, none⟩ (.slice A2 L.length c2)).cell? ⟨w.heap.size, 0, none⟩ = some (.int .u32 (p : Int)) ∧ ((w1.setCell ⟨w.heap.size + 1, j * 2, none⟩ (.bool bz)).setCell ⟨w.heap.size + 1, j * 2 + 1, none⟩ (.slice A2 L.length c2)).cell? ⟨w.heap.size, 1, none⟩ = some v) ∧
    w.heap.size + 1 + 1 ≤ ((w1.setCell ⟨w.heap.size + 1, j * 2, none⟩ (.bool bz)).setCell ⟨w.heap.size + 1, j * 2 + 1, none⟩ (.slice A2 L.length c2)).heap.size ∧
    Below w.heap.size w ((w1.setCell ⟨w.heap.size + 1, j * 2, none⟩ (.bool bz)).setCell ⟨w.heap.size + 1, j * 2 + 1, none⟩ (.slice A2 L.length c2)) := by
  have hs2 := hw.size
  have hc0 : ∀ (W : World) (a b : Nat) (u v : Value) (o : Nat), ((W.setCell ⟨w.heap.size + 1, a, none⟩ u).setCell ⟨w.heap.size + 1, b, none⟩ v).cell? ⟨w.heap.size, o, none⟩ = W.cell? ⟨w.heap.size, o, none⟩ := fun W a b u v o =>
    (World.cell?_setCell_other _ _ _ _ (ne_of_block (by simp))).trans (World.cell?_setCell_other _ _ _ _ (ne_of_block (by simp)))
  refine ⟨((((HS.below hw).next hlt hat hc (hA.less (by omega) (Nat.le_refl _))).setCell (by simp)).setCell (by simp)), own_pair (own_below HO hw) _ _ _, ⟨?_, ?_⟩, by simp [World.setCell]; omega, ((HB.trans (hw.mono (by omega))).setCell (by simp) _).setCell (by simp) _⟩
  · rw [hc0]; exact (hw.cell (p := ⟨w.heap.size, 0, none⟩) (by show w.heap.size < _; omega)).trans hb.1
  · rw [hc0]; exact (hw.cell (p := ⟨w.heap.size, 1, none⟩) (by show w.heap.size < _; omega)).trans hb.2
theorem own_size {w : World} {base : Nat} {e : TypeId} {size g n c : Nat} {vs : List Value} (h : w.ownsRow base e size (.slice (some ⟨g, 0, none⟩) n c) n vs) : g + 1 ≤ w.heap.size := by
  rcases h.2 with ⟨hv, _⟩ | ⟨g', cap, cur, hv, _, hg, _⟩
  · simp at hv
  · simp only [Value.slice.injEq, Option.some.injEq, Addr.mk.injEq, and_true, true_and] at hv
    obtain ⟨rfl, rfl⟩ := hv
    exact (Array.getElem?_eq_some_iff.1 hg).1
set_option maxHeartbeats 2000000 in
theorem lifted_any (p b : Nat) (A : Option Addr) (xs : List Int) (c : Nat) (w : World) (h : KL .u32 w w.heap.size A xs) (hp : p ≤ 2147483647) (hp0 : 0 < p) (_hb : b ≤ 2147483647) (hd : Dig p xs) (hl : xs.length ≤ 1000000) :
    Calls Tryd.prog 72 #[.agg #[.int .u32 (p : Int), .slice A xs.length c], .int .u32 (b : Int)] w fun e w' => MadeZs (liftP p b xs) w e w' := by
  obtain ⟨i0, hi0, hz0, hz1, hz2⟩ := info_parts int_info
  have H := Lib.hid h; clear h
  have HD := Lib.hid hd; clear hd
  have HW : Hid (∀ z : Int, -4294967296 ≤ z → z ≤ 4294967296 → ∀ W : World, Calls Tryd.prog 84 #[.int .i64 z] W fun e w' => MadeZ z W e w') := Lib.hid fun z h1 h2 W => wof_any z h1 h2 W
  have HBX := Lib.hid (show ∀ W : World, Below (w.heap.size + 1) (w.alloc (.cells #[.int .u32 (p : Int), .slice A xs.length c] 25)) W → (W.cell? ⟨w.heap.size, 0, none⟩ = some (.int .u32 (p : Int)) ∧ W.cell? ⟨w.heap.size, 1, none⟩ = some (.slice A xs.length c)) ∧ Below w.heap.size w W from fun W hW =>
    ⟨⟨(hW.cell (p := ⟨w.heap.size, 0, none⟩) (by simp)).trans (by go_cell), (hW.cell (p := ⟨w.heap.size, 1, none⟩) (by simp)).trans (by go_cell)⟩, ((Below.refl _ _).alloc (Nat.le_refl _) _).trans (hW.mono (by simp))⟩)
  go_enter Tryd.func72, Tryd.ntmps72
  go_wp2_with (at_make; refine wpList_make_full _ rfl _ _ 40 rfl (w.heap.size + 1) 44 i0 (.agg #[.bool false, .slice none 0 0]) 2 Tryd.underlying40 hi0 hz0 hz1 _ _ _ _ xs.length rfl rfl (by simp) (by simp) (by rw [hz2]; omega) (by unfold maxLen; omega) (by simp) ?_; intro w1 hown hg; simp only [World.size_alloc] at hown; have HO := Lib.hid hown; have hsz : w.heap.size + 1 + 1 ≤ w1.heap.size := own_size hown; have HB1 := Lib.hid (HBX.out _ ((Below.refl _ _).grown hg (by simp) (fun k hk => by cases hk))); clear hown hg; obtain ⟨⟨b0, b1⟩, hbw⟩ := HB1.out; have HBW := Lib.hid hbw; clear hbw)
  go_loopw [16] (fun i wr => ∃ (j : Nat) (vs : List Value), j ≤ xs.length ∧ i = .int .i64 j ∧ ZRow wr (w.heap.size + 1 + 1) xs.length j (liftP p b xs) vs ∧
      wr.ownsRow (w.heap.size + 1) 44 2 (.slice (some ⟨w.heap.size + 1, 0, none⟩) xs.length xs.length) xs.length vs ∧ (wr.cell? ⟨w.heap.size, 0, none⟩ = some (.int .u32 (p : Int)) ∧ wr.cell? ⟨w.heap.size, 1, none⟩ = some (.slice A xs.length c)) ∧ w.heap.size + 1 + 1 ≤ wr.heap.size ∧ Below w.heap.size w wr) (fun i _ => xs.length - (intOf i).toNat)
  case atStart => exact ⟨0, _, Nat.zero_le _, rfl, ⟨HO.out.1, fun j hj => absurd hj (Nat.not_lt_zero _)⟩, HO.out, ⟨b0, b1⟩, hsz, HBW.out⟩
  case round =>
    clear HO HB1 b0 b1 hsz HBW
    obtain ⟨j, vs, hj, rfl, hS, hown, ⟨b0, b1⟩, hsz, hbw⟩ := hrel
    by_cases hlt : j < xs.length
    · obtain ⟨ad, rfl, hab, hcc⟩ := (H.out.below hbw) (by omega)
      have hcell := hcc j hlt
      have hr := HD.out.at_ hlt
      obtain ⟨x, hx⟩ : ∃ x : Nat, xs.getD j 0 = x := ⟨(xs.getD j 0).toNat, by omega⟩
      rw [hx] at hcell hr
      obtain ⟨⟨u0, d0⟩, ⟨u1, d1⟩⟩ := own_two hown hlt
      have f0 := hown.frozenAt (j * 2)
      have f1 := hown.frozenAt (j * 2 + 1)
      have HO := Lib.hid hown
      have HS := Lib.hid hS
      have HBW := Lib.hid hbw
      have HAT : Hid ((liftP p b xs).getD j (false, []) = zrow (liftN p b x)) := Lib.hid (by rw [← hx]; exact liftP_at hlt)
      have i1 : (j : Int) < (xs.length : Int) := by omega
      clear hcc hx hown hS hbw
      obtain ⟨bz, L, hzr⟩ : ∃ bz L, zrow (liftN p b x) = (bz, L) := ⟨_, _, rfl⟩
      have hz2 := hzr
      unfold zrow at hz2
      injection hz2 with hz3 hz4
      have HR := Lib.hid hzr
      have HLS := Lib.hid (show ∀ (w1 : World) (A2 : Option Addr) (c2 : Nat) (hA : KF .u32 w1 wr.heap.size w1.heap.size A2 L) (hc : L.length ≤ c2) (hw : Below wr.heap.size wr w1), _ from fun w1 A2 c2 hA hc hw => lift_step HO.out HS.out HBW.out ⟨b0, b1⟩ hsz hlt (HAT.out.trans HR.out) hA hc hw)
      by_cases hbx : b < x
      · have HZ : Hid (∀ W : World, Calls Tryd.prog 84 #[.int .i64 ((x : Int) - (p : Int))] W fun e w' => MadeR bz L W e w') := Lib.hid fun W => by
          have h := wof_any (liftN p b x) (by unfold liftN; rw [if_pos (by omega)]; omega) (by unfold liftN; rw [if_pos (by omega)]; omega) W
          unfold MadeZ at h
          rw [hz3, hz4, show liftN p b x = (x : Int) - (p : Int) from if_pos (by omega)] at h
          exact h
        have i2 : decide ((b : Int) < (x : Int)) = true := by simp; omega
        clear hz3 hz4 hzr
        go_wp2_with (go_at_call 84; (with_reducible refine (HZ.out _).mono ?_); rintro e w1 ⟨A2, c2, rfl, hA, hc, hb⟩; have d0' := (hb.cell (p := ⟨w.heap.size + 1, j * 2, none⟩) (show w.heap.size + 1 < _ by omega)).trans d0; have d1' := (hb.cell (p := ⟨w.heap.size + 1, j * 2 + 1, none⟩) (show w.heap.size + 1 < _ by omega)).trans d1; have f0' := (hb.frozen (p := ⟨w.heap.size + 1, j * 2, none⟩) (show w.heap.size + 1 < _ by omega)).trans f0; have f1' := (hb.frozen (p := ⟨w.heap.size + 1, j * 2 + 1, none⟩) (show w.heap.size + 1 < _ by omega)).trans f1; have HF := Lib.hid (HLS.out _ _ _ hA hc hb); clear d0 d1 f0 f1 hA hc hb)
        go_roundw
        case rel => exact ⟨j + 1, _, by omega, by go_num, HF.out.1, HF.out.2.1, HF.out.2.2.1, HF.out.2.2.2.1, HF.out.2.2.2.2⟩
        case measure => simp [intOf]; omega
      · have HZ : Hid (∀ W : World, Calls Tryd.prog 84 #[.int .i64 (x : Int)] W fun e w' => MadeR bz L W e w') := Lib.hid fun W => by
          have h := wof_any (liftN p b x) (by unfold liftN; rw [if_neg (by omega)]; omega) (by unfold liftN; rw [if_neg (by omega)]; omega) W
          unfold MadeZ at h
          rw [hz3, hz4, show liftN p b x = (x : Int) from if_neg (by omega)] at h
          exact h
        have i2 : decide ((b : Int) < (x : Int)) = false := by simp; omega
        clear hz3 hz4 hzr
        go_wp2_with (go_at_call 84; (with_reducible refine (HZ.out _).mono ?_); rintro e w1 ⟨A2, c2, rfl, hA, hc, hb⟩; have d0' := (hb.cell (p := ⟨w.heap.size + 1, j * 2, none⟩) (show w.heap.size + 1 < _ by omega)).trans d0; have d1' := (hb.cell (p := ⟨w.heap.size + 1, j * 2 + 1, none⟩) (show w.heap.size + 1 < _ by omega)).trans d1; have f0' := (hb.frozen (p := ⟨w.heap.size + 1, j * 2, none⟩) (show w.heap.size + 1 < _ by omega)).trans f0; have f1' := (hb.frozen (p := ⟨w.heap.size + 1, j * 2 + 1, none⟩) (show w.heap.size + 1 < _ by omega)).trans f1; have HF := Lib.hid (HLS.out _ _ _ hA hc hb); clear d0 d1 f0 f1 hA hc hb)
        go_roundw
        case rel => exact ⟨j + 1, _, by omega, by go_num, HF.out.1, HF.out.2.1, HF.out.2.2.1, HF.out.2.2.2.1, HF.out.2.2.2.2⟩
        case measure => simp [intOf]; omega
    · obtain rfl : j = xs.length := by omega
      have HZ := Lib.hid (hS.zl (by simp [liftP]) hown (by omega))
      have HBW := Lib.hid hbw
      have HL : Hid ((liftP p b xs).length = xs.length) := Lib.hid (by simp [liftP])
      have i1 : ¬ (xs.length : Int) < (xs.length : Int) := by omega
      clear hown hS hbw
      go_wp2
      go_ret
      exact ⟨some ⟨w.heap.size + 1, 0, none⟩, xs.length, by rw [HL.out]; rfl, HZ.out.less (by omega) (Nat.le_refl _), by rw [HL.out]; exact Nat.le_refl _, HBW.out⟩
set_option maxHeartbeats 1000000 in
theorem up_any (p : Nat) (A : Option Addr) (xs : List Int) (c : Nat) (w : World) (h : KL .u32 w w.heap.size A xs) (hp : p ≤ 2147483647) (hp0 : 0 < p) (hd : Dig p xs) (hl : xs.length ≤ 1000000) :
    Calls Tryd.prog 42 #[.agg #[.int .u32 (p : Int), .slice A xs.length c]] w fun e w' => MadeZs (liftP p p xs) w e w' := by
  have HC : Hid (Calls Tryd.prog 72 #[.agg #[.int .u32 (p : Int), .slice A xs.length c], .int .u32 (p : Int)] (w.alloc (.cells #[.int .u32 (p : Int), .slice A xs.length c] 25)) fun e w' => MadeZs (liftP p p xs) (w.alloc (.cells #[.int .u32 (p : Int), .slice A xs.length c] 25)) e w') := Lib.hid (lifted_any p p A xs c _ (h.up ((Below.refl _ _).alloc (Nat.le_refl _) _)) hp hp0 (by omega) hd hl)
  clear h hd
  go_enter Tryd.func42, Tryd.ntmps42
  go_wp2_with (go_at_call 72; (with_reducible refine HC.out.mono ?_); rintro e w1 ⟨A2, c2, rfl, hA, hc, hb⟩; have HA := Lib.hid hA; have HC2 := Lib.hid hc; have HB := Lib.hid hb; clear hA hc hb)
  go_ret
  exact ⟨_, _, rfl, HA.out.less (by simp) (Nat.le_refl _), HC2.out, ((Below.refl w.heap.size w).alloc (Nat.le_refl _) _).trans (HB.out.mono (by simp))⟩
set_option maxHeartbeats 1000000 in
theorem sym_any (p : Nat) (A : Option Addr) (xs : List Int) (c : Nat) (w : World) (h : KL .u32 w w.heap.size A xs) (hp : p ≤ 2147483647) (hp0 : 0 < p) (hd : Dig p xs) (hl : xs.length ≤ 1000000) :
    Calls Tryd.prog 44 #[.agg #[.int .u32 (p : Int), .slice A xs.length c]] w fun e w' => MadeZs (liftP p (p / 2) xs) w e w' := by
  obtain ⟨q, hq⟩ : ∃ q, p / 2 = q := ⟨_, rfl⟩
  rw [hq]
  have HC : Hid (Calls Tryd.prog 72 #[.agg #[.int .u32 (p : Int), .slice A xs.length c], .int .u32 (q : Int)] (w.alloc (.cells #[.int .u32 (p : Int), .slice A xs.length c] 25)) fun e w' => MadeZs (liftP p q xs) (w.alloc (.cells #[.int .u32 (p : Int), .slice A xs.length c] 25)) e w') := Lib.hid (lifted_any p q A xs c _ (h.up ((Below.refl _ _).alloc (Nat.le_refl _) _)) hp hp0 (by omega) hd hl)
  have i1 : (p : Int).tdiv 2 = (q : Int) := by rw [Int.tdiv_eq_ediv_of_nonneg (by omega)]; omega
  have i2 : (p : Int) / 2 = (q : Int) := by omega
  have hq2 : q ≤ 2147483647 := by omega
  clear h hd hq
  go_enter Tryd.func44, Tryd.ntmps44
  go_wp2_with (go_at_call 72; (with_reducible refine HC.out.mono ?_); rintro e w1 ⟨A2, c2, rfl, hA, hc, hb⟩; have HA := Lib.hid hA; have HC2 := Lib.hid hc; have HB := Lib.hid hb; clear hA hc hb)
  go_ret
  exact ⟨_, _, rfl, HA.out.less (by simp) (Nat.le_refl _), HC2.out, ((Below.refl w.heap.size w).alloc (Nat.le_refl _) _).trans (HB.out.mono (by simp))⟩
end Go.Proofs.YtlndchmpnnlacaaDoor
