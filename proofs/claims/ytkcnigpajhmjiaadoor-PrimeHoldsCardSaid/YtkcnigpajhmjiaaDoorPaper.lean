/- A paper that comes in as an argument. -/
import Derived.Test.YtkcnigpajhmjiaaDoorTabG
import Derived.Test.YtkcnigpajhmjiaaDoorHolds
import Derived.Deep.Slices
namespace Go.Proofs.YtkcnigpajhmjiaaDoor
open Go.ChangeShapes Go.WideShapes Go.ChangeAt Go.WideMaps Go.WideElems Go.RowKit Go.Deep

theorem i64_range {n : Int} (h : (Lit.int .i64 n).wf = true) : -9223372036854775808 ≤ n ∧ n ≤ 9223372036854775807 := by
  rw [show Lit.wf (.int .i64 n) = (decide (IntKind.i64.min ≤ n) && decide (n ≤ IntKind.i64.max)) from rfl, Bool.and_eq_true, decide_eq_true_iff, decide_eq_true_iff, show IntKind.i64.min = -9223372036854775808 by decide, show IntKind.i64.max = 9223372036854775807 by decide] at h
  exact h
section
variable {H : Type} {enc : TypeId × Value → H} {P : Program} {W : World}
theorem cells_KL {k : IntKind} {t e : TypeId} {fuel : Nat} {cs : List Value} {y : DataW H × List MemPlace} (ht : P.underlying t = some (.slice e)) (he : P.underlying e = some (.int k)) (hc : P.cellsOf e = 1)
    (hf : DataW.trod enc P W 0 (fun _ => true) true fuel t cs = some y) :
    ∃ (A : Option Addr) (xs : List Int) (c : Nat), cs = [.slice A xs.length c] ∧ KL k W W.heap.size A xs ∧ (∀ x ∈ xs, (Lit.int k x).wf = true) ∧ xs.length ≤ c ∧ c ≤ maxLen := by
  rcases open_ints ht he hc hf with ⟨h1, _⟩ | ⟨a, len, cap, zs, h1, _, hl, hm, hzl, _, hcell, hwf⟩
  · exact ⟨none, [], 0, h1, KL.nil_, (fun x hx => by cases hx), by simp, by unfold maxLen; omega⟩
  · have hzl' : zs.length = cap := by simpa using hzl
    have htl : (zs.take len).length = len := by rw [List.length_take]; omega
    have hall : KL k W W.heap.size (some a) zs := fun hn => by
      refine ⟨a, rfl, ?_, fun k hk => hcell k hk⟩
      have := World.block_lt_of_cell? W _ (hcell 0 hn)
      rwa [block_of_add] at this
    exact ⟨some a, zs.take len, cap, by rw [htl]; exact h1, hall.head (by omega), fun x hx => hwf x (List.mem_of_mem_take hx), by omega, hm⟩
theorem u64s_nat {Q : List Int} (h : ∀ x ∈ Q, (Lit.int .u64 x).wf = true) : ∀ i, i < Q.length → ∃ q : Nat, Q.getD i 0 = (q : Int) ∧ q ≤ 18446744073709551615 := fun i hi => by
  have := u64_range (h _ (List.getElem_mem hi))
  rw [getD_of_lt hi]
  exact ⟨(Q[i]).toNat, by omega, by omega⟩
theorem i64s_ok {E : List Int} (h : ∀ x ∈ E, (Lit.int .i64 x).wf = true) : ∀ i, i < E.length → E.getD i 0 ≤ 9223372036854775807 ∧ -9223372036854775808 ≤ E.getD i 0 := fun i hi => by
  have := i64_range (h _ (List.getElem_mem hi))
  rw [getD_of_lt hi]
  omega
theorem take_one {cs : List Value} {j : Nat} {v : Value} (h : (cs.drop j).take 1 = [v]) : cs[j]? = some v := by
  rcases hd : cs.drop j with _ | ⟨x, r⟩
  · rw [hd] at h; simp at h
  · rw [hd] at h
    have hx : x = v := by simpa using h
    have := congrArg (·[0]?) hd
    simp only [List.getElem?_drop, Nat.add_zero] at this
    rw [this, hx]
    rfl
theorem open_step {t tu tq te ti : TypeId} {f0 f1 f2 f3 : Field} {fuel : Nat} {cs : List Value} {y : DataW H × List MemPlace} {ad : Addr} {i : Nat}
    (hs : P.underlying t = some (.struct #[f0, f1, f2, f3])) (o0 : f0.offset = 0) (o1 : f1.offset = 1) (o2 : f2.offset = 2) (o3 : f3.offset = 3) (t0 : f0.type = tu) (t1 : f1.type = tu) (t2 : f2.type = tq) (t3 : f3.type = te)
    (hu : P.underlying tu = some (.int .u64)) (hq : P.underlying tq = some (.slice tu)) (he : P.underlying te = some (.slice ti)) (hi : P.underlying ti = some (.int .i64)) (cu : P.cellsOf tu = 1) (cq : P.cellsOf tq = 1) (ce : P.cellsOf te = 1) (ci : P.cellsOf ti = 1)
    (hat : ∀ j, j < 4 → W.cell? (ad.add (i * 4 + j)) = cs[j]?) (h : DataW.trod enc P W 0 (fun _ => true) true fuel t cs = some y) : ∃ s : PSt, StepAt W W.heap.size ad i s := by
  obtain ⟨xs, n, _, _, hlen, hxl, hf⟩ := DataW.trod_struct hs h
  have hget : ∀ j, j < 4 → ∃ x, xs[j]? = some x := fun j hj => ⟨xs[j]'(by rw [hxl]; exact hj), List.getElem?_eq_getElem _⟩
  obtain ⟨x0, e0⟩ := hget 0 (by decide)
  obtain ⟨x1, e1⟩ := hget 1 (by decide)
  obtain ⟨x2, e2⟩ := hget 2 (by decide)
  obtain ⟨x3, e3⟩ := hget 3 (by decide)
  have g0 := hf 0 f0 rfl
  have g1 := hf 1 f1 rfl
  have g2 := hf 2 f2 rfl
  have g3 := hf 3 f3 rfl
  rw [o0, t0, cu, e0] at g0
  rw [o1, t1, cu, e1] at g1
  rw [o2, t2, cq, e2] at g2
  rw [o3, t3, ce, e3] at g3
  obtain ⟨N, a0, _, w0⟩ := DataW.trod_int hu g0
  obtain ⟨G, a1, _, w1⟩ := DataW.trod_int hu g1
  obtain ⟨AQ, Q, cQ, a2, kQ, wQ, lQ, mQ⟩ := cells_KL hq hu cu g2
  obtain ⟨AE, E, cE, a3, kE, wE, lE, mE⟩ := cells_KL he hi ci g3
  have r0 := u64_range w0
  have r1 := u64_range w1
  unfold maxLen at mQ mE
  refine ⟨⟨N.toNat, G.toNat, Q, E⟩, AQ, cQ, AE, cE, ⟨?_, ?_, ?_, ?_⟩, kQ, kE, ⟨by show Q.length ≤ _; omega, by show E.length ≤ _; omega, lQ, lE⟩, ⟨by show N.toNat ≤ _; omega, by show G.toNat ≤ _; omega⟩, u64s_nat wQ, i64s_ok wE⟩
  · have := (hat 0 (by decide)).trans (take_one a0)
    rw [Nat.add_zero] at this
    rw [this]; show _ = some (Value.int .u64 ((N.toNat : Nat) : Int)); rw [Int.toNat_of_nonneg r0.1]
  · rw [(hat 1 (by decide)).trans (take_one a1)]; show _ = some (Value.int .u64 ((G.toNat : Nat) : Int)); rw [Int.toNat_of_nonneg r1.1]
  · exact (hat 2 (by decide)).trans (take_one a2)
  · exact (hat 3 (by decide)).trans (take_one a3)
theorem list_of_steps {ad : Addr} : ∀ (n : Nat), (∀ i, i < n → ∃ s : PSt, StepAt W W.heap.size ad i s) → ∃ l : List PSt, l.length = n ∧ ∀ i, i < n → StepAt W W.heap.size ad i (l.getD i PSt.nil)
  | 0, _ => ⟨[], rfl, fun i hi => absurd hi (by omega)⟩
  | n + 1, h => by
    obtain ⟨l, hl, hs⟩ := list_of_steps n fun i hi => h i (by omega)
    obtain ⟨s, hn⟩ := h n (by omega)
    refine ⟨l ++ [s], by simp [hl], fun i hi => ?_⟩
    rcases Nat.lt_or_ge i n with h1 | h1
    · have : (l ++ [s]).getD i PSt.nil = l.getD i PSt.nil := by simp [List.getD_eq_getElem?_getD, List.getElem?_append_left (show i < l.length by omega)]
      rw [this]
      exact hs i h1
    · obtain rfl : i = n := by omega
      have : (l ++ [s]).getD i PSt.nil = s := by simp [List.getD_eq_getElem?_getD, List.getElem?_append_right (show l.length ≤ i by omega), hl]
      rw [this]
      exact hn
theorem open_paper {r : Reach} {b0 : Nat} {tl t tu tq te ti : TypeId} {f0 f1 f2 f3 : Field} {v : Value} {d : DataW H} {p : List MemPlace}
    (hl : P.underlying tl = some (.slice t)) (hs : P.underlying t = some (.struct #[f0, f1, f2, f3])) (hct : P.cellsOf t = 4) (o0 : f0.offset = 0) (o1 : f1.offset = 1) (o2 : f2.offset = 2) (o3 : f3.offset = 3) (t0 : f0.type = tu) (t1 : f1.type = tu) (t2 : f2.type = tq) (t3 : f3.type = te)
    (hu : P.underlying tu = some (.int .u64)) (hq : P.underlying tq = some (.slice tu)) (he : P.underlying te = some (.slice ti)) (hi : P.underlying ti = some (.int .i64)) (cu : P.cellsOf tu = 1) (cq : P.cellsOf tq = 1) (ce : P.cellsOf te = 1) (ci : P.cellsOf ti = 1)
    (hv : Value.okWide P W r b0 tl v) (h : DataW.Trod enc P W 0 (fun _ => true) true tl v d p) :
    ∃ (A : Option Addr) (l : List PSt) (c : Nat), v = .slice A l.length c ∧ KP W W.heap.size A l ∧ l.length ≤ c ∧ l.length ≤ 9223372036854775807 := by
  obtain ⟨a1, len1, cap1, rfl⟩ := okWide_slice hl hv
  obtain ⟨fuel, hf⟩ := h
  rcases open_slice hl hf with ⟨h1, _⟩ | ⟨a, len, cap, m, n, D, Pl, h1, _, hle, hm, hmm, _, hel⟩
  · injection h1 with h1
    exact ⟨none, [], 0, h1, fun hn => absurd hn (by simp), by simp, by simp⟩
  · injection h1 with h1
    rw [hct] at hel
    have hmc : m = cap := by simpa using hmm
    have hsteps : ∀ i, i < len → ∃ s : PSt, StepAt W W.heap.size a i s := fun i hi' => by
      obtain ⟨cs', hc, ht'⟩ := hel i (by omega)
      obtain ⟨_, _, hat⟩ := World.cells?_some hc
      exact open_step hs o0 o1 o2 o3 t0 t1 t2 t3 hu hq he hi cu cq ce ci (fun j hj => by rw [← add_of_add]; exact hat j hj) ht'
    obtain ⟨l, hll, hst⟩ := list_of_steps len hsteps
    unfold maxLen at hm
    refine ⟨some a, l, cap, by rw [hll]; exact h1, fun hn => ⟨a, rfl, ?_, fun i hi' => hst i (by omega)⟩, by omega, by omega⟩
    obtain ⟨_, _, _, _, ⟨hc, _⟩, _⟩ := hst 0 (by omega)
    have := World.block_lt_of_cell? W _ hc
    rwa [block_of_add] at this
end
end Go.Proofs.YtkcnigpajhmjiaaDoor
