/- Contracts: what a quotient's coefficients take away (a closure of DivMod). Contracts: DivMod. -/
import Derived.Test.YtlndchmpnnlacaaDoorMulP
import Derived.Deep.DeepCutAuto
namespace Go.Proofs.YtlndchmpnnlacaaDoor
open Go.RowKit

/-- The coefficients from a place on. -/
def fromL (S : List Int) (low : Nat) : Nat → Int := fun t => if low ≤ t then co S t else 0
theorem fromL_zero (S : List Int) : fromL S 0 = co S := by funext t; unfold fromL; rw [if_pos (Nat.zero_le _)]
theorem taken_sum {S ys : List Int} {k low lo m : Nat} (_h1 : lo + m ≤ S.length) (h2 : lo + m ≤ k + 1) (h3 : ∀ i, i < lo → i < low ∨ ys.length ≤ k - i) (h4 : lo + m = S.length ∨ lo + m = k + 1) (h5 : low ≤ lo) :
    dotS (subL S lo m) ys (k - lo) m = conv (fromL S low) (co ys) k := by
  unfold conv dotS
  have e1 : sumZ (k + 1) (fun i => fromL S low i * co ys (k - i)) = sumZ (lo + m) (fun i => fromL S low i * co ys (k - i)) := by
    refine sumZ_more _ h2 fun i h6 h7 => ?_
    rcases h4 with h4 | h4
    · unfold fromL
      rw [co_beyond (by omega)]
      simp
    · omega
  rw [e1, sumZ_split, sumZ_nought lo _ (fun i hi => by
    rcases h3 i hi with h | h
    · unfold fromL
      rw [if_neg (by omega), Int.zero_mul]
    · rw [co_beyond h, Int.mul_zero]), Int.zero_add]
  exact sumZ_congr fun i hi => by
    unfold fromL
    rw [subL_co hi, if_pos (by omega), show k - lo - i = k - (lo + i) by omega]
theorem taken_none {S ys : List Int} {k low lo : Nat} (h : ∀ i, i ≤ k → i < S.length → lo ≤ i → False) (h3 : ∀ i, i < lo → i < low ∨ ys.length ≤ k - i) : conv (fromL S low) (co ys) k = 0 :=
  sumZ_nought _ _ fun i hi => by
    unfold fromL
    by_cases h1 : i < S.length
    · have h2 : i < lo := Nat.lt_of_not_le fun h2 => h i (by omega) h1 h2
      rcases h3 i h2 with h4 | h4
      · rw [if_neg (by omega), Int.zero_mul]
      · rw [co_beyond h4, Int.mul_zero]
    · rw [co_beyond (by omega)]
      simp
set_option maxHeartbeats 4000000 in
theorem taken_any (p top k low P T Q Gb : Nat) (D B : Option Addr) (S ys : List Int) (c d : Nat) (w : World) (h : KL .u32 w w.heap.size D S) (h' : KL .u32 w w.heap.size B ys) (hp : p ≤ 2147483647) (hp0 : 0 < p)
    (hd : Dig p S) (hd' : Dig p ys) (hT : w.cell? ⟨T, 0, none⟩ = some (.int .i64 (top : Int))) (hQ : w.cell? ⟨Q, 0, none⟩ = some (.slice D S.length c)) (hP : w.cell? ⟨P, 0, none⟩ = some (.int .u32 (p : Int)))
    (hG : w.cell? ⟨Gb, 1, none⟩ = some (.slice B ys.length d)) (hc : S.length ≤ c) (htop : top + 1 = ys.length) (hk : k ≤ 1099511627776) (hlow : low ≤ 1099511627777) (hS : S.length ≤ 1099511627776) (htl : top ≤ 1099511627776) :
    Calls Tryd.prog 74 #[.int .i64 (k : Int), .int .i64 (low : Int), .pointer (some ⟨T, 0, none⟩), .pointer (some ⟨Q, 0, none⟩), .pointer (some ⟨P, 0, none⟩), .pointer (some ⟨Gb, 0, none⟩)] w fun e w' => e = .returned (.int .u32 (conv (fromL S low) (co ys) k % (p : Int))) ∧ ∃ m, w' = w.drewN m := by
  obtain ⟨lo, hlo⟩ : ∃ lo, max low (k - top) = lo := ⟨_, rfl⟩
  obtain ⟨hi, hhi⟩ : ∃ hi, min (k + 1) S.length = hi := ⟨_, rfl⟩
  have l1 : max (low : Int) ((k : Int) - (top : Int)) = (lo : Int) := by omega
  have l2 : min (k : Int) ((S.length : Int) - 1) = (hi : Int) - 1 := by omega
  have hd3 : ∀ i, i < lo → i < low ∨ ys.length ≤ k - i := fun i hi => by omega
  by_cases hlt : lo < hi
  · obtain ⟨m, hm⟩ : ∃ m, hi - lo = m := ⟨_, rfl⟩
    obtain ⟨tp, htp⟩ : ∃ tp, k - lo = tp := ⟨_, rfl⟩
    have HV := Lib.hid (taken_sum (S := S) (ys := ys) (k := k) (low := low) (lo := lo) (m := m) (by omega) (by omega) hd3 (by omega) (by omega))
    obtain ⟨ad, rfl, _, _⟩ := h (by omega)
    have HK := Lib.hid (h.sub (low := lo) (m := m) (by omega))
    obtain ⟨z, hz⟩ : ∃ z, conv (fromL S low) (co ys) k % (p : Int) = z := ⟨_, rfl⟩
    have HZ := Lib.hid hz
    have HDT : Hid (∀ t : Nat, Calls Tryd.prog 69 #[.int .u32 (p : Int), .slice (some (ad.add lo)) m (c - lo), .slice B ys.length d, .int .i64 (tp : Int)] (w.drewN t) fun e w' => e = .returned (.int .u32 z) ∧ w.drewN t = w') := Lib.hid fun t => by
      have h3 := dot_any p tp (some (ad.add lo)) B (subL S lo m) ys (c - lo) d (w.drewN t) (show KL .u32 w w.heap.size _ _ from HK.out) (show KL .u32 w w.heap.size _ _ from h') hp hp0 (subL_dig hd) hd' (by rw [subL_len (by omega)]; omega) (fun _ => by omega) (by omega)
      rw [subL_len (by omega), ← htp, HV.out, HZ.out, htp] at h3
      exact h3
    have l5 : (k : Int) - (lo : Int) = (tp : Int) := by omega
    have i1 : ¬ (hi : Int) - 1 < (lo : Int) := by omega
    have i2 : (lo : Int) ≤ (hi : Int) := by omega
    have i3 : (hi : Int) ≤ (c : Int) := by omega
    have i4 : ¬ c = lo := by omega
    have i5 : hi - lo = m := hm
    have HZZ : Hid (z = conv (fromL S low) (co ys) k % (p : Int)) := Lib.hid hz.symm
    rw [hz]
    clear h h' hd hd' hd3 hz hlo hhi hm htp
    go_enter Tryd.func74, Tryd.ntmps74
    go_wp2
    have e1 : IntKind.i64.wrap ((hi : Int) - 1 + 1) = (hi : Int) := by rw [IntKind.wrap_i64]; omega
    have e2 : IntKind.i64.wrap (tp : Int) = (tp : Int) := by rw [IntKind.wrap_i64]; omega
    have e3 : (0 : Int) ≤ (lo : Int) := by omega
    have e4 : IntKind.i64.wrap (hi : Int) = (hi : Int) := by rw [IntKind.wrap_i64]; omega
    go_quiet ((go_at_call 69; exact quiet_left (HDT.out _)))
    go_wp2
    go_ret
    exact ⟨rfl, _, rfl⟩
  · have HV : Hid (conv (fromL S low) (co ys) k = 0) := Lib.hid (taken_none (lo := lo) (fun i h1 h2 h3 => by omega) hd3)
    have i1 : (hi : Int) - 1 < (lo : Int) := by omega
    have HE : Hid (0 = conv (fromL S low) (co ys) k % (p : Int)) := Lib.hid (by rw [HV.out]; rfl)
    clear h h' hd hd' hd3 hlo hhi HV
    go_enter Tryd.func74, Tryd.ntmps74
    go_wp2
    go_ret
    exact ⟨ret_int HE.out, 0, rfl⟩
end Go.Proofs.YtlndchmpnnlacaaDoor

namespace Go.Proofs.YtlndchmpnnlacaaDoor
open Go.RowKit

/-- What DivMod has laid: both polynomials, the cells of its results, and the variables that its closure bears. -/
def DL (w : World) (p : Nat) (v u : Value) (top P T : Nat) (W : World) : Prop :=
  (W.cell? ⟨w.heap.size, 0, none⟩ = some (.int .u32 (p : Int)) ∧ W.cell? ⟨w.heap.size, 1, none⟩ = some v) ∧
  (W.cell? ⟨w.heap.size + 1, 0, none⟩ = some (.int .u32 (p : Int)) ∧ W.cell? ⟨w.heap.size + 1, 1, none⟩ = some u) ∧
  (∃ a b, W.cell? ⟨w.heap.size + 1 + 1, 0, none⟩ = some a ∧ W.cell? ⟨w.heap.size + 1 + 1, 1, none⟩ = some b) ∧
  (W.frozen? ⟨w.heap.size + 1 + 1, 0, none⟩ = false ∧ W.frozen? ⟨w.heap.size + 1 + 1, 1, none⟩ = false) ∧
  (∃ a b, W.cell? ⟨w.heap.size + 1 + 1 + 1, 0, none⟩ = some a ∧ W.cell? ⟨w.heap.size + 1 + 1 + 1, 1, none⟩ = some b) ∧
  (W.frozen? ⟨w.heap.size + 1 + 1 + 1, 0, none⟩ = false ∧ W.frozen? ⟨w.heap.size + 1 + 1 + 1, 1, none⟩ = false) ∧
  (W.cell? ⟨P, 0, none⟩ = some (.int .u32 (p : Int)) ∧ W.cell? ⟨T, 0, none⟩ = some (.int .i64 (top : Int))) ∧
  (w.heap.size + 4 ≤ P ∧ P < w.heap.size + 6 ∧ w.heap.size + 4 ≤ T ∧ T < w.heap.size + 6) ∧ w.heap.size + 6 ≤ W.heap.size ∧ Below w.heap.size w W
theorem DL.up {w : World} {p : Nat} {v u : Value} {top P T : Nat} {W W' : World} (h : DL w p v u top P T W) (hb : Below (w.heap.size + 6) W W') : DL w p v u top P T W' := by
  obtain ⟨⟨a1, a2⟩, ⟨a3, a4⟩, ⟨x1, x2, a5, a6⟩, ⟨f1, f2⟩, ⟨x3, x4, a7, a8⟩, ⟨f3, f4⟩, ⟨a9, a10⟩, hr, hs, hbw⟩ := h
  have c : ∀ b o, b < w.heap.size + 6 → W'.cell? ⟨b, o, none⟩ = W.cell? ⟨b, o, none⟩ := fun b o h => hb.cell (p := ⟨b, o, none⟩) h
  have f : ∀ b o, b < w.heap.size + 6 → W'.frozen? ⟨b, o, none⟩ = W.frozen? ⟨b, o, none⟩ := fun b o h => hb.frozen (p := ⟨b, o, none⟩) h
  exact ⟨⟨(c _ _ (by omega)).trans a1, (c _ _ (by omega)).trans a2⟩, ⟨(c _ _ (by omega)).trans a3, (c _ _ (by omega)).trans a4⟩, ⟨x1, x2, (c _ _ (by omega)).trans a5, (c _ _ (by omega)).trans a6⟩,
    ⟨(f _ _ (by omega)).trans f1, (f _ _ (by omega)).trans f2⟩, ⟨x3, x4, (c _ _ (by omega)).trans a7, (c _ _ (by omega)).trans a8⟩, ⟨(f _ _ (by omega)).trans f3, (f _ _ (by omega)).trans f4⟩,
    ⟨(c _ _ (by omega)).trans a9, (c _ _ (by omega)).trans a10⟩, hr, Nat.le_trans hs hb.size, hbw.trans (hb.mono (by omega))⟩
/-- Above a place the quotient's coefficients are what they must be. -/
def QInv (p : Nat) (xs ys : List Int) (top n k : Nat) (S : List Int) : Prop := ∀ j, k ≤ j → j < n → (p : Int) ∣ conv (co S) (co ys) (j + top) - co xs (j + top)
theorem conv_low {S S' ys : List Int} {i j top : Nat} (htop : top + 1 = ys.length) (hj : i < j) (h : ∀ t, t ≠ i → co S t = co S' t) : conv (co S) (co ys) (j + top) = conv (co S') (co ys) (j + top) := by
  unfold conv
  refine sumZ_congr fun t _ => ?_
  by_cases e : t = i
  · rw [e, co_beyond (xs := ys) (by omega), Int.mul_zero, Int.mul_zero]
  · rw [h t e]
theorem conv_split {S ys : List Int} {i top : Nat} (htop : top + 1 = ys.length) : conv (co S) (co ys) (i + top) = co S i * co ys top + conv (fromL S (i + 1)) (co ys) (i + top) := by
  unfold conv
  rw [show i + top + 1 = i + (top + 1) by omega, sumZ_split, sumZ_nought i _ (fun t ht => by rw [co_beyond (xs := ys) (by omega), Int.mul_zero]), Int.zero_add, sumZ_front, sumZ_split, sumZ_nought i (fun t => fromL S (i + 1) t * _) (fun t ht => by unfold fromL; rw [if_neg (by omega), Int.zero_mul]), Int.zero_add, sumZ_front]
  have e1 : fromL S (i + 1) (i + 0) = 0 := by unfold fromL; rw [if_neg (by omega)]
  rw [e1, Int.zero_mul, Int.zero_add, Nat.add_zero, show i + top - i = top by omega]
  congr 1
  exact sumZ_congr fun t ht => by unfold fromL; rw [if_pos (by omega)]
theorem set_co {S : List Int} {i : Nat} (hi : i < S.length) (z : Int) : co (S.set i z) i = z ∧ ∀ t, t ≠ i → co (S.set i z) t = co S t := by
  unfold co
  exact ⟨by simp [List.getD_eq_getElem?_getD, hi], fun t ht => by simp [List.getD_eq_getElem?_getD, List.getElem?_set_ne (Ne.symm ht)]⟩
theorem fromL_set {S : List Int} {i : Nat} (hi : i < S.length) (z : Int) : fromL (S.set i z) (i + 1) = fromL S (i + 1) := by
  funext t
  unfold fromL
  by_cases h : i + 1 ≤ t
  · rw [if_pos h, if_pos h, (set_co hi z).2 t (by omega)]
  · rw [if_neg h, if_neg h]
theorem QInv.next {p : Nat} {xs ys S : List Int} {top n i x tv sv z ld iv : Nat} (h : QInv p xs ys top n (i + 1) S) (hi : i < S.length) (htop : top + 1 = ys.length) (hld : co ys top = (ld : Int)) (hx : co xs (i + top) = (x : Int))
    (htv : (tv : Int) = conv (fromL S (i + 1)) (co ys) (i + top) % (p : Int)) (htp : tv < p) (hsv : (x + p - tv) % p = sv) (hz : iv * sv % p = z) (hiv : (p : Int) ∣ (ld : Int) * (iv : Int) - 1) : QInv p xs ys top n i (S.set i (z : Int)) := by
  obtain ⟨h1, h2⟩ := set_co hi (z : Int)
  intro j hj hjn
  by_cases e : j = i
  · subst e
    rw [conv_split htop, h1, hld, fromL_set hi, hx]
    have a1 : (p : Int) ∣ (tv : Int) - conv (fromL S (j + 1)) (co ys) (j + top) := by
      rw [htv]
      exact ⟨-(conv (fromL S (j + 1)) (co ys) (j + top) / p), by have := Int.emod_add_mul_ediv (conv (fromL S (j + 1)) (co ys) (j + top)) p; rw [Int.mul_neg]; omega⟩
    have a2 : (p : Int) ∣ (sv : Int) - ((x : Int) - (tv : Int)) := by
      rw [← hsv, Int.natCast_emod, show ((x + p - tv : Nat) : Int) = (x : Int) - (tv : Int) + (p : Int) by omega, Int.add_emod_right]
      exact ⟨-(((x : Int) - (tv : Int)) / p), by have := Int.emod_add_mul_ediv ((x : Int) - (tv : Int)) p; rw [Int.mul_neg]; omega⟩
    have a3 : (p : Int) ∣ (z : Int) - (iv : Int) * (sv : Int) := by
      rw [← hz, Int.natCast_emod, Int.natCast_mul]
      exact ⟨-(((iv : Int) * (sv : Int)) / p), by have := Int.emod_add_mul_ediv ((iv : Int) * (sv : Int)) p; rw [Int.mul_neg]; omega⟩
    have b1 := Int.dvd_mul_of_dvd_left (c := (ld : Int)) a3
    have b2 := Int.dvd_mul_of_dvd_left (c := (sv : Int)) hiv
    have b3 := Int.dvd_sub (Int.dvd_add (Int.dvd_add b1 b2) a2) a1
    have e1 : ((z : Int) - (iv : Int) * (sv : Int)) * (ld : Int) + ((ld : Int) * (iv : Int) - 1) * (sv : Int) + ((sv : Int) - ((x : Int) - (tv : Int))) - ((tv : Int) - conv (fromL S (j + 1)) (co ys) (j + top)) = (z : Int) * (ld : Int) + conv (fromL S (j + 1)) (co ys) (j + top) - (x : Int) := by
      rw [Int.sub_mul, Int.sub_mul, Int.one_mul, Int.mul_right_comm (iv : Int), Int.mul_comm (iv : Int) (ld : Int)]
      omega
    rw [e1] at b3
    exact b3
  · rw [conv_low htop (show i < j by omega) (fun t ht => h2 t ht)]
    exact h j (by omega) hjn
/-- The division is one. -/
theorem div_done {p : Nat} {xs ys S U : List Int} {top n m : Nat} (_hp : 0 < p) (htop : top + 1 = ys.length) (hn : xs.length - top = n) (hm : min xs.length top = m) (hS : S.length = n) (hq : QInv p xs ys top n 0 S) (hU : RowF U m m (fun k => (co xs k - conv (co S) (co ys) k) % (p : Int))) (hSd : Dig p S) (hUd : Dig p U) : IsDiv p xs ys (trimZ S) (trimZ U) := by
  have hpol : ∀ {L : List Int}, Dig p L → Pol p (trimZ L) := fun {L} h => ⟨fun x hx => by
    obtain ⟨i, hi, rfl⟩ := List.getElem_of_mem hx
    have h1 := trimZ_co L i
    have h2 : co (trimZ L) i = (trimZ L)[i] := by simp [co, List.getD_eq_getElem?_getD, hi]
    have h3 := trimZ_len L
    rw [← h2, h1]
    exact h.at_ (k := i) (by omega), trimZ_can L⟩
  refine ⟨hpol hSd, hpol hUd, ?_, fun i => ?_⟩
  · have := trimZ_len U
    have := hU.1
    omega
  · have e1 : co (trimZ S) = co S := funext (trimZ_co S)
    dsimp only
    rw [e1, trimZ_co U i]
    by_cases h1 : i < m
    · have h2 : co U i = (co xs i - conv (co S) (co ys) i) % (p : Int) := hU.2.1 i h1
      rw [h2]
      exact ⟨(co xs i - conv (co S) (co ys) i) / p, by have := Int.emod_add_mul_ediv (co xs i - conv (co S) (co ys) i) p; omega⟩
    · have h2 : co U i = 0 := co_beyond (by rw [hU.1]; omega)
      rw [h2, Int.add_zero]
      by_cases h3 : top ≤ i ∧ i - top < n
      · have := hq (i - top) (by omega) h3.2
        rw [show i - top + top = i by omega] at this
        have := Int.dvd_neg.2 this
        rwa [Int.neg_sub] at this
      · have h4 : conv (co S) (co ys) i = 0 := by
          by_cases h5 : n = 0
          · have : S = [] := List.eq_nil_of_length_eq_zero (by omega)
            rw [this]
            exact sumZ_nought _ _ fun t _ => by rw [co_nil_at, Int.zero_mul]
          · exact conv_beyond (n := S.length) (m := ys.length) (fun j hj => co_beyond hj) (fun j hj => co_beyond hj) i (by omega)
        rw [h4, co_beyond (by omega)]
        exact Int.dvd_zero _
theorem own_lt {w : World} {base g n c m : Nat} {e : TypeId} {xs : List Value} (h : w.ownsRow base e 1 (.slice (some ⟨g, 0, none⟩) n c) m xs) : g < w.heap.size ∧ base ≤ g := by
  rcases h.2 with ⟨hv, _⟩ | ⟨g', cap, cur, hv, hb, hh, _⟩
  · simp at hv
  · injection hv with h1
    injection h1 with h1
    injection h1 with h1
    subst h1
    exact ⟨(Array.getElem?_eq_some_iff.1 hh).1, hb⟩
theorem below_undrew {B : Nat} {a w : World} (h : Below B a.drew w) : Below B a w := ⟨h.os, h.tape, h.output, h.size, h.block⟩
theorem ne_of_block {a b : Addr} (h : a.block ≠ b.block) : a ≠ b := fun e => h (by rw [e])
/-- A call hands back a quotient and a rest. -/
def MadeD (p : Nat) (q r : List Int) (w : World) (e : Ending) (w' : World) : Prop :=
  ∃ A c B d, e = .returned (.tuple #[.agg #[.int .u32 (p : Int), .slice A q.length c], .agg #[.int .u32 (p : Int), .slice B r.length d], .int .i64 0]) ∧ KF .u32 w' w.heap.size w'.heap.size A q ∧ KF .u32 w' w.heap.size w'.heap.size B r ∧ q.length ≤ c ∧ r.length ≤ d ∧ Below w.heap.size w w'
set_option maxRecDepth 100000 in
set_option maxHeartbeats 16000000 in
theorem divmod_yes (p : Nat) (A B : Option Addr) (xs ys : List Int) (c d : Nat) (w : World) (h : KL .u32 w w.heap.size A xs) (h' : KL .u32 w w.heap.size B ys) (hp : p ≤ 2147483647) (hpr : PrimeN p)
    (hx : Pol p xs) (hy : Pol p ys) (ny : ys ≠ []) (hxl : xs.length ≤ 549755813888) (hyl : ys.length ≤ 549755813888) :
    Calls Tryd.prog 46 #[.agg #[.int .u32 (p : Int), .slice A xs.length c], .agg #[.int .u32 (p : Int), .slice B ys.length d]] w fun e w' => MadeD p (divP p xs ys) (modP p xs ys) w e w' := by
  obtain ⟨i0, hi0, hz0, hz1, hz2⟩ := info_parts u32_info
  obtain ⟨top, htop⟩ : ∃ top, top + 1 = ys.length := ⟨ys.length - 1, by have := List.length_pos_iff.2 ny; omega⟩
  have y0 : ((ys.length : Int) == 0) = false := by rw [beq_eq_false_iff_ne]; omega
  have t1 : (ys.length : Int) - 1 = (top : Int) := by omega
  have H := Lib.hid h; clear h
  have H' := Lib.hid h'; clear h'
  have HX := Lib.hid hx; clear hx
  have HY := Lib.hid hy; clear hy
  have HTOP := Lib.hid htop
  clear htop
  go_enter Tryd.func46, Tryd.ntmps46
  go_upto_region 3 with (fail)
  go_cut [7, 8] (fun s7 s8 wx => ∃ P T : Nat, s7 = .pointer (some ⟨P, 0, none⟩) ∧ s8 = .pointer (some ⟨T, 0, none⟩) ∧ DL w p (.slice A xs.length c) (.slice B ys.length d) top P T wx)
  case first =>
    go_region
    all_goals (go_step; go_step)
    · go_meet
      case rel => exact ⟨_, _, rfl, rfl, ⟨by go_cell, by go_cell⟩, ⟨by go_cell, by go_cell⟩, ⟨.int .u32 0, .slice none 0 0, by go_cell, by go_cell⟩, ⟨by go_cell, by go_cell⟩, ⟨.int .u32 0, .slice none 0 0, by go_cell, by go_cell⟩, ⟨by go_cell, by go_cell⟩, ⟨by go_cell, by go_cell⟩, ⟨by omega, by omega, by omega, by omega⟩, by simp, by go_grown⟩
    · go_meet
      case rel => exact ⟨_, _, rfl, rfl, ⟨by go_cell, by go_cell⟩, ⟨by go_cell, by go_cell⟩, ⟨.int .u32 0, .slice none 0 0, by go_cell, by go_cell⟩, ⟨by go_cell, by go_cell⟩, ⟨.int .u32 0, .slice none 0 0, by go_cell, by go_cell⟩, ⟨by go_cell, by go_cell⟩, ⟨by go_cell, by go_cell⟩, ⟨by omega, by omega, by omega, by omega⟩, by simp, by go_grown⟩
  case rest =>
    obtain ⟨P, T, rfl, rfl, hDL⟩ := hcut
    have HDL := Lib.hid hDL
    obtain ⟨⟨a1, a2⟩, ⟨a3, a4⟩, ⟨x1, x2, a5, a6⟩, ⟨f1, f2⟩, ⟨x3, x4, a7, a8⟩, ⟨f3, f4⟩, ⟨a9, a10⟩, ⟨r1, r2, r3, r4⟩, hs, hbw⟩ := hDL
    obtain ⟨bd, rfl, _, hcc⟩ := (H'.out.below hbw) (by omega)
    have hct := hcc top (by omega)
    have HLD := HY.out.lead_bd ny
    obtain ⟨ld, hld⟩ : ∃ ld : Nat, lead ys = ld := ⟨(lead ys).toNat, by omega⟩
    have hldc : ys.getD top 0 = (ld : Int) := by rw [← hld]; unfold lead co; rw [show ys.length - 1 = top by have := HTOP.out; omega]
    rw [hldc] at hct
    rw [hld] at HLD
    obtain ⟨iv, hiv⟩ : ∃ iv, ld ^ (p - 2) % p = iv := ⟨_, rfl⟩
    have HIV : Hid (∀ W : World, Calls Tryd.prog 57 #[.int .u32 (p : Int), .int .u32 (ld : Int)] W fun e w' => e = .returned (.tuple #[.int .u32 (iv : Int), .int .i64 0]) ∧ W = w') := Lib.hid fun W => by rw [← hiv]; exact minv_any p ld W hpr hp (by omega) (by omega)
    obtain ⟨n, hn⟩ : ∃ n, xs.length - top = n := ⟨_, rfl⟩
    have hN : max 0 ((xs.length : Int) - (top : Int)) = (n : Int) := by omega
    have hnl : n ≤ 549755813888 := by omega
    have i1 : (top : Int) < (ys.length : Int) := by have := HTOP.out; omega
    have i2 : (0 : Int) ≤ (top : Int) := by omega
    have HLDI : Hid (∃ a : Int, a = (ld : Int) ∧ (iv : Int) = invN p a ∧ 0 < a ∧ a < p) := Lib.hid ⟨ld, rfl, by unfold invN; rw [Int.toNat_natCast, hiv], by omega, by omega⟩
    have hldy : Hid (co ys top = (ld : Int)) := Lib.hid hldc
    clear hcc hldc hld hiv hbw
    go_wp2
    go_quiet ((go_at_call 57; first | exact quiet_left (HIV.out _) | exact quiet_add_left (HIV.out _)))
    obtain ⟨W0, hW0⟩ : ∃ W0, wc.drewN nq = W0 := ⟨_, rfl⟩
    rw [hW0]
    have HD0 : Hid (DL w p (.slice A xs.length c) (.slice (some bd) ys.length d) top P T W0) := Lib.hid (by rw [← hW0]; exact HDL.out.up (below_drewN (Below.refl _ _) nq))
    clear HDL a1 a2 a3 a4 a5 a6 f1 f2 a7 a8 f3 f4 a9 a10 hs hct hW0
    obtain ⟨⟨a1, a2⟩, ⟨a3, a4⟩, z1, z2, z3, z4, ⟨a9, a10⟩, z5, hs, hbw⟩ := HD0.out
    clear z1 z2 z3 z4 z5
    have HBW := Lib.hid hbw
    clear hbw
    go_wp2_with (at_make; refine wpList_make_full _ rfl _ _ 23 rfl (w.heap.size + 6) 22 i0 (.int .u32 0) 1 Tryd.underlying23 hi0 hz0 hz1 _ _ _ _ n rfl rfl (by simp) (by simp) (by rw [hz2]; omega) (by unfold maxLen; omega) (by omega) ?_; intro w1 hown hg1; have HO := Lib.hid (own_zeros hown); have hs1 := hg1.size; have HD1 := Lib.hid (HD0.out.up ((Below.refl _ _).grown hg1 (by omega) (fun k hk => by cases hk))); clear hown hg1 a1 a2 a3 a4 a9 a10; obtain ⟨⟨a1, a2⟩, ⟨a3, a4⟩, z1, z2, z3, z4, ⟨a9, a10⟩, z5, hs2, hbw⟩ := HD1.out; clear hbw z1 z2 z3 z4 z5)
    have hlt01 := (own_lt HO.out).1
    have HBS : Hid (w.heap.size + 6 ≤ W0.heap.size) := Lib.hid (own_lt HO.out).2
    have HD2 : Hid (DL w p (.slice A xs.length c) (.slice (some bd) ys.length d) top P T (w1.alloc (.cells #[.slice (some ⟨W0.heap.size, 0, none⟩) n n] 23))) := Lib.hid (HD1.out.up ((Below.refl _ _).alloc (by omega) _))
    have HIVD : Hid ((p : Int) ∣ (ld : Int) * (iv : Int) - 1) := Lib.hid (by
      obtain ⟨a, e1, e2, e3, e4⟩ := HLDI.out
      rw [← e1, e2]
      exact invN_mul hpr e3 e4)
    go_loopw [13] (fun i wr => ∃ (k : Nat) (S : List Int), (k = 0 ∧ i = .int .i64 (-1) ∨ ∃ i' : Nat, k = i' + 1 ∧ i = .int .i64 i') ∧ k ≤ n ∧ S.length = n ∧ Dig p S ∧ Hid (QInv p xs ys top n k S) ∧
      wr.ownsRow (w.heap.size + 6) 22 1 (.slice (some ⟨W0.heap.size, 0, none⟩) n n) n (S.map (Value.int .u32)) ∧ wr.cell? ⟨w1.heap.size, 0, none⟩ = some (.slice (some ⟨W0.heap.size, 0, none⟩) n n) ∧
      DL w p (.slice A xs.length c) (.slice (some bd) ys.length d) top P T wr ∧ w1.heap.size < wr.heap.size) (fun i _ => ((intOf i) + 1).toNat)
    case atStart => exact ⟨n, _, by
      by_cases h0 : n = 0
      · exact .inl ⟨h0, by rw [h0]; rfl⟩
      · exact .inr ⟨n - 1, by omega, by rw [show ((n : Int) - 1) = ((n - 1 : Nat) : Int) by omega]⟩, Nat.le_refl _, by simp, Dig.zeros hpr.pos _, Lib.hid (fun j h1 h2 => by omega), HO.out.alloc _, by go_cell, HD2.out, by simp⟩
    case round =>
      clear HO HD1 HD2 HD0 a1 a2 a3 a4 a9 a10 hs hs1 hs2
      obtain ⟨k, S, hk, hkn, hSl, hSd, HQ, hown, hcq, hD, hsz⟩ := hrel
      have HD := Lib.hid hD
      obtain ⟨⟨a1, a2⟩, ⟨a3, a4⟩, z1, z2, z3, z4, ⟨a9, a10⟩, z5, hs, hbw⟩ := hD
      clear z1 z2 z3 z4 z5
      rcases hk with ⟨rfl, rfl⟩ | ⟨i, rfl, rfl⟩
      · obtain ⟨m, hm⟩ : ∃ m, min xs.length top = m := ⟨_, rfl⟩
        have hM : min (xs.length : Int) (top : Int) = (m : Int) := by omega
        have hml : m ≤ 549755813888 := by omega
        have hlr := (own_lt hown).1
        obtain ⟨wo, rfl⟩ : ∃ wo : World, wo = wr := ⟨_, rfl⟩
        obtain ⟨g1, g2, g3⟩ := KF.of_row hown
        have HF3 := Lib.hid g3
        have HSL := Lib.hid hSl
        have HSD := Lib.hid hSd
        have HBW := Lib.hid hbw
        have HHM := Lib.hid hm
        have htl2 : (top : Int) ≤ 549755813888 := by omega
        clear hown g1 g2 g3 hSl hSd hbw hkn hm
        go_wp2_with (at_make; refine wpList_make_full _ rfl _ _ 23 rfl wo.heap.size 22 i0 (.int .u32 0) 1 Tryd.underlying23 hi0 hz0 hz1 _ _ _ _ m rfl rfl (by simp) (by simp) (by rw [hz2]; omega) (by unfold maxLen; omega) (Nat.le_refl _) ?_; intro w4 hown hg1; have HO := Lib.hid (own_zeros hown); have hb4 := (Below.refl wo.heap.size wo).grown hg1 (Nat.le_refl _) (fun k hk => by cases hk); have HF4 := Lib.hid (HF3.out.keep (w' := w4) fun q _ hq => hb4.cell hq); have hcq4 := (hb4.cell (p := ⟨w1.heap.size, 0, none⟩) hsz).trans hcq; have HD4 := Lib.hid (HD.out.up (hb4.mono hs)); have hs5 := hg1.size; clear hown hg1 a1 a2 a3 a4 a9 a10 hcq hb4; obtain ⟨⟨a1, a2⟩, ⟨a3, a4⟩, z1, z2, z3, z4, ⟨a9, a10⟩, z5, hs2, hbw⟩ := HD4.out; clear hbw z1 z2 z3 z4 z5)
        go_loopw [83] (fun i wr => ∃ (j : Nat) (U : List Int), j ≤ m ∧ i = .int .i64 j ∧ RowF U m j (fun k => (co xs k - conv (co S) (co ys) k) % (p : Int)) ∧ Dig p U ∧
          wr.ownsRow wo.heap.size 22 1 (.slice (some ⟨wo.heap.size, 0, none⟩) m m) m (U.map (Value.int .u32)) ∧ KF .u32 wr (w.heap.size + 6) wo.heap.size (some ⟨W0.heap.size, 0, none⟩) S ∧ wr.cell? ⟨w1.heap.size, 0, none⟩ = some (.slice (some ⟨W0.heap.size, 0, none⟩) n n) ∧
          DL w p (.slice A xs.length c) (.slice (some bd) ys.length d) top P T wr ∧ wo.heap.size ≤ wr.heap.size) (fun i _ => m - (intOf i).toNat)
        case atStart => exact ⟨0, _, Nat.zero_le _, rfl, RowF.zero _ _, Dig.zeros hpr.pos _, HO.out, HF4.out, hcq4, HD4.out, hs5⟩
        case round =>
          clear HO HF4 hcq4 HD4 HD HF3 a1 a2 a3 a4 a9 a10 hs2 hs5 HBW
          obtain ⟨j, U, hj, rfl, hU, hUd, hown, hF, hcq, hD, hso⟩ := hrel
          have HD := Lib.hid hD
          obtain ⟨⟨a1, a2⟩, ⟨a3, a4⟩, ⟨y1, y2, a5, a6⟩, ⟨f1, f2⟩, ⟨y3, y4, a7, a8⟩, ⟨f3, f4⟩, ⟨a9, a10⟩, z5, hs3, hbw⟩ := hD
          clear z5
          have HF := Lib.hid hF
          by_cases hlt : j < m
          · obtain ⟨ad, rfl, hab, hcc⟩ := (H.out.below hbw) (by omega)
            have hcell := hcc j (by omega)
            have hr := HX.out.1.at_ (k := j) (by omega)
            obtain ⟨x, hx⟩ : ∃ x : Nat, xs.getD j 0 = x := ⟨(xs.getD j 0).toNat, by omega⟩
            rw [hx] at hcell hr
            have htop := HTOP.out
            obtain ⟨tv, htv⟩ : ∃ tv : Nat, (tv : Int) = conv (co S) (co ys) j % (p : Int) := ⟨(conv (co S) (co ys) j % (p : Int)).toNat, by have := Int.emod_nonneg (conv (co S) (co ys) j) (show (p : Int) ≠ 0 by omega); omega⟩
            have htp : tv < p := by have := Int.emod_lt_of_pos (conv (co S) (co ys) j) (show 0 < (p : Int) by omega); omega
            obtain ⟨z, hz⟩ : ∃ z, (x + p - tv) % p = z := ⟨_, rfl⟩
            have hzp : z < p := by rw [← hz]; exact Nat.mod_lt _ hpr.pos
            have HTK : Hid (∀ t : Nat, Calls Tryd.prog 74 #[.int .i64 (j : Int), .int .i64 0, .pointer (some ⟨T, 0, none⟩), .pointer (some ⟨w1.heap.size, 0, none⟩), .pointer (some ⟨P, 0, none⟩), .pointer (some ⟨w.heap.size + 1, 0, none⟩)] (wr.drewN t) fun e w' => e = .returned (.int .u32 (tv : Int)) ∧ ∃ m, w' = (wr.drewN t).drewN m) := Lib.hid fun t => by
              have h3 := taken_any p top j 0 P T w1.heap.size (w.heap.size + 1) (some ⟨W0.heap.size, 0, none⟩) (some bd) S ys n d (wr.drewN t) (show KL .u32 wr wr.heap.size _ _ from (hF.less (Nat.le_refl _) hso).kl) (show KL .u32 wr wr.heap.size _ _ from (H'.out.below hbw).more hbw.size) hp hpr.pos HSD.out HY.out.1 a10 (by rw [HSL.out]; exact hcq) a9 a4 (by rw [HSL.out]; exact Nat.le_refl _) htop (by omega) (by omega) (by rw [HSL.out]; omega) (by omega)
              rw [fromL_zero, ← htv] at h3
              exact h3
            have HTK1 : Hid (Calls Tryd.prog 74 #[.int .i64 (j : Int), .int .i64 0, .pointer (some ⟨T, 0, none⟩), .pointer (some ⟨w1.heap.size, 0, none⟩), .pointer (some ⟨P, 0, none⟩), .pointer (some ⟨w.heap.size + 1, 0, none⟩)] wr.drew fun e w' => e = .returned (.int .u32 (tv : Int)) ∧ ∃ m, w' = wr.drew.drewN m) := Lib.hid (HTK.out 1)
            have HSU : Hid (∀ W : World, Calls Tryd.prog 68 #[.int .u32 (p : Int), .int .u32 (x : Int), .int .u32 (tv : Int)] W fun e w' => e = .returned (.int .u32 (z : Int)) ∧ W = w') := Lib.hid fun W => by rw [← hz]; exact msub_any p x tv W hp (by omega) htp
            have hfz := hown.frozenAt j
            have hcu := own_cell hown (j := j) (by omega)
            have HOWN := Lib.hid hown
            have HU2 := Lib.hid (hU.next hlt (v := (z : Int)) (by
              have e : co xs j = (x : Int) := hx
              rw [e, ← hz, sub_cast htp, htv, Int.sub_emod, Int.emod_emod, ← Int.sub_emod]) (by omega) (by omega))
            have HUD := Lib.hid (hUd.set_ (v := (z : Int)) (by omega) (by omega) j)
            have j1 : (j : Int) < (xs.length : Int) := by omega
            have j3 : (0 : Int) ≤ (j : Int) := by omega
            have j4 : (j : Int) < (m : Int) := by omega
            have hbs := HBS.out
            have n1 : (⟨w1.heap.size, 0, none⟩ : Addr) ≠ ⟨wo.heap.size, j, none⟩ := ne_of_block (by show w1.heap.size ≠ wo.heap.size; omega)
            have n2 : (⟨P, 0, none⟩ : Addr) ≠ ⟨wo.heap.size, j, none⟩ := ne_of_block (by show P ≠ wo.heap.size; omega)
            have n3 : (⟨T, 0, none⟩ : Addr) ≠ ⟨wo.heap.size, j, none⟩ := ne_of_block (by show T ≠ wo.heap.size; omega)
            have n4 : (⟨w.heap.size, 1, none⟩ : Addr) ≠ ⟨wo.heap.size, j, none⟩ := ne_of_block (by show w.heap.size ≠ wo.heap.size; omega)
            have n5 : ad.add j ≠ ⟨wo.heap.size, j, none⟩ := ne_of_block (by rw [block_of_add]; show ad.block ≠ wo.heap.size; omega)
            clear hcc hx htop htv hz hown hUd hU hbw hF a5 a6 a7 a8 f1 f2 f3 f4
            go_wp2
            go_region_held3 (fun w' => w'.cell? ⟨w1.heap.size, 0, none⟩ = some (.slice (some ⟨W0.heap.size, 0, none⟩) n n) ∧ w'.cell? ⟨P, 0, none⟩ = some (.int .u32 (p : Int)) ∧ w'.cell? ⟨T, 0, none⟩ = some (.int .i64 (top : Int)) ∧ w'.cell? ⟨w.heap.size, 1, none⟩ = some (.slice (some ad) xs.length c) ∧ w'.cell? (ad.add j) = some (.int .u32 (x : Int)))
              (first | go_keep | (go_split_ands; refine ⟨?_, ?_, ?_, ?_, ?_⟩ <;> (rw [World.cell?_setCell_other _ _ _ _ (by first | assumption | (apply Ne.symm; assumption))]; assumption)))
              (first
                | (go_at_call 74; (with_reducible refine HTK1.out.mono ?_); rintro e w' ⟨rfl, m, rfl⟩)
                | (go_at_call 74; (with_reducible refine (HTK.out _).mono ?_); rintro e w' ⟨rfl, m, rfl⟩)
                | (go_at_call 68; (with_reducible refine (HSU.out _).mono ?_); rintro e w' ⟨rfl, rfl⟩))
            go_wp2
            go_roundw
            case rel => exact ⟨j + 1, _, by omega, by go_num, HU2.out, HUD.out, own_set (ownsRow_drewN HOWN.out _) j (z : Int), HF.out.keep (fun q _ hq => World.cell?_setCell_other _ _ _ _ (ne_of_block (by show wo.heap.size ≠ q.block; omega))), (World.cell?_setCell_other _ _ _ _ n1.symm).trans hcq, HD.out.up ((below_drewN (Below.refl _ _) _).setCell (p := ⟨wo.heap.size, j, none⟩) (by show w.heap.size + 6 ≤ wo.heap.size; omega) _), by simpa [World.setCell] using hso⟩
            case measure => simp [intOf]; omega
          · obtain rfl : j = m := by omega
            have hdiv := div_done hpr.pos HTOP.out hn HHM.out HSL.out HQ.out hU HSD.out hUd
            have HDIV := Lib.hid (hdiv.to hpr HX.out HY.out ny)
            obtain ⟨g1, g2, g3⟩ := KF.of_row hown
            have HFU := Lib.hid g3
            have HSZ := Lib.hid hso
            have HT1 : Hid (∀ W : World, Below wr.heap.size wr W → Calls Tryd.prog 63 #[.int .u32 (p : Int), .slice (some ⟨W0.heap.size, 0, none⟩) n n] W fun e w' => e = .returned (.agg #[.int .u32 (p : Int), .slice (some ⟨W0.heap.size, 0, none⟩) (trimZ S).length (trimZ S).length]) ∧ Below W.heap.size W w') := Lib.hid fun W hW => by
              have h := trim_any p (some ⟨W0.heap.size, 0, none⟩) S n W (((HF.out.less (Nat.le_refl _) hso).below hW).kl) (HSD.out.w (by omega)) (by rw [HSL.out]; exact Nat.le_refl _) (by omega)
              rw [HSL.out] at h
              exact h
            have HT2 : Hid (∀ W : World, Below wr.heap.size wr W → Calls Tryd.prog 63 #[.int .u32 (p : Int), .slice (some ⟨wo.heap.size, 0, none⟩) j j] W fun e w' => e = .returned (.agg #[.int .u32 (p : Int), .slice (some ⟨wo.heap.size, 0, none⟩) (trimZ U).length (trimZ U).length]) ∧ Below W.heap.size W w') := Lib.hid fun W hW => by
              have h := trim_any p (some ⟨wo.heap.size, 0, none⟩) U j W ((g3.below hW).kl) (hUd.w (by omega)) (by rw [g1]; exact Nat.le_refl _) (by omega)
              rw [g1] at h
              exact h
            have j1 : ¬ (j : Int) < (j : Int) := by omega
            have hbs := HBS.out
            have HBWR := Lib.hid hbw
            have HREF : Hid (Below wr.heap.size wr wr ∧ Below wr.heap.size wr wr.drew) := Lib.hid ⟨Below.refl _ _, (Below.refl _ _).drew⟩
            clear hdiv g1 g2 g3 hown hU hUd hbw hF
            go_wp2
            go_region_held3 (fun w' => w'.cell? ⟨w1.heap.size, 0, none⟩ = some (.slice (some ⟨W0.heap.size, 0, none⟩) n n) ∧ w'.cell? ⟨P, 0, none⟩ = some (.int .u32 (p : Int)))
              (first | ((try go_split_ands); refine ⟨?_, ?_⟩ <;> ((repeat (rw [World.cell?_setCell_other _ _ _ _ (fun e => by injection e with e1; omega)])); with_reducible assumption)) | (refine ⟨?_, ?_⟩ <;> assumption))
              (first
                | (go_at_call 63; (with_reducible refine (HT1.out _ (by first | exact HREF.out.1 | exact HREF.out.2 | exact HW6.out | exact HW6.out.drew)).mono ?_); rintro e w5 ⟨rfl, hb5⟩; have hw5 : Below wr.heap.size wr w5 := (by first | exact hb5 | exact below_undrew hb5 | exact below_chain HW6.out hb5 | exact below_chain HW6.out.drew hb5); have HW5 := Lib.hid hw5; obtain ⟨t1, t2, ⟨b1, b2, b5, b6⟩, ⟨bf1, bf2⟩, ⟨b3, b4, b7, b8⟩, ⟨bf3, bf4⟩, ⟨b9, t3⟩, t4, t5, t6⟩ := HD.out.up (hw5.mono hs3); have bq := (hw5.cell (p := ⟨w1.heap.size, 0, none⟩) (by show w1.heap.size < _; omega)).trans hcq; have bs := hw5.size; clear hb5 hw5 t1 t2 t3 t4 t5 t6)
                | (go_at_call 63; (with_reducible refine (HT2.out _ (by first | exact HREF.out.1 | exact HREF.out.2 | exact HW5.out | exact HW5.out.drew)).mono ?_); rintro e w6 ⟨rfl, hb5⟩; have hw5 : Below wr.heap.size wr w6 := (by first | exact hb5 | exact below_undrew hb5 | exact below_chain HW5.out hb5 | exact below_chain HW5.out.drew hb5); have HW6 := Lib.hid hw5; obtain ⟨t1, t2, ⟨c1, c2, c5, c6⟩, ⟨cf1, cf2⟩, ⟨c3, c4, c7, c8⟩, ⟨cf3, cf4⟩, ⟨c9, t3⟩, t4, t5, t6⟩ := HD.out.up (hw5.mono hs3); have cq := (hw5.cell (p := ⟨w1.heap.size, 0, none⟩) (by show w1.heap.size < _; omega)).trans hcq; have cs := hw5.size; clear hb5 hw5 t1 t2 t3 t4 t5 t6))
            go_wp2
            obtain ⟨q0, q1⟩ := cells_two (u := .int .u32 (p : Int)) (v := .slice (some ⟨W0.heap.size, 0, none⟩) (trimZ S).length (trimZ S).length) c5 c6
            obtain ⟨W1, hW1⟩ : ∃ W1, (w6.setCell ⟨w.heap.size + 1 + 1, 0, none⟩ (.int .u32 (p : Int))).setCell ⟨w.heap.size + 1 + 1, 1, none⟩ (.slice (some ⟨W0.heap.size, 0, none⟩) (trimZ S).length (trimZ S).length) = W1 := ⟨_, rfl⟩
            have k7 : W1.cell? ⟨w.heap.size + 1 + 1 + 1, 0, none⟩ = some c3 := by rw [← hW1, World.cell?_setCell_other _ _ _ _ (fun e => by injection e with e1; omega), World.cell?_setCell_other _ _ _ _ (fun e => by injection e with e1; omega)]; exact c7
            have k8 : W1.cell? ⟨w.heap.size + 1 + 1 + 1, 1, none⟩ = some c4 := by rw [← hW1, World.cell?_setCell_other _ _ _ _ (fun e => by injection e with e1; omega), World.cell?_setCell_other _ _ _ _ (fun e => by injection e with e1; omega)]; exact c8
            have hF6 : KF .u32 w6 (w.heap.size + 6) w6.heap.size (some ⟨W0.heap.size, 0, none⟩) (trimZ S) := (((HF.out.less (Nat.le_refl _) HSZ.out).below HW6.out).trim)
            have hU6 : KF .u32 w6 (w.heap.size + 6) w6.heap.size (some ⟨wo.heap.size, 0, none⟩) (trimZ U) := ((HFU.out.less (show w.heap.size + 6 ≤ wo.heap.size by omega) (Nat.le_refl _)).below HW6.out).trim
            have hF7 : KF .u32 W1 (w.heap.size + 6) w6.heap.size (some ⟨W0.heap.size, 0, none⟩) (trimZ S) := by rw [← hW1]; exact (hF6.setCell (p := ⟨w.heap.size + 1 + 1, 0, none⟩) (by show w.heap.size + 1 + 1 < _; omega)).setCell (p := ⟨w.heap.size + 1 + 1, 1, none⟩) (by show w.heap.size + 1 + 1 < _; omega)
            have hU7 : KF .u32 W1 (w.heap.size + 6) w6.heap.size (some ⟨wo.heap.size, 0, none⟩) (trimZ U) := by rw [← hW1]; exact (hU6.setCell (p := ⟨w.heap.size + 1 + 1, 0, none⟩) (by show w.heap.size + 1 + 1 < _; omega)).setCell (p := ⟨w.heap.size + 1 + 1, 1, none⟩) (by show w.heap.size + 1 + 1 < _; omega)
            have hs1 : W1.heap.size = w6.heap.size := by rw [← hW1]; simp [World.setCell]
            have hb1 : Below w.heap.size w W1 := by
              have h0 : Below w.heap.size w w6 := HBWR.out.trans (HW6.out.mono HBWR.out.size)
              rw [← hW1]
              exact (h0.setCell (p := ⟨w.heap.size + 1 + 1, 0, none⟩) (by show w.heap.size ≤ w.heap.size + 1 + 1; omega) _).setCell (p := ⟨w.heap.size + 1 + 1, 1, none⟩) (by show w.heap.size ≤ w.heap.size + 1 + 1; omega) _
            rw [hW1] at q0 q1 ⊢
            obtain ⟨q2, q3⟩ := cells_two (u := .int .u32 (p : Int)) (v := .slice (some ⟨wo.heap.size, 0, none⟩) (trimZ U).length (trimZ U).length) k7 k8
            have q4 : ((W1.setCell ⟨w.heap.size + 1 + 1 + 1, 0, none⟩ (.int .u32 (p : Int))).setCell ⟨w.heap.size + 1 + 1 + 1, 1, none⟩ (.slice (some ⟨wo.heap.size, 0, none⟩) (trimZ U).length (trimZ U).length)).cell? ⟨w.heap.size + 1 + 1, 0, none⟩ = some (.int .u32 (p : Int)) := by rw [World.cell?_setCell_other _ _ _ _ (fun e => by injection e with e1; omega), World.cell?_setCell_other _ _ _ _ (fun e => by injection e with e1; omega)]; exact q0
            have q5 : ((W1.setCell ⟨w.heap.size + 1 + 1 + 1, 0, none⟩ (.int .u32 (p : Int))).setCell ⟨w.heap.size + 1 + 1 + 1, 1, none⟩ (.slice (some ⟨wo.heap.size, 0, none⟩) (trimZ U).length (trimZ U).length)).cell? ⟨w.heap.size + 1 + 1, 1, none⟩ = some (.slice (some ⟨W0.heap.size, 0, none⟩) (trimZ S).length (trimZ S).length) := by rw [World.cell?_setCell_other _ _ _ _ (fun e => by injection e with e1; omega), World.cell?_setCell_other _ _ _ _ (fun e => by injection e with e1; omega)]; exact q1
            refine bodyPost_ret (v := .tuple #[.agg #[.int .u32 (p : Int), .slice (some ⟨W0.heap.size, 0, none⟩) (trimZ S).length (trimZ S).length], .agg #[.int .u32 (p : Int), .slice (some ⟨wo.heap.size, 0, none⟩) (trimZ U).length (trimZ U).length], .int .i64 0]) (by simp [results, Tryd.results46, go_sem, q2, q3, q4, q5]) rfl ?_
            have hF8 := (hF7.setCell (p := ⟨w.heap.size + 1 + 1 + 1, 0, none⟩) (v := .int .u32 (p : Int)) (by show w.heap.size + 1 + 1 + 1 < _; omega)).setCell (p := ⟨w.heap.size + 1 + 1 + 1, 1, none⟩) (v := .slice (some ⟨wo.heap.size, 0, none⟩) (trimZ U).length (trimZ U).length) (by show w.heap.size + 1 + 1 + 1 < _; omega)
            have hU8 := (hU7.setCell (p := ⟨w.heap.size + 1 + 1 + 1, 0, none⟩) (v := .int .u32 (p : Int)) (by show w.heap.size + 1 + 1 + 1 < _; omega)).setCell (p := ⟨w.heap.size + 1 + 1 + 1, 1, none⟩) (v := .slice (some ⟨wo.heap.size, 0, none⟩) (trimZ U).length (trimZ U).length) (by show w.heap.size + 1 + 1 + 1 < _; omega)
            have hb2 := (hb1.setCell (p := ⟨w.heap.size + 1 + 1 + 1, 0, none⟩) (by show w.heap.size ≤ w.heap.size + 1 + 1 + 1; omega) (.int .u32 (p : Int))).setCell (p := ⟨w.heap.size + 1 + 1 + 1, 1, none⟩) (by show w.heap.size ≤ w.heap.size + 1 + 1 + 1; omega) (.slice (some ⟨wo.heap.size, 0, none⟩) (trimZ U).length (trimZ U).length)
            rw [← HDIV.out.1, ← HDIV.out.2]
            exact ⟨_, _, _, _, rfl, hF8.less (by omega) (by simp [World.setCell, hs1]), hU8.less (by omega) (by simp [World.setCell, hs1]), Nat.le_refl _, Nat.le_refl _, hb2⟩
      · obtain ⟨ad, rfl, hab, hcc⟩ := (H.out.below hbw) (by omega)
        have hcell := hcc (i + top) (by omega)
        have hr := HX.out.1.at_ (k := i + top) (by omega)
        obtain ⟨x, hx⟩ : ∃ x : Nat, xs.getD (i + top) 0 = x := ⟨(xs.getD (i + top) 0).toNat, by omega⟩
        rw [hx] at hcell hr
        obtain ⟨g1, g2, g3⟩ := KF.of_row hown
        have htop := HTOP.out
        obtain ⟨tv, htv⟩ : ∃ tv : Nat, (tv : Int) = conv (fromL S (i + 1)) (co ys) (i + top) % (p : Int) := ⟨(conv (fromL S (i + 1)) (co ys) (i + top) % (p : Int)).toNat, by have := Int.emod_nonneg (conv (fromL S (i + 1)) (co ys) (i + top)) (show (p : Int) ≠ 0 by omega); omega⟩
        have htp : tv < p := by have := Int.emod_lt_of_pos (conv (fromL S (i + 1)) (co ys) (i + top)) (show 0 < (p : Int) by omega); omega
        obtain ⟨sv, hsv⟩ : ∃ sv, (x + p - tv) % p = sv := ⟨_, rfl⟩
        have hsp : sv < p := by rw [← hsv]; exact Nat.mod_lt _ hpr.pos
        obtain ⟨z, hz⟩ : ∃ z, iv * sv % p = z := ⟨_, rfl⟩
        have hzp : z < p := by rw [← hz]; exact Nat.mod_lt _ hpr.pos
        have hivp : iv < p := by
          obtain ⟨a, e1, e2, e3, e4⟩ := HLDI.out
          have := (invN_bd hpr.pos a).2
          omega
        have HQ2 := Lib.hid (HQ.out.next (i := i) (x := x) (tv := tv) (sv := sv) (z := z) (by omega) htop hldy.out hx htv htp hsv hz HIVD.out)
        have HTK : Hid (∀ t : Nat, Calls Tryd.prog 74 #[.int .i64 ((i : Int) + (top : Int)), .int .i64 ((i : Int) + 1), .pointer (some ⟨T, 0, none⟩), .pointer (some ⟨w1.heap.size, 0, none⟩), .pointer (some ⟨P, 0, none⟩), .pointer (some ⟨w.heap.size + 1, 0, none⟩)] (wr.drewN t) fun e w' => e = .returned (.int .u32 (tv : Int)) ∧ ∃ m, w' = (wr.drewN t).drewN m) := Lib.hid fun t => by
          have h3 := taken_any p top (i + top) (i + 1) P T w1.heap.size (w.heap.size + 1) (some ⟨W0.heap.size, 0, none⟩) (some bd) S ys n d (wr.drewN t) (show KL .u32 wr wr.heap.size _ _ from g3.kl) (show KL .u32 wr wr.heap.size _ _ from (H'.out.below hbw).more hbw.size) hp hpr.pos hSd HY.out.1 a10 (by rw [hSl]; exact hcq) a9 a4 (by omega) htop (by omega) (by omega) (by omega) (by omega)
          rw [← htv] at h3
          rw [show ((i : Int) + (top : Int)) = ((i + top : Nat) : Int) by omega, show ((i : Int) + 1) = ((i + 1 : Nat) : Int) by omega]
          exact h3
        have HTK1 : Hid (Calls Tryd.prog 74 #[.int .i64 ((i : Int) + (top : Int)), .int .i64 ((i : Int) + 1), .pointer (some ⟨T, 0, none⟩), .pointer (some ⟨w1.heap.size, 0, none⟩), .pointer (some ⟨P, 0, none⟩), .pointer (some ⟨w.heap.size + 1, 0, none⟩)] wr.drew fun e w' => e = .returned (.int .u32 (tv : Int)) ∧ ∃ m, w' = wr.drew.drewN m) := Lib.hid (HTK.out 1)
        have HSU : Hid (∀ W : World, Calls Tryd.prog 68 #[.int .u32 (p : Int), .int .u32 (x : Int), .int .u32 (tv : Int)] W fun e w' => e = .returned (.int .u32 (sv : Int)) ∧ W = w') := Lib.hid fun W => by rw [← hsv]; exact msub_any p x tv W hp (by omega) htp
        have HMU : Hid (∀ W : World, Calls Tryd.prog 61 #[.int .u32 (p : Int), .int .u32 (iv : Int), .int .u32 (sv : Int)] W fun e w' => e = .returned (.int .u32 (z : Int)) ∧ W = w') := Lib.hid fun W => by rw [← hz]; exact mmul_any p iv sv W hp hpr.pos hivp hsp
        have hfz := hown.frozenAt i
        have hcu := own_cell hown (j := i) (by omega)
        have HOWN := Lib.hid hown
        have HSD := Lib.hid (hSd.set_ (v := (z : Int)) (by omega) (by omega) i)
        have HSL : Hid ((S.set i (z : Int)).length = n) := Lib.hid (by simpa using hSl)
        have j1 : (i : Int) + (top : Int) < (xs.length : Int) := by omega
        have j2 : (0 : Int) ≤ (i : Int) + (top : Int) := by omega
        have j3 : (0 : Int) ≤ (i : Int) := by omega
        have j4 : (i : Int) < (n : Int) := by omega
        have n1 : (⟨w1.heap.size, 0, none⟩ : Addr) ≠ ⟨W0.heap.size, i, none⟩ := ne_of_block (by show w1.heap.size ≠ W0.heap.size; omega)
        have n2 : (⟨P, 0, none⟩ : Addr) ≠ ⟨W0.heap.size, i, none⟩ := ne_of_block (by show P ≠ W0.heap.size; have := HBS.out; omega)
        have n3 : (⟨T, 0, none⟩ : Addr) ≠ ⟨W0.heap.size, i, none⟩ := ne_of_block (by show T ≠ W0.heap.size; have := HBS.out; omega)
        have n4 : (⟨w.heap.size, 1, none⟩ : Addr) ≠ ⟨W0.heap.size, i, none⟩ := ne_of_block (by show w.heap.size ≠ W0.heap.size; have := HBS.out; omega)
        have n5 : ad.add (i + top) ≠ ⟨W0.heap.size, i, none⟩ := ne_of_block (by rw [block_of_add]; show ad.block ≠ W0.heap.size; have := HBS.out; omega)
        have HBW := Lib.hid hbw
        clear hcc hx g1 g2 g3 htop htv hsv hz hown hSd hSl HQ hbw
        go_wp2
        have e1 : IntKind.i64.wrap ((i : Int) + (top : Int)) = (i : Int) + (top : Int) := by rw [IntKind.wrap_i64]; omega
        have e2 : IntKind.i64.wrap ((i : Int) + 1) = (i : Int) + 1 := by rw [IntKind.wrap_i64]; omega
        have e3 : ((i : Int) + (top : Int)).toNat = i + top := by omega
        go_region_held3 (fun w' => w'.cell? ⟨w1.heap.size, 0, none⟩ = some (.slice (some ⟨W0.heap.size, 0, none⟩) n n) ∧ w'.cell? ⟨P, 0, none⟩ = some (.int .u32 (p : Int)) ∧ w'.cell? ⟨T, 0, none⟩ = some (.int .i64 (top : Int)) ∧ w'.cell? ⟨w.heap.size, 1, none⟩ = some (.slice (some ad) xs.length c) ∧ w'.cell? (ad.add (i + top)) = some (.int .u32 (x : Int)))
          (first | go_keep | (go_split_ands; refine ⟨?_, ?_, ?_, ?_, ?_⟩ <;> (rw [World.cell?_setCell_other _ _ _ _ (by first | assumption | (apply Ne.symm; assumption))]; assumption)))
          (first
            | (go_at_call 74; (with_reducible refine HTK1.out.mono ?_); rintro e w' ⟨rfl, m, rfl⟩)
            | (go_at_call 74; (with_reducible refine (HTK.out _).mono ?_); rintro e w' ⟨rfl, m, rfl⟩)
            | (go_at_call 68; (with_reducible refine (HSU.out _).mono ?_); rintro e w' ⟨rfl, rfl⟩)
            | (go_at_call 61; (with_reducible refine (HMU.out _).mono ?_); rintro e w' ⟨rfl, rfl⟩))
        clear e1 e2 e3
        go_wp2
        go_roundw
        case rel => exact ⟨i, _, by
          rcases Nat.eq_zero_or_pos i with h0 | h0
          · exact .inl ⟨h0, by rw [h0]; rfl⟩
          · exact .inr ⟨i - 1, by omega, by rw [show ((i : Int) - 1) = ((i - 1 : Nat) : Int) by omega]⟩, by omega, HSL.out, HSD.out, HQ2, own_set (ownsRow_drewN HOWN.out _) i (z : Int), (World.cell?_setCell_other _ _ _ _ n1.symm).trans hcq, HD.out.up ((below_drewN (Below.refl _ _) _).setCell (p := ⟨W0.heap.size, i, none⟩) (by have := HBS.out; omega) _), by simpa [World.setCell] using hsz⟩
        case measure => simp [intOf]
end Go.Proofs.YtlndchmpnnlacaaDoor
