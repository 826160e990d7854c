/- Contracts: divStep. -/
import Derived.Test.YtdflhidhnejbbaaDivC
import Derived.Test.YtdflhidhnejbbaaTop
namespace Go.Proofs.Ytdflhidhnejbbaa
open Go.RowKit

theorem digit_unique {q V T m : Nat} (hV : 0 < V) (h1 : q * V ≤ T) (h2 : q ≤ m) (h3 : ∀ d, d ≤ m → d * V ≤ T → d ≤ q) : q = min (T / V) m := by
  refine Nat.le_antisymm (Nat.le_min.2 ⟨(Nat.le_div_iff_mul_le hV).2 h1, h2⟩) (h3 _ (Nat.min_le_right _ _) ?_)
  exact Nat.le_trans (Nat.mul_le_mul_right _ (Nat.min_le_left _ _)) (Nat.div_mul_le_self _ _)
/-- The digit is not above the guess. -/
theorem ds_low {P X V V2 vl M T d xl : Nat} (hX : X = xl + P * M * T) (hxl : xl < P * M) (hV : V = vl + M * V2) (hd : d * (V * P) ≤ X) : d * V2 ≤ T := by
  have h1 : d * V2 * (P * M) ≤ d * (V * P) := by
    rw [Nat.mul_assoc]
    apply Nat.mul_le_mul_left
    rw [hV, Nat.add_mul, Nat.mul_comm P M, ← Nat.mul_assoc, Nat.mul_comm V2 M]
    omega
  have h2 : d * V2 * (P * M) < (T + 1) * (P * M) := by
    rw [Nat.add_mul, Nat.mul_comm T]
    omega
  exact Nat.le_of_lt_succ (Nat.lt_of_mul_lt_mul_right h2)
/-- The guess is at most one too great. -/
theorem ds_high {B P X V V2 vl M T q xl : Nat} (hX : X = xl + P * M * T) (hV : V = vl + M * V2) (hvl : vl < M) (hV2 : B ≤ V2) (hqB : q ≤ B) (hq : q * V2 ≤ T) : (q - 1) * (V * P) ≤ X := by
  cases q with
  | zero => simp
  | succ q =>
    rw [Nat.add_sub_cancel]
    have h1 : q * V ≤ M * T := by
      have a1 : q * V = q * vl + M * (q * V2) := by rw [hV, Nat.mul_add, Nat.mul_left_comm]
      have a2 : q * vl ≤ M * V2 := by
        rw [Nat.mul_comm M]
        exact Nat.mul_le_mul (by omega) (by omega)
      have a3 : M * ((q + 1) * V2) ≤ M * T := Nat.mul_le_mul_left _ hq
      rw [Nat.add_mul, Nat.mul_add, Nat.one_mul] at a3
      omega
    have h2 : q * (V * P) ≤ P * M * T := by
      rw [← Nat.mul_assoc, Nat.mul_comm (q * V), Nat.mul_assoc]
      exact Nat.mul_le_mul_left _ h1
    omega
/-- One word of the product, taken from one word. -/
theorem ds_digit (q y r c b : Nat) (hq : q ≤ 18446744073709551615) (hy : y ≤ 18446744073709551615) (hr : r ≤ 18446744073709551615) (hc : c ≤ 18446744073709551615) (hb : b ≤ 1) :
    ∃ hi lo lo1 c1 r' b' : Nat, q * y / 18446744073709551616 = hi ∧ q * y % 18446744073709551616 = lo ∧ (lo + c + 0) % 18446744073709551616 = lo1 ∧ (lo + c + 0) / 18446744073709551616 = c1 ∧
      (r + 18446744073709551616 - lo1 - b) % 18446744073709551616 = r' ∧ (if r < lo1 + b then 1 else 0) = b' ∧
      lo ≤ 18446744073709551615 ∧ hi ≤ 18446744073709551615 ∧ lo1 ≤ 18446744073709551615 ∧ c1 ≤ 1 ∧ r' ≤ 18446744073709551615 ∧ b' ≤ 1 ∧ hi + c1 ≤ 18446744073709551615 ∧ r' + q * y + c + b = r + 18446744073709551616 * (hi + c1 + b') := by
  refine ⟨_, _, _, _, _, _, rfl, rfl, rfl, rfl, rfl, rfl, ?_⟩
  have h1 : q * y ≤ 18446744073709551615 * 18446744073709551615 := Nat.mul_le_mul hq hy
  generalize q * y = p at *
  split
  · refine ⟨by omega, by omega, by omega, by omega, by omega, by omega, by omega, by omega⟩
  · refine ⟨by omega, by omega, by omega, by omega, by omega, by omega, by omega, by omega⟩
theorem ds_step {B W s X r r' c b c' b' q y a P Pi s' : Nat} (h1 : s' + Pi * r = s + Pi * r') (h2 : s + q * P * a = X + Pi * (c + b)) (h3 : r' + q * y + c + b = r + B * (c' + b')) (hP : Pi = P * W) :
    s' + q * P * (a + W * y) = X + Pi * B * (c' + b') := by
  have e1 : Pi * (r' + q * y + c + b) = Pi * (r + B * (c' + b')) := by rw [h3]
  have e2 : q * P * (a + W * y) = q * P * a + Pi * (q * y) := by
    rw [Nat.mul_add, hP, show q * P * (W * y) = P * W * (q * y) by simp only [Nat.mul_comm, Nat.mul_left_comm]]
  have e3 : Pi * (r' + q * y + c + b) = Pi * r' + Pi * (q * y) + Pi * (c + b) := by
    rw [show r' + q * y + c + b = r' + q * y + (c + b) by omega, Nat.mul_add, Nat.mul_add]
  have e4 : Pi * (r + B * (c' + b')) = Pi * r + Pi * B * (c' + b') := by rw [Nat.mul_add, Nat.mul_assoc]
  omega
/-- The last word. -/
theorem ds_last {s s2 X Y P r r' c b b2 B : Nat} (h1 : s2 + P * r = s + P * r') (h2 : s + Y = X + P * (c + b)) (h3 : r' + c + b = r + B * b2) : s2 + Y = X + P * B * b2 := by
  have e : P * (r' + c + b) = P * (r + B * b2) := by rw [h3]
  rw [show r' + c + b = r' + (c + b) by omega, Nat.mul_add, Nat.mul_add P r, ← Nat.mul_assoc] at e
  omega
theorem ds_right {X Y q d s : Nat} (hY : 0 < Y) (hd : X / Y = d) (hqd : q ≤ d + 1) (hdq : d ≤ q) (h : s + q * Y = X) : q = d ∧ s = X % Y := by
  have h1 : q ≤ d := by rw [← hd]; exact (Nat.le_div_iff_mul_le hY).2 (by omega)
  have h2 : q = d := by omega
  have h3 := Nat.div_add_mod X Y
  rw [hd, Nat.mul_comm, ← h2] at h3
  exact ⟨h2, by omega⟩
theorem ds_wrong {X Y q d s L : Nat} (hd : X / Y = d) (hqd : q ≤ d + 1) (hdq : d ≤ q) (hs : s < L) (h : s + q * Y = X + L) : q = d + 1 ∧ s + Y = X % Y + L := by
  have h3 := Nat.div_add_mod X Y
  rw [hd, Nat.mul_comm] at h3
  have h2 : q = d + 1 := by
    rcases Nat.lt_or_ge d q with h4 | h4
    · omega
    · have h5 : q = d := by omega
      rw [h5] at h
      omega
  rw [h2, Nat.add_mul, Nat.one_mul] at h
  exact ⟨h2, by omega⟩
theorem ds_back {s4 s3 lo P t c B X L : Nat} (hL : L = P * B) (h1 : s4 + P * t = s3 + P * 0) (h2 : s3 + P * c = X + L) (h3 : s3 = lo + P * t) (hlo : lo < P) (ht : t < B) (hc : c ≤ 1) : t + c = B ∧ s4 = X := by
  have h5 : P * B < P * (t + c + 1) := by rw [← hL, Nat.mul_add, Nat.mul_add]; omega
  have h6 : B < t + c + 1 := Nat.lt_of_mul_lt_mul_left h5
  have h7 : t + c = B := by omega
  have h8 : P * t + P * c = L := by rw [← Nat.mul_add, h7, hL]
  exact ⟨h7, by omega⟩

theorem grown_drewN {a b : World} {r : Option Nat} (h : a.grownBy b r) (n : Nat) : a.grownBy (b.drewN n) r := ⟨h.os, h.tape, h.output, h.size, h.block⟩
theorem grown_set {a b : World} {g : Nat} (h : a.grownBy b (some g)) (k : Nat) (v : Value) : a.grownBy (b.setCell ⟨g, k, none⟩ v) (some g) :=
  h.trans ⟨rfl, rfl, rfl, by simp [World.setCell], fun i hi hne => by
    exact Below.heap_setCell _ _ _ _ (fun e => hne (by rw [e]))⟩
theorem KL.grown {k : IntKind} {w w' : World} {B g : Nat} {A : Option Addr} {xs : List Int} (h : KL k w B A xs) (hg : w.grownBy w' (some g)) (hB : B ≤ g) (hw : B ≤ w.heap.size) : KL k w' B A xs :=
  h.keep fun p hp => hg.cell_far p (by omega) (by simp; omega)
theorem KL.get_ {k : IntKind} {w : World} {B : Nat} {ad : Addr} {xs : List Int} (h : KL k w B (some ad) xs) {j : Nat} (hj : j < xs.length) : w.cell? (ad.add j) = some (.int k (xs.getD j 0)) := by
  obtain ⟨ad', e, _, hc⟩ := h (by omega)
  injection e with e
  subst e
  exact hc j hj
theorem digit_any (u2 u1 u0 v1 v0 : Nat) (h2 : u2 ≤ v1) (hv : 0 < v1) (b1 : u1 ≤ 18446744073709551615) (b0 : u0 ≤ 18446744073709551615) (c1 : v1 ≤ 18446744073709551615) (c0 : v0 ≤ 18446744073709551615) :
    ∃ q : Nat, (∀ w : World, Calls Try.prog 60 #[.int .u64 (u2 : Int), .int .u64 (u1 : Int), .int .u64 (u0 : Int), .int .u64 (v1 : Int), .int .u64 (v0 : Int)] w fun e w' => e = .returned (.int .u64 (q : Int)) ∧ ∃ n, w' = w.drewN n) ∧
      q * (v1 * 18446744073709551616 + v0) ≤ (u2 * 18446744073709551616 + u1) * 18446744073709551616 + u0 ∧ q ≤ 18446744073709551615 ∧
      (∀ d, d ≤ 18446744073709551615 → d * (v1 * 18446744073709551616 + v0) ≤ (u2 * 18446744073709551616 + u1) * 18446744073709551616 + u0 → d ≤ q) := by
  have hV : 0 < v1 * 18446744073709551616 + v0 := by omega
  refine ⟨min (((u2 * 18446744073709551616 + u1) * 18446744073709551616 + u0) / (v1 * 18446744073709551616 + v0)) 18446744073709551615, fun w => ?_, ?_, Nat.min_le_right _ _, fun d h1 h2 => Nat.le_min.2 ⟨(Nat.le_div_iff_mul_le hV).2 h2, h1⟩⟩
  · have h : Calls Try.prog 60 #[.int .u64 (u2 : Int), .int .u64 (u1 : Int), .int .u64 (u0 : Int), .int .u64 (v1 : Int), .int .u64 (v0 : Int)] w fun e w' => Digit u2 u1 u0 v1 v0 w e w' := by
      rcases Nat.lt_or_ge u2 v1 with hlt | hge
      · exact digit_lt u2 u1 u0 v1 v0 w hlt (by omega) b1 b0 c1 c0
      · obtain rfl : u2 = v1 := by omega
        exact digit_eq u1 u0 u2 v0 w hv b1 b0 c1 c0
    exact h.mono fun e w' ⟨q, he, a1, a2, a3, hw⟩ => ⟨by rw [he, digit_unique hV a1 a2 a3], hw⟩
  · exact Nat.le_trans (Nat.mul_le_mul_right _ (Nat.min_le_left _ _)) (Nat.div_mul_le_self _ _)

theorem above_zero {b : Nat} {S : List Int} {p : Nat} (hp : p ≤ S.length) (h : val b S < b ^ p) : val b (S.drop p) = 0 := by
  have h1 := val_take_drop (b := b) (xs := S) p hp
  rcases Nat.eq_zero_or_pos (val b (S.drop p)) with h0 | h0
  · exact h0
  · have : b ^ p * 1 ≤ b ^ p * val b (S.drop p) := Nat.mul_le_mul_left _ h0
    omega
theorem below_of_drop {b : Nat} {S S2 : List Int} {p : Nat} (hd : Dig b S2) (hp : p ≤ S2.length) (he : S2.drop p = S.drop p) (h0 : val b (S.drop p) = 0) : val b S2 < b ^ p := by
  have h1 := val_take_drop (b := b) (xs := S2) p hp
  have h2 := val_lt (hd.take_ p)
  rw [he, h0, Nat.mul_zero] at h1
  rw [List.length_take, Nat.min_eq_left hp] at h2
  omega
theorem three_top {b : Nat} {S : List Int} {k x y z : Nat} (hl : k + 2 < S.length) (hlt : val b S < b ^ (k + 3)) (hx : S.getD (k + 2) 0 = x) (hy : S.getD (k + 1) 0 = y) (hz : S.getD k 0 = z) : val b S = val b (S.take k) + b ^ k * ((x * b + y) * b + z) := by
  have h0 := above_zero (p := k + 3) (by omega) hlt
  have h1 := val_take_drop (b := b) (xs := S) k (by omega)
  rw [drop_at (k := k) (by omega), val_cons, drop_at (k := k + 1) (by omega), val_cons, drop_at (k := k + 1 + 1) (by omega), val_cons, h0, hx, hy, hz] at h1
  rw [h1]
  simp only [Int.toNat_natCast, Nat.mul_zero, Nat.add_zero]
  congr 2
  rw [Nat.mul_comm (x * b + y) b, Nat.mul_comm x b, Nat.add_comm (b * x) y]
  omega
theorem two_top {b : Nat} {S : List Int} {k x y : Nat} (hl : S.length = k + 2) (hx : S.getD (k + 1) 0 = x) (hy : S.getD k 0 = y) : val b S = val b (S.take k) + b ^ k * (x * b + y) := by
  have h1 := val_take_drop (b := b) (xs := S) k (by omega)
  rw [drop_at (k := k) (by omega), val_cons, drop_at (k := k + 1) (by omega), val_cons, List.drop_of_length_le (by omega), hx, hy] at h1
  rw [h1]
  simp only [Int.toNat_natCast, val, Nat.mul_zero, Nat.add_zero]
  congr 2
  rw [Nat.mul_comm x b]
  omega
theorem top_le {X V P u v M L B xl : Nat} (hX : X = xl + L * u) (hlt : X < V * (P * B)) (hV : V ≤ M * (v + 1)) (hL : L = M * (P * B)) : u ≤ v := by
  have h1 : V * (P * B) ≤ M * (v + 1) * (P * B) := Nat.mul_le_mul_right _ hV
  have h2 : L * u < L * (v + 1) := by
    rw [show M * (v + 1) * (P * B) = L * (v + 1) by rw [hL, Nat.mul_right_comm]] at h1
    omega
  exact Nat.le_of_lt_succ (Nat.lt_of_mul_lt_mul_left h2)
end Go.Proofs.Ytdflhidhnejbbaa
