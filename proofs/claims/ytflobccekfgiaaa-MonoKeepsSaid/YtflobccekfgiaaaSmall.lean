/- Contracts: the ref's Right, both degrees, signs, orders. -/
import Derived.Test.YtflobccekfgiaaaRight
namespace Go.Proofs.Ytflobccekfgiaaa
open Go.RowKit

set_option maxHeartbeats 400000 in
theorem refright_any (n : Int) (A : Option Addr) (xs : List Int) (c : Nat) (w : World) (h : IL w w.heap.size A xs) (hl : xs.length ≤ 9223372036854775807) :
    Calls Try.prog 12 #[.int .i64 n, .slice A xs.length c] w fun e w' => e = .returned (.bool (rightB n xs)) ∧ w = w' := by
  have H := Lib.hid h; clear h
  by_cases hg : n = xs.length ∧ xs.length ≤ 6
  · have h0 : 0 ≤ n := by omega
    have h6 : n ≤ 6 := by omega
    have HN := Lib.hid hg
    have hn' : (xs.length : Int) = n := by omega
    clear hg hl
    go_enter Try.func12, Try.ntmps12
    go_wp2
    go_loop [5] (fun i => ∃ k : Nat, k ≤ xs.length ∧ i = .int .i64 k ∧ ∀ j, j < k → 0 ≤ xs.getD j 0 ∧ xs.getD j 0 ≤ 60) (fun i => xs.length - (intOf i).toNat)
    case atStart => exact ⟨0, Nat.zero_le _, rfl, fun j hj => absurd hj (by omega)⟩
    case round =>
      obtain ⟨k, hk, rfl, hall⟩ := hrel
      have HA := Lib.hid hall; clear hall
      by_cases hlt : k < xs.length
      · obtain ⟨ad, rfl, _, hc⟩ := H.out (by omega)
        have hcell := hc k hlt
        have hkn : (k : Int) < n := by omega
        obtain ⟨x, hx⟩ : ∃ x, xs.getD k 0 = x := ⟨_, rfl⟩
        rw [hx] at hcell
        have HX := Lib.hid hx
        clear hc hx
        go_wp2
        · go_ret
          exact ⟨ret_bool (rightB_out k hlt (by rw [HX.out]; omega)), rfl⟩
        · go_round
          case rel => exact ⟨k + 1, by omega, by go_num, fun j hj => by
            by_cases e : j = k
            · rw [e, HX.out]; omega
            · exact HA.out j (by omega)⟩
          case measure => simp [intOf]; omega
        · go_ret
          exact ⟨ret_bool (rightB_out k hlt (by rw [HX.out]; omega)), rfl⟩
      · have hkn : ¬ (k : Int) < n := by omega
        go_wp2
        go_ret
        exact ⟨ret_bool (rightB_yes HN.out fun j hj => HA.out j (by omega)), rfl⟩
  · have HN := Lib.hid hg; clear hg
    go_enter Try.func12, Try.ntmps12
    go_wp2
    · go_ret
      exact ⟨ret_bool (rightB_no HN.out), rfl⟩
    · exfalso; apply HN.out; simp at *; omega
    · go_ret
      exact ⟨ret_bool (rightB_no HN.out), rfl⟩
    · go_ret
      exact ⟨ret_bool (rightB_no HN.out), rfl⟩

/-- Of 6 numbers at most, each of a size up to 120. -/
def Lim (m : Int) (xs : List Int) : Prop := xs.length ≤ 6 ∧ ∀ k, k < xs.length → 0 ≤ xs.getD k 0 ∧ xs.getD k 0 ≤ m

def degL (xs : List Int) : Int := xs.foldl (· + ·) 0
theorem degL_snoc (xs : List Int) (x : Int) : degL (xs ++ [x]) = degL xs + x := by simp [degL]
theorem deg_lim {m : Int} {xs : List Int} (hm : 0 ≤ m) (h : Lim m xs) (k : Nat) (hk : k ≤ xs.length) : 0 ≤ degL (xs.take k) ∧ degL (xs.take k) ≤ k * m := by
  induction k with
  | zero => simp [degL]
  | succ k ih =>
    have := ih (by omega)
    have h2 := h.2 k (by omega)
    rw [take_snoc (by omega), degL_snoc]
    have e : ((k + 1 : Nat) : Int) * m = (k : Int) * m + m := by rw [Int.natCast_add]; simp [Int.add_mul]
    omega
theorem deg_lim' {m : Int} {xs : List Int} (hm : 0 ≤ m) (hm2 : m ≤ 120) (h : Lim m xs) (k : Nat) (hk : k ≤ xs.length) : 0 ≤ degL (xs.take k) ∧ degL (xs.take k) ≤ 720 := by
  have h1 := deg_lim hm h k hk
  have h2 : (k : Int) * m ≤ 6 * 120 := by
    have hk6 : (k : Int) ≤ 6 := by have := h.1; omega
    exact Int.mul_le_mul hk6 hm2 hm (by omega)
  omega

set_option maxHeartbeats 400000 in
theorem deg_any (A : Option Addr) (xs : List Int) (c : Nat) (m : Int) (w : World) (h : IL w w.heap.size A xs) (hl : Lim m xs) (hm : 0 ≤ m) (hm2 : m ≤ 120) :
    Calls Try.prog 27 #[.slice A xs.length c] w fun e w' => e = .returned (.int .i64 (degL xs)) ∧ w = w' := by
  have H := Lib.hid h; clear h
  have hl6 := hl.1
  have HL := Lib.hid hl; clear hl
  go_enter Try.func27, Try.ntmps27
  go_wp2
  go_loop [3, 8] (fun s i => ∃ k : Nat, k ≤ xs.length ∧ i = .int .i64 k ∧ s = .int .i64 (degL (xs.take k))) (fun _ i => xs.length - (intOf i).toNat)
  case atStart => exact ⟨0, Nat.zero_le _, rfl, rfl⟩
  case round =>
    obtain ⟨k, hk, rfl, rfl⟩ := hrel
    have hd := deg_lim' hm hm2 HL.out k hk
    by_cases hlt : k < xs.length
    · obtain ⟨ad, rfl, _, hc⟩ := H.out (by omega)
      have hcell := hc k hlt
      have hx0 := HL.out.2 k hlt
      have ht := take_snoc hlt
      obtain ⟨x, hx⟩ : ∃ x, xs.getD k 0 = x := ⟨_, rfl⟩
      rw [hx] at hcell ht hx0
      have HX := Lib.hid hx
      have HT : Hid (degL (xs.take (k + 1)) = degL (xs.take k) + x) := Lib.hid (by rw [ht, degL_snoc])
      clear hc hx ht
      go_wp2
      go_round
      case rel => exact ⟨k + 1, by omega, by go_num, by rw [HT.out]⟩
      case measure => simp [intOf]; omega
    · go_wp2
      go_ret
      exact ⟨ret_int (by rw [List.take_of_length_le (by omega)]), rfl⟩

set_option maxHeartbeats 400000 in
theorem refdeg_any (A : Option Addr) (xs : List Int) (c : Nat) (m : Int) (w : World) (h : IL w w.heap.size A xs) (hl : Lim m xs) (hm : 0 ≤ m) (hm2 : m ≤ 120) :
    Calls Try.prog 28 #[.slice A xs.length c] w fun e w' => e = .returned (.int .i64 (degL xs)) ∧ w = w' := by
  have H := Lib.hid h; clear h
  have hl6 := hl.1
  have HL := Lib.hid hl; clear hl
  go_enter Try.func28, Try.ntmps28
  go_wp2
  go_loop [3, 4] (fun s i => ∃ k : Nat, k ≤ xs.length ∧ i = .int .i64 k ∧ s = .int .i64 (degL (xs.take k))) (fun _ i => xs.length - (intOf i).toNat)
  case atStart => exact ⟨0, Nat.zero_le _, rfl, rfl⟩
  case round =>
    obtain ⟨k, hk, rfl, rfl⟩ := hrel
    have hd := deg_lim' hm hm2 HL.out k hk
    by_cases hlt : k < xs.length
    · obtain ⟨ad, rfl, _, hc⟩ := H.out (by omega)
      have hcell := hc k hlt
      have hx0 := HL.out.2 k hlt
      have ht := take_snoc hlt
      obtain ⟨x, hx⟩ : ∃ x, xs.getD k 0 = x := ⟨_, rfl⟩
      rw [hx] at hcell ht hx0
      have HX := Lib.hid hx
      have HT : Hid (degL (xs.take (k + 1)) = degL (xs.take k) + x) := Lib.hid (by rw [ht, degL_snoc])
      clear hc hx ht
      go_wp2
      go_round
      case rel => exact ⟨k + 1, by omega, by go_num, by rw [HT.out]⟩
      case measure => simp [intOf]; omega
    · go_wp2
      go_ret
      exact ⟨ret_int (by rw [List.take_of_length_le (by omega)]), rfl⟩

def sg (n : Int) : Int := if n < 0 then -1 else if 0 < n then 1 else 0

set_option maxHeartbeats 400000 in
theorem sign_any (n : Int) (w : World) : Calls Try.prog 47 #[.int .i64 n] w fun e w' => e = .returned (.int .i64 (sg n)) ∧ w = w' := by
  go_enter Try.func47, Try.ntmps47
  go_wp2
  all_goals go_ret
  all_goals exact ⟨ret_int (by unfold sg; (repeat' split) <;> omega), rfl⟩

set_option maxHeartbeats 400000 in
theorem refsign_any (n : Int) (w : World) : Calls Try.prog 45 #[.int .i64 n] w fun e w' => e = .returned (.int .i64 (sg n)) ∧ w = w' := by
  go_enter Try.func45, Try.ntmps45
  go_wp2
  all_goals go_ret
  all_goals exact ⟨ret_int (by unfold sg; split <;> (try split) <;> omega), rfl⟩

def orderB (n k c : Int) : Bool := decide (0 ≤ n ∧ n ≤ 6 ∧ ((k = 3 ∧ 0 ≤ c ∧ c ≤ n) ∨ (0 ≤ k ∧ k ≤ 2 ∧ c = 0)))

set_option maxHeartbeats 400000 in
theorem order_any (n k c : Int) (w : World) : Calls Try.prog 13 #[.int .i64 n, .agg #[.int .i64 k, .int .i64 c]] w fun e w' => e = .returned (.bool (orderB n k c)) ∧ Below w.heap.size w w' := by
  go_enter Try.func13, Try.ntmps13
  go_wp2
  all_goals go_ret
  all_goals refine ⟨ret_bool (Bool.eq_iff_iff.2 ?_), by go_grown⟩
  all_goals (simp [orderB] at *; try omega)

set_option maxHeartbeats 400000 in
theorem reforder_any (n k c : Int) (w : World) : Calls Try.prog 14 #[.int .i64 n, .agg #[.int .i64 k, .int .i64 c]] w fun e w' => e = .returned (.bool (orderB n k c)) ∧ Below w.heap.size w w' := by
  go_enter Try.func14, Try.ntmps14
  go_wp2
  all_goals go_ret
  all_goals refine ⟨ret_bool (Bool.eq_iff_iff.2 ?_), by go_grown⟩
  all_goals (simp [orderB] at *; try omega)
end Go.Proofs.Ytflobccekfgiaaa
