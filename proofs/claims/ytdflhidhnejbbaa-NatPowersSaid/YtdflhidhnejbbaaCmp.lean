/- Contracts: Right, Cmp, Same. -/
import Derived.Test.YtdflhidhnejbbaaTrim
namespace Go.Proofs.Ytdflhidhnejbbaa
open Go.RowKit

def cmpV (xs ys : List Int) : Int := if xs.length < ys.length then -1 else if ys.length < xs.length then 1 else if nv xs < nv ys then -1 else if nv ys < nv xs then 1 else 0
def cmpN (n m : Nat) : Int := if n < m then -1 else if m < n then 1 else 0
theorem cmpV_self (xs : List Int) : 0 = cmpV xs xs := by unfold cmpV; simp
theorem drop_at {xs : List Int} {k : Nat} (h : k < xs.length) : xs.drop k = xs.getD k 0 :: xs.drop (k + 1) := by
  rw [List.drop_eq_getElem_cons h, getD_of_lt h]
theorem nv_less {xs ys : List Int} (hl : xs.length = ys.length) (hd : D32 xs) (hd' : D32 ys) {j : Nat} (hj : j < xs.length) (e : xs.drop (j + 1) = ys.drop (j + 1)) (h : xs.getD j 0 < ys.getD j 0) : nv xs < nv ys := by
  have h1 := val_take_drop (b := 4294967296) (xs := xs) (j + 1) (by omega)
  have h2 := val_take_drop (b := 4294967296) (xs := ys) (j + 1) (by omega)
  rw [e] at h1
  rw [val_take_succ j hj] at h1
  rw [val_take_succ j (by omega)] at h2
  have h3 := val_lt (hd.take_ j)
  rw [List.length_take, Nat.min_eq_left (by omega)] at h3
  have hx := word_range hd hj
  have hy := word_range hd' (k := j) (by omega)
  have h4 : (xs.getD j 0).toNat + 1 ≤ (ys.getD j 0).toNat := by omega
  have h5 : 4294967296 ^ j * ((xs.getD j 0).toNat + 1) ≤ 4294967296 ^ j * (ys.getD j 0).toNat := Nat.mul_le_mul_left _ h4
  rw [Nat.mul_add] at h5
  unfold nv
  omega
theorem cmpV_lt {xs ys : List Int} (hl : xs.length = ys.length) (hd : D32 xs) (hd' : D32 ys) {j : Nat} (hj : j < xs.length) (e : xs.drop (j + 1) = ys.drop (j + 1)) (h : xs.getD j 0 < ys.getD j 0) : cmpV xs ys = -1 := by
  have := nv_less hl hd hd' hj e h
  unfold cmpV
  rw [if_neg (by omega), if_neg (by omega), if_pos this]
theorem cmpV_gt {xs ys : List Int} (hl : xs.length = ys.length) (hd : D32 xs) (hd' : D32 ys) {j : Nat} (hj : j < xs.length) (e : xs.drop (j + 1) = ys.drop (j + 1)) (h : ys.getD j 0 < xs.getD j 0) : cmpV xs ys = 1 := by
  have := nv_less hl.symm hd' hd (by omega) e.symm h
  unfold cmpV
  rw [if_neg (by omega), if_neg (by omega), if_neg (by omega), if_pos this]
theorem cmpV_limbs (n m : Nat) : cmpV (limbs n) (limbs m) = cmpN n m := by
  have key : ∀ {n m : Nat}, (limbs n).length < (limbs m).length → n < m := by
    intro n m h
    have h1 := limbs_lt n
    have h2 := limbs_low (n := m) (limbs_len_pos.1 (by omega))
    have h3 : 4294967296 ^ (limbs n).length ≤ 4294967296 ^ ((limbs m).length - 1) := Nat.pow_le_pow_right (by omega) (by omega)
    omega
  unfold cmpV cmpN
  rw [nv_limbs, nv_limbs]
  by_cases h1 : (limbs n).length < (limbs m).length
  · rw [if_pos h1, if_pos (key h1)]
  · rw [if_neg h1]
    by_cases h2 : (limbs m).length < (limbs n).length
    · have := key h2
      rw [if_pos h2, if_neg (by omega), if_pos this]
    · rw [if_neg h2]

def canB (xs : List Int) : Bool := decide (xs.length = 0 ∨ xs.getD (xs.length - 1) 0 ≠ 0)
theorem canB_iff {xs : List Int} : canB xs = true ↔ Can xs := by
  unfold canB Can
  rw [decide_eq_true_iff]
  constructor
  · rintro (h | h) k hk
    · omega
    · rw [show k = xs.length - 1 by omega]; exact h
  · intro h
    by_cases e : xs.length = 0
    · exact .inl e
    · exact .inr (h _ (by omega))
theorem canB_limbs (n : Nat) : canB (limbs n) = true := canB_iff.2 (limbs_can n)

set_option maxHeartbeats 400000 in
theorem cmp_lists (A B : Option Addr) (xs ys : List Int) (c d : Nat) (w : World) (h : KL .u32 w w.heap.size A xs) (h' : KL .u32 w w.heap.size B ys) (hd : D32 xs) (hd' : D32 ys) (hxl : xs.length ≤ 4611686018427387904) (hyl : ys.length ≤ 4611686018427387904) :
    Calls Try.prog 18 #[.slice A xs.length c, .slice B ys.length d] w fun e w' => e = .returned (.int .i64 (cmpV xs ys)) ∧ ∃ n, w' = w.drewN n := by
  by_cases hl : xs.length = ys.length
  · have H := Lib.hid h; clear h
    have H' := Lib.hid h'; clear h'
    have HD := Lib.hid hd; clear hd
    have HD' := Lib.hid hd'; clear hd'
    have HL := Lib.hid hl
    have hb : (((xs.length : Int) != (ys.length : Int)) = false) := by rw [hl]; simp
    clear hl
    go_enter Try.func18, Try.ntmps18
    go_wp2
    go_loopw [5] (fun i wr => ∃ k n : Nat, k ≤ xs.length ∧ i = .int .i64 ((k : Int) - 1) ∧ wr = w.drewN n ∧ xs.drop k = ys.drop k) (fun i _ => (intOf i + 1).toNat)
    case atStart => exact ⟨xs.length, 0, Nat.le_refl _, rfl, rfl, by have := HL.out; rw [List.drop_of_length_le (Nat.le_refl _), List.drop_of_length_le (by omega)]⟩
    case round =>
      obtain ⟨k, n, hk, rfl, rfl, hall⟩ := hrel
      have HA := Lib.hid hall; clear hall
      by_cases hlt : 0 < k
      · obtain ⟨j, hj⟩ : ∃ j, k = j + 1 := ⟨k - 1, by omega⟩
        subst hj
        have hlt : j < xs.length := by omega
        have hlt' : j < ys.length := by have := HL.out; omega
        have hidx : ((j + 1 : Nat) : Int) - 1 = (j : Int) := by omega
        rw [hidx]
        clear hidx
        obtain ⟨ad, rfl, _, hcc⟩ := H.out (by omega)
        obtain ⟨bd, rfl, _, hcc'⟩ := H'.out (by omega)
        have hcell := hcc j hlt
        have hcell' := hcc' j hlt'
        have hx1 := word_range HD.out hlt
        have hy1 := word_range HD'.out hlt'
        obtain ⟨x, hx⟩ : ∃ x, xs.getD j 0 = x := ⟨_, rfl⟩
        obtain ⟨y, hy⟩ : ∃ y, ys.getD j 0 = y := ⟨_, rfl⟩
        rw [hx] at hcell hx1
        rw [hy] at hcell' hy1
        have HXE := Lib.hid hx
        have HYE := Lib.hid hy
        clear hcc hx hcc' hy
        by_cases hxy : x = y
        · have HXY := Lib.hid hxy
          have hb2 : (x != y) = false := by rw [hxy]; simp
          clear hxy
          go_wp2
          go_quiet (fail)
          go_wp2
          go_roundw
          case rel => exact ⟨j, _, by omega, rfl, rfl, by rw [drop_at hlt, drop_at hlt', HXE.out, HYE.out, HXY.out, HA.out]⟩
          case measure => simp [intOf] <;> omega
        · have hb2 : (x != y) = true := by simp [hxy]
          have HXY := Lib.hid hxy
          clear hxy
          by_cases hless : x < y
          · have HLESS := Lib.hid hless
            go_wp2
            go_quiet (fail)
            go_wp2
            go_quiet (fail)
            go_wp2
            go_ret
            refine ⟨ret_int ?_, ?_⟩
            · rw [cmpV_lt HL.out HD.out HD'.out hlt HA.out (by rw [HXE.out, HYE.out]; exact HLESS.out)]
            · (try simp only [World.drewN_drewN]); exact ⟨_, rfl⟩
          · have hmore : y < x := by have := HXY.out; omega
            have HMORE := Lib.hid hmore
            go_wp2
            go_quiet (fail)
            go_wp2
            go_quiet (fail)
            go_wp2
            go_ret
            refine ⟨ret_int ?_, ?_⟩
            · rw [cmpV_gt HL.out HD.out HD'.out hlt HA.out (by rw [HXE.out, HYE.out]; exact HMORE.out)]
            · (try simp only [World.drewN_drewN]); exact ⟨_, rfl⟩
      · obtain rfl : k = 0 := by omega
        go_wp2
        go_ret
        exact ⟨ret_int (by have e : xs = ys := HA.out; rw [e, cmpV_self]), _, rfl⟩
  · have hb : (((xs.length : Int) != (ys.length : Int)) = true) := by simp; omega
    clear h h' hd hd'
    by_cases hlt : xs.length < ys.length
    · have HL := Lib.hid hl; clear hl
      go_enter Try.func18, Try.ntmps18
      go_wp2
      go_ret
      exact ⟨ret_int (by unfold cmpV; rw [if_pos hlt]), 0, rfl⟩
    · have HL := Lib.hid hl; clear hl
      go_enter Try.func18, Try.ntmps18
      go_wp2
      go_ret
      exact ⟨ret_int (by unfold cmpV; rw [if_neg hlt, if_pos (by have := HL.out; omega)]), 0, rfl⟩

set_option maxHeartbeats 400000 in
theorem refcmp_lists (A B : Option Addr) (xs ys : List Int) (c d : Nat) (w : World) (h : KL .u32 w w.heap.size A xs) (h' : KL .u32 w w.heap.size B ys) (hd : D32 xs) (hd' : D32 ys) (hxl : xs.length ≤ 4611686018427387904) (hyl : ys.length ≤ 4611686018427387904) :
    Calls Try.prog 19 #[.slice A xs.length c, .slice B ys.length d] w fun e w' => e = .returned (.int .i64 (cmpV xs ys)) ∧ ∃ n, w' = w.drewN n := by
  by_cases hl : xs.length = ys.length
  · have H := Lib.hid h; clear h
    have H' := Lib.hid h'; clear h'
    have HD := Lib.hid hd; clear hd
    have HD' := Lib.hid hd'; clear hd'
    have HL := Lib.hid hl
    have hb : (((xs.length : Int) != (ys.length : Int)) = false) := by rw [hl]; simp
    clear hl
    go_enter Try.func19, Try.ntmps19
    go_wp2
    go_loopw [5] (fun i wr => ∃ k n : Nat, k ≤ xs.length ∧ i = .int .i64 ((k : Int) - 1) ∧ wr = w.drewN n ∧ xs.drop k = ys.drop k) (fun i _ => (intOf i + 1).toNat)
    case atStart => exact ⟨xs.length, 0, Nat.le_refl _, rfl, rfl, by have := HL.out; rw [List.drop_of_length_le (Nat.le_refl _), List.drop_of_length_le (by omega)]⟩
    case round =>
      obtain ⟨k, n, hk, rfl, rfl, hall⟩ := hrel
      have HA := Lib.hid hall; clear hall
      by_cases hlt : 0 < k
      · obtain ⟨j, hj⟩ : ∃ j, k = j + 1 := ⟨k - 1, by omega⟩
        subst hj
        have hlt : j < xs.length := by omega
        have hlt' : j < ys.length := by have := HL.out; omega
        have hidx : ((j + 1 : Nat) : Int) - 1 = (j : Int) := by omega
        rw [hidx]
        clear hidx
        obtain ⟨ad, rfl, _, hcc⟩ := H.out (by omega)
        obtain ⟨bd, rfl, _, hcc'⟩ := H'.out (by omega)
        have hcell := hcc j hlt
        have hcell' := hcc' j hlt'
        have hx1 := word_range HD.out hlt
        have hy1 := word_range HD'.out hlt'
        obtain ⟨x, hx⟩ : ∃ x, xs.getD j 0 = x := ⟨_, rfl⟩
        obtain ⟨y, hy⟩ : ∃ y, ys.getD j 0 = y := ⟨_, rfl⟩
        rw [hx] at hcell hx1
        rw [hy] at hcell' hy1
        have HXE := Lib.hid hx
        have HYE := Lib.hid hy
        clear hcc hx hcc' hy
        by_cases hxy : x = y
        · have HXY := Lib.hid hxy
          have hb2 : ¬ x < y := by omega
          have hb3 : ¬ y < x := by omega
          clear hxy
          go_wp2
          go_quiet (fail)
          go_wp2
          go_quiet (fail)
          go_wp2
          go_roundw
          case rel => exact ⟨j, _, by omega, rfl, rfl, by rw [drop_at hlt, drop_at hlt', HXE.out, HYE.out, HXY.out, HA.out]⟩
          case measure => simp [intOf] <;> omega
        · have HXY := Lib.hid hxy
          clear hxy
          by_cases hless : x < y
          · have HLESS := Lib.hid hless
            go_wp2
            go_quiet (fail)
            go_wp2
            go_ret
            refine ⟨ret_int ?_, ?_⟩
            · rw [cmpV_lt HL.out HD.out HD'.out hlt HA.out (by rw [HXE.out, HYE.out]; exact HLESS.out)]
            · (try simp only [World.drewN_drewN]); exact ⟨_, rfl⟩
          · have hmore : y < x := by have := HXY.out; omega
            have HMORE := Lib.hid hmore
            go_wp2
            go_quiet (fail)
            go_wp2
            go_quiet (fail)
            go_wp2
            go_ret
            refine ⟨ret_int ?_, ?_⟩
            · rw [cmpV_gt HL.out HD.out HD'.out hlt HA.out (by rw [HXE.out, HYE.out]; exact HMORE.out)]
            · (try simp only [World.drewN_drewN]); exact ⟨_, rfl⟩
      · obtain rfl : k = 0 := by omega
        go_wp2
        go_ret
        exact ⟨ret_int (by have e : xs = ys := HA.out; rw [e, cmpV_self]), _, rfl⟩
  · have hb : (((xs.length : Int) != (ys.length : Int)) = true) := by simp; omega
    clear h h' hd hd'
    by_cases hlt : xs.length < ys.length
    · have HL := Lib.hid hl; clear hl
      go_enter Try.func19, Try.ntmps19
      go_wp2
      go_ret
      exact ⟨ret_int (by unfold cmpV; rw [if_pos hlt]), 0, rfl⟩
    · have HL := Lib.hid hl; clear hl
      go_enter Try.func19, Try.ntmps19
      go_wp2
      go_ret
      exact ⟨ret_int (by unfold cmpV; rw [if_neg hlt, if_pos (by have := HL.out; omega)]), 0, rfl⟩

set_option maxHeartbeats 400000 in
theorem right_any (A : Option Addr) (xs : List Int) (c : Nat) (w : World) (h : KL .u32 w w.heap.size A xs) (hl : xs.length ≤ 9223372036854775807) :
    Calls Try.prog 36 #[.slice A xs.length c] w fun e w' => e = .returned (.bool (canB xs)) ∧ w = w' := by
  by_cases h0 : xs.length = 0
  · have e := List.eq_nil_of_length_eq_zero h0
    subst e
    clear h h0 hl
    go_enter Try.func36, Try.ntmps36
    go_wp2
    go_ret
    exact ⟨rfl, rfl⟩
  · obtain ⟨ad, rfl, _, hcc⟩ := h (by omega)
    have hcell := hcc (xs.length - 1) (by omega)
    obtain ⟨x, hx⟩ : ∃ x, xs.getD (xs.length - 1) 0 = x := ⟨_, rfl⟩
    rw [hx] at hcell
    have HX : Hid (canB xs = (x != 0)) := Lib.hid (by
      unfold canB
      rw [hx, Bool.eq_iff_iff, decide_eq_true_iff, bne_iff_ne]
      constructor
      · rintro (h | h)
        · omega
        · exact h
      · exact .inr)
    have hne : ((xs.length : Int) == 0) = false := by rw [beq_eq_false_iff_ne]; omega
    have hpos : 1 ≤ xs.length := by omega
    clear hcc hx h0
    go_enter Try.func36, Try.ntmps36
    go_wp2
    all_goals go_ret
    all_goals exact ⟨ret_bool (by rw [HX.out]), rfl⟩

/-- The same limbs. -/
theorem same_any (n m : Nat) (A B : Option Addr) (c d : Nat) (w : World) (h : KL .u32 w w.heap.size A (limbs n)) (h' : KL .u32 w w.heap.size B (limbs m)) (hxl : (limbs n).length ≤ 4611686018427387904) (hyl : (limbs m).length ≤ 4611686018427387904) :
    Calls Try.prog 41 #[.slice A (limbs n).length c, .slice B (limbs m).length d] w fun e w' => e = .returned (.bool (decide (n = m))) ∧ ∃ n, w' = w.drewN n := by
  have hc := refcmp_lists A B (limbs n) (limbs m) c d w h h' (limbs_dig n) (limbs_dig m) hxl hyl
  rw [cmpV_limbs] at hc
  obtain ⟨r, hr⟩ : ∃ r, cmpN n m = r := ⟨_, rfl⟩
  rw [hr] at hc
  have HR : Hid (decide (n = m) = (r == 0)) := Lib.hid (by rw [← hr, Bool.eq_iff_iff, decide_eq_true_iff, beq_iff_eq]; unfold cmpN; constructor <;> intro h <;> (repeat' split) <;> (try split at h) <;> (try split at h) <;> omega)
  have HC := Lib.hid hc
  clear hc h h' hr hxl hyl
  go_enter Try.func41, Try.ntmps41
  go_wp2_with (go_at_call 19; (with_reducible refine HC.out.mono ?_); rintro e w' ⟨rfl, hw⟩; have HW := Lib.hid hw; clear hw)
  go_ret
  exact ⟨ret_bool (by rw [HR.out]), HW.out⟩
end Go.Proofs.Ytdflhidhnejbbaa
