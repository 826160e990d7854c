/- Contracts: which numbers may be. -/
import Derived.Test.YtdflhidhnejbbaaAwake
namespace Go.Proofs.Ytdflhidhnejbbaa
open Go.RowKit

set_option maxHeartbeats 400000 in
theorem refright_any (A : Option Addr) (xs : List Int) (c : Nat) (w : World) (h : KL .u32 w w.heap.size A xs) (hl : xs.length ≤ 9223372036854775807) :
    Calls Try.prog 30 #[.slice A xs.length c] w fun e w' => e = .returned (.bool (canB xs)) ∧ w = w' := by
  by_cases h0 : xs.length = 0
  · have e := List.eq_nil_of_length_eq_zero h0
    subst e
    clear h h0 hl
    go_enter Try.func30, Try.ntmps30
    go_wp2
    go_ret
    exact ⟨rfl, rfl⟩
  · obtain ⟨ad, rfl, _, hcc⟩ := h (by omega)
    have hcell := hcc (xs.length - 1) (by omega)
    obtain ⟨x, hx⟩ : ∃ x, xs.getD (xs.length - 1) 0 = x := ⟨_, rfl⟩
    rw [hx] at hcell
    have HX : Hid (canB xs = (x != 0)) := Lib.hid (by
      unfold canB
      rw [hx, Bool.eq_iff_iff, decide_eq_true_iff, bne_iff_ne]
      constructor
      · rintro (h | h)
        · omega
        · exact h
      · exact .inr)
    have hne : ((xs.length : Int) == 0) = false := by rw [beq_eq_false_iff_ne]; omega
    have hpos : 1 ≤ xs.length := by omega
    clear hcc hx h0
    go_enter Try.func30, Try.ntmps30
    go_wp2
    all_goals go_ret
    all_goals exact ⟨ret_bool (by rw [HX.out]), rfl⟩


def mayB (xs ys : List Int) : Bool := decide (xs.length ≤ 40) && decide (ys.length ≤ 40) && canB xs && canB ys
set_option maxHeartbeats 400000 in
theorem may_any (A B : Option Addr) (xs ys : List Int) (c d : Nat) (w : World) (h : KL .u32 w w.heap.size A xs) (h' : KL .u32 w w.heap.size B ys) (hxl : xs.length ≤ 9223372036854775807) (hyl : ys.length ≤ 9223372036854775807) :
    Calls Try.prog 11 #[.slice A xs.length c, .slice B ys.length d] w fun e w' => e = .returned (.bool (mayB xs ys)) ∧ w = w' := by
  obtain ⟨p, hp⟩ : ∃ p, canB xs = p := ⟨_, rfl⟩
  obtain ⟨q, hq⟩ : ∃ q, canB ys = q := ⟨_, rfl⟩
  have h1 := refright_any A xs c w h hxl
  have h2 := refright_any B ys d w h' hyl
  rw [hp] at h1
  rw [hq] at h2
  have H1 := Lib.hid h1
  have H2 := Lib.hid h2
  have HM : Hid (mayB xs ys = (decide (xs.length ≤ 40) && decide (ys.length ≤ 40) && p && q)) := Lib.hid (by unfold mayB; rw [hp, hq])
  clear h1 h2 h h' hp hq
  by_cases hx : xs.length ≤ 40
  · by_cases hy : ys.length ≤ 40
    · rw [decide_eq_true hx, decide_eq_true hy] at HM
      cases p
      all_goals
        go_enter Try.func11, Try.ntmps11
        go_wp2_with (first
          | (go_at_call 30; (with_reducible refine H1.out.mono ?_); rintro e w' ⟨rfl, rfl⟩)
          | (go_at_call 30; (with_reducible refine H2.out.mono ?_); rintro e w' ⟨rfl, rfl⟩))
        go_ret
        exact ⟨ret_bool (by rw [HM.out]; rfl), rfl⟩
    · rw [decide_eq_true hx, decide_eq_false hy] at HM
      go_enter Try.func11, Try.ntmps11
      go_wp2
      go_ret
      exact ⟨ret_bool (by rw [HM.out]; rfl), rfl⟩
  · rw [decide_eq_false hx] at HM
    go_enter Try.func11, Try.ntmps11
    go_wp2
    go_ret
    exact ⟨ret_bool (by rw [HM.out]; rfl), rfl⟩
theorem may_parts {xs ys : List Int} (h : mayB xs ys = true) (hd : D32 xs) (hd' : D32 ys) : ∃ n m, xs = limbs n ∧ ys = limbs m ∧ (limbs n).length ≤ 40 ∧ (limbs m).length ≤ 40 := by
  unfold mayB at h
  simp only [Bool.and_eq_true, decide_eq_true_iff] at h
  obtain ⟨⟨⟨h1, h2⟩, h3⟩, h4⟩ := h
  have e1 := limbs_nv (canB_iff.1 h3) hd
  have e2 := limbs_nv (canB_iff.1 h4) hd'
  exact ⟨nv xs, nv ys, e1.symm, e2.symm, by rw [e1]; exact h1, by rw [e2]; exact h2⟩
end Go.Proofs.Ytdflhidhnejbbaa
