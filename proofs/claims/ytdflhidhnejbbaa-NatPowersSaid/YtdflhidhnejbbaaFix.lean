/- The fixed fact. -/
import Derived.Test.YtdflhidhnejbbaaDivs
namespace Go.Proofs.Ytdflhidhnejbbaa
open Go.RowKit

theorem limbs_lit {xs : List Int} {n : Nat} (hc : canB xs = true) (hd : ∀ x ∈ xs, 0 ≤ x ∧ x < 4294967296) (e : nv xs = n) : limbs n = xs := by
  rw [← e]
  exact limbs_nv (canB_iff.1 hc) (fun x hx => by have := hd x hx; omega)
theorem KL_c1 {w : World} {g : Nat} {a : Int} (hg : g < w.heap.size) (h0 : w.cell? ⟨g, 0, none⟩ = some (.int .u32 a)) : KL .u32 w w.heap.size (some ⟨g, 0, none⟩) [a] := fun _ =>
  ⟨_, rfl, hg, fun k hk => by
    have : k = 0 := by simpa using hk
    subst this
    exact h0⟩
theorem KL_c2 {w : World} {g : Nat} {a b : Int} (hg : g < w.heap.size) (h0 : w.cell? ⟨g, 0, none⟩ = some (.int .u32 a)) (h1 : w.cell? ⟨g, 1, none⟩ = some (.int .u32 b)) : KL .u32 w w.heap.size (some ⟨g, 0, none⟩) [a, b] := fun _ =>
  ⟨_, rfl, hg, fun k hk => by
    have hk3 : k < 2 := by simpa using hk
    rcases (show k = 0 ∨ k = 1 by omega) with rfl | rfl
    · exact h0
    · exact h1⟩
theorem KL_c3 {w : World} {g : Nat} {a b c : Int} (hg : g < w.heap.size) (h0 : w.cell? ⟨g, 0, none⟩ = some (.int .u32 a)) (h1 : w.cell? ⟨g, 1, none⟩ = some (.int .u32 b)) (h2 : w.cell? ⟨g, 2, none⟩ = some (.int .u32 c)) :
    KL .u32 w w.heap.size (some ⟨g, 0, none⟩) [a, b, c] := fun _ =>
  ⟨_, rfl, hg, fun k hk => by
    have hk3 : k < 3 := by simpa using hk
    rcases (show k = 0 ∨ k = 1 ∨ k = 2 by omega) with rfl | rfl | rfl
    · exact h0
    · exact h1
    · exact h2⟩
/-- A number that was made, as a list of n limbs. -/
def MadeL (n : Nat) (xs : List Int) (w : World) (e : Ending) (w' : World) : Prop :=
  ∃ (A : Option Addr) (c : Nat), e = .returned (.slice A n c) ∧ KL .u32 w' w'.heap.size A xs ∧ Below w.heap.size w w'
theorem MadeN.lit {m n : Nat} {xs : List Int} {w : World} {e : Ending} {w' : World} (h : MadeN m w e w') (hx : limbs m = xs) (hn : xs.length = n) : MadeL n xs w e w' := by
  obtain ⟨A, c, he, hA, hc, hb⟩ := h
  rw [hx] at he hA
  rw [hn] at he
  exact ⟨A, c, he, hA, hb⟩

/-- The law's own 'same'. -/
theorem lawsame_any (n m : Nat) (A B : Option Addr) (c d : Nat) (w : World) (h : KL .u32 w w.heap.size A (limbs n)) (h' : KL .u32 w w.heap.size B (limbs m)) (hxl : (limbs n).length ≤ 4611686018427387904) (hyl : (limbs m).length ≤ 4611686018427387904) :
    Calls Try.prog 15 #[.slice A (limbs n).length c, .slice B (limbs m).length d] w fun e w' => e = .returned (.bool (decide (n = m))) ∧ Below w.heap.size w w' := by
  have HS : Hid _ := Lib.hid (same_any n m A B c d w h h' hxl hyl)
  clear h h'
  go_enter Try.func15, Try.ntmps15
  go_wp2_with (go_at_call 41; (with_reducible refine HS.out.mono ?_); rintro e w' ⟨rfl, k, rfl⟩)
  go_ret
  exact ⟨rfl, below_of_drewN (Below.refl _ _) ⟨k, rfl⟩⟩
theorem limbs_1_1 : limbs 4294967297 = [1, 1] := limbs_lit (by decide) (by decide) (by decide)
theorem limbs_10 : limbs 10 = [10] := limbs_lit (by decide) (by decide) (by decide)
theorem limbs_429496729 : limbs 429496729 = [429496729] := limbs_lit (by decide) (by decide) (by decide)
theorem limbs_7 : limbs 7 = [7] := limbs_lit (by decide) (by decide) (by decide)
theorem limbs_2 : limbs 2 = [2] := limbs_lit (by decide) (by decide) (by decide)
theorem limbs_4294967295 : limbs 4294967295 = [4294967295] := limbs_lit (by decide) (by decide) (by decide)
theorem limbs_1410065408_2 : limbs 10000000000 = [1410065408, 2] := limbs_lit (by decide) (by decide) (by decide)
theorem limbs_0_2 : limbs 8589934592 = [0, 2] := limbs_lit (by decide) (by decide) (by decide)
theorem limbs_1_2_1 : limbs 18446744082299486209 = [1, 2, 1] := limbs_lit (by decide) (by decide) (by decide)
theorem limbs_3 : limbs 3 = [3] := limbs_lit (by decide) (by decide) (by decide)
theorem limbs_2147483648_1 : limbs 6442450944 = [2147483648, 1] := limbs_lit (by decide) (by decide) (by decide)
theorem limbs_1 : limbs 1 = [1] := limbs_lit (by decide) (by decide) (by decide)
theorem limbs_0_1 : limbs 4294967296 = [0, 1] := limbs_lit (by decide) (by decide) (by decide)
theorem limbs_none : limbs 0 = [] := limbs_zero

theorem same_lit {n k : Nat} {xs : List Int} (hx : limbs n = xs) (hl : xs.length = k) (hk : k ≤ 10) (A B : Option Addr) (c d : Nat) (w : World) (h : KL .u32 w w.heap.size A xs) (h' : KL .u32 w w.heap.size B xs) :
    Calls Try.prog 15 #[.slice A k c, .slice B k d] w fun e w' => e = .returned (.bool true) ∧ Below w.heap.size w w' := by
  subst hx
  subst hl
  have := lawsame_any n n A B c d w h h' (by omega) (by omega)
  rw [decide_eq_true rfl] at this
  exact this
theorem s_429496729 (A B : Option Addr) (c d : Nat) (W : World) (h : KL .u32 W W.heap.size A [429496729]) (h' : KL .u32 W W.heap.size B [429496729]) : Calls Try.prog 15 #[.slice A 1 c, .slice B 1 d] W fun e w' => e = .returned (.bool true) ∧ Below W.heap.size W w' :=
  same_lit limbs_429496729 (k := 1) rfl (by decide) A B c d W h h'
theorem s_7 (A B : Option Addr) (c d : Nat) (W : World) (h : KL .u32 W W.heap.size A [7]) (h' : KL .u32 W W.heap.size B [7]) : Calls Try.prog 15 #[.slice A 1 c, .slice B 1 d] W fun e w' => e = .returned (.bool true) ∧ Below W.heap.size W w' :=
  same_lit limbs_7 (k := 1) rfl (by decide) A B c d W h h'
theorem s_4294967295 (A B : Option Addr) (c d : Nat) (W : World) (h : KL .u32 W W.heap.size A [4294967295]) (h' : KL .u32 W W.heap.size B [4294967295]) : Calls Try.prog 15 #[.slice A 1 c, .slice B 1 d] W fun e w' => e = .returned (.bool true) ∧ Below W.heap.size W w' :=
  same_lit limbs_4294967295 (k := 1) rfl (by decide) A B c d W h h'
theorem s_1410065408_2 (A B : Option Addr) (c d : Nat) (W : World) (h : KL .u32 W W.heap.size A [1410065408, 2]) (h' : KL .u32 W W.heap.size B [1410065408, 2]) : Calls Try.prog 15 #[.slice A 2 c, .slice B 2 d] W fun e w' => e = .returned (.bool true) ∧ Below W.heap.size W w' :=
  same_lit limbs_1410065408_2 (k := 2) rfl (by decide) A B c d W h h'
theorem s_0_2 (A B : Option Addr) (c d : Nat) (W : World) (h : KL .u32 W W.heap.size A [0, 2]) (h' : KL .u32 W W.heap.size B [0, 2]) : Calls Try.prog 15 #[.slice A 2 c, .slice B 2 d] W fun e w' => e = .returned (.bool true) ∧ Below W.heap.size W w' :=
  same_lit limbs_0_2 (k := 2) rfl (by decide) A B c d W h h'
theorem s_1_2_1 (A B : Option Addr) (c d : Nat) (W : World) (h : KL .u32 W W.heap.size A [1, 2, 1]) (h' : KL .u32 W W.heap.size B [1, 2, 1]) : Calls Try.prog 15 #[.slice A 3 c, .slice B 3 d] W fun e w' => e = .returned (.bool true) ∧ Below W.heap.size W w' :=
  same_lit limbs_1_2_1 (k := 3) rfl (by decide) A B c d W h h'
theorem s_2147483648_1 (A B : Option Addr) (c d : Nat) (W : World) (h : KL .u32 W W.heap.size A [2147483648, 1]) (h' : KL .u32 W W.heap.size B [2147483648, 1]) : Calls Try.prog 15 #[.slice A 2 c, .slice B 2 d] W fun e w' => e = .returned (.bool true) ∧ Below W.heap.size W w' :=
  same_lit limbs_2147483648_1 (k := 2) rfl (by decide) A B c d W h h'
theorem s_1 (A B : Option Addr) (c d : Nat) (W : World) (h : KL .u32 W W.heap.size A [1]) (h' : KL .u32 W W.heap.size B [1]) : Calls Try.prog 15 #[.slice A 1 c, .slice B 1 d] W fun e w' => e = .returned (.bool true) ∧ Below W.heap.size W w' :=
  same_lit limbs_1 (k := 1) rfl (by decide) A B c d W h h'
theorem s_0_1 (A B : Option Addr) (c d : Nat) (W : World) (h : KL .u32 W W.heap.size A [0, 1]) (h' : KL .u32 W W.heap.size B [0, 1]) : Calls Try.prog 15 #[.slice A 2 c, .slice B 2 d] W fun e w' => e = .returned (.bool true) ∧ Below W.heap.size W w' :=
  same_lit limbs_0_1 (k := 2) rfl (by decide) A B c d W h h'

theorem c_div (W : World) (A B : Option Addr) (hA : KL .u32 W W.heap.size A [1, 1]) (hB : KL .u32 W W.heap.size B [10]) :
    Calls Try.prog 20 #[.slice A 2 2, .slice B 1 1] W fun e w' => ∃ (A : Option Addr) (c : Nat) (B : Option Addr) (d : Nat), e = .returned (.tuple #[.slice A 1 c, .slice B 1 d, .bool true]) ∧ KL .u32 w' w'.heap.size A [429496729] ∧ KL .u32 w' w'.heap.size B [7] ∧ Below W.heap.size W w' := by
  have h1 := limbs_1_1
  have h2 := limbs_10
  rw [← h1] at hA
  rw [← h2] at hB
  have h := divmod_short 4294967297 10 A B 2 1 W hA hB (by omega) (by omega) (by omega)
  rw [show 4294967297 / 10 = 429496729 by rfl, show 4294967297 % 10 = 7 by rfl, h1, h2] at h
  refine h.mono fun e w' ⟨A, c, B, d, he, hA, hB, _, _, hb⟩ => ?_
  rw [limbs_429496729] at he hA
  rw [limbs_7] at he hB
  exact ⟨A, c, B, d, he, hA, hB, hb⟩
theorem c_sub1 (W : World) (A B : Option Addr) (hA : KL .u32 W W.heap.size A [1, 1]) (hB : KL .u32 W W.heap.size B [2]) :
    Calls Try.prog 13 #[.slice A 2 2, .slice B 1 1] W fun e w' => ∃ (A : Option Addr) (c : Nat), e = .returned (.tuple #[.slice A 1 c, .bool true]) ∧ KL .u32 w' w'.heap.size A [4294967295] ∧ Below W.heap.size W w' := by
  have h1 := limbs_1_1
  have h2 := limbs_2
  rw [← h1] at hA
  rw [← h2] at hB
  have h := sub_any 4294967297 2 A B 2 1 W hA hB (by rw [h1]; decide) (by rw [h2]; decide)
  rw [show 4294967297 - 2 = 4294967295 by rfl, decide_eq_true (by omega), h1, h2] at h
  refine h.mono fun e w' ⟨A, c, he, hA, _, hb⟩ => ?_
  rw [limbs_4294967295] at he hA
  exact ⟨A, c, he, hA, hb⟩
theorem c_sub2 (W : World) (A B : Option Addr) (hB : KL .u32 W W.heap.size B [2]) (hA : KL .u32 W W.heap.size A [1, 1]) :
    Calls Try.prog 13 #[.slice B 1 1, .slice A 2 2] W fun e w' => ∃ (A : Option Addr) (c : Nat), e = .returned (.tuple #[.slice A 0 c, .bool false]) ∧ Below W.heap.size W w' := by
  have h1 := limbs_1_1
  have h2 := limbs_2
  rw [← h1] at hA
  rw [← h2] at hB
  have h := sub_any 2 4294967297 B A 1 2 W hB hA (by rw [h2]; decide) (by rw [h1]; decide)
  rw [show 2 - 4294967297 = 0 by rfl, decide_eq_false (by omega), h1, h2] at h
  refine h.mono fun e w' ⟨A, c, he, hA, _, hb⟩ => ?_
  rw [limbs_none] at he
  exact ⟨A, c, he, hb⟩
theorem c_uint (W : World) (A : Option Addr) (hA : KL .u32 W W.heap.size A [1, 1]) :
    Calls Try.prog 33 #[.slice A 2 2] W fun e w' => e = .returned (.tuple #[.int .u64 4294967297, .bool true]) ∧ Below W.heap.size W w' := by
  have h1 := limbs_1_1
  rw [← h1] at hA
  have h := uint_any 4294967297 A 2 W hA (by rw [h1]; decide)
  rw [if_pos (by omega), decide_eq_true (by omega), h1] at h
  exact h.mono fun _ _ h => ⟨h.1, below_of_drewN (Below.refl _ _) h.2⟩
theorem c_len (W : World) (A : Option Addr) (hA : KL .u32 W W.heap.size A [1, 1]) :
    Calls Try.prog 28 #[.slice A 2 2] W fun e w' => e = .returned (.int .i64 33) ∧ W = w' :=
  len_any A [1, 1] 2 W hA (fun x hx => by simp at hx; omega) (by decide)
theorem c_pow (W : World) (A : Option Addr) (hA : KL .u32 W W.heap.size A [10]) :
    Calls Try.prog 31 #[.slice A 1 1, .int .i64 10] W fun e w' => MadeL 2 [1410065408, 2] W e w' := by
  have h1 := limbs_10
  rw [← h1] at hA
  have h := pow_lists 10 10 A 1 W hA (by omega) (by rw [h1]; decide) (Nat.le_trans (limbs_len_le (n := 10 ^ (10 / 2)) (k := 1) (by decide)) (by omega))
  rw [h1] at h
  exact h.mono fun _ _ h => h.lit (show limbs (10 ^ 10) = _ from limbs_1410065408_2) rfl
theorem c_add (W : World) (A B : Option Addr) (d : Nat) (hA : KL .u32 W W.heap.size A [1, 1]) (hB : KL .u32 W W.heap.size B [4294967295]) :
    Calls Try.prog 16 #[.slice A 2 2, .slice B 1 d] W fun e w' => MadeL 2 [0, 2] W e w' := by
  have h1 := limbs_1_1
  have h2 := limbs_4294967295
  rw [← h1] at hA
  rw [← h2] at hB
  have h := add_any 4294967297 4294967295 A B 2 d W hA hB (by rw [h1]; decide) (by rw [h2]; decide)
  rw [h1, h2] at h
  exact h.mono fun _ _ h => h.lit limbs_0_2 rfl
theorem c_mul (W : World) (A : Option Addr) (hA : KL .u32 W W.heap.size A [1, 1]) :
    Calls Try.prog 22 #[.slice A 2 2, .slice A 2 2] W fun e w' => MadeL 3 [1, 2, 1] W e w' := by
  have h1 := limbs_1_1
  rw [← h1] at hA
  have h := mul_any 4294967297 4294967297 A A 2 2 W hA hA (by rw [h1]; decide) (by rw [h1]; decide) (by rw [h1]; decide)
  rw [h1] at h
  exact h.mono fun _ _ h => h.lit limbs_1_2_1 rfl
theorem c_shl (W : World) (A : Option Addr) (hA : KL .u32 W W.heap.size A [3]) :
    Calls Try.prog 24 #[.slice A 1 1, .int .i64 31] W fun e w' => MadeL 2 [2147483648, 1] W e w' := by
  have h1 := limbs_3
  rw [← h1] at hA
  have h := shl_any 3 A 1 31 W hA (by rw [h1]; decide)
  rw [h1] at h
  exact h.mono fun _ _ h => h.lit limbs_2147483648_1 rfl
theorem c_shr (W : World) (A : Option Addr) (hA : KL .u32 W W.heap.size A [1, 1]) :
    Calls Try.prog 26 #[.slice A 2 2, .int .i64 32] W fun e w' => MadeL 1 [1] W e w' := by
  have h1 := limbs_1_1
  rw [← h1] at hA
  have h := shr_any 4294967297 A 2 32 W hA (by rw [h1]; decide)
  rw [h1] at h
  exact h.mono fun _ _ h => h.lit limbs_1 rfl
theorem c_right (W : World) (A : Option Addr) (hA : KL .u32 W W.heap.size A [1, 1]) :
    Calls Try.prog 36 #[.slice A 2 2] W fun e w' => e = .returned (.bool true) ∧ W = w' :=
  right_any A [1, 1] 2 W hA (by decide)
theorem c_wrong (W : World) (A : Option Addr) (hA : KL .u32 W W.heap.size A [1, 0]) :
    Calls Try.prog 36 #[.slice A 2 2] W fun e w' => e = .returned (.bool false) ∧ W = w' :=
  right_any A [1, 0] 2 W hA (by decide)
theorem c_cmp (W : World) (A B : Option Addr) (d : Nat) (hA : KL .u32 W W.heap.size A [1, 1]) (hB : KL .u32 W W.heap.size B [429496729]) :
    Calls Try.prog 18 #[.slice A 2 2, .slice B 1 d] W fun e w' => e = .returned (.int .i64 1) ∧ Below W.heap.size W w' := by
  have h := cmp_lists A B [1, 1] [429496729] 2 d W hA hB (fun x hx => by simp at hx; omega) (fun x hx => by simp at hx; omega) (by decide) (by decide)
  exact h.mono fun _ _ h => ⟨h.1, below_of_drewN (Below.refl _ _) h.2⟩
theorem c_of (W : World) : Calls Try.prog 34 #[.int .u64 4294967296] W fun e w' => MadeL 2 [0, 1] W e w' :=
  (of_any 4294967296 (by omega) W).mono fun _ _ h => h.lit limbs_0_1 rfl
end Go.Proofs.Ytdflhidhnejbbaa
