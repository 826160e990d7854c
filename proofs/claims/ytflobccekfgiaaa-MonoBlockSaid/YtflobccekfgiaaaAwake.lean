/- Contracts: Two, and the fixed fact. -/
import Derived.Test.YtflobccekfgiaaaRefs
namespace Go.Proofs.Ytflobccekfgiaaa
open Go.RowKit

theorem bcell {W w1 : World} (hb : Below W.heap.size W w1) : (∀ b o, b < W.heap.size → w1.cell? ⟨b, o, none⟩ = W.cell? ⟨b, o, none⟩) ∧ (∀ b o, b < W.heap.size → w1.frozen? ⟨b, o, none⟩ = W.frozen? ⟨b, o, none⟩) :=
  ⟨fun b o h => hb.cell (p := ⟨b, o, none⟩) h, fun b o h => hb.frozen (p := ⟨b, o, none⟩) h⟩
theorem below_chain {w W w' : World} (h : Below w.heap.size w W) (k : Below W.heap.size W w') : Below w.heap.size w w' := h.trans (k.mono h.size)
theorem IL_one {w : World} {g : Nat} {a : Int} (hg : g < w.heap.size) (h0 : w.cell? ⟨g, 0, none⟩ = some (.int .i64 a)) : IL w w.heap.size (some ⟨g, 0, none⟩) [a] := fun _ =>
  ⟨_, rfl, hg, fun k hk => by
    have : k = 0 := by simpa using hk
    subst this
    exact h0⟩
theorem IL_three {w : World} {g : Nat} {a b c : Int} (hg : g < w.heap.size) (h0 : w.cell? ⟨g, 0, none⟩ = some (.int .i64 a)) (h1 : w.cell? ⟨g, 1, none⟩ = some (.int .i64 b)) (h2 : w.cell? ⟨g, 2, none⟩ = some (.int .i64 c)) :
    IL w w.heap.size (some ⟨g, 0, none⟩) [a, b, c] := fun _ =>
  ⟨_, rfl, hg, fun k hk => by
    have hk3 : k < 3 := by simpa using hk
    rcases (show k = 0 ∨ k = 1 ∨ k = 2 by omega) with rfl | rfl | rfl
    · exact h0
    · exact h1
    · exact h2⟩
theorem lim_one {a : Int} (h : 0 ≤ a ∧ a ≤ 60) : Lim 60 [a] := ⟨by simp, fun k hk => by
  have : k = 0 := by simpa using hk
  subst this
  exact h⟩
theorem lim_three {a b c : Int} (h : 0 ≤ a ∧ a ≤ 60) (h1 : 0 ≤ b ∧ b ≤ 60) (h2 : 0 ≤ c ∧ c ≤ 60) : Lim 60 [a, b, c] := ⟨by simp, fun k hk => by
  have hk3 : k < 3 := by simpa using hk
  rcases (show k = 0 ∨ k = 1 ∨ k = 2 by omega) with rfl | rfl | rfl
  · exact h
  · exact h1
  · exact h2⟩

def twoB (xs ys : List Int) : Bool := rightB xs.length xs && rightB xs.length ys
theorem right_lim {xs ys : List Int} (h : rightB xs.length ys = true) : xs.length = ys.length ∧ Lim 60 ys := by
  unfold rightB at h
  have := of_decide_eq_true h
  exact ⟨by omega, this.2.1, this.2.2⟩
theorem two_lim {xs ys : List Int} (h : twoB xs ys = true) : xs.length = ys.length ∧ Lim 60 xs ∧ Lim 60 ys := by
  unfold twoB at h
  rw [Bool.and_eq_true] at h
  exact ⟨(right_lim h.2).1, (right_lim h.1).2, (right_lim h.2).2⟩

set_option maxHeartbeats 400000 in
theorem two_any (A B : Option Addr) (xs ys : List Int) (c d : Nat) (w : World) (h : IL w w.heap.size A xs) (h' : IL w w.heap.size B ys) (hxl : xs.length ≤ 9223372036854775807) (hyl : ys.length ≤ 9223372036854775807) :
    Calls Try.prog 15 #[.slice A xs.length c, .slice B ys.length d] w fun e w' => e = .returned (.bool (twoB xs ys)) ∧ w = w' := by
  obtain ⟨p, hp⟩ : ∃ p, rightB xs.length xs = p := ⟨_, rfl⟩
  obtain ⟨q, hq⟩ : ∃ q, rightB xs.length ys = q := ⟨_, rfl⟩
  have h1 := refright_any xs.length A xs c w h hxl
  have h2 := refright_any xs.length B ys d w h' hyl
  rw [hp] at h1
  rw [hq] at h2
  have H1 := Lib.hid h1
  have H2 := Lib.hid h2
  have HP := Lib.hid hp
  have HQ := Lib.hid hq
  clear h1 h2 h h' hp hq
  cases p
  all_goals
    go_enter Try.func15, Try.ntmps15
    go_wp2_with (first
      | (go_at_call 12; (with_reducible refine H1.out.mono ?_); rintro e w' ⟨rfl, rfl⟩)
      | (go_at_call 12; (with_reducible refine H2.out.mono ?_); rintro e w' ⟨rfl, rfl⟩))
    go_ret
    exact ⟨ret_bool (by unfold twoB; rw [HP.out, HQ.out]; rfl), rfl⟩

set_option maxHeartbeats 1000000 in
theorem awake_any (w : World) : Calls Try.prog 10 #[] w fun e w' => e = .returned (.bool true) ∧ Below w.heap.size w w' := by
  have HM1 : Hid (∀ (W : World) (A B : Option Addr), IL W W.heap.size A [1, 0, 2] → IL W W.heap.size B [0, 3, 1] → Calls Try.prog 16 #[.slice A 3 3, .slice B 3 3] W fun e w' => ∃ A c, e = .returned (.tuple #[.slice A 3 c, .int .i64 0]) ∧ IL w' w'.heap.size A [1, 3, 3] ∧ 3 ≤ c ∧ Below W.heap.size W w') :=
    Lib.hid fun W A B hA hB => mul_yes A B [1, 0, 2] [0, 3, 1] 3 3 W hA hB rfl (lim_three (by omega) (by omega) (by omega)) (lim_three (by omega) (by omega) (by omega)) (by decide)
  have HM2 : Hid (∀ (W : World) (A B : Option Addr), IL W W.heap.size A [60] → IL W W.heap.size B [1] → Calls Try.prog 16 #[.slice A 1 1, .slice B 1 1] W fun e w' => ∃ A c, e = .returned (.tuple #[.slice A 0 c, .int .i64 2]) ∧ IL w' w'.heap.size A [] ∧ 0 ≤ c ∧ Below W.heap.size W w') :=
    Lib.hid fun W A B hA hB => mul_no A B [60] [1] 1 1 W hA hB rfl (lim_one (by omega)) (lim_one (by omega)) (by decide)
  have HC : Hid (∀ (W : World) (A B : Option Addr), IL W W.heap.size A [1, 0, 1] → IL W W.heap.size B [0, 2, 0] → Calls Try.prog 29 #[.agg #[.int .i64 2, .int .i64 0], .slice A 3 3, .slice B 3 3] W fun e w' => e = .returned (.int .i64 (-1)) ∧ Below W.heap.size W w') :=
    Lib.hid fun W A B hA hB => cmp2_any 60 A B [1, 0, 1] [0, 2, 0] 3 3 W hA hB rfl (lim_three (by omega) (by omega) (by omega)) (lim_three (by omega) (by omega) (by omega)) (by omega) (by omega) 0
  have HS : Hid (∀ (W : World) (A B : Option Addr) (c : Nat), IL W W.heap.size A [1, 3, 3] → IL W W.heap.size B [1, 3, 3] → Calls Try.prog 20 #[.slice A 3 c, .slice B 3 3] W fun e w' => e = .returned (.bool true) ∧ Below W.heap.size W w') :=
    Lib.hid fun W A B c hA hB => (same_any A B [1, 3, 3] [1, 3, 3] c 3 W hA hB (by simp) (by simp)).mono fun e w' h => ⟨h.1, below_of_drewN (Below.refl _ _) h.2⟩
  have HO : Hid (∀ W : World, Calls Try.prog 13 #[.int .i64 3, .agg #[.int .i64 2, .int .i64 0]] W fun e w' => e = .returned (.bool true) ∧ Below W.heap.size W w') :=
    Lib.hid fun W => order_any 3 2 0 W
  have HR : Hid (∀ (W : World) (A : Option Addr), IL W W.heap.size A [60] → Calls Try.prog 11 #[.int .i64 1, .slice A 1 1] W fun e w' => e = .returned (.bool true) ∧ W = w') :=
    Lib.hid fun W A hA => right_any 1 A [60] 1 W hA (by simp)
  have HD : Hid (∀ (W : World) (A : Option Addr) (c : Nat), IL W W.heap.size A [1, 3, 3] → Calls Try.prog 27 #[.slice A 3 c] W fun e w' => e = .returned (.int .i64 7) ∧ W = w') :=
    Lib.hid fun W A c hA => deg_any A [1, 3, 3] c 60 W hA (lim_three (by omega) (by omega) (by omega)) (by omega) (by omega)
  go_enter Try.func10, Try.ntmps10
  go_wp2_with (first
    | (go_at_call 16; (with_reducible refine (HM1.out _ _ _ ?_ ?_).mono ?_); exact IL_three (by (try simp only [World.size_alloc]); omega) (by go_cell) (by go_cell) (by go_cell); exact IL_three (by (try simp only [World.size_alloc]); omega) (by go_cell) (by go_cell) (by go_cell); rintro e w1 ⟨A1, c1, rfl, hA1, hc1, hb1⟩; have HA1 := Lib.hid hA1; have HB1 := Lib.hid hb1; have o1 := (hb1.cell (p := ⟨w.heap.size, 0, none⟩) (by (try simp only [World.size_alloc]); omega)).trans (show _ = some (Value.int .i64 2) by go_cell); have p1 := (hb1.cell (p := ⟨w.heap.size, 1, none⟩) (by (try simp only [World.size_alloc]); omega)).trans (show _ = some (Value.int .i64 0) by go_cell); have z1 : w.heap.size < w1.heap.size := (by (have := hb1.size; (try simp only [World.size_alloc] at this); omega)); clear hb1; clear hA1)
    | (go_at_call 16; (with_reducible refine (HM2.out _ _ _ ?_ ?_).mono ?_); exact IL_one (by (try simp only [World.size_alloc]); omega) (by go_cell); exact IL_one (by (try simp only [World.size_alloc]); omega) (by go_cell); rintro e w2 ⟨A2, c2, rfl, hA2, hc2, hb2⟩; have HA2 := Lib.hid hA2; have HB2 := Lib.hid hb2; have o2 := (hb2.cell (p := ⟨w.heap.size, 0, none⟩) (by (try simp only [World.size_alloc]); omega)).trans (show _ = some (Value.int .i64 2) by go_cell); have p2 := (hb2.cell (p := ⟨w.heap.size, 1, none⟩) (by (try simp only [World.size_alloc]); omega)).trans (show _ = some (Value.int .i64 0) by go_cell); have z2 : w1.heap.size < w2.heap.size := (by (have := hb2.size; (try simp only [World.size_alloc] at this); omega)); have y2 : w.heap.size < w2.heap.size := (by omega); clear hb2; clear hA2)
    | (go_at_call 29; (with_reducible refine (HC.out _ _ _ ?_ ?_).mono ?_); exact IL_three (by (try simp only [World.size_alloc]); omega) (by go_cell) (by go_cell) (by go_cell); exact IL_three (by (try simp only [World.size_alloc]); omega) (by go_cell) (by go_cell) (by go_cell); rintro e w3 ⟨rfl, hb3⟩; have HB3 := Lib.hid hb3; have o3 := (hb3.cell (p := ⟨w.heap.size, 0, none⟩) (by (try simp only [World.size_alloc]); omega)).trans (show _ = some (Value.int .i64 2) by go_cell); have p3 := (hb3.cell (p := ⟨w.heap.size, 1, none⟩) (by (try simp only [World.size_alloc]); omega)).trans (show _ = some (Value.int .i64 0) by go_cell); have z3 : w2.heap.size < w3.heap.size := (by (have := hb3.size; (try simp only [World.size_alloc] at this); omega)); have y3 : w.heap.size < w3.heap.size := (by omega); clear hb3)
    | (go_at_call 20; (with_reducible refine (HS.out _ _ _ _ ?_ ?_).mono ?_); exact HA1.out.up (below_chain (below_chain (below_chain (below_chain (by go_grown) HB2.out) (by go_grown)) HB3.out) (by go_grown)); exact IL_three (by (try simp only [World.size_alloc]); omega) (by go_cell) (by go_cell) (by go_cell); rintro e w4 ⟨rfl, hb4⟩; have HB4 := Lib.hid hb4; have o4 := (hb4.cell (p := ⟨w.heap.size, 0, none⟩) (by (try simp only [World.size_alloc]); omega)).trans (show _ = some (Value.int .i64 2) by go_cell); have p4 := (hb4.cell (p := ⟨w.heap.size, 1, none⟩) (by (try simp only [World.size_alloc]); omega)).trans (show _ = some (Value.int .i64 0) by go_cell); have z4 : w3.heap.size < w4.heap.size := (by (have := hb4.size; (try simp only [World.size_alloc] at this); omega)); have y4 : w.heap.size < w4.heap.size := (by omega); clear hb4)
    | (go_at_call 13; (with_reducible refine (HO.out _).mono ?_); rintro e w5 ⟨rfl, hb5⟩; have HB5 := Lib.hid hb5; have o5 := (hb5.cell (p := ⟨w.heap.size, 0, none⟩) (by (try simp only [World.size_alloc]); omega)).trans (show _ = some (Value.int .i64 2) by go_cell); have p5 := (hb5.cell (p := ⟨w.heap.size, 1, none⟩) (by (try simp only [World.size_alloc]); omega)).trans (show _ = some (Value.int .i64 0) by go_cell); have z5 : w4.heap.size ≤ w5.heap.size := (by (have := hb5.size; (try simp only [World.size_alloc] at this); omega)); have y5 : w.heap.size < w5.heap.size := (by omega); clear hb5)
    | (go_at_call 11; (with_reducible refine (HR.out _ _ ?_).mono ?_); exact IL_one (by (try simp only [World.size_alloc]); omega) (by go_cell); rintro e w' ⟨rfl, rfl⟩)
    | (go_at_call 27; (with_reducible refine (HD.out _ _ _ ?_).mono ?_); exact HA1.out.up (below_chain (below_chain (below_chain (below_chain (below_chain (below_chain (below_chain (by go_grown) HB2.out) (by go_grown)) HB3.out) (by go_grown)) HB4.out) HB5.out) (by go_grown)); rintro e w' ⟨rfl, rfl⟩))
  go_ret
  exact ⟨rfl, below_chain (below_chain (below_chain (below_chain (below_chain (below_chain (below_chain (below_chain (below_chain (by go_grown) HB1.out) (by go_grown)) HB2.out) (by go_grown)) HB3.out) (by go_grown)) HB4.out) HB5.out) (by go_grown)⟩
end Go.Proofs.Ytflobccekfgiaaa
