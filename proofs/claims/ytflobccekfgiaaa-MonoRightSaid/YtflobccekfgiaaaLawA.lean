/- The walk of MonoRight. -/
import Derived.Test.YtflobccekfgiaaaAwake
namespace Go.Proofs.Ytflobccekfgiaaa
open Go.RowKit

set_option maxHeartbeats 1000000 in
theorem law_right (n : Int) (A : Option Addr) (xs : List Int) (c : Nat) (k cut : Int) (w : World) (h : IL w w.heap.size A xs) (hl : xs.length ≤ 9223372036854775807) :
    Calls Try.prog 3 #[.int .i64 n, .slice A xs.length c, .agg #[.int .i64 k, .int .i64 cut]] w fun e w' => e = .returned (.bool true) ∧ Below w.heap.size w w' := by
  obtain ⟨p, hp⟩ : ∃ p, rightB n xs = p := ⟨_, rfl⟩
  obtain ⟨q, hq⟩ : ∃ q, orderB n k cut = q := ⟨_, rfl⟩
  have HA : Hid (∀ W : World, Below w.heap.size w W → Calls Try.prog 11 #[.int .i64 n, .slice A xs.length c] W fun e w' => e = .returned (.bool p) ∧ W = w') :=
    Lib.hid fun W hb => by rw [← hp]; exact right_any n A xs c W (h.up hb) hl
  have HB : Hid (∀ W : World, Below w.heap.size w W → Calls Try.prog 12 #[.int .i64 n, .slice A xs.length c] W fun e w' => e = .returned (.bool p) ∧ W = w') :=
    Lib.hid fun W hb => by rw [← hp]; exact refright_any n A xs c W (h.up hb) hl
  have HC : Hid (∀ W : World, Calls Try.prog 13 #[.int .i64 n, .agg #[.int .i64 k, .int .i64 cut]] W fun e w' => e = .returned (.bool q) ∧ Below W.heap.size W w') :=
    Lib.hid fun W => by rw [← hq]; exact order_any n k cut W
  have HD : Hid (∀ W : World, Calls Try.prog 14 #[.int .i64 n, .agg #[.int .i64 k, .int .i64 cut]] W fun e w' => e = .returned (.bool q) ∧ Below W.heap.size W w') :=
    Lib.hid fun W => by rw [← hq]; exact reforder_any n k cut W
  clear h hp hq
  go_enter Try.func3, Try.ntmps3
  go_wp2_with (first
    | (go_at_call 10; (with_reducible refine (awake_any _).mono ?_); rintro e w1 ⟨rfl, hb1⟩; have HB1 := Lib.hid hb1; have o1 := (hb1.cell (p := ⟨w.heap.size, 0, none⟩) (by (try simp only [World.size_alloc]); omega)).trans (show _ = some (Value.int .i64 k) by go_cell); have p1 := (hb1.cell (p := ⟨w.heap.size, 1, none⟩) (by (try simp only [World.size_alloc]); omega)).trans (show _ = some (Value.int .i64 cut) by go_cell); have z1 : w.heap.size < w1.heap.size := (by (have := hb1.size; (try simp only [World.size_alloc] at this); omega)); clear hb1))
  · go_ret
    exact ⟨rfl, below_chain (by go_grown) HB1.out⟩
  · have hbw : Below w.heap.size w w1 := below_chain (by go_grown) HB1.out
    go_region_held3 (fun w' => Below w.heap.size w w' ∧ w.heap.size < w'.heap.size ∧ w'.cell? ⟨w.heap.size, 0, none⟩ = some (.int .i64 k) ∧ w'.cell? ⟨w.heap.size, 1, none⟩ = some (.int .i64 cut))
      (first
        | (go_split_ands; refine ⟨?_, ?_, ?_, ?_⟩; (first | assumption | exact Below.drew (by assumption)); (first | assumption | (simp; done)); assumption; assumption)
        | (go_split_ands; refine ⟨below_chain ?_ hb2, Nat.lt_of_lt_of_le ?_ hb2.size, (hb2.cell (p := ⟨w.heap.size, 0, none⟩) ?_).trans ?_, (hb2.cell (p := ⟨w.heap.size, 1, none⟩) ?_).trans ?_⟩ <;> assumption))
      (first
        | (go_at_call 11; refine (HA.out _ ?_).mono ?_; (go_split_ands; assumption); rintro e w' ⟨rfl, rfl⟩)
        | (go_at_call 12; refine (HB.out _ ?_).mono ?_; (go_split_ands; assumption); rintro e w' ⟨rfl, rfl⟩)
        | (go_at_call 13; refine (HC.out _).mono ?_; rintro e w2 ⟨rfl, hb2⟩)
        | (go_at_call 14; refine (HD.out _).mono ?_; rintro e w2 ⟨rfl, hb2⟩))
    go_wp2
    go_ret
    exact ⟨rfl, by go_split_ands; assumption⟩
end Go.Proofs.Ytflobccekfgiaaa
