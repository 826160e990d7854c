/- The walk of PrimeDraws. -/
import Derived.Test.YtkcnigpajhmjiaaDoorAlive
namespace Go.Proofs.YtkcnigpajhmjiaaDoor
open Go.RowKit
def nx (s : Int) : Int := IntKind.u64.wrap (IntKind.u64.wrap (s * 6364136223846793005) + 1442695040888963407)
def dr (s : Int) : Int := nx s / 8589934592 % 4294967296
theorem dr_small (s : Int) : dr s < 2147483648 := by
  unfold dr nx
  rw [IntKind.wrap_u64]
  omega
theorem next31_any (s : Int) (w : World) : Calls Tryd.prog 9 #[.int .u64 s] w fun e w' => e = .returned (.tuple #[.int .u64 (nx s), .int .u32 (dr s)]) ∧ w = w' := by
  unfold dr nx
  go_enter Tryd.func9, Tryd.ntmps9
  go_wp2
  go_ret2
  exact ⟨ret_pair rfl rfl, rfl⟩
theorem refnext31_any (s : Int) (w : World) : Calls Tryd.prog 10 #[.int .u64 s] w fun e w' => e = .returned (.tuple #[.int .u64 (nx s), .int .u32 (dr s)]) ∧ w = w' := by
  unfold dr nx
  go_enter Tryd.func10, Tryd.ntmps10
  go_wp2
  go_ret2
  exact ⟨ret_pair rfl rfl, rfl⟩
set_option maxHeartbeats 1000000 in
theorem law_draws (a n : Nat) (w : World) (hn : n ≤ 255) : Calls Tryd.prog 5 #[.int .u64 (a : Int), .int .u8 (n : Int)] w fun e w' => e = .returned (.bool true) ∧ Below w.heap.size w w' := by
  go_enter Tryd.func5, Tryd.ntmps5
  go_wp2_with (go_at_call 6; (with_reducible refine (alive_any _).mono ?_); rintro e w1 ⟨rfl, hb⟩; have HB := Lib.hid hb; clear hb)
  go_loop [5, 6, 7] (fun x y i => ∃ (s : Int) (k : Nat), x = .int .u64 s ∧ y = .int .u64 s ∧ i = .int .i64 k ∧ k ≤ n) (fun _ _ i => n - (intOf i).toNat)
  case atStart => exact ⟨a, 0, rfl, rfl, rfl, Nat.zero_le _⟩
  case round =>
    obtain ⟨s, k, rfl, rfl, rfl, hk⟩ := hrel
    by_cases hlt : k < n
    · have hs := dr_small s
      obtain ⟨x, hx⟩ : ∃ x, nx s = x := ⟨_, rfl⟩
      obtain ⟨d, hd⟩ : ∃ d, dr s = d := ⟨_, rfl⟩
      have H1 := Lib.hid fun W => next31_any s W
      have H2 := Lib.hid fun W => refnext31_any s W
      rw [hd] at hs
      rw [hx, hd] at H1 H2
      have hg : ¬ 2147483648 ≤ d := by omega
      clear hx hd
      go_wp2_with (first
        | (go_at_call 9; (with_reducible refine (H1.out _).mono ?_); rintro e w' ⟨rfl, rfl⟩)
        | (go_at_call 10; (with_reducible refine (H2.out _).mono ?_); rintro e w' ⟨rfl, rfl⟩))
      go_round
      case rel => exact ⟨x, k + 1, rfl, rfl, by go_num, by omega⟩
      case measure => simp [intOf]; omega
    · go_wp2
      go_ret
      exact ⟨rfl, HB.out⟩
end Go.Proofs.YtkcnigpajhmjiaaDoor
