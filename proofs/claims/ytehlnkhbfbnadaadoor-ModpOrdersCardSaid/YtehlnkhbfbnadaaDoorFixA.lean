/- The fixed fact: powers, roots and inverses modulo 7. -/
import Derived.Test.YtehlnkhbfbnadaaDoorPowM
namespace Go.Proofs.YtehlnkhbfbnadaaDoor
open Go.RowKit

theorem P_2_3 (W : World) : Calls Tryd.prog 21 #[.int .u32 7, .int .u32 2, .int .u64 3] W fun e w' => e = .returned (.int .u32 1) ∧ W = w' := mpow_any 7 2 3 W (by decide) (by decide) (by decide) (by decide)
theorem P_3_3 (W : World) : Calls Tryd.prog 21 #[.int .u32 7, .int .u32 3, .int .u64 3] W fun e w' => e = .returned (.int .u32 6) ∧ W = w' := mpow_any 7 3 3 W (by decide) (by decide) (by decide) (by decide)
theorem P_2_2 (W : World) : Calls Tryd.prog 21 #[.int .u32 7, .int .u32 2, .int .u64 2] W fun e w' => e = .returned (.int .u32 4) ∧ W = w' := mpow_any 7 2 2 W (by decide) (by decide) (by decide) (by decide)
theorem P_3_2 (W : World) : Calls Tryd.prog 21 #[.int .u32 7, .int .u32 3, .int .u64 2] W fun e w' => e = .returned (.int .u32 2) ∧ W = w' := mpow_any 7 3 2 W (by decide) (by decide) (by decide) (by decide)
theorem P_2_1 (W : World) : Calls Tryd.prog 21 #[.int .u32 7, .int .u32 2, .int .u64 1] W fun e w' => e = .returned (.int .u32 2) ∧ W = w' := mpow_any 7 2 1 W (by decide) (by decide) (by decide) (by decide)

set_option maxHeartbeats 400000 in
theorem tz_six (w : World) (hg : w.cell? ⟨0, 1, none⟩ = some (.int .u8 1)) :
    Calls Tryd.prog 40 #[.int .u32 6] w fun e w' => e = .returned (.int .i64 1) ∧ w = w' := by
  have hbits : bits .and .u32 6 4294967290 = 2 := by decide
  go_enter Tryd.func40, Tryd.ntmps40
  go_wp2
  go_ret
  exact ⟨rfl, rfl⟩
set_option maxHeartbeats 1000000 in
theorem tonelli_72 (w : World) (hg : w.cell? ⟨0, 1, none⟩ = some (.int .u8 1)) :
    Calls Tryd.prog 35 #[.int .u32 7, .int .u32 2] w fun e w' => e = .returned (.int .u32 4) ∧ w = w' := by
  have HT := Lib.hid (tz_six w hg)
  clear hg
  go_enter Tryd.func35, Tryd.ntmps35
  go_wp2_with (go_at_call 40; (with_reducible refine HT.out.mono ?_); rintro e w' ⟨rfl, rfl⟩)
  go_loop [7] (fun o => o = .int .u32 2 ∨ o = .int .u32 3) (fun o => 4 - (intOf o).toNat)
  case atStart => exact .inl rfl
  case round =>
    rcases hrel with rfl | rfl
    · go_wp2_with (first
        | (go_at_call 21; (with_reducible refine (P_2_3 _).mono ?_); rintro e w' ⟨rfl, rfl⟩)
        | (go_at_call 21; (with_reducible refine (P_3_3 _).mono ?_); rintro e w' ⟨rfl, rfl⟩)
        | (go_at_call 21; (with_reducible refine (P_2_2 _).mono ?_); rintro e w' ⟨rfl, rfl⟩)
        | (go_at_call 21; (with_reducible refine (P_3_2 _).mono ?_); rintro e w' ⟨rfl, rfl⟩)
        | (go_at_call 21; (with_reducible refine (P_2_1 _).mono ?_); rintro e w' ⟨rfl, rfl⟩))
      go_round
      case rel => exact .inr (by go_num)
      case measure => simp [intOf]
    · go_wp2_with (first
        | (go_at_call 21; (with_reducible refine (P_2_3 _).mono ?_); rintro e w' ⟨rfl, rfl⟩)
        | (go_at_call 21; (with_reducible refine (P_3_3 _).mono ?_); rintro e w' ⟨rfl, rfl⟩)
        | (go_at_call 21; (with_reducible refine (P_2_2 _).mono ?_); rintro e w' ⟨rfl, rfl⟩)
        | (go_at_call 21; (with_reducible refine (P_3_2 _).mono ?_); rintro e w' ⟨rfl, rfl⟩)
        | (go_at_call 21; (with_reducible refine (P_2_1 _).mono ?_); rintro e w' ⟨rfl, rfl⟩))
      go_loop [9, 10] (fun r x => r = .int .u32 4 ∧ x = .int .u32 1) (fun _ _ => 0)
      case atStart => exact ⟨rfl, rfl⟩
      case round =>
        obtain ⟨rfl, rfl⟩ := hrel
        go_wp2
        go_ret
        exact ⟨rfl, rfl⟩
set_option maxHeartbeats 400000 in
theorem root_72 (w : World) (hg : w.cell? ⟨0, 1, none⟩ = some (.int .u8 1)) :
    Calls Tryd.prog 27 #[.int .u32 7, .int .u32 2] w fun e w' => e = .returned (.tuple #[.int .u32 3, .int .i64 0]) ∧ w = w' := by
  have HT := Lib.hid (tonelli_72 w hg)
  clear hg
  go_enter Tryd.func27, Tryd.ntmps27
  go_wp2_with (first
    | (go_at_call 21; (with_reducible refine (P_2_3 _).mono ?_); rintro e w' ⟨rfl, rfl⟩)
    | (go_at_call 21; (with_reducible refine (P_3_3 _).mono ?_); rintro e w' ⟨rfl, rfl⟩)
    | (go_at_call 21; (with_reducible refine (P_2_2 _).mono ?_); rintro e w' ⟨rfl, rfl⟩)
    | (go_at_call 21; (with_reducible refine (P_3_2 _).mono ?_); rintro e w' ⟨rfl, rfl⟩)
    | (go_at_call 21; (with_reducible refine (P_2_1 _).mono ?_); rintro e w' ⟨rfl, rfl⟩)
    | (go_at_call 35; (with_reducible refine HT.out.mono ?_); rintro e w' ⟨rfl, rfl⟩))
  go_ret2
  exact ⟨rfl, rfl⟩
set_option maxHeartbeats 400000 in
theorem root_73 (w : World) :
    Calls Tryd.prog 27 #[.int .u32 7, .int .u32 3] w fun e w' => e = .returned (.tuple #[.int .u32 0, .int .i64 5]) ∧ w = w' := by
  go_enter Tryd.func27, Tryd.ntmps27
  go_wp2_with (first
    | (go_at_call 21; (with_reducible refine (P_2_3 _).mono ?_); rintro e w' ⟨rfl, rfl⟩)
    | (go_at_call 21; (with_reducible refine (P_3_3 _).mono ?_); rintro e w' ⟨rfl, rfl⟩)
    | (go_at_call 21; (with_reducible refine (P_2_2 _).mono ?_); rintro e w' ⟨rfl, rfl⟩)
    | (go_at_call 21; (with_reducible refine (P_3_2 _).mono ?_); rintro e w' ⟨rfl, rfl⟩)
    | (go_at_call 21; (with_reducible refine (P_2_1 _).mono ?_); rintro e w' ⟨rfl, rfl⟩))
  go_ret2
  exact ⟨rfl, rfl⟩
set_option maxHeartbeats 400000 in
theorem inv_70 (w : World) :
    Calls Tryd.prog 23 #[.int .u32 7, .int .u32 0] w fun e w' => e = .returned (.tuple #[.int .u32 0, .int .i64 3]) ∧ w = w' := by
  go_enter Tryd.func23, Tryd.ntmps23
  go_wp2
  go_ret2
  exact ⟨rfl, rfl⟩
set_option maxHeartbeats 1000000 in
theorem inv_73 (w : World) :
    Calls Tryd.prog 23 #[.int .u32 7, .int .u32 3] w fun e w' => e = .returned (.tuple #[.int .u32 5, .int .i64 0]) ∧ w = w' := by
  go_enter Tryd.func23, Tryd.ntmps23
  go_wp2
  go_loop [6, 7, 8, 9] (fun x y u v => (x = .int .i64 7 ∧ y = .int .i64 3 ∧ u = .int .i64 0 ∧ v = .int .i64 1) ∨ (x = .int .i64 3 ∧ y = .int .i64 1 ∧ u = .int .i64 1 ∧ v = .int .i64 (-2)) ∨ (x = .int .i64 1 ∧ y = .int .i64 0 ∧ u = .int .i64 (-2) ∧ v = .int .i64 7)) (fun _ y _ _ => (intOf y).toNat)
  case atStart => exact .inl ⟨rfl, rfl, rfl, rfl⟩
  case round =>
    rcases hrel with ⟨rfl, rfl, rfl, rfl⟩ | ⟨rfl, rfl, rfl, rfl⟩ | ⟨rfl, rfl, rfl, rfl⟩
    · go_wp2
      go_round
      case rel => exact .inr (.inl ⟨by go_num, by go_num, by go_num, by go_num⟩)
      case measure => simp [intOf]
    · go_wp2
      go_round
      case rel => exact .inr (.inr ⟨by go_num, by go_num, by go_num, by go_num⟩)
      case measure => simp [intOf]
    · go_wp2
      go_ret2
      exact ⟨rfl, rfl⟩
end Go.Proofs.YtehlnkhbfbnadaaDoor
