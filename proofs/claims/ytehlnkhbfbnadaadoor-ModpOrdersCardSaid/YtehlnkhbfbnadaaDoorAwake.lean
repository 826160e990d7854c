/- The fixed fact. -/
import Derived.Test.YtehlnkhbfbnadaaDoorOrd
namespace Go.Proofs.YtehlnkhbfbnadaaDoor
open Go.RowKit

theorem A1 (W : World) : Calls Tryd.prog 13 #[.int .u32 7, .int .u32 5, .int .u32 4] W fun e w' => e = .returned (.int .u32 2) ∧ W = w' := madd_any 7 5 4 W (by decide) (by decide) (by decide)
theorem A2 (W : World) : Calls Tryd.prog 15 #[.int .u32 7, .int .u32 2, .int .u32 5] W fun e w' => e = .returned (.int .u32 4) ∧ W = w' := msub_any 7 2 5 W (by decide) (by decide) (by decide)
theorem A3 (W : World) : Calls Tryd.prog 17 #[.int .u32 7, .int .u32 3, .int .u32 5] W fun e w' => e = .returned (.int .u32 1) ∧ W = w' := mmul_any 7 3 5 W (by decide) (by decide) (by decide) (by decide)
theorem A4 (W : World) : Calls Tryd.prog 19 #[.int .u32 7, .int .u32 0] W fun e w' => e = .returned (.int .u32 0) ∧ W = w' := mneg_any 7 0 W (by decide) (by decide)
theorem A5 (W : World) : Calls Tryd.prog 19 #[.int .u32 7, .int .u32 3] W fun e w' => e = .returned (.int .u32 4) ∧ W = w' := mneg_any 7 3 W (by decide) (by decide)

set_option maxHeartbeats 2000000 in
theorem awake_any (w : World) (hg : w.cell? ⟨0, 1, none⟩ = some (.int .u8 1)) : Calls Tryd.prog 12 #[] w fun e w' => e = .returned (.bool true) ∧ Below w.heap.size w w' := by
  have HB0 := Lib.hid (Below.refl w.heap.size w)
  go_enter Tryd.func12, Tryd.ntmps12
  go_wp2_with (first
    | (go_at_call 27; (with_reducible refine (root_72 w hg).mono ?_); rintro e w' ⟨rfl, rfl⟩)
    | (go_at_call 27; (with_reducible refine (root_73 _).mono ?_); rintro e w' ⟨rfl, rfl⟩)
    | (go_at_call 25; (with_reducible refine (order_72 _).mono ?_); rintro e w1 ⟨rfl, hb⟩; have HB1 := Lib.hid (below_chain HB0.out hb); clear hb)
    | (go_at_call 23; (with_reducible refine (inv_73 _).mono ?_); rintro e w' ⟨rfl, rfl⟩)
    | (go_at_call 23; (with_reducible refine (inv_70 _).mono ?_); rintro e w' ⟨rfl, rfl⟩)
    | (go_at_call 30; (with_reducible refine (field_7 _).mono ?_); rintro e w2 ⟨rfl, hb⟩; have HB2 := Lib.hid (below_chain HB1.out hb); clear hb)
    | (go_at_call 30; (with_reducible refine (field_9 _).mono ?_); rintro e w3 ⟨rfl, hb⟩; have HB3 := Lib.hid (below_chain HB2.out hb); clear hb)
    | (go_at_call 13; (with_reducible refine (A1 _).mono ?_); rintro e w' ⟨rfl, rfl⟩)
    | (go_at_call 15; (with_reducible refine (A2 _).mono ?_); rintro e w' ⟨rfl, rfl⟩)
    | (go_at_call 17; (with_reducible refine (A3 _).mono ?_); rintro e w' ⟨rfl, rfl⟩)
    | (go_at_call 19; (with_reducible refine (A4 _).mono ?_); rintro e w' ⟨rfl, rfl⟩)
    | (go_at_call 19; (with_reducible refine (A5 _).mono ?_); rintro e w' ⟨rfl, rfl⟩)
    | (go_at_call 21; (with_reducible refine (P_3_2 _).mono ?_); rintro e w' ⟨rfl, rfl⟩)
    | (go_at_call 32; (with_reducible refine (of_m1 _).mono ?_); rintro e w4 ⟨ad, c, rfl, hc, hbl, _, hb⟩; have HC4 := Lib.hid hc; have HL4 := Lib.hid hbl; have HB4 := Lib.hid (below_chain HB3.out hb); clear hc hbl hb)
    | (go_at_call 31; (with_reducible refine (from_m1 ad c _ HC4.out HL4.out).mono ?_); rintro e w5 ⟨rfl, hb⟩; have HB5 := Lib.hid (below_chain HB4.out hb); clear hb))
  go_ret
  exact ⟨ret_bool (by first | rfl | (simp; done)), HB5.out⟩
end Go.Proofs.YtehlnkhbfbnadaaDoor
