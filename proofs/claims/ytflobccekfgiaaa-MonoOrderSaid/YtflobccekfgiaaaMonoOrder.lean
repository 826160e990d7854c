/- MonoOrder: any order goes on by threes, is turned when two change places, tells alike just what is alike, and 1 is the least: proved for every input, without a condition. -/
import Derived.Test.YtflobccekfgiaaaLawO
import Derived.Test.YtflobccekfgiaaaFrame
namespace Go.Proofs.Ytflobccekfgiaaa
open Go.RowKit Go.ChangeShapes Go.WideShapes Go.ChangeAt Go.Joins Go.Deep

set_option maxRecDepth 100000 in
theorem monoOrder_lifted (os : Os) (started : os.Started) (H : Type) (enc : TypeId × Value → H) :
    ReturnsInHanded {} Try.checked os 6 .any (Rows.monoOrderSpec.pre6 enc Try.prog Try.f6 Rows.monoOrderRow.domain false) (Rows.monoOrderSpec.post enc Try.prog Try.f6 false true false false) := by
  refine returnsInHanded_of_change (C := Try.checked) tryOwn started (by kernel_rfl) Try.func6
    (ChangeSpec.witness6 (enc := enc) (C := Try.checked) false ⟨#[], #[.agg #[.int .i64 0, .int .i64 0], .slice none 0 0, .slice none 0 0, .slice none 0 0], []⟩ 8 (by kernel_rfl) (by kernel_rfl) (by kernel_rfl) (by kernel_rfl)) ?_
  intro W base args ds gs before hval0 hW hcnd _
  have hval : ∀ (j : Nat) t v, Try.f6.params[j]? = some t → args[j]? = some v → Value.okWide Try.prog W .any base t v := hval0
  have hW' : DataW.Whole enc Try.prog Try.f6.params.toList Rows.monoOrderSpec.vars false W args.toList ds gs before := hW
  obtain ⟨p, q, hA0, hV, rfl, hfz, hnd⟩ := hW
  have hA : DataW.TrodAll enc Try.prog W 0 (fun _ => true) true Try.f6.params.toList args.toList ds p := hA0
  rw [Try.params6] at hA hval
  obtain ⟨v0, v1, v2, v3, d0, d1, d2, d3, p0, p1, p2, p3, rfl, rfl, rfl, h0, h1, h2, h3⟩ := trodAll_four hA
  obtain ⟨rfl, rfl⟩ := trodVars_none hV
  obtain ⟨k, cut, rfl⟩ := open_two_ints Try.underlying24 (by kernel_rfl) (by kernel_rfl) rfl rfl Try.underlying3 (hval 0 24 v0 rfl rfl) h0
  obtain ⟨A, xs, c, rfl, hIL1, hlc1, hcm1⟩ := open_IL Try.underlying22 Try.underlying3 (by kernel_rfl) (hval 1 22 v1 rfl rfl) h1
  obtain ⟨B, ys, d, rfl, hIL2, hlc2, hcm2⟩ := open_IL Try.underlying22 Try.underlying3 (by kernel_rfl) (hval 2 22 v2 rfl rfl) h2
  obtain ⟨C, zs, e, rfl, hIL3, hlc3, hcm3⟩ := open_IL Try.underlying22 Try.underlying3 (by kernel_rfl) (hval 3 22 v3 rfl rfl) h3
  have hm1 := hcm1
  unfold maxLen at hm1
  have hm2 := hcm2
  unfold maxLen at hm2
  have hm3 := hcm3
  unfold maxLen at hm3
  refine (law_order k cut A B C xs ys zs c d e W hIL1 hIL2 hIL3 (by omega) (by omega) (by omega) hlc1 hlc2 hlc3).mono fun e W' ⟨he, hb⟩ => ?_
  subst he
  exact ⟨_, rfl, post_law tryLaidOut (by rw [Try.params6]; decide +kernel) rfl rfl (by kernel_rfl) Try.underlying4 hW' hb⟩

theorem monoOrder_holds : Rows.MonoOrderSaid :=
  OpenClaim.holds_of_wide 6 Try.f6 rfl rfl rfl rfl rfl rfl rfl ⟨rfl, rfl, rfl, rfl, rfl⟩ rfl rfl rfl rfl rfl (by kernel_rfl) Try.func6 (by kernel_rfl)
    (of_decide_eq_true (by kernel_rfl)) (by unfold Func.isWrapper; first | (rw [if_pos (by decide +kernel)]; kernel_rfl) | (rw [if_neg (by decide +kernel)]; exact ⟨rfl, rfl⟩))
    (fun os started H enc _ => monoOrder_lifted os started H enc)
end Go.Proofs.Ytflobccekfgiaaa
