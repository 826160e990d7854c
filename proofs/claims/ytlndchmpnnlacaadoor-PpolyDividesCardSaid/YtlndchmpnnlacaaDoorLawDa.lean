/- The walk of PpolyDivides, the other cases. -/
import Derived.Test.YtlndchmpnnlacaaDoorLawD
namespace Go.Proofs.YtlndchmpnnlacaaDoor
open Go.RowKit

theorem divmod_nought (p : Nat) (A B : Option Addr) (n c d : Nat) (w : World) :
    Calls Tryd.prog 46 #[.agg #[.int .u32 (p : Int), .slice A n c], .agg #[.int .u32 (p : Int), .slice B 0 d]] w fun e w' => e = .returned (.tuple #[.agg #[.int .u32 0, .slice none 0 0], .agg #[.int .u32 0, .slice none 0 0], .int .i64 3]) ∧ Below w.heap.size w w' := by
  go_enter Tryd.func46, Tryd.ntmps46
  go_wp2
  refine bodyPost_ret (v := .tuple #[.agg #[.int .u32 0, .slice none 0 0], .agg #[.int .u32 0, .slice none 0 0], .int .i64 3]) (by simp [results, Tryd.results46, go_sem]) rfl ?_
  exact ⟨rfl, by go_grown⟩
set_option maxRecDepth 100000 in
set_option maxHeartbeats 16000000 in
theorem law_div_zero (p : Nat) (A B : Option Addr) (f : List Int) (c d : Nat) (w : World) (hg : TabG w) (kA : KL .u32 w w.heap.size A f) (hf : MayP p f) (lf : f.length ≤ 21) :
    Calls Tryd.prog 6 #[.agg #[.int .u32 (p : Int), .slice A f.length c], .agg #[.int .u32 (p : Int), .slice B 0 d]] w fun e w' => e = .returned (.bool true) ∧ Below w.heap.size w w' := by
  have hp : p ≤ 2147483647 := hf.1.2.1
  have P_f := hf.2
  have HB0 : Hid (Box2 w p p (.slice A f.length c) (.slice B 0 d) ((w.alloc (.cells #[.int .u32 (p : Int), .slice A f.length c] 25)).alloc (.cells #[.int .u32 (p : Int), .slice B 0 d] 25))) := Lib.hid (box2_start w p p _ _ _ _)
  have HAWK : Hid (∀ W : World, Below w.heap.size w W → Calls Tryd.prog 12 #[] W fun e w' => e = .returned (.bool true) ∧ Below W.heap.size W w') := Lib.hid fun W hW => awake_any W (hg.up hW)
  have HP1 : Hid (∀ W : World, Below w.heap.size w W → Calls Tryd.prog 17 #[.agg #[.int .u32 (p : Int), .slice A f.length c], .agg #[.int .u32 (p : Int), .slice B 0 d], .int .i64 20] W fun e w' => e = .returned (.bool true) ∧ Below W.heap.size W w') := Lib.hid fun W hW =>
    (pair_any p p 20 A B f [] c d W (kA.up hW) KL.nil_ (by omega) (by omega) (P_f.1.w (by omega)) Dig.nil_ (by omega) (by simp) (by omega)).mono fun e w' ⟨⟨b, h1, h2⟩, h3⟩ => ⟨by rw [h1, h2.2 ⟨rfl, ⟨lf, hf⟩, by simp, hf.1, Pol.nil_ p⟩], h3⟩
  have HD1 : Hid (∀ W : World, Calls Tryd.prog 46 #[.agg #[.int .u32 (p : Int), .slice A f.length c], .agg #[.int .u32 (p : Int), .slice B 0 d]] W fun e w' => e = .returned (.tuple #[.agg #[.int .u32 0, .slice none 0 0], .agg #[.int .u32 0, .slice none 0 0], .int .i64 3]) ∧ Below W.heap.size W w') := Lib.hid fun W => divmod_nought p A B f.length c d W
  have HD2 : Hid (∀ W : World, Calls Tryd.prog 47 #[.agg #[.int .u32 (p : Int), .slice A f.length c], .agg #[.int .u32 (p : Int), .slice B 0 d]] W fun e w' => e = .returned (.tuple #[.agg #[.int .u32 0, .slice none 0 0], .agg #[.int .u32 0, .slice none 0 0], .int .i64 3]) ∧ Below W.heap.size W w') := Lib.hid fun W => rdivmod_nought p A B f.length c d W
  have HQ : Hid (∀ W : World, Calls Tryd.prog 16 #[.agg #[.int .u32 0, .slice none 0 0], .agg #[.int .u32 0, .slice none 0 0]] W fun e w' => e = .returned (.bool true) ∧ Below W.heap.size W w') := Lib.hid fun W => (rsame_any 0 0 none none [] [] 0 0 W KL.nil_ KL.nil_ Dig.nil_ Dig.nil_ (by simp) (by simp)).mono fun e w' ⟨h1, h2⟩ => ⟨by rw [h1]; rfl, h2⟩
  clear kA hg hf P_f lf
  go_enter Tryd.func6, Tryd.ntmps6
  go_wp2_with (first
    | (go_at_call 12; (with_reducible refine (HAWK.out _ (by go_grown)).mono ?_); rintro e w1 ⟨rfl, hb1⟩; have HW1 := Lib.hid (HB0.out.up (hb1.mono (by simp))); obtain ⟨⟨f0, f1⟩, ⟨g0, g1⟩, hz1, hbw1⟩ := HW1.out; clear hb1)
    | (go_at_call 17; (with_reducible refine (HP1.out _ hbw1).mono ?_); rintro e w2 ⟨rfl, hb2⟩; have HW2 := Lib.hid (HW1.out.up (hb2.mono hz1)); clear f0 f1 g0 g1; obtain ⟨⟨f0, f1⟩, ⟨g0, g1⟩, hz2, hbw2⟩ := HW2.out; clear hb2)
    | (go_at_call 46; (with_reducible refine (HD1.out _).mono ?_); rintro e w3 ⟨rfl, hb3⟩; have HW3 := Lib.hid (HW2.out.up' hb3); clear f0 f1 g0 g1 hb3; have f0 := two_newc HW3.out.1.1; have f1 := two_newc HW3.out.1.2; have g0 := two_newc HW3.out.2.1.1; have g1 := two_newc HW3.out.2.1.2)
    | (go_at_call 47; (with_reducible refine (HD2.out _).mono ?_); rintro e w4 ⟨rfl, hb4⟩; have HW4 := Lib.hid (show Box2 w p p (.slice A f.length c) (.slice B 0 d) w4 ∧ ((BoxQ w4 w3.heap.size (.int .u32 0) (.slice none 0 0)) ∧ BoxQ w4 (w3.heap.size + 1) (.int .u32 0) (.slice none 0 0)) from ⟨(HW3.out.up' (by go_grown)).up' hb4, BoxQ.up ⟨⟨(by go_cell), (by go_cell)⟩, (by (simp only [World.size_alloc]; omega))⟩ hb4, BoxQ.up ⟨⟨(by go_cell), (by go_cell)⟩, (by (simp only [World.size_alloc]; omega))⟩ hb4⟩); clear f0 f1 g0 g1 hb4; have q0 := two_newc HW4.out.2.1.1.1; have q1 := two_newc HW4.out.2.1.1.2)
    | (go_at_call 16; (with_reducible refine (HQ.out _).mono ?_); rintro e w5 ⟨rfl, hb5⟩; have HW5 := Lib.hid (show Box2 w p p (.slice A f.length c) (.slice B 0 d) w5 ∧ ((BoxQ w5 (w3.heap.size + 1) (.int .u32 0) (.slice none 0 0)) ∧ BoxQ w5 (w4.heap.size + 1) (.int .u32 0) (.slice none 0 0)) from ⟨(HW4.out.1.up' (by go_grown)).up' hb5, (HW4.out.2.2.up (by go_grown)).up hb5, BoxQ.up ⟨⟨(by go_cell), (by go_cell)⟩, (by (simp only [World.size_alloc]; omega))⟩ hb5⟩); clear q0 q1 hb5 HQ; obtain ⟨⟨⟨r0, r1⟩, _⟩, ⟨⟨s0, s1⟩, _⟩⟩ := HW5.out.2; have HQ2 : Hid (∀ W : World, Calls Tryd.prog 16 #[.agg #[.int .u32 0, .slice none 0 0], .agg #[.int .u32 0, .slice none 0 0]] W fun e w' => e = .returned (.bool true) ∧ Below W.heap.size W w') := Lib.hid fun W => (rsame_any 0 0 none none [] [] 0 0 W KL.nil_ KL.nil_ Dig.nil_ Dig.nil_ (by simp) (by simp)).mono fun e w' ⟨h1, h2⟩ => ⟨(by rw [h1]; rfl), h2⟩)
    | (go_at_call 16; (with_reducible refine (HQ2.out _).mono ?_); rintro e w6 ⟨rfl, hb6⟩; have HB6 := Lib.hid (below_chain HW5.out.1.2.2.2 hb6); clear hb6 r0 r1 s0 s1))
  refine wp_region_noPanic ?_
  refine wp_region_tail (fun (_ : Array Bool) (W : World) => Below w.heap.size w W) (by kernel_rfl) (HB6.out.drew) (fun hT => ?_)
  refine wpAnyT_take _ [] (i := 0) (oi := _) (v := ?_) (fun _ _ => Iff.rfl) (fun _ _ _ h => h) rfl (by kernel_rfl) (by kernel_rfl) (by kernel_rfl) (by kernel_rfl) (by kernel_rfl) (fun _ _ _ h => h) (by assumption) (Or.inl ⟨by kernel_rfl, ?_⟩) (fun hT => ?_)
  rotate_left 1
  · intro w hSw
    (try dsimp only at hSw)
    first | (go_simp; done) | (go_simp; with_reducible rfl)
  (try simp only [Act.put, List.getElem_toArray, List.getElem_cons_zero, List.setIfInBounds_toArray, List.set_cons_zero, List.set_cons_succ])
  refine wpAnyT_take _ [] (i := 1) (oi := _) (v := ?_) (fun _ _ => Iff.rfl) (fun _ _ _ h => h) rfl (by kernel_rfl) (by kernel_rfl) (by kernel_rfl) (by kernel_rfl) (by kernel_rfl) (fun _ _ _ h => h) (by assumption) (Or.inl ⟨by kernel_rfl, ?_⟩) (fun hT => ?_)
  rotate_left 1
  · intro w hSw
    (try dsimp only at hSw)
    first | (go_simp; done) | (go_simp; with_reducible rfl)
  (try simp only [Act.put, List.getElem_toArray, List.getElem_cons_succ, List.getElem_cons_zero, List.setIfInBounds_toArray, List.set_cons_zero, List.set_cons_succ])
  refine wpAnyT_take _ [] (i := 2) (oi := _) (v := ?_) (fun _ _ => Iff.rfl) (fun _ _ _ h => h) rfl (by kernel_rfl) (by kernel_rfl) (by kernel_rfl) (by kernel_rfl) (by kernel_rfl) (fun _ _ _ h => h) (by assumption) (Or.inl ⟨by kernel_rfl, ?_⟩) (fun hT => ?_)
  rotate_left 1
  · intro w hSw
    (try dsimp only at hSw)
    first | (go_simp; done) | (go_simp; with_reducible rfl)
  (try simp only [Act.put, List.getElem_toArray, List.getElem_cons_succ, List.getElem_cons_zero, List.setIfInBounds_toArray, List.set_cons_zero, List.set_cons_succ])
  refine wpAnyT_take _ [] (i := 3) (oi := _) (v := undef) (fun _ _ => Iff.rfl) (fun _ _ _ h => h) rfl (by kernel_rfl) (by kernel_rfl) (by kernel_rfl) (by kernel_rfl) (by kernel_rfl) (fun _ _ _ h => h) (by assumption) (Or.inr ⟨by kernel_rfl, rfl⟩) (fun hT => ?_)
  (try simp only [Act.put, List.getElem_toArray, List.getElem_cons_succ, List.getElem_cons_zero, List.setIfInBounds_toArray, List.set_cons_zero, List.set_cons_succ])
  refine wpAnyT_take _ [] (i := 4) (oi := _) (v := undef) (fun _ _ => Iff.rfl) (fun _ _ _ h => h) rfl (by kernel_rfl) (by kernel_rfl) (by kernel_rfl) (by kernel_rfl) (by kernel_rfl) (fun _ _ _ h => h) (by assumption) (Or.inr ⟨by kernel_rfl, rfl⟩) (fun hT => ?_)
  (try simp only [Act.put, List.getElem_toArray, List.getElem_cons_succ, List.getElem_cons_zero, List.setIfInBounds_toArray, List.set_cons_zero, List.set_cons_succ])
  refine wpAnyT_take _ [] (i := 5) (oi := _) (v := undef) (fun _ _ => Iff.rfl) (fun _ _ _ h => h) rfl (by kernel_rfl) (by kernel_rfl) (by kernel_rfl) (by kernel_rfl) (by kernel_rfl) (fun _ _ _ h => h) (by assumption) (Or.inr ⟨by kernel_rfl, rfl⟩) (fun hT => ?_)
  (try simp only [Act.put, List.getElem_toArray, List.getElem_cons_succ, List.getElem_cons_zero, List.setIfInBounds_toArray, List.set_cons_zero, List.set_cons_succ])
  refine wpAnyT_take _ [] (i := 6) (oi := _) (v := undef) (fun _ _ => Iff.rfl) (fun _ _ _ h => h) rfl (by kernel_rfl) (by kernel_rfl) (by kernel_rfl) (by kernel_rfl) (by kernel_rfl) (fun _ _ _ h => h) (by assumption) (Or.inr ⟨by kernel_rfl, rfl⟩) (fun hT => ?_)
  (try simp only [Act.put, List.getElem_toArray, List.getElem_cons_succ, List.getElem_cons_zero, List.setIfInBounds_toArray, List.set_cons_zero, List.set_cons_succ])
  refine wpAnyT_take _ [] (i := 7) (oi := _) (v := undef) (fun _ _ => Iff.rfl) (fun _ _ _ h => h) rfl (by kernel_rfl) (by kernel_rfl) (by kernel_rfl) (by kernel_rfl) (by kernel_rfl) (fun _ _ _ h => h) (by assumption) (Or.inr ⟨by kernel_rfl, rfl⟩) (fun hT => ?_)
  (try simp only [Act.put, List.getElem_toArray, List.getElem_cons_succ, List.getElem_cons_zero, List.setIfInBounds_toArray, List.set_cons_zero, List.set_cons_succ])
  refine wpAnyT_take _ [] (i := 8) (oi := _) (v := undef) (fun _ _ => Iff.rfl) (fun _ _ _ h => h) rfl (by kernel_rfl) (by kernel_rfl) (by kernel_rfl) (by kernel_rfl) (by kernel_rfl) (fun _ _ _ h => h) (by assumption) (Or.inr ⟨by kernel_rfl, rfl⟩) (fun hT => ?_)
  (try simp only [Act.put, List.getElem_toArray, List.getElem_cons_succ, List.getElem_cons_zero, List.setIfInBounds_toArray, List.set_cons_zero, List.set_cons_succ])
  refine wpAnyT_take _ [] (i := 9) (oi := _) (v := undef) (fun _ _ => Iff.rfl) (fun _ _ _ h => h) rfl (by kernel_rfl) (by kernel_rfl) (by kernel_rfl) (by kernel_rfl) (by kernel_rfl) (fun _ _ _ h => h) (by assumption) (Or.inr ⟨by kernel_rfl, rfl⟩) (fun hT => ?_)
  (try simp only [Act.put, List.getElem_toArray, List.getElem_cons_succ, List.getElem_cons_zero, List.setIfInBounds_toArray, List.set_cons_zero, List.set_cons_succ])
  refine wpAnyT_take _ [] (i := 10) (oi := _) (v := undef) (fun _ _ => Iff.rfl) (fun _ _ _ h => h) rfl (by kernel_rfl) (by kernel_rfl) (by kernel_rfl) (by kernel_rfl) (by kernel_rfl) (fun _ _ _ h => h) (by assumption) (Or.inr ⟨by kernel_rfl, rfl⟩) (fun hT => ?_)
  (try simp only [Act.put, List.getElem_toArray, List.getElem_cons_succ, List.getElem_cons_zero, List.setIfInBounds_toArray, List.set_cons_zero, List.set_cons_succ])
  refine wpAnyT_take _ [] (i := 11) (oi := _) (v := undef) (fun _ _ => Iff.rfl) (fun _ _ _ h => h) rfl (by kernel_rfl) (by kernel_rfl) (by kernel_rfl) (by kernel_rfl) (by kernel_rfl) (fun _ _ _ h => h) (by assumption) (Or.inr ⟨by kernel_rfl, rfl⟩) (fun hT => ?_)
  (try simp only [Act.put, List.getElem_toArray, List.getElem_cons_succ, List.getElem_cons_zero, List.setIfInBounds_toArray, List.set_cons_zero, List.set_cons_succ])
  refine wpAnyT_take _ [] (i := 12) (oi := _) (v := undef) (fun _ _ => Iff.rfl) (fun _ _ _ h => h) rfl (by kernel_rfl) (by kernel_rfl) (by kernel_rfl) (by kernel_rfl) (by kernel_rfl) (fun _ _ _ h => h) (by assumption) (Or.inr ⟨by kernel_rfl, rfl⟩) (fun hT => ?_)
  (try simp only [Act.put, List.getElem_toArray, List.getElem_cons_succ, List.getElem_cons_zero, List.setIfInBounds_toArray, List.set_cons_zero, List.set_cons_succ])
  refine wpAnyT_take _ [] (i := 13) (oi := _) (v := undef) (fun _ _ => Iff.rfl) (fun _ _ _ h => h) rfl (by kernel_rfl) (by kernel_rfl) (by kernel_rfl) (by kernel_rfl) (by kernel_rfl) (fun _ _ _ h => h) (by assumption) (Or.inr ⟨by kernel_rfl, rfl⟩) (fun hT => ?_)
  (try simp only [Act.put, List.getElem_toArray, List.getElem_cons_succ, List.getElem_cons_zero, List.setIfInBounds_toArray, List.set_cons_zero, List.set_cons_succ])
  refine wpAnyT_take _ [] (i := 14) (oi := _) (v := undef) (fun _ _ => Iff.rfl) (fun _ _ _ h => h) rfl (by kernel_rfl) (by kernel_rfl) (by kernel_rfl) (by kernel_rfl) (by kernel_rfl) (fun _ _ _ h => h) (by assumption) (Or.inr ⟨by kernel_rfl, rfl⟩) (fun hT => ?_)
  (try simp only [Act.put, List.getElem_toArray, List.getElem_cons_succ, List.getElem_cons_zero, List.setIfInBounds_toArray, List.set_cons_zero, List.set_cons_succ])
  refine wpAnyT_take _ [] (i := 15) (oi := _) (v := undef) (fun _ _ => Iff.rfl) (fun _ _ _ h => h) rfl (by kernel_rfl) (by kernel_rfl) (by kernel_rfl) (by kernel_rfl) (by kernel_rfl) (fun _ _ _ h => h) (by assumption) (Or.inr ⟨by kernel_rfl, rfl⟩) (fun hT => ?_)
  (try simp only [Act.put, List.getElem_toArray, List.getElem_cons_succ, List.getElem_cons_zero, List.setIfInBounds_toArray, List.set_cons_zero, List.set_cons_succ])
  refine wpAnyT_take _ [] (i := 16) (oi := _) (v := undef) (fun _ _ => Iff.rfl) (fun _ _ _ h => h) rfl (by kernel_rfl) (by kernel_rfl) (by kernel_rfl) (by kernel_rfl) (by kernel_rfl) (fun _ _ _ h => h) (by assumption) (Or.inr ⟨by kernel_rfl, rfl⟩) (fun hT => ?_)
  (try simp only [Act.put, List.getElem_toArray, List.getElem_cons_succ, List.getElem_cons_zero, List.setIfInBounds_toArray, List.set_cons_zero, List.set_cons_succ])
  refine wpAnyT_take _ [] (i := 17) (oi := _) (v := ?_) (fun _ _ => Iff.rfl) (fun _ _ _ h => h) rfl (by kernel_rfl) (by kernel_rfl) (by kernel_rfl) (by kernel_rfl) (by kernel_rfl) (fun _ _ _ h => h) (by assumption) (Or.inl ⟨by kernel_rfl, ?_⟩) (fun hT => ?_)
  rotate_left 1
  · intro w hSw
    (try dsimp only at hSw)
    first | (go_simp; done) | (go_simp; with_reducible rfl)
  (try simp only [Act.put, List.getElem_toArray, List.getElem_cons_succ, List.getElem_cons_zero, List.setIfInBounds_toArray, List.set_cons_zero, List.set_cons_succ])
  refine wpAnyT_take _ [] (i := 18) (oi := _) (v := ?_) (fun _ _ => Iff.rfl) (fun _ _ _ h => h) rfl (by kernel_rfl) (by kernel_rfl) (by kernel_rfl) (by kernel_rfl) (by kernel_rfl) (fun _ _ _ h => h) (by assumption) (Or.inl ⟨by kernel_rfl, ?_⟩) (fun hT => ?_)
  rotate_left 1
  · intro w hSw
    (try dsimp only at hSw)
    first | (go_simp; done) | (go_simp; with_reducible rfl)
  (try simp only [Act.put, List.getElem_toArray, List.getElem_cons_succ, List.getElem_cons_zero, List.setIfInBounds_toArray, List.set_cons_zero, List.set_cons_succ])
  refine wpAnyT_done (by kernel_rfl) ?_ _
  refine NoPanic.normal ?_
  go_wp2
  go_ret
  exact ⟨ret_bool (by first | rfl | (simp; done)), HB6.out.drew⟩
set_option maxHeartbeats 1000000 in
theorem law_div_no (p q : Nat)  (A B : Option Addr) (f g : List Int) (c d : Nat) (w : World) (hg : TabG w) (kA : KL .u32 w w.heap.size A f) (kB : KL .u32 w w.heap.size B g)
    (hp : p ≤ 4294967295) (hq : q ≤ 4294967295) (df : Dig 4294967296 f) (dg : Dig 4294967296 g) (mf : f.length ≤ maxLen) (mg : g.length ≤ maxLen)
    (hn : ¬ (p = q ∧ (f.length ≤ 20 + 1 ∧ MayP p f) ∧ (g.length ≤ 20 + 1 ∧ MayP q g))) :
    Calls Tryd.prog 6 #[.agg #[.int .u32 (p : Int), .slice A f.length c], .agg #[.int .u32 (q : Int), .slice B g.length d]] w fun e w' => e = .returned (.bool true) ∧ Below w.heap.size w w' := by
  have HB0 := Lib.hid (box2_start w p q (.slice A f.length c) (.slice B g.length d) 25 25)
  have HAWK : Hid (∀ W : World, Below w.heap.size w W → Calls Tryd.prog 12 #[] W fun e w' => e = .returned (.bool true) ∧ Below W.heap.size W w') := Lib.hid fun W hW => awake_any W (hg.up hW)
  have HP1 : Hid (∀ W : World, Below w.heap.size w W → Calls Tryd.prog 17 #[.agg #[.int .u32 (p : Int), .slice A f.length c], .agg #[.int .u32 (q : Int), .slice B g.length d], .int .i64 20] W fun e w' => e = .returned (.bool false) ∧ Below W.heap.size W w') := Lib.hid fun W hW =>
    (pair_all p q 20 A B f g c d W (kA.up hW) (kB.up hW) hp hq df dg mf mg (by omega)).mono fun e w' ⟨⟨b, h1, h2⟩, h3⟩ => ⟨by
      cases b with
      | false => exact h1
      | true => exact absurd (h2.1 rfl) hn, h3⟩
  clear kA kB hg df dg hn
  go_enter Tryd.func6, Tryd.ntmps6
  go_wp2_with (first
    | (go_at_call 12; (with_reducible refine (HAWK.out _ (by go_grown)).mono ?_); rintro e w1 ⟨rfl, hb1⟩; have HW1 := Lib.hid (HB0.out.up (hb1.mono (by simp))); obtain ⟨⟨f0, f1⟩, ⟨g0, g1⟩, hz1, hbw1⟩ := HW1.out; clear hb1)
    | (go_at_call 17; (with_reducible refine (HP1.out _ hbw1).mono ?_); rintro e w2 ⟨rfl, hb2⟩; have HB3 := Lib.hid (below_chain hbw1 hb2); clear hb2))
  go_ret
  exact ⟨rfl, HB3.out⟩
theorem law_div (p : Nat) (A : Option Addr) (f : List Int) (c : Nat) (q : Nat) (B : Option Addr) (g : List Int) (d : Nat) (w : World) (hg : TabG w) (hp : p ≤ 4294967295) (kA : KL .u32 w w.heap.size A f) (df : Dig 4294967296 f) (mf : f.length ≤ maxLen)
    (hq : q ≤ 4294967295) (kB : KL .u32 w w.heap.size B g) (dg : Dig 4294967296 g) (mg : g.length ≤ maxLen) :
    Calls Tryd.prog 6 #[.agg #[.int .u32 (p : Int), .slice A f.length c], .agg #[.int .u32 (q : Int), .slice B g.length d]] w fun e w' => e = .returned (.bool true) ∧ Below w.heap.size w w' := by
  by_cases hn : p = q ∧ (f.length ≤ 20 + 1 ∧ MayP p f) ∧ (g.length ≤ 20 + 1 ∧ MayP q g)
  · obtain ⟨rfl, ⟨l1, m1⟩, l2, m2⟩ := hn
    by_cases ng : g = []
    · subst ng
      exact law_div_zero p A B f c d w hg kA m1 l1
    · exact law_div_yes p A B f g c d w hg kA kB m1 m2 ng l1 l2
  · exact law_div_no p q A B f g c d w hg kA kB hp hq df dg mf mg hn
end Go.Proofs.YtlndchmpnnlacaaDoor
