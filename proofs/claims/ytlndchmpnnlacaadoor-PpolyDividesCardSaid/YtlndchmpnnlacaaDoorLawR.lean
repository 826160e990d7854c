/- The walk of PpolyRight. -/
import Derived.Test.YtlndchmpnnlacaaDoorAwake
namespace Go.Proofs.YtlndchmpnnlacaaDoor
open Go.RowKit

theorem bool_of (P : Prop) : ∃ b : Bool, b = true ↔ P := ⟨@decide P (Classical.propDecidable P), by simp⟩
theorem chain1 {w1 W W' : World} (h : Below w1.heap.size w1 W) (hb : Below W.heap.size W W') : Below w1.heap.size w1 W' := below_chain h hb
theorem reg {P : Program} {f : FuncId} {args : Array Value} {v : Value} {w w1 : World} (hw : Below w.heap.size w w1) (H : ∀ W : World, Below w.heap.size w W → Calls P f args W fun e w' => e = .returned v ∧ Below W.heap.size W w') :
    ∀ W : World, Below w1.heap.size w1 W → Calls P f args W fun e w' => e = .returned v ∧ Below w1.heap.size w1 w' := fun W hW => (H W (below_chain hw hW)).mono fun _ _ ⟨h1, h2⟩ => ⟨h1, below_chain hW h2⟩
set_option maxRecDepth 100000 in
set_option maxHeartbeats 4000000 in
theorem law_right_yes (p q : Nat) (A B : Option Addr) (xs ys : List Int) (c d : Nat) (w : World) (hg : TabG w) (h : KL .u32 w w.heap.size A xs) (h' : KL .u32 w w.heap.size B ys) (hp : p ≤ 4294967295) (hq : q ≤ 4294967295) (hd : Dig 4294967296 xs) (hd' : Dig 4294967296 ys) (hl : xs.length ≤ 100) (hl' : ys.length ≤ 100) :
    Calls Tryd.prog 3 #[.agg #[.int .u32 (p : Int), .slice A xs.length c], .agg #[.int .u32 (q : Int), .slice B ys.length d]] w fun e w' => e = .returned (.bool true) ∧ Below w.heap.size w w' := by
  have HB0 := Lib.hid (box2_start w p q (.slice A xs.length c) (.slice B ys.length d) 25 25)
  have HAWK : Hid (∀ W : World, Below w.heap.size w W → Calls Tryd.prog 12 #[] W fun e w' => e = .returned (.bool true) ∧ Below W.heap.size W w') := Lib.hid fun W hW => awake_any W (hg.up hW)
  obtain ⟨r, hr⟩ := bool_of (MayP p xs)
  have H1 : Hid (∀ W : World, Below w.heap.size w W → Calls Tryd.prog 13 #[.agg #[.int .u32 (p : Int), .slice A xs.length c]] W fun e w' => e = .returned (.bool r) ∧ Below W.heap.size W w') := Lib.hid fun W hW =>
    (right_any p A xs c W (hg.up hW) ((h.below hW).more hW.size) hp hd (by omega)).mono fun e w' ⟨⟨b, h1, h2⟩, h3⟩ => ⟨by rw [h1, Bool.eq_iff_iff.2 (h2.trans hr.symm)], h3⟩
  have H2 : Hid (∀ W : World, Below w.heap.size w W → Calls Tryd.prog 14 #[.agg #[.int .u32 (p : Int), .slice A xs.length c]] W fun e w' => e = .returned (.bool r) ∧ Below W.heap.size W w') := Lib.hid fun W hW =>
    (rright_any p A xs c W ((h.below hW).more hW.size) hp hd (by omega)).mono fun e w' ⟨⟨b, h1, h2⟩, h3⟩ => ⟨by rw [h1, Bool.eq_iff_iff.2 (h2.trans hr.symm)], h3⟩
  obtain ⟨s, hs⟩ : ∃ s, eqP p q xs ys = s := ⟨_, rfl⟩
  have H3 : Hid (∀ W : World, Below w.heap.size w W → Calls Tryd.prog 15 #[.agg #[.int .u32 (p : Int), .slice A xs.length c], .agg #[.int .u32 (q : Int), .slice B ys.length d]] W fun e w' => e = .returned (.bool s) ∧ Below W.heap.size W w') := Lib.hid fun W hW => by
    rw [← hs]; exact same_any p q A B xs ys c d W ((h.below hW).more hW.size) ((h'.below hW).more hW.size) hd hd' (by omega) (by omega)
  have H4 : Hid (∀ W : World, Below w.heap.size w W → Calls Tryd.prog 16 #[.agg #[.int .u32 (p : Int), .slice A xs.length c], .agg #[.int .u32 (q : Int), .slice B ys.length d]] W fun e w' => e = .returned (.bool s) ∧ Below W.heap.size W w') := Lib.hid fun W hW => by
    rw [← hs]; exact rsame_any p q A B xs ys c d W ((h.below hW).more hW.size) ((h'.below hW).more hW.size) hd hd' (by omega) (by omega)
  obtain ⟨t, ht⟩ := bool_of (p = q ∧ (xs.length ≤ 99 + 1 ∧ MayP p xs) ∧ (ys.length ≤ 99 + 1 ∧ MayP q ys))
  have H5 : Hid (∀ W : World, Below w.heap.size w W → Calls Tryd.prog 17 #[.agg #[.int .u32 (p : Int), .slice A xs.length c], .agg #[.int .u32 (q : Int), .slice B ys.length d], .int .i64 99] W fun e w' => e = .returned (.bool t) ∧ Below W.heap.size W w') := Lib.hid fun W hW =>
    (pair_any p q 99 A B xs ys c d W ((h.below hW).more hW.size) ((h'.below hW).more hW.size) hp hq hd hd' (by omega) (by omega) (by omega)).mono fun e w' ⟨⟨b, h1, h2⟩, h3⟩ => ⟨by rw [h1, Bool.eq_iff_iff.2 (h2.trans ht.symm)], h3⟩
  have H6 : Hid (∀ W : World, Below w.heap.size w W → Calls Tryd.prog 18 #[.agg #[.int .u32 (p : Int), .slice A xs.length c]] W fun e w' => e = .returned (.int .i64 ((xs.length : Int) - 1)) ∧ Below W.heap.size W w') := Lib.hid fun W hW => deg_any p A xs.length c W (by omega)
  have H7 : Hid (∀ W : World, Below w.heap.size w W → Calls Tryd.prog 19 #[.agg #[.int .u32 (p : Int), .slice A xs.length c]] W fun e w' => e = .returned (.int .i64 ((xs.length : Int) - 1)) ∧ Below W.heap.size W w') := Lib.hid fun W hW => rdeg_any p A xs.length c W (by omega)
  obtain ⟨z, hz⟩ : ∃ z, cmpL xs ys = z := ⟨_, rfl⟩
  have H8 : Hid (∀ W : World, Below w.heap.size w W → Calls Tryd.prog 20 #[.agg #[.int .u32 (p : Int), .slice A xs.length c], .agg #[.int .u32 (q : Int), .slice B ys.length d]] W fun e w' => e = .returned (.int .i64 z) ∧ Below W.heap.size W w') := Lib.hid fun W hW => by
    rw [← hz]; exact cmp_any p q A B xs ys c d W ((h.below hW).more hW.size) ((h'.below hW).more hW.size) hd hd' (by omega) (by omega)
  have H9 : Hid (∀ W : World, Below w.heap.size w W → Calls Tryd.prog 21 #[.agg #[.int .u32 (p : Int), .slice A xs.length c], .agg #[.int .u32 (q : Int), .slice B ys.length d]] W fun e w' => e = .returned (.int .i64 z) ∧ Below W.heap.size W w') := Lib.hid fun W hW => by
    rw [← hz]; exact rcmp_any p q A B xs ys c d W ((h.below hW).more hW.size) ((h'.below hW).more hW.size) hd hd' (by omega) (by omega)
  have i1 : (r != r) = false := by simp
  have i2 : (s != s) = false := by simp
  have i5 : decide ((100 : Int) < xs.length) = false := by simp; omega
  have i6 : decide ((100 : Int) < ys.length) = false := by simp; omega
  clear h h' hg hd hd' hr hs ht hz
  go_enter Tryd.func3, Tryd.ntmps3
  go_wp2_with (first
    | (go_at_call 12; (with_reducible refine (HAWK.out _ (by go_grown)).mono ?_); rintro e w1 ⟨rfl, hb1⟩; have HW1 := Lib.hid (HB0.out.up (hb1.mono (by simp))); obtain ⟨⟨a0, a1⟩, ⟨b0, b1⟩, hz1, hbw⟩ := HW1.out; clear hb1))
  have HS : Hid (∀ W : World, Below w1.heap.size w1 W → Below w1.heap.size w1 W ∧ ((W.cell? ⟨w.heap.size, 0, none⟩ = some (.int .u32 (p : Int)) ∧ W.cell? ⟨w.heap.size, 1, none⟩ = some (.slice A xs.length c)) ∧ (W.cell? ⟨w.heap.size + 1, 0, none⟩ = some (.int .u32 (q : Int)) ∧ W.cell? ⟨w.heap.size + 1, 1, none⟩ = some (.slice B ys.length d)))) := Lib.hid fun W hW => by
    obtain ⟨⟨e0, e1⟩, ⟨e2, e3⟩, _, _⟩ := HW1.out.up (hW.mono hz1)
    exact ⟨hW, ⟨e0, e1⟩, e2, e3⟩
  have HD : Hid (Below w1.heap.size w1 w1.drew) := Lib.hid (Below.refl _ _).drew
  have HWB := Lib.hid hbw
  have K1 := Lib.hid (reg HWB.out H1.out)
  have K2 := Lib.hid (reg HWB.out H2.out)
  have K3 := Lib.hid (reg HWB.out H3.out)
  have K4 := Lib.hid (reg HWB.out H4.out)
  have K5 := Lib.hid (reg HWB.out H5.out)
  have K6 := Lib.hid (reg HWB.out H6.out)
  have K7 := Lib.hid (reg HWB.out H7.out)
  have K8 := Lib.hid (reg HWB.out H8.out)
  have K9 := Lib.hid (reg HWB.out H9.out)
  clear hbw
  go_region_held3 (fun W : World => Below w1.heap.size w1 W ∧ ((W.cell? ⟨w.heap.size, 0, none⟩ = some (.int .u32 (p : Int)) ∧ W.cell? ⟨w.heap.size, 1, none⟩ = some (.slice A xs.length c)) ∧ (W.cell? ⟨w.heap.size + 1, 0, none⟩ = some (.int .u32 (q : Int)) ∧ W.cell? ⟨w.heap.size + 1, 1, none⟩ = some (.slice B ys.length d))))
    (first | with_reducible exact HS.out _ hbx | with_reducible exact HS.out _ HD.out)
    (first
      | (go_at_call 13; (with_reducible refine (K1.out _ (by first | exact hbx | exact HD.out)).mono ?_); rintro e w2 ⟨rfl, hbx⟩)
      | (go_at_call 14; (with_reducible refine (K2.out _ (by first | exact hbx | exact HD.out)).mono ?_); rintro e w2 ⟨rfl, hbx⟩)
      | (go_at_call 15; (with_reducible refine (K3.out _ (by first | exact hbx | exact HD.out)).mono ?_); rintro e w2 ⟨rfl, hbx⟩)
      | (go_at_call 16; (with_reducible refine (K4.out _ (by first | exact hbx | exact HD.out)).mono ?_); rintro e w2 ⟨rfl, hbx⟩))
  have HD2 := Lib.hid hbx.drew
  clear hbx
  go_wp2
  by_cases htt : t = true
  · have i3 : (!t) = false := by simp [htt]
    clear htt
    go_region_held3 (fun W : World => Below w1.heap.size w1 W ∧ ((W.cell? ⟨w.heap.size, 0, none⟩ = some (.int .u32 (p : Int)) ∧ W.cell? ⟨w.heap.size, 1, none⟩ = some (.slice A xs.length c)) ∧ (W.cell? ⟨w.heap.size + 1, 0, none⟩ = some (.int .u32 (q : Int)) ∧ W.cell? ⟨w.heap.size + 1, 1, none⟩ = some (.slice B ys.length d))))
      (first | with_reducible exact HS.out _ hby | with_reducible exact HS.out _ HD2.out)
      (first
        | (go_at_call 17; (with_reducible refine (K5.out _ (by first | exact hby | exact HD2.out)).mono ?_); rintro e w3 ⟨rfl, hby⟩)
        | (go_at_call 18; (with_reducible refine (K6.out _ (by first | exact hby | exact HD2.out)).mono ?_); rintro e w3 ⟨rfl, hby⟩)
        | (go_at_call 19; (with_reducible refine (K7.out _ (by first | exact hby | exact HD2.out)).mono ?_); rintro e w3 ⟨rfl, hby⟩)
        | (go_at_call 20; (with_reducible refine (K8.out _ (by first | exact hby | exact HD2.out)).mono ?_); rintro e w3 ⟨rfl, hby⟩)
        | (go_at_call 21; (with_reducible refine (K9.out _ (by first | exact hby | exact HD2.out)).mono ?_); rintro e w3 ⟨rfl, hby⟩))
    go_wp2
    go_ret
    exact ⟨ret_bool (by first | rfl | (simp; done)), below_chain HWB.out hby⟩
  · have i3 : (!t) = true := by simp [htt]
    clear htt
    refine wp_region_noPanic ?_
    refine wp_region_tail (fun (_ : Array Bool) (W : World) => Below w1.heap.size w1 W ∧ ((W.cell? ⟨w.heap.size, 0, none⟩ = some (.int .u32 (p : Int)) ∧ W.cell? ⟨w.heap.size, 1, none⟩ = some (.slice A xs.length c)) ∧ (W.cell? ⟨w.heap.size + 1, 0, none⟩ = some (.int .u32 (q : Int)) ∧ W.cell? ⟨w.heap.size + 1, 1, none⟩ = some (.slice B ys.length d)))) (by kernel_rfl) (HS.out _ HD2.out) (fun hT => ?_)
    refine wpAnyT_take _ [] (i := 0) (oi := _) (v := ?_) (fun _ _ => Iff.rfl) (fun _ _ _ h => h) rfl (by kernel_rfl) (by kernel_rfl) (by kernel_rfl) (by kernel_rfl) (by kernel_rfl) (fun _ _ _ h => h) (by assumption) (Or.inl ⟨by kernel_rfl, ?_⟩) (fun hT => ?_)
    rotate_left 1
    · intro w hSw
      (try dsimp only at hSw)
      first | (go_simp; done) | (go_simp; with_reducible rfl)
    (try simp only [Act.put, List.getElem_toArray, List.getElem_cons_zero, List.setIfInBounds_toArray, List.set_cons_zero, List.set_cons_succ])
    refine wpAnyT_take _ [] (i := 1) (oi := _) (v := ?_) (fun _ _ => Iff.rfl) (fun _ _ _ h => h) rfl (by kernel_rfl) (by kernel_rfl) (by kernel_rfl) (by kernel_rfl) (by kernel_rfl) (fun _ _ _ h => h) (by assumption) (Or.inl ⟨by kernel_rfl, ?_⟩) (fun hT => ?_)
    rotate_left 1
    · intro w hSw
      (try dsimp only at hSw)
      first | (go_simp; done) | (go_simp; with_reducible rfl)
    (try simp only [Act.put, List.getElem_toArray, List.getElem_cons_succ, List.getElem_cons_zero, List.setIfInBounds_toArray, List.set_cons_zero, List.set_cons_succ])
    refine wpAnyT_one (i := 2) (by kernel_rfl) (oi := _) rfl (fun K hK => ?_)
    (try dsimp only [List.getElem_toArray, List.getElem_cons_succ, List.getElem_cons_zero])
    go_simp
    go_at_call 17
    (with_reducible refine (K5.out _ HD2.out).mono ?_)
    rintro e w3 ⟨rfl, hby⟩
    go_wp2_with (fail)
    refine hK.out _ _ (HS.out _ hby) (fun hT => ?_)
    clear hK K
    (try simp only [Act.put, List.getElem_toArray, List.getElem_cons_succ, List.getElem_cons_zero, List.setIfInBounds_toArray, List.set_cons_zero, List.set_cons_succ])
    refine wpAnyT_take _ [] (i := 3) (oi := _) (v := ?_) (fun _ _ => Iff.rfl) (fun _ _ _ h => h) rfl (by kernel_rfl) (by kernel_rfl) (by kernel_rfl) (by kernel_rfl) (by kernel_rfl) (fun _ _ _ h => h) (by assumption) (Or.inl ⟨by kernel_rfl, ?_⟩) (fun hT => ?_)
    rotate_left 1
    · intro w hSw
      (try dsimp only at hSw)
      first | (go_simp; done) | (go_simp; with_reducible rfl)
    (try simp only [Act.put, List.getElem_toArray, List.getElem_cons_succ, List.getElem_cons_zero, List.setIfInBounds_toArray, List.set_cons_zero, List.set_cons_succ])
    refine wpAnyT_take _ [] (i := 4) (oi := _) (v := ?_) (fun _ _ => Iff.rfl) (fun _ _ _ h => h) rfl (by kernel_rfl) (by kernel_rfl) (by kernel_rfl) (by kernel_rfl) (by kernel_rfl) (fun _ _ _ h => h) (by assumption) (Or.inl ⟨by kernel_rfl, ?_⟩) (fun hT => ?_)
    rotate_left 1
    · intro w hSw
      (try dsimp only at hSw)
      first | (go_simp; done) | (go_simp; with_reducible rfl)
    (try simp only [Act.put, List.getElem_toArray, List.getElem_cons_succ, List.getElem_cons_zero, List.setIfInBounds_toArray, List.set_cons_zero, List.set_cons_succ])
    refine wpAnyT_take _ [] (i := 5) (oi := _) (v := undef) (fun _ _ => Iff.rfl) (fun _ _ _ h => h) rfl (by kernel_rfl) (by kernel_rfl) (by kernel_rfl) (by kernel_rfl) (by kernel_rfl) (fun _ _ _ h => h) (by assumption) (Or.inr ⟨by kernel_rfl, rfl⟩) (fun hT => ?_)
    (try simp only [Act.put, List.getElem_toArray, List.getElem_cons_succ, List.getElem_cons_zero, List.setIfInBounds_toArray, List.set_cons_zero, List.set_cons_succ])
    refine wpAnyT_take _ [] (i := 6) (oi := _) (v := undef) (fun _ _ => Iff.rfl) (fun _ _ _ h => h) rfl (by kernel_rfl) (by kernel_rfl) (by kernel_rfl) (by kernel_rfl) (by kernel_rfl) (fun _ _ _ h => h) (by assumption) (Or.inr ⟨by kernel_rfl, rfl⟩) (fun hT => ?_)
    (try simp only [Act.put, List.getElem_toArray, List.getElem_cons_succ, List.getElem_cons_zero, List.setIfInBounds_toArray, List.set_cons_zero, List.set_cons_succ])
    refine wpAnyT_take _ [] (i := 7) (oi := _) (v := undef) (fun _ _ => Iff.rfl) (fun _ _ _ h => h) rfl (by kernel_rfl) (by kernel_rfl) (by kernel_rfl) (by kernel_rfl) (by kernel_rfl) (fun _ _ _ h => h) (by assumption) (Or.inr ⟨by kernel_rfl, rfl⟩) (fun hT => ?_)
    (try simp only [Act.put, List.getElem_toArray, List.getElem_cons_succ, List.getElem_cons_zero, List.setIfInBounds_toArray, List.set_cons_zero, List.set_cons_succ])
    refine wpAnyT_take _ [] (i := 8) (oi := _) (v := undef) (fun _ _ => Iff.rfl) (fun _ _ _ h => h) rfl (by kernel_rfl) (by kernel_rfl) (by kernel_rfl) (by kernel_rfl) (by kernel_rfl) (fun _ _ _ h => h) (by assumption) (Or.inr ⟨by kernel_rfl, rfl⟩) (fun hT => ?_)
    (try simp only [Act.put, List.getElem_toArray, List.getElem_cons_succ, List.getElem_cons_zero, List.setIfInBounds_toArray, List.set_cons_zero, List.set_cons_succ])
    refine wpAnyT_take _ [] (i := 9) (oi := _) (v := undef) (fun _ _ => Iff.rfl) (fun _ _ _ h => h) rfl (by kernel_rfl) (by kernel_rfl) (by kernel_rfl) (by kernel_rfl) (by kernel_rfl) (fun _ _ _ h => h) (by assumption) (Or.inr ⟨by kernel_rfl, rfl⟩) (fun hT => ?_)
    (try simp only [Act.put, List.getElem_toArray, List.getElem_cons_succ, List.getElem_cons_zero, List.setIfInBounds_toArray, List.set_cons_zero, List.set_cons_succ])
    refine wpAnyT_take _ [] (i := 10) (oi := _) (v := undef) (fun _ _ => Iff.rfl) (fun _ _ _ h => h) rfl (by kernel_rfl) (by kernel_rfl) (by kernel_rfl) (by kernel_rfl) (by kernel_rfl) (fun _ _ _ h => h) (by assumption) (Or.inr ⟨by kernel_rfl, rfl⟩) (fun hT => ?_)
    (try simp only [Act.put, List.getElem_toArray, List.getElem_cons_succ, List.getElem_cons_zero, List.setIfInBounds_toArray, List.set_cons_zero, List.set_cons_succ])
    refine wpAnyT_take _ [] (i := 11) (oi := _) (v := undef) (fun _ _ => Iff.rfl) (fun _ _ _ h => h) rfl (by kernel_rfl) (by kernel_rfl) (by kernel_rfl) (by kernel_rfl) (by kernel_rfl) (fun _ _ _ h => h) (by assumption) (Or.inr ⟨by kernel_rfl, rfl⟩) (fun hT => ?_)
    (try simp only [Act.put, List.getElem_toArray, List.getElem_cons_succ, List.getElem_cons_zero, List.setIfInBounds_toArray, List.set_cons_zero, List.set_cons_succ])
    refine wpAnyT_take _ [] (i := 12) (oi := _) (v := undef) (fun _ _ => Iff.rfl) (fun _ _ _ h => h) rfl (by kernel_rfl) (by kernel_rfl) (by kernel_rfl) (by kernel_rfl) (by kernel_rfl) (fun _ _ _ h => h) (by assumption) (Or.inr ⟨by kernel_rfl, rfl⟩) (fun hT => ?_)
    (try simp only [Act.put, List.getElem_toArray, List.getElem_cons_succ, List.getElem_cons_zero, List.setIfInBounds_toArray, List.set_cons_zero, List.set_cons_succ])
    refine wpAnyT_take _ [] (i := 13) (oi := _) (v := undef) (fun _ _ => Iff.rfl) (fun _ _ _ h => h) rfl (by kernel_rfl) (by kernel_rfl) (by kernel_rfl) (by kernel_rfl) (by kernel_rfl) (fun _ _ _ h => h) (by assumption) (Or.inr ⟨by kernel_rfl, rfl⟩) (fun hT => ?_)
    (try simp only [Act.put, List.getElem_toArray, List.getElem_cons_succ, List.getElem_cons_zero, List.setIfInBounds_toArray, List.set_cons_zero, List.set_cons_succ])
    refine wpAnyT_take _ [] (i := 14) (oi := _) (v := undef) (fun _ _ => Iff.rfl) (fun _ _ _ h => h) rfl (by kernel_rfl) (by kernel_rfl) (by kernel_rfl) (by kernel_rfl) (by kernel_rfl) (fun _ _ _ h => h) (by assumption) (Or.inr ⟨by kernel_rfl, rfl⟩) (fun hT => ?_)
    (try simp only [Act.put, List.getElem_toArray, List.getElem_cons_succ, List.getElem_cons_zero, List.setIfInBounds_toArray, List.set_cons_zero, List.set_cons_succ])
    refine wpAnyT_take _ [] (i := 15) (oi := _) (v := undef) (fun _ _ => Iff.rfl) (fun _ _ _ h => h) rfl (by kernel_rfl) (by kernel_rfl) (by kernel_rfl) (by kernel_rfl) (by kernel_rfl) (fun _ _ _ h => h) (by assumption) (Or.inr ⟨by kernel_rfl, rfl⟩) (fun hT => ?_)
    (try simp only [Act.put, List.getElem_toArray, List.getElem_cons_succ, List.getElem_cons_zero, List.setIfInBounds_toArray, List.set_cons_zero, List.set_cons_succ])
    refine wpAnyT_take _ [] (i := 16) (oi := _) (v := undef) (fun _ _ => Iff.rfl) (fun _ _ _ h => h) rfl (by kernel_rfl) (by kernel_rfl) (by kernel_rfl) (by kernel_rfl) (by kernel_rfl) (fun _ _ _ h => h) (by assumption) (Or.inr ⟨by kernel_rfl, rfl⟩) (fun hT => ?_)
    (try simp only [Act.put, List.getElem_toArray, List.getElem_cons_succ, List.getElem_cons_zero, List.setIfInBounds_toArray, List.set_cons_zero, List.set_cons_succ])
    refine wpAnyT_take _ [] (i := 17) (oi := _) (v := undef) (fun _ _ => Iff.rfl) (fun _ _ _ h => h) rfl (by kernel_rfl) (by kernel_rfl) (by kernel_rfl) (by kernel_rfl) (by kernel_rfl) (fun _ _ _ h => h) (by assumption) (Or.inr ⟨by kernel_rfl, rfl⟩) (fun hT => ?_)
    (try simp only [Act.put, List.getElem_toArray, List.getElem_cons_succ, List.getElem_cons_zero, List.setIfInBounds_toArray, List.set_cons_zero, List.set_cons_succ])
    refine wpAnyT_take _ [] (i := 18) (oi := _) (v := undef) (fun _ _ => Iff.rfl) (fun _ _ _ h => h) rfl (by kernel_rfl) (by kernel_rfl) (by kernel_rfl) (by kernel_rfl) (by kernel_rfl) (fun _ _ _ h => h) (by assumption) (Or.inr ⟨by kernel_rfl, rfl⟩) (fun hT => ?_)
    (try simp only [Act.put, List.getElem_toArray, List.getElem_cons_succ, List.getElem_cons_zero, List.setIfInBounds_toArray, List.set_cons_zero, List.set_cons_succ])
    refine wpAnyT_take _ [] (i := 19) (oi := _) (v := ?_) (fun _ _ => Iff.rfl) (fun _ _ _ h => h) rfl (by kernel_rfl) (by kernel_rfl) (by kernel_rfl) (by kernel_rfl) (by kernel_rfl) (fun _ _ _ h => h) (by assumption) (Or.inl ⟨by kernel_rfl, ?_⟩) (fun hT => ?_)
    rotate_left 1
    · intro w hSw
      (try dsimp only at hSw)
      first | (go_simp; done) | (go_simp; with_reducible rfl)
    (try simp only [Act.put, List.getElem_toArray, List.getElem_cons_succ, List.getElem_cons_zero, List.setIfInBounds_toArray, List.set_cons_zero, List.set_cons_succ])
    refine wpAnyT_take _ [] (i := 20) (oi := _) (v := ?_) (fun _ _ => Iff.rfl) (fun _ _ _ h => h) rfl (by kernel_rfl) (by kernel_rfl) (by kernel_rfl) (by kernel_rfl) (by kernel_rfl) (fun _ _ _ h => h) (by assumption) (Or.inl ⟨by kernel_rfl, ?_⟩) (fun hT => ?_)
    rotate_left 1
    · intro w hSw
      (try dsimp only at hSw)
      first | (go_simp; done) | (go_simp; with_reducible rfl)
    (try simp only [Act.put, List.getElem_toArray, List.getElem_cons_succ, List.getElem_cons_zero, List.setIfInBounds_toArray, List.set_cons_zero, List.set_cons_succ])
    refine wpAnyT_done (by kernel_rfl) ?_ _
    refine NoPanic.normal ?_
    go_wp2
    go_ret
    exact ⟨ret_bool (by first | rfl | (simp; done)), below_chain HWB.out hby⟩
set_option maxHeartbeats 1000000 in
theorem law_right_far (p q : Nat) (A B : Option Addr) (n m : Nat) (c d : Nat) (w : World) (hg : TabG w) (hl : 100 < n ∨ (n ≤ 100 ∧ 100 < m)) :
    Calls Tryd.prog 3 #[.agg #[.int .u32 (p : Int), .slice A n c], .agg #[.int .u32 (q : Int), .slice B m d]] w fun e w' => e = .returned (.bool true) ∧ Below w.heap.size w w' := by
  have HB0 := Lib.hid (box2_start w p q (.slice A n c) (.slice B m d) 25 25)
  have HAWK : Hid (∀ W : World, Below w.heap.size w W → Calls Tryd.prog 12 #[] W fun e w' => e = .returned (.bool true) ∧ Below W.heap.size W w') := Lib.hid fun W hW => awake_any W (hg.up hW)
  clear hg
  rcases hl with hl | ⟨hl, hm⟩
  · have i5 : decide ((100 : Int) < (n : Int)) = true := by simp; omega
    clear hl
    go_enter Tryd.func3, Tryd.ntmps3
    go_wp2_with (first
      | (go_at_call 12; (with_reducible refine (HAWK.out _ (by go_grown)).mono ?_); rintro e w1 ⟨rfl, hb1⟩; have HW1 := Lib.hid (HB0.out.up (hb1.mono (by simp))); obtain ⟨⟨a0, a1⟩, ⟨b0, b1⟩, hz1, hbw⟩ := HW1.out; clear hb1))
    go_ret
    exact ⟨rfl, hbw⟩
  · have i5 : decide ((100 : Int) < (n : Int)) = false := by simp; omega
    have i6 : decide ((100 : Int) < (m : Int)) = true := by simp; omega
    clear hl hm
    go_enter Tryd.func3, Tryd.ntmps3
    go_wp2_with (first
      | (go_at_call 12; (with_reducible refine (HAWK.out _ (by go_grown)).mono ?_); rintro e w1 ⟨rfl, hb1⟩; have HW1 := Lib.hid (HB0.out.up (hb1.mono (by simp))); obtain ⟨⟨a0, a1⟩, ⟨b0, b1⟩, hz1, hbw⟩ := HW1.out; clear hb1))
    go_ret
    exact ⟨rfl, hbw⟩
theorem law_right (p : Nat) (A : Option Addr) (xs : List Int) (c : Nat) (q : Nat) (B : Option Addr) (ys : List Int) (d : Nat) (w : World) (hg : TabG w) (hp : p ≤ 4294967295) (h : KL .u32 w w.heap.size A xs) (hd : Dig 4294967296 xs) (hq : q ≤ 4294967295) (h' : KL .u32 w w.heap.size B ys) (hd' : Dig 4294967296 ys) :
    Calls Tryd.prog 3 #[.agg #[.int .u32 (p : Int), .slice A xs.length c], .agg #[.int .u32 (q : Int), .slice B ys.length d]] w fun e w' => e = .returned (.bool true) ∧ Below w.heap.size w w' := by
  rcases Nat.lt_or_ge 100 xs.length with h1 | h1
  · exact law_right_far p q A B xs.length ys.length c d w hg (.inl h1)
  · rcases Nat.lt_or_ge 100 ys.length with h2 | h2
    · exact law_right_far p q A B xs.length ys.length c d w hg (.inr ⟨h1, h2⟩)
    · exact law_right_yes p q A B xs ys c d w hg h h' hp hq hd hd' h1 h2
end Go.Proofs.YtlndchmpnnlacaaDoor
