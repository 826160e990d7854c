/- Contracts of the reference: Scale, Diff, Add, Value. -/
import Derived.Test.YtlndchmpnnlacaaDoorRInv
import Derived.Test.YtlndchmpnnlacaaDoorDiff
namespace Go.Proofs.YtlndchmpnnlacaaDoor
open Go.RowKit

theorem Laid2.grown {w : World} {p q : Nat} {v v' : Value} {W W' : World} {u : Value} {e : TypeId} {n : Nat} {xs : List Value} (h : Laid2 w p q v v' W) (hg : W.grownBy W' u.ownBlock) (hown : W.ownsRow (w.heap.size + 1 + 1 + 1) e 1 u n xs) : Laid2 w p q v v' W' :=
  h.up ((Below.refl (w.heap.size + 1 + 1 + 1) W).grown hg h.2.2.2.2.1 fun j hj => by
    rcases hown.2 with ⟨rfl, _⟩ | ⟨g, cap, cur, rfl, hb, _⟩
    · cases hj
    · have : g = j := by simpa [Value.ownBlock] using hj
      omega)
set_option maxRecDepth 100000 in
set_option maxHeartbeats 4000000 in
theorem rscale_any (p k : Nat) (A : Option Addr) (xs : List Int) (c : Nat) (w : World) (h : KL .u32 w w.heap.size A xs) (hp : p ≤ 2147483647) (hp0 : 0 < p) (hd : Dig p xs) (hk : k < p) (hl : xs.length ≤ 1000000) :
    Calls Tryd.prog 29 #[.agg #[.int .u32 (p : Int), .slice A xs.length c], .int .u32 (k : Int)] w fun e w' => MadeP p (scaleP p k xs) w e w' := by
  obtain ⟨i0, hi0, hz0, hz1, hz2⟩ := info_parts u32_info
  have H := Lib.hid h; clear h
  have HD := Lib.hid hd; clear hd
  have HL0 := Lib.hid (laid_start w p (.slice A xs.length c) (.int .u32 0) (.slice none 0 0) 25 25)
  have hp1 : ((p : Int) == 0) = false := by rw [beq_eq_false_iff_ne]; omega
  have hp2 : p ≠ 0 := by omega
  have hp3 : ¬ (p : Int) = 0 := by omega
  have w1 : IntKind.u64.wrap (p : Int) = (p : Int) := by rw [IntKind.wrap_u64]; omega
  go_enter Tryd.func29, Tryd.ntmps29
  go_wp2
  go_loopw [5, 6] (fun cv i wr => ∃ (j : Nat) (S : List Int), 0 ≤ j ∧ j ≤ xs.length ∧ i = .int .i64 j ∧ RowF S (j) (j) (fun i => ((k : Int) * co xs i) % (p : Int)) ∧
      wr.ownsRow (w.heap.size + 1 + 1) 22 1 cv (j) (S.map (Value.int .u32)) ∧ Laid w p (.slice A xs.length c) wr) (fun _ i _ => xs.length + 0 - (intOf i).toNat)
  case atStart => exact ⟨0, [], by omega, by omega, rfl, RowF.nil_ _, World.ownsRow_nil _ _ _ _, HL0.out⟩
  case round =>
    clear HL0
    obtain ⟨j, S, hj1, hj, rfl, hS, hown, hL⟩ := hrel
    obtain ⟨⟨b0, b1⟩, ⟨u0, u1, d0, d1⟩, ⟨f0, f1⟩, hsz, hbw⟩ := hL
    have HL : Hid (Laid w p (.slice A xs.length c) wr) := Lib.hid ⟨⟨b0, b1⟩, ⟨u0, u1, d0, d1⟩, ⟨f0, f1⟩, hsz, hbw⟩
    by_cases hlt : j < xs.length
    · have HBW := Lib.hid hbw
      have hr := HD.out.at_ hlt
      obtain ⟨x, hx⟩ : ∃ x : Nat, co xs j = x := ⟨(co xs j).toNat, by have : co xs j = xs.getD j 0 := rfl; omega⟩
      have hxp : x < p := by have : co xs j = xs.getD j 0 := rfl; omega
      have HA1 : Hid (∀ W : World, Below wr.heap.size wr W → Calls Tryd.prog 62 #[.agg #[.int .u32 (p : Int), .slice A xs.length c], .int .i64 (j : Int)] W fun e w' => e = .returned (.int .u64 (x : Int)) ∧ Below wr.heap.size wr w') := Lib.hid fun W hW => by
        rw [← hx]
        exact (at_any p j A xs c W (((H.out.below HBW.out).below (hW.mono HBW.out.size)).more (Nat.le_trans HBW.out.size hW.size)) (HD.out.w (by omega)) (by omega)).mono fun e w' ⟨h1, h2⟩ => ⟨h1, below_chain hW h2⟩
      have hr1 := mul_room (a := x) (b := k) (by omega) (by omega)
      obtain ⟨m, hm⟩ : ∃ m, x * k = m := ⟨_, rfl⟩
      have hm' : (x : Int) * (k : Int) = (m : Int) := by rw [← hm, Int.natCast_mul]
      obtain ⟨t, ht⟩ : ∃ t, m % p = t := ⟨_, rfl⟩
      have htp : t < p := by rw [← ht]; exact Nat.mod_lt _ hp0
      obtain ⟨ht1, ht2⟩ := mod_parts ht
      rw [hm] at hr1
      have hm64 : (m : Int) ≤ 18446744073709551615 := by omega
      have HS : Hid (RowF (S ++ [(t : Int)]) (j + 1) (j + 1) (fun i => ((k : Int) * co xs i) % (p : Int))) := Lib.hid (hS.snoc (by
        show (t : Int) = ((k : Int) * co xs j) % (p : Int)
        rw [hx, Int.mul_comm, hm', ht1]) (by omega) (by omega))
      clear hx hm ht hr hr1
      have HO := Lib.hid hown
      have HSX : Hid (∀ W : World, Below wr.heap.size wr W → (W.cell? ⟨w.heap.size, 0, none⟩ = some (.int .u32 (p : Int)) ∧ W.cell? ⟨w.heap.size, 1, none⟩ = some (.slice A xs.length c))) := Lib.hid fun W hW => by
        obtain ⟨⟨b0, b1⟩, ⟨u0, u1, d0, d1⟩, ⟨f0, f1⟩, hsz, hbw⟩ := HL.out.up (hW.mono hsz)
        exact ⟨b0, b1⟩
      have HDR : Hid (Below wr.heap.size wr wr.drew) := Lib.hid (Below.refl _ _).drew
      have ht32 : (t : Int) ≤ 2147483647 := by omega
      have w2 : IntKind.u64.wrap (m : Int) = (m : Int) := by rw [IntKind.wrap_u64]; omega
      have w3 : IntKind.u32.wrap (t : Int) = (t : Int) := by rw [IntKind.wrap_u32]; omega
      have w4 : IntKind.u64.wrap (k : Int) = (k : Int) := by rw [IntKind.wrap_u64]; omega
      clear hS hown hbw
      have i1 : (j : Int) < (xs.length : Int) := by omega
      go_wp2
      refine wp_region_noPanic ?_
      refine wp_region_tail (fun (_ : Array Bool) (W : World) => (W.cell? ⟨w.heap.size, 0, none⟩ = some (.int .u32 (p : Int)) ∧ W.cell? ⟨w.heap.size, 1, none⟩ = some (.slice A xs.length c))) (by kernel_rfl) (HSX.out _ HDR.out) (fun hT => ?_)
      refine wpAnyT_take _ [] (i := 0) (oi := _) (v := ?_) (fun _ _ => Iff.rfl) (fun _ _ _ h => h) rfl (by kernel_rfl) (by kernel_rfl) (by kernel_rfl) (by kernel_rfl) (by kernel_rfl) (fun _ _ _ h => h) (by assumption) (Or.inl ⟨by kernel_rfl, ?_⟩) (fun hT => ?_)
      rotate_left 1
      · intro w hSw
        (try dsimp only at hSw)
        first | (go_simp; done) | (go_simp; with_reducible rfl)
      (try simp only [Act.put, List.getElem_toArray, List.getElem_cons_zero, List.setIfInBounds_toArray, List.set_cons_zero, List.set_cons_succ])
      refine wpAnyT_take _ [] (i := 1) (oi := _) (v := ?_) (fun _ _ => Iff.rfl) (fun _ _ _ h => h) rfl (by kernel_rfl) (by kernel_rfl) (by kernel_rfl) (by kernel_rfl) (by kernel_rfl) (fun _ _ _ h => h) (by assumption) (Or.inl ⟨by kernel_rfl, ?_⟩) (fun hT => ?_)
      rotate_left 1
      · intro w hSw
        (try dsimp only at hSw)
        first | (go_simp; done) | (go_simp; with_reducible rfl)
      (try simp only [Act.put, List.getElem_toArray, List.getElem_cons_succ, List.getElem_cons_zero, List.setIfInBounds_toArray, List.set_cons_zero, List.set_cons_succ])
      refine wpAnyT_take _ [] (i := 2) (oi := _) (v := ?_) (fun _ _ => Iff.rfl) (fun _ _ _ h => h) rfl (by kernel_rfl) (by kernel_rfl) (by kernel_rfl) (by kernel_rfl) (by kernel_rfl) (fun _ _ _ h => h) (by assumption) (Or.inl ⟨by kernel_rfl, ?_⟩) (fun hT => ?_)
      rotate_left 1
      · intro w hSw
        (try dsimp only at hSw)
        first | (go_simp; done) | (go_simp; with_reducible rfl)
      (try simp only [Act.put, List.getElem_toArray, List.getElem_cons_succ, List.getElem_cons_zero, List.setIfInBounds_toArray, List.set_cons_zero, List.set_cons_succ])
      refine wpAnyT_take _ [] (i := 4) (oi := _) (v := ?_) (fun _ _ => Iff.rfl) (fun _ _ _ h => h) rfl (by kernel_rfl) (by kernel_rfl) (by kernel_rfl) (by kernel_rfl) (by kernel_rfl) (fun _ _ _ h => h) (by assumption) (Or.inl ⟨by kernel_rfl, ?_⟩) (fun hT => ?_)
      rotate_left 1
      · intro w hSw
        (try dsimp only at hSw)
        first | (go_simp; done) | (go_simp; with_reducible rfl)
      (try simp only [Act.put, List.getElem_toArray, List.getElem_cons_succ, List.getElem_cons_zero, List.setIfInBounds_toArray, List.set_cons_zero, List.set_cons_succ])
      refine wpAnyT_take _ [] (i := 5) (oi := _) (v := ?_) (fun _ _ => Iff.rfl) (fun _ _ _ h => h) rfl (by kernel_rfl) (by kernel_rfl) (by kernel_rfl) (by kernel_rfl) (by kernel_rfl) (fun _ _ _ h => h) (by assumption) (Or.inl ⟨by kernel_rfl, ?_⟩) (fun hT => ?_)
      rotate_left 1
      · intro w hSw
        (try dsimp only at hSw)
        first | (go_simp; done) | (go_simp; with_reducible rfl)
      (try simp only [Act.put, List.getElem_toArray, List.getElem_cons_succ, List.getElem_cons_zero, List.setIfInBounds_toArray, List.set_cons_zero, List.set_cons_succ])
      refine wpAnyT_take _ [] (i := 7) (oi := _) (v := ?_) (fun _ _ => Iff.rfl) (fun _ _ _ h => h) rfl (by kernel_rfl) (by kernel_rfl) (by kernel_rfl) (by kernel_rfl) (by kernel_rfl) (fun _ _ _ h => h) (by assumption) (Or.inl ⟨by kernel_rfl, ?_⟩) (fun hT => ?_)
      rotate_left 1
      · intro w hSw
        (try dsimp only at hSw)
        first | (go_simp; done) | (go_simp; with_reducible rfl)
      (try simp only [Act.put, List.getElem_toArray, List.getElem_cons_succ, List.getElem_cons_zero, List.setIfInBounds_toArray, List.set_cons_zero, List.set_cons_succ])
      refine wpAnyT_take _ [] (i := 8) (oi := _) (v := ?_) (fun _ _ => Iff.rfl) (fun _ _ _ h => h) rfl (by kernel_rfl) (by kernel_rfl) (by kernel_rfl) (by kernel_rfl) (by kernel_rfl) (fun _ _ _ h => h) (by assumption) (Or.inl ⟨by kernel_rfl, ?_⟩) (fun hT => ?_)
      rotate_left 1
      · intro w hSw
        (try dsimp only at hSw)
        first | (go_simp; done) | (go_simp; with_reducible rfl)
      (try simp only [Act.put, List.getElem_toArray, List.getElem_cons_succ, List.getElem_cons_zero, List.setIfInBounds_toArray, List.set_cons_zero, List.set_cons_succ])
      refine wpAnyT_take _ [] (i := 9) (oi := _) (v := ?_) (fun _ _ => Iff.rfl) (fun _ _ _ h => h) rfl (by kernel_rfl) (by kernel_rfl) (by kernel_rfl) (by kernel_rfl) (by kernel_rfl) (fun _ _ _ h => h) (by assumption) (Or.inl ⟨by kernel_rfl, ?_⟩) (fun hT => ?_)
      rotate_left 1
      · intro w hSw
        (try dsimp only at hSw)
        first | (go_simp; done) | (go_simp; with_reducible rfl)
      (try simp only [Act.put, List.getElem_toArray, List.getElem_cons_succ, List.getElem_cons_zero, List.setIfInBounds_toArray, List.set_cons_zero, List.set_cons_succ])
      refine wpAnyT_one (i := 3) (by kernel_rfl) (oi := _) rfl (fun K hK => ?_)
      (try dsimp only [List.getElem_toArray, List.getElem_cons_succ, List.getElem_cons_zero])
      go_simp
      go_at_call 62
      (with_reducible refine (HA1.out _ HDR.out).mono ?_)
      rintro e w3 ⟨rfl, hbw3⟩
      go_wp2_with (fail)
      refine hK.out _ _ (HSX.out _ hbw3) (fun hT => ?_)
      clear hK K
      (try simp only [Act.put, List.getElem_toArray, List.getElem_cons_succ, List.getElem_cons_zero, List.setIfInBounds_toArray, List.set_cons_zero, List.set_cons_succ])
      refine wpAnyT_take _ [] (i := 6) (oi := _) (v := ?_) (fun _ _ => Iff.rfl) (fun _ _ _ h => h) rfl (by kernel_rfl) (by kernel_rfl) (by kernel_rfl) (by kernel_rfl) (by kernel_rfl) (fun _ _ _ h => h) (by assumption) (Or.inl ⟨by kernel_rfl, ?_⟩) (fun hT => ?_)
      rotate_left 1
      · intro w hSw
        (try dsimp only at hSw)
        first | (go_simp; done) | (go_simp; with_reducible rfl)
      (try simp only [Act.put, List.getElem_toArray, List.getElem_cons_succ, List.getElem_cons_zero, List.setIfInBounds_toArray, List.set_cons_zero, List.set_cons_succ])
      refine wpAnyT_take _ [] (i := 10) (oi := _) (v := ?_) (fun _ _ => Iff.rfl) (fun _ _ _ h => h) rfl (by kernel_rfl) (by kernel_rfl) (by kernel_rfl) (by kernel_rfl) (by kernel_rfl) (fun _ _ _ h => h) (by assumption) (Or.inl ⟨by kernel_rfl, ?_⟩) (fun hT => ?_)
      rotate_left 1
      · intro w hSw
        (try dsimp only at hSw)
        first | (go_simp; done) | (go_simp; with_reducible rfl)
      (try simp only [Act.put, List.getElem_toArray, List.getElem_cons_succ, List.getElem_cons_zero, List.setIfInBounds_toArray, List.set_cons_zero, List.set_cons_succ])
      refine wpAnyT_take _ [] (i := 11) (oi := _) (v := ?_) (fun _ _ => Iff.rfl) (fun _ _ _ h => h) rfl (by kernel_rfl) (by kernel_rfl) (by kernel_rfl) (by kernel_rfl) (by kernel_rfl) (fun _ _ _ h => h) (by assumption) (Or.inl ⟨by kernel_rfl, ?_⟩) (fun hT => ?_)
      rotate_left 1
      · intro w hSw
        (try dsimp only at hSw)
        first | (go_simp; done) | (go_simp; with_reducible rfl)
      (try simp only [Act.put, List.getElem_toArray, List.getElem_cons_succ, List.getElem_cons_zero, List.setIfInBounds_toArray, List.set_cons_zero, List.set_cons_succ])
      refine wpAnyT_one (i := 12) (by kernel_rfl) (oi := _) rfl (fun K hK => ?_)
      (try dsimp only [List.getElem_toArray, List.getElem_cons_succ, List.getElem_cons_zero])
      go_simp
      refine hK.out _ _ (HSX.out _ (hbw3.alloc hbw3.size _)) (fun hT => ?_)
      clear hK K
      (try simp only [Act.put, List.getElem_toArray, List.getElem_cons_succ, List.getElem_cons_zero, List.setIfInBounds_toArray, List.set_cons_zero, List.set_cons_succ])
      refine wpAnyT_one (i := 13) (by kernel_rfl) (oi := _) rfl (fun K hK => ?_)
      (try dsimp only [List.getElem_toArray, List.getElem_cons_succ, List.getElem_cons_zero])
      refine step_append1 _ (by rfl) _ _ 23 (by rfl) (w.heap.size + 1 + 1) 22 i0 4 Tryd.underlying23 hi0 hz0 hz1 hz2 u5 (j) (S.map (Value.int .u32)) (by rfl) (own_below HO.out (hbw3.alloc hbw3.size _)) ⟨w3.heap.size, 0, none⟩ 1 (t : Int) (by rfl) (by simp [Addr.add]) (by unfold maxLen; omega) (by omega) (by have := hbw3.size; simp; omega) (fun cv2 w9 hown2 hg2 => ?_)
      have HL2 : Hid (Laid w p (.slice A xs.length c) w9) := Lib.hid (Laid.grown (HL.out.up ((hbw3.alloc hbw3.size _).mono hsz)) hg2 (own_below HO.out (hbw3.alloc hbw3.size _)))
      have HO2 : Hid (w9.ownsRow (w.heap.size + 1 + 1) 22 1 cv2 (j + 1) ((S ++ [(t : Int)]).map (Value.int .u32))) := Lib.hid (by rw [List.map_append]; exact hown2)
      have b0' : Hid ((w9.cell? ⟨w.heap.size, 0, none⟩ = some (.int .u32 (p : Int)) ∧ w9.cell? ⟨w.heap.size, 1, none⟩ = some (.slice A xs.length c))) := Lib.hid (by obtain ⟨⟨b0, b1⟩, ⟨u0, u1, d0, d1⟩, ⟨f0, f1⟩, hsz, hbw⟩ := HL2.out; exact ⟨b0, b1⟩)
      clear hown2 hg2
      refine hK.out _ _ b0'.out (fun hT => ?_)
      clear hK K
      (try simp only [Act.put, List.setIfInBounds_toArray, List.set_cons_zero, List.set_cons_succ])
      refine wpAnyT_take _ [] (i := 14) (oi := _) (v := ?_) (fun _ _ => Iff.rfl) (fun _ _ _ h => h) rfl (by kernel_rfl) (by kernel_rfl) (by kernel_rfl) (by kernel_rfl) (by kernel_rfl) (fun _ _ _ h => h) (by assumption) (Or.inl ⟨by kernel_rfl, ?_⟩) (fun hT => ?_)
      rotate_left 1
      · intro w hSw
        (try dsimp only at hSw)
        first | (go_simp; done) | (go_simp; with_reducible rfl)
      (try simp only [Act.put, List.getElem_toArray, List.getElem_cons_succ, List.getElem_cons_zero, List.setIfInBounds_toArray, List.set_cons_zero, List.set_cons_succ])
      refine wpAnyT_done (by kernel_rfl) ?_ _
      refine NoPanic.normal ?_
      go_wp2
      go_roundw
      case rel => exact ⟨j + 1, _, by omega, by omega, by go_num, HS.out, HO2.out, HL2.out⟩
      case measure => simp [intOf]; omega
    · have hn : j = xs.length := by omega
      obtain ⟨A2, c2, rfl, g3, g4, g5⟩ := row_made hown
      have HG := Lib.hid g3.trim
      have HT : Hid (Calls Tryd.prog 64 #[.int .u32 (p : Int), .slice A2 S.length c2] wr fun e w' => e = .returned (.agg #[.int .u32 (p : Int), .slice A2 (trimZ S).length c2]) ∧ Below wr.heap.size wr w') := Lib.hid
        (cut_cap p A2 S c2 wr g3.kl hS.2.2 g4 (by have := hS.1; omega))
      rw [hn] at hS
      have HS : Hid (trimZ S = scaleP p k xs) := Lib.hid hS.cano
      have HC2 : Hid ((trimZ S).length ≤ c2) := Lib.hid (Nat.le_trans (trimZ_len S) g4)
      have i1 : decide ((j : Int) < (xs.length : Int)) = false := by simp; omega
      have i1n : decide (j < xs.length) = false := by simp; omega
      have HBW := Lib.hid hbw
      clear hown g3 g4 g5 hS hbw hn
      go_wp2_with (go_at_call 64; (with_reducible refine HT.out.mono ?_); rintro e w2 ⟨rfl, hb2⟩; have HL2 := Lib.hid (HL.out.up (hb2.mono hsz)); have HG2 := Lib.hid (HG.out.below hb2); clear hb2; obtain ⟨⟨k0, k1⟩, ⟨v0, v1, m0, m1⟩, ⟨n0, n1⟩, hsz2, hbw2⟩ := HL2.out; have HBW2 := Lib.hid hbw2; clear hbw2)
      obtain ⟨q0, q1⟩ := cells_two (u := .int .u32 (p : Int)) (v := .slice A2 (trimZ S).length c2) m0 m1
      refine bodyPost_ret (v := .agg #[.int .u32 (p : Int), .slice A2 (trimZ S).length c2]) (by simp [results, Tryd.results29, go_sem, q0, q1]) rfl ?_
      have hg := HG2.out
      have hc2 := HC2.out
      rw [HS.out] at hg hc2 ⊢
      exact madeP_end HBW2.out (by omega) hg (by omega) hc2
set_option maxRecDepth 100000 in
set_option maxHeartbeats 4000000 in
theorem rdiff_any (p : Nat) (A : Option Addr) (xs : List Int) (c : Nat) (w : World) (h : KL .u32 w w.heap.size A xs) (hp : p ≤ 2147483647) (hp0 : 0 < p) (hd : Dig p xs) (hl : xs.length ≤ 1000000) :
    Calls Tryd.prog 27 #[.agg #[.int .u32 (p : Int), .slice A xs.length c]] w fun e w' => MadeP p (derP p xs) w e w' := by
  obtain ⟨i0, hi0, hz0, hz1, hz2⟩ := info_parts u32_info
  have H := Lib.hid h; clear h
  have HD := Lib.hid hd; clear hd
  have HL0 := Lib.hid (laid_start w p (.slice A xs.length c) (.int .u32 0) (.slice none 0 0) 25 25)
  have hp1 : ((p : Int) == 0) = false := by rw [beq_eq_false_iff_ne]; omega
  have hp2 : p ≠ 0 := by omega
  have hp3 : ¬ (p : Int) = 0 := by omega
  have w1 : IntKind.u64.wrap (p : Int) = (p : Int) := by rw [IntKind.wrap_u64]; omega
  go_enter Tryd.func27, Tryd.ntmps27
  go_wp2
  go_loopw [3, 4] (fun cv i wr => ∃ (j : Nat) (S : List Int), 1 ≤ j ∧ j - 1 ≤ (xs.length - 1) ∧ i = .int .i64 j ∧ RowF S (j - 1) (j - 1) (fun i => derZ (co xs) i % (p : Int)) ∧
      wr.ownsRow (w.heap.size + 1 + 1) 22 1 cv (j - 1) (S.map (Value.int .u32)) ∧ Laid w p (.slice A xs.length c) wr) (fun _ i _ => (xs.length - 1) + 1 - (intOf i).toNat)
  case atStart => exact ⟨1, [], by omega, by omega, rfl, RowF.nil_ _, World.ownsRow_nil _ _ _ _, HL0.out⟩
  case round =>
    clear HL0
    obtain ⟨j, S, hj1, hj, rfl, hS, hown, hL⟩ := hrel
    obtain ⟨⟨b0, b1⟩, ⟨u0, u1, d0, d1⟩, ⟨f0, f1⟩, hsz, hbw⟩ := hL
    have HL : Hid (Laid w p (.slice A xs.length c) wr) := Lib.hid ⟨⟨b0, b1⟩, ⟨u0, u1, d0, d1⟩, ⟨f0, f1⟩, hsz, hbw⟩
    by_cases hlt : j < xs.length
    · have HBW := Lib.hid hbw
      have hr := HD.out.at_ hlt
      obtain ⟨x, hx⟩ : ∃ x : Nat, co xs j = x := ⟨(co xs j).toNat, by have : co xs j = xs.getD j 0 := rfl; omega⟩
      have hxp : x < p := by have : co xs j = xs.getD j 0 := rfl; omega
      have HA1 : Hid (∀ W : World, Below wr.heap.size wr W → Calls Tryd.prog 62 #[.agg #[.int .u32 (p : Int), .slice A xs.length c], .int .i64 (j : Int)] W fun e w' => e = .returned (.int .u64 (x : Int)) ∧ Below wr.heap.size wr w') := Lib.hid fun W hW => by
        rw [← hx]
        exact (at_any p j A xs c W (((H.out.below HBW.out).below (hW.mono HBW.out.size)).more (Nat.le_trans HBW.out.size hW.size)) (HD.out.w (by omega)) (by omega)).mono fun e w' ⟨h1, h2⟩ => ⟨h1, below_chain hW h2⟩
      have hr1 := mul_room (a := x) (b := j) (by omega) (by omega)
      obtain ⟨m, hm⟩ : ∃ m, x * j = m := ⟨_, rfl⟩
      have hm' : (x : Int) * (j : Int) = (m : Int) := by rw [← hm, Int.natCast_mul]
      obtain ⟨t, ht⟩ : ∃ t, m % p = t := ⟨_, rfl⟩
      have htp : t < p := by rw [← ht]; exact Nat.mod_lt _ hp0
      obtain ⟨ht1, ht2⟩ := mod_parts ht
      rw [hm] at hr1
      have hm64 : (m : Int) ≤ 18446744073709551615 := by omega
      have HS : Hid (RowF (S ++ [(t : Int)]) (j - 1 + 1) (j - 1 + 1) (fun i => derZ (co xs) i % (p : Int))) := Lib.hid (hS.snoc (by
        show (t : Int) = derZ (co xs) (j - 1) % (p : Int)
        unfold derZ
        rw [show j - 1 + 1 = j by omega, hx, Int.mul_comm, hm', ht1]) (by omega) (by omega))
      clear hx hm ht hr hr1
      have HO := Lib.hid hown
      have HSX : Hid (∀ W : World, Below wr.heap.size wr W → (W.cell? ⟨w.heap.size, 0, none⟩ = some (.int .u32 (p : Int)) ∧ W.cell? ⟨w.heap.size, 1, none⟩ = some (.slice A xs.length c))) := Lib.hid fun W hW => by
        obtain ⟨⟨b0, b1⟩, ⟨u0, u1, d0, d1⟩, ⟨f0, f1⟩, hsz, hbw⟩ := HL.out.up (hW.mono hsz)
        exact ⟨b0, b1⟩
      have HDR : Hid (Below wr.heap.size wr wr.drew) := Lib.hid (Below.refl _ _).drew
      have ht32 : (t : Int) ≤ 2147483647 := by omega
      have w2 : IntKind.u64.wrap (m : Int) = (m : Int) := by rw [IntKind.wrap_u64]; omega
      have w3 : IntKind.u32.wrap (t : Int) = (t : Int) := by rw [IntKind.wrap_u32]; omega
      have w4 : IntKind.u64.wrap (j : Int) = (j : Int) := by rw [IntKind.wrap_u64]; omega
      clear hS hown hbw
      have i1 : (j : Int) < (xs.length : Int) := by omega
      go_wp2
      refine wp_region_noPanic ?_
      refine wp_region_tail (fun (_ : Array Bool) (W : World) => (W.cell? ⟨w.heap.size, 0, none⟩ = some (.int .u32 (p : Int)) ∧ W.cell? ⟨w.heap.size, 1, none⟩ = some (.slice A xs.length c))) (by kernel_rfl) (HSX.out _ HDR.out) (fun hT => ?_)
      refine wpAnyT_take _ [] (i := 0) (oi := _) (v := ?_) (fun _ _ => Iff.rfl) (fun _ _ _ h => h) rfl (by kernel_rfl) (by kernel_rfl) (by kernel_rfl) (by kernel_rfl) (by kernel_rfl) (fun _ _ _ h => h) (by assumption) (Or.inl ⟨by kernel_rfl, ?_⟩) (fun hT => ?_)
      rotate_left 1
      · intro w hSw
        (try dsimp only at hSw)
        first | (go_simp; done) | (go_simp; with_reducible rfl)
      (try simp only [Act.put, List.getElem_toArray, List.getElem_cons_zero, List.setIfInBounds_toArray, List.set_cons_zero, List.set_cons_succ])
      refine wpAnyT_take _ [] (i := 1) (oi := _) (v := ?_) (fun _ _ => Iff.rfl) (fun _ _ _ h => h) rfl (by kernel_rfl) (by kernel_rfl) (by kernel_rfl) (by kernel_rfl) (by kernel_rfl) (fun _ _ _ h => h) (by assumption) (Or.inl ⟨by kernel_rfl, ?_⟩) (fun hT => ?_)
      rotate_left 1
      · intro w hSw
        (try dsimp only at hSw)
        first | (go_simp; done) | (go_simp; with_reducible rfl)
      (try simp only [Act.put, List.getElem_toArray, List.getElem_cons_succ, List.getElem_cons_zero, List.setIfInBounds_toArray, List.set_cons_zero, List.set_cons_succ])
      refine wpAnyT_take _ [] (i := 2) (oi := _) (v := ?_) (fun _ _ => Iff.rfl) (fun _ _ _ h => h) rfl (by kernel_rfl) (by kernel_rfl) (by kernel_rfl) (by kernel_rfl) (by kernel_rfl) (fun _ _ _ h => h) (by assumption) (Or.inl ⟨by kernel_rfl, ?_⟩) (fun hT => ?_)
      rotate_left 1
      · intro w hSw
        (try dsimp only at hSw)
        first | (go_simp; done) | (go_simp; with_reducible rfl)
      (try simp only [Act.put, List.getElem_toArray, List.getElem_cons_succ, List.getElem_cons_zero, List.setIfInBounds_toArray, List.set_cons_zero, List.set_cons_succ])
      refine wpAnyT_take _ [] (i := 4) (oi := _) (v := ?_) (fun _ _ => Iff.rfl) (fun _ _ _ h => h) rfl (by kernel_rfl) (by kernel_rfl) (by kernel_rfl) (by kernel_rfl) (by kernel_rfl) (fun _ _ _ h => h) (by assumption) (Or.inl ⟨by kernel_rfl, ?_⟩) (fun hT => ?_)
      rotate_left 1
      · intro w hSw
        (try dsimp only at hSw)
        first | (go_simp; done) | (go_simp; with_reducible rfl)
      (try simp only [Act.put, List.getElem_toArray, List.getElem_cons_succ, List.getElem_cons_zero, List.setIfInBounds_toArray, List.set_cons_zero, List.set_cons_succ])
      refine wpAnyT_take _ [] (i := 5) (oi := _) (v := ?_) (fun _ _ => Iff.rfl) (fun _ _ _ h => h) rfl (by kernel_rfl) (by kernel_rfl) (by kernel_rfl) (by kernel_rfl) (by kernel_rfl) (fun _ _ _ h => h) (by assumption) (Or.inl ⟨by kernel_rfl, ?_⟩) (fun hT => ?_)
      rotate_left 1
      · intro w hSw
        (try dsimp only at hSw)
        first | (go_simp; done) | (go_simp; with_reducible rfl)
      (try simp only [Act.put, List.getElem_toArray, List.getElem_cons_succ, List.getElem_cons_zero, List.setIfInBounds_toArray, List.set_cons_zero, List.set_cons_succ])
      refine wpAnyT_take _ [] (i := 7) (oi := _) (v := ?_) (fun _ _ => Iff.rfl) (fun _ _ _ h => h) rfl (by kernel_rfl) (by kernel_rfl) (by kernel_rfl) (by kernel_rfl) (by kernel_rfl) (fun _ _ _ h => h) (by assumption) (Or.inl ⟨by kernel_rfl, ?_⟩) (fun hT => ?_)
      rotate_left 1
      · intro w hSw
        (try dsimp only at hSw)
        first | (go_simp; done) | (go_simp; with_reducible rfl)
      (try simp only [Act.put, List.getElem_toArray, List.getElem_cons_succ, List.getElem_cons_zero, List.setIfInBounds_toArray, List.set_cons_zero, List.set_cons_succ])
      refine wpAnyT_take _ [] (i := 8) (oi := _) (v := ?_) (fun _ _ => Iff.rfl) (fun _ _ _ h => h) rfl (by kernel_rfl) (by kernel_rfl) (by kernel_rfl) (by kernel_rfl) (by kernel_rfl) (fun _ _ _ h => h) (by assumption) (Or.inl ⟨by kernel_rfl, ?_⟩) (fun hT => ?_)
      rotate_left 1
      · intro w hSw
        (try dsimp only at hSw)
        first | (go_simp; done) | (go_simp; with_reducible rfl)
      (try simp only [Act.put, List.getElem_toArray, List.getElem_cons_succ, List.getElem_cons_zero, List.setIfInBounds_toArray, List.set_cons_zero, List.set_cons_succ])
      refine wpAnyT_take _ [] (i := 9) (oi := _) (v := ?_) (fun _ _ => Iff.rfl) (fun _ _ _ h => h) rfl (by kernel_rfl) (by kernel_rfl) (by kernel_rfl) (by kernel_rfl) (by kernel_rfl) (fun _ _ _ h => h) (by assumption) (Or.inl ⟨by kernel_rfl, ?_⟩) (fun hT => ?_)
      rotate_left 1
      · intro w hSw
        (try dsimp only at hSw)
        first | (go_simp; done) | (go_simp; with_reducible rfl)
      (try simp only [Act.put, List.getElem_toArray, List.getElem_cons_succ, List.getElem_cons_zero, List.setIfInBounds_toArray, List.set_cons_zero, List.set_cons_succ])
      refine wpAnyT_one (i := 3) (by kernel_rfl) (oi := _) rfl (fun K hK => ?_)
      (try dsimp only [List.getElem_toArray, List.getElem_cons_succ, List.getElem_cons_zero])
      go_simp
      go_at_call 62
      (with_reducible refine (HA1.out _ HDR.out).mono ?_)
      rintro e w3 ⟨rfl, hbw3⟩
      go_wp2_with (fail)
      refine hK.out _ _ (HSX.out _ hbw3) (fun hT => ?_)
      clear hK K
      (try simp only [Act.put, List.getElem_toArray, List.getElem_cons_succ, List.getElem_cons_zero, List.setIfInBounds_toArray, List.set_cons_zero, List.set_cons_succ])
      refine wpAnyT_take _ [] (i := 6) (oi := _) (v := ?_) (fun _ _ => Iff.rfl) (fun _ _ _ h => h) rfl (by kernel_rfl) (by kernel_rfl) (by kernel_rfl) (by kernel_rfl) (by kernel_rfl) (fun _ _ _ h => h) (by assumption) (Or.inl ⟨by kernel_rfl, ?_⟩) (fun hT => ?_)
      rotate_left 1
      · intro w hSw
        (try dsimp only at hSw)
        first | (go_simp; done) | (go_simp; with_reducible rfl)
      (try simp only [Act.put, List.getElem_toArray, List.getElem_cons_succ, List.getElem_cons_zero, List.setIfInBounds_toArray, List.set_cons_zero, List.set_cons_succ])
      refine wpAnyT_take _ [] (i := 10) (oi := _) (v := ?_) (fun _ _ => Iff.rfl) (fun _ _ _ h => h) rfl (by kernel_rfl) (by kernel_rfl) (by kernel_rfl) (by kernel_rfl) (by kernel_rfl) (fun _ _ _ h => h) (by assumption) (Or.inl ⟨by kernel_rfl, ?_⟩) (fun hT => ?_)
      rotate_left 1
      · intro w hSw
        (try dsimp only at hSw)
        first | (go_simp; done) | (go_simp; with_reducible rfl)
      (try simp only [Act.put, List.getElem_toArray, List.getElem_cons_succ, List.getElem_cons_zero, List.setIfInBounds_toArray, List.set_cons_zero, List.set_cons_succ])
      refine wpAnyT_take _ [] (i := 11) (oi := _) (v := ?_) (fun _ _ => Iff.rfl) (fun _ _ _ h => h) rfl (by kernel_rfl) (by kernel_rfl) (by kernel_rfl) (by kernel_rfl) (by kernel_rfl) (fun _ _ _ h => h) (by assumption) (Or.inl ⟨by kernel_rfl, ?_⟩) (fun hT => ?_)
      rotate_left 1
      · intro w hSw
        (try dsimp only at hSw)
        first | (go_simp; done) | (go_simp; with_reducible rfl)
      (try simp only [Act.put, List.getElem_toArray, List.getElem_cons_succ, List.getElem_cons_zero, List.setIfInBounds_toArray, List.set_cons_zero, List.set_cons_succ])
      refine wpAnyT_one (i := 12) (by kernel_rfl) (oi := _) rfl (fun K hK => ?_)
      (try dsimp only [List.getElem_toArray, List.getElem_cons_succ, List.getElem_cons_zero])
      go_simp
      refine hK.out _ _ (HSX.out _ (hbw3.alloc hbw3.size _)) (fun hT => ?_)
      clear hK K
      (try simp only [Act.put, List.getElem_toArray, List.getElem_cons_succ, List.getElem_cons_zero, List.setIfInBounds_toArray, List.set_cons_zero, List.set_cons_succ])
      refine wpAnyT_one (i := 13) (by kernel_rfl) (oi := _) rfl (fun K hK => ?_)
      (try dsimp only [List.getElem_toArray, List.getElem_cons_succ, List.getElem_cons_zero])
      refine step_append1 _ (by rfl) _ _ 23 (by rfl) (w.heap.size + 1 + 1) 22 i0 4 Tryd.underlying23 hi0 hz0 hz1 hz2 u3 (j - 1) (S.map (Value.int .u32)) (by rfl) (own_below HO.out (hbw3.alloc hbw3.size _)) ⟨w3.heap.size, 0, none⟩ 1 (t : Int) (by rfl) (by simp [Addr.add]) (by unfold maxLen; omega) (by omega) (by have := hbw3.size; simp; omega) (fun cv2 w9 hown2 hg2 => ?_)
      have HL2 : Hid (Laid w p (.slice A xs.length c) w9) := Lib.hid (Laid.grown (HL.out.up ((hbw3.alloc hbw3.size _).mono hsz)) hg2 (own_below HO.out (hbw3.alloc hbw3.size _)))
      have HO2 : Hid (w9.ownsRow (w.heap.size + 1 + 1) 22 1 cv2 (j - 1 + 1) ((S ++ [(t : Int)]).map (Value.int .u32))) := Lib.hid (by rw [List.map_append]; exact hown2)
      have b0' : Hid ((w9.cell? ⟨w.heap.size, 0, none⟩ = some (.int .u32 (p : Int)) ∧ w9.cell? ⟨w.heap.size, 1, none⟩ = some (.slice A xs.length c))) := Lib.hid (by obtain ⟨⟨b0, b1⟩, ⟨u0, u1, d0, d1⟩, ⟨f0, f1⟩, hsz, hbw⟩ := HL2.out; exact ⟨b0, b1⟩)
      clear hown2 hg2
      refine hK.out _ _ b0'.out (fun hT => ?_)
      clear hK K
      (try simp only [Act.put, List.setIfInBounds_toArray, List.set_cons_zero, List.set_cons_succ])
      refine wpAnyT_take _ [] (i := 14) (oi := _) (v := ?_) (fun _ _ => Iff.rfl) (fun _ _ _ h => h) rfl (by kernel_rfl) (by kernel_rfl) (by kernel_rfl) (by kernel_rfl) (by kernel_rfl) (fun _ _ _ h => h) (by assumption) (Or.inl ⟨by kernel_rfl, ?_⟩) (fun hT => ?_)
      rotate_left 1
      · intro w hSw
        (try dsimp only at hSw)
        first | (go_simp; done) | (go_simp; with_reducible rfl)
      (try simp only [Act.put, List.getElem_toArray, List.getElem_cons_succ, List.getElem_cons_zero, List.setIfInBounds_toArray, List.set_cons_zero, List.set_cons_succ])
      refine wpAnyT_done (by kernel_rfl) ?_ _
      refine NoPanic.normal ?_
      go_wp2
      go_roundw
      case rel => exact ⟨j + 1, _, by omega, by omega, by go_num, by have := HS.out; rw [show j - 1 + 1 = j + 1 - 1 by omega] at this; exact this, by have := HO2.out; rw [show j - 1 + 1 = j + 1 - 1 by omega] at this; exact this, HL2.out⟩
      case measure => simp [intOf]; omega
    · have hn : j - 1 = (xs.length - 1) := by omega
      obtain ⟨A2, c2, rfl, g3, g4, g5⟩ := row_made hown
      have HG := Lib.hid g3.trim
      have HT : Hid (Calls Tryd.prog 64 #[.int .u32 (p : Int), .slice A2 S.length c2] wr fun e w' => e = .returned (.agg #[.int .u32 (p : Int), .slice A2 (trimZ S).length c2]) ∧ Below wr.heap.size wr w') := Lib.hid
        (cut_cap p A2 S c2 wr g3.kl hS.2.2 g4 (by have := hS.1; omega))
      rw [hn] at hS
      have HS : Hid (trimZ S = derP p xs) := Lib.hid hS.cano
      have HC2 : Hid ((trimZ S).length ≤ c2) := Lib.hid (Nat.le_trans (trimZ_len S) g4)
      have i1 : decide ((j : Int) < (xs.length : Int)) = false := by simp; omega
      have i1n : decide (j < xs.length) = false := by simp; omega
      have HBW := Lib.hid hbw
      clear hown g3 g4 g5 hS hbw hn
      go_wp2_with (go_at_call 64; (with_reducible refine HT.out.mono ?_); rintro e w2 ⟨rfl, hb2⟩; have HL2 := Lib.hid (HL.out.up (hb2.mono hsz)); have HG2 := Lib.hid (HG.out.below hb2); clear hb2; obtain ⟨⟨k0, k1⟩, ⟨v0, v1, m0, m1⟩, ⟨n0, n1⟩, hsz2, hbw2⟩ := HL2.out; have HBW2 := Lib.hid hbw2; clear hbw2)
      obtain ⟨q0, q1⟩ := cells_two (u := .int .u32 (p : Int)) (v := .slice A2 (trimZ S).length c2) m0 m1
      refine bodyPost_ret (v := .agg #[.int .u32 (p : Int), .slice A2 (trimZ S).length c2]) (by simp [results, Tryd.results27, go_sem, q0, q1]) rfl ?_
      have hg := HG2.out
      have hc2 := HC2.out
      rw [HS.out] at hg hc2 ⊢
      exact madeP_end HBW2.out (by omega) hg (by omega) hc2
set_option maxRecDepth 100000 in
set_option maxHeartbeats 4000000 in
theorem radd_any (p : Nat) (A B : Option Addr) (xs ys : List Int) (c d : Nat) (w : World) (h : KL .u32 w w.heap.size A xs) (h' : KL .u32 w w.heap.size B ys) (hp : p ≤ 2147483647) (hp0 : 0 < p) (hd : Dig p xs) (hd' : Dig p ys) (hl : xs.length ≤ 1000000) (hl' : ys.length ≤ 1000000) :
    Calls Tryd.prog 31 #[.agg #[.int .u32 (p : Int), .slice A xs.length c], .agg #[.int .u32 (p : Int), .slice B ys.length d]] w fun e w' => MadeP p (addP p xs ys) w e w' := by
  obtain ⟨i0, hi0, hz0, hz1, hz2⟩ := info_parts u32_info
  have H := Lib.hid h; clear h
  have HD := Lib.hid hd; clear hd
  have H' := Lib.hid h'; clear h'
  have HD' := Lib.hid hd'; clear hd'
  have HL0 := Lib.hid (laid2_start w p p (.slice A xs.length c) (.slice B ys.length d) (.int .u32 0) (.slice none 0 0) 25 25 25)
  have hp1 : ((p : Int) == 0) = false := by rw [beq_eq_false_iff_ne]; omega
  have hp2 : p ≠ 0 := by omega
  have hp3 : ¬ (p : Int) = 0 := by omega
  have w1 : IntKind.u64.wrap (p : Int) = (p : Int) := by rw [IntKind.wrap_u64]; omega
  go_enter Tryd.func31, Tryd.ntmps31
  go_wp2
  go_loopw [5, 6] (fun cv i wr => ∃ (j : Nat) (S : List Int), 0 ≤ j ∧ j ≤ (max xs.length ys.length) ∧ i = .int .i64 j ∧ RowF S (j) (j) (fun i => (co xs i + co ys i) % (p : Int)) ∧
      wr.ownsRow (w.heap.size + 1 + 1 + 1) 22 1 cv (j) (S.map (Value.int .u32)) ∧ Laid2 w p p (.slice A xs.length c) (.slice B ys.length d) wr) (fun _ i _ => (max xs.length ys.length) + 0 - (intOf i).toNat)
  case atStart => exact ⟨0, [], by omega, by omega, rfl, RowF.nil_ _, World.ownsRow_nil _ _ _ _, HL0.out⟩
  case round =>
    clear HL0
    obtain ⟨j, S, hj1, hj, rfl, hS, hown, hL⟩ := hrel
    obtain ⟨⟨b0, b1⟩, ⟨b2, b3⟩, ⟨u0, u1, d0, d1⟩, ⟨f0, f1⟩, hsz, hbw⟩ := hL
    have HL : Hid (Laid2 w p p (.slice A xs.length c) (.slice B ys.length d) wr) := Lib.hid ⟨⟨b0, b1⟩, ⟨b2, b3⟩, ⟨u0, u1, d0, d1⟩, ⟨f0, f1⟩, hsz, hbw⟩
    by_cases hlt : j < max xs.length ys.length
    · have HBW := Lib.hid hbw
      have cox : 0 ≤ co xs j ∧ co xs j < p := by
        rcases Nat.lt_or_ge j xs.length with h1 | h1
        · have := HD.out.at_ h1; have : co xs j = xs.getD j 0 := rfl; omega
        · rw [co_beyond h1]; omega
      have coy : 0 ≤ co ys j ∧ co ys j < p := by
        rcases Nat.lt_or_ge j ys.length with h1 | h1
        · have := HD'.out.at_ h1; have : co ys j = ys.getD j 0 := rfl; omega
        · rw [co_beyond h1]; omega
      obtain ⟨x, hx⟩ : ∃ x : Nat, co xs j = x := ⟨(co xs j).toNat, by omega⟩
      obtain ⟨y, hy⟩ : ∃ y : Nat, co ys j = y := ⟨(co ys j).toNat, by omega⟩
      have hxp : x < p := by omega
      have hyp : y < p := by omega
      have HA1 : Hid (∀ W : World, Below wr.heap.size wr W → Calls Tryd.prog 62 #[.agg #[.int .u32 (p : Int), .slice A xs.length c], .int .i64 (j : Int)] W fun e w' => e = .returned (.int .u64 (x : Int)) ∧ Below wr.heap.size wr w') := Lib.hid fun W hW => by
        rw [← hx]
        exact (at_any p j A xs c W (((H.out.below HBW.out).below (hW.mono HBW.out.size)).more (Nat.le_trans HBW.out.size hW.size)) (HD.out.w (by omega)) (by omega)).mono fun e w' ⟨h1, h2⟩ => ⟨h1, below_chain hW h2⟩
      have HA2 : Hid (∀ W : World, Below wr.heap.size wr W → Calls Tryd.prog 62 #[.agg #[.int .u32 (p : Int), .slice B ys.length d], .int .i64 (j : Int)] W fun e w' => e = .returned (.int .u64 (y : Int)) ∧ Below wr.heap.size wr w') := Lib.hid fun W hW => by
        rw [← hy]
        exact (at_any p j B ys d W (((H'.out.below HBW.out).below (hW.mono HBW.out.size)).more (Nat.le_trans HBW.out.size hW.size)) (HD'.out.w (by omega)) (by omega)).mono fun e w' ⟨h1, h2⟩ => ⟨h1, below_chain hW h2⟩
      obtain ⟨m, hm⟩ : ∃ m, x + y = m := ⟨_, rfl⟩
      have hm' : (x : Int) + (y : Int) = (m : Int) := by omega
      obtain ⟨t, ht⟩ : ∃ t, m % p = t := ⟨_, rfl⟩
      have htp : t < p := by rw [← ht]; exact Nat.mod_lt _ hp0
      obtain ⟨ht1, ht2⟩ := mod_parts ht
      have hm64 : (m : Int) ≤ 18446744073709551615 := by omega
      have HS : Hid (RowF (S ++ [(t : Int)]) (j + 1) (j + 1) (fun i => (co xs i + co ys i) % (p : Int))) := Lib.hid (hS.snoc (by
        show (t : Int) = (co xs j + co ys j) % (p : Int)
        rw [hx, hy, hm', ht1]) (by omega) (by omega))
      clear hx hy hm ht cox coy
      have HO := Lib.hid hown
      have HSX : Hid (∀ W : World, Below wr.heap.size wr W → (W.cell? ⟨w.heap.size, 0, none⟩ = some (.int .u32 (p : Int)) ∧ W.cell? ⟨w.heap.size, 1, none⟩ = some (.slice A xs.length c)) ∧ (W.cell? ⟨w.heap.size + 1, 0, none⟩ = some (.int .u32 (p : Int)) ∧ W.cell? ⟨w.heap.size + 1, 1, none⟩ = some (.slice B ys.length d))) := Lib.hid fun W hW => by
        obtain ⟨⟨b0, b1⟩, ⟨b2, b3⟩, ⟨u0, u1, d0, d1⟩, ⟨f0, f1⟩, hsz, hbw⟩ := HL.out.up (hW.mono hsz)
        exact ⟨⟨b0, b1⟩, b2, b3⟩
      have HDR : Hid (Below wr.heap.size wr wr.drew) := Lib.hid (Below.refl _ _).drew
      have ht32 : (t : Int) ≤ 2147483647 := by omega
      have w2 : IntKind.u64.wrap (m : Int) = (m : Int) := by rw [IntKind.wrap_u64]; omega
      have w3 : IntKind.u32.wrap (t : Int) = (t : Int) := by rw [IntKind.wrap_u32]; omega
      clear hS hown hbw
      by_cases hlx : j < xs.length
      · have i1 : decide ((j : Int) < (xs.length : Int)) = true := by simp; omega
        go_wp2
        refine wp_region_noPanic ?_
        refine wp_region_tail (fun (_ : Array Bool) (W : World) => (W.cell? ⟨w.heap.size, 0, none⟩ = some (.int .u32 (p : Int)) ∧ W.cell? ⟨w.heap.size, 1, none⟩ = some (.slice A xs.length c)) ∧ (W.cell? ⟨w.heap.size + 1, 0, none⟩ = some (.int .u32 (p : Int)) ∧ W.cell? ⟨w.heap.size + 1, 1, none⟩ = some (.slice B ys.length d))) (by kernel_rfl) (HSX.out _ HDR.out) (fun hT => ?_)
        refine wpAnyT_take _ [] (i := 0) (oi := _) (v := ?_) (fun _ _ => Iff.rfl) (fun _ _ _ h => h) rfl (by kernel_rfl) (by kernel_rfl) (by kernel_rfl) (by kernel_rfl) (by kernel_rfl) (fun _ _ _ h => h) (by assumption) (Or.inl ⟨by kernel_rfl, ?_⟩) (fun hT => ?_)
        rotate_left 1
        · intro w hSw
          (try dsimp only at hSw)
          first | (go_simp; done) | (go_simp; with_reducible rfl)
        (try simp only [Act.put, List.getElem_toArray, List.getElem_cons_zero, List.setIfInBounds_toArray, List.set_cons_zero, List.set_cons_succ])
        refine wpAnyT_take _ [] (i := 1) (oi := _) (v := ?_) (fun _ _ => Iff.rfl) (fun _ _ _ h => h) rfl (by kernel_rfl) (by kernel_rfl) (by kernel_rfl) (by kernel_rfl) (by kernel_rfl) (fun _ _ _ h => h) (by assumption) (Or.inl ⟨by kernel_rfl, ?_⟩) (fun hT => ?_)
        rotate_left 1
        · intro w hSw
          (try dsimp only at hSw)
          first | (go_simp; done) | (go_simp; with_reducible rfl)
        (try simp only [Act.put, List.getElem_toArray, List.getElem_cons_succ, List.getElem_cons_zero, List.setIfInBounds_toArray, List.set_cons_zero, List.set_cons_succ])
        refine wpAnyT_take _ [] (i := 2) (oi := _) (v := ?_) (fun _ _ => Iff.rfl) (fun _ _ _ h => h) rfl (by kernel_rfl) (by kernel_rfl) (by kernel_rfl) (by kernel_rfl) (by kernel_rfl) (fun _ _ _ h => h) (by assumption) (Or.inl ⟨by kernel_rfl, ?_⟩) (fun hT => ?_)
        rotate_left 1
        · intro w hSw
          (try dsimp only at hSw)
          first | (go_simp; done) | (go_simp; with_reducible rfl)
        (try simp only [Act.put, List.getElem_toArray, List.getElem_cons_succ, List.getElem_cons_zero, List.setIfInBounds_toArray, List.set_cons_zero, List.set_cons_succ])
        refine wpAnyT_take _ [] (i := 4) (oi := _) (v := ?_) (fun _ _ => Iff.rfl) (fun _ _ _ h => h) rfl (by kernel_rfl) (by kernel_rfl) (by kernel_rfl) (by kernel_rfl) (by kernel_rfl) (fun _ _ _ h => h) (by assumption) (Or.inl ⟨by kernel_rfl, ?_⟩) (fun hT => ?_)
        rotate_left 1
        · intro w hSw
          (try dsimp only at hSw)
          first | (go_simp; done) | (go_simp; with_reducible rfl)
        (try simp only [Act.put, List.getElem_toArray, List.getElem_cons_succ, List.getElem_cons_zero, List.setIfInBounds_toArray, List.set_cons_zero, List.set_cons_succ])
        refine wpAnyT_take _ [] (i := 5) (oi := _) (v := ?_) (fun _ _ => Iff.rfl) (fun _ _ _ h => h) rfl (by kernel_rfl) (by kernel_rfl) (by kernel_rfl) (by kernel_rfl) (by kernel_rfl) (fun _ _ _ h => h) (by assumption) (Or.inl ⟨by kernel_rfl, ?_⟩) (fun hT => ?_)
        rotate_left 1
        · intro w hSw
          (try dsimp only at hSw)
          first | (go_simp; done) | (go_simp; with_reducible rfl)
        (try simp only [Act.put, List.getElem_toArray, List.getElem_cons_succ, List.getElem_cons_zero, List.setIfInBounds_toArray, List.set_cons_zero, List.set_cons_succ])
        refine wpAnyT_take _ [] (i := 8) (oi := _) (v := ?_) (fun _ _ => Iff.rfl) (fun _ _ _ h => h) rfl (by kernel_rfl) (by kernel_rfl) (by kernel_rfl) (by kernel_rfl) (by kernel_rfl) (fun _ _ _ h => h) (by assumption) (Or.inl ⟨by kernel_rfl, ?_⟩) (fun hT => ?_)
        rotate_left 1
        · intro w hSw
          (try dsimp only at hSw)
          first | (go_simp; done) | (go_simp; with_reducible rfl)
        (try simp only [Act.put, List.getElem_toArray, List.getElem_cons_succ, List.getElem_cons_zero, List.setIfInBounds_toArray, List.set_cons_zero, List.set_cons_succ])
        refine wpAnyT_take _ [] (i := 9) (oi := _) (v := ?_) (fun _ _ => Iff.rfl) (fun _ _ _ h => h) rfl (by kernel_rfl) (by kernel_rfl) (by kernel_rfl) (by kernel_rfl) (by kernel_rfl) (fun _ _ _ h => h) (by assumption) (Or.inl ⟨by kernel_rfl, ?_⟩) (fun hT => ?_)
        rotate_left 1
        · intro w hSw
          (try dsimp only at hSw)
          first | (go_simp; done) | (go_simp; with_reducible rfl)
        (try simp only [Act.put, List.getElem_toArray, List.getElem_cons_succ, List.getElem_cons_zero, List.setIfInBounds_toArray, List.set_cons_zero, List.set_cons_succ])
        refine wpAnyT_take _ [] (i := 10) (oi := _) (v := ?_) (fun _ _ => Iff.rfl) (fun _ _ _ h => h) rfl (by kernel_rfl) (by kernel_rfl) (by kernel_rfl) (by kernel_rfl) (by kernel_rfl) (fun _ _ _ h => h) (by assumption) (Or.inl ⟨by kernel_rfl, ?_⟩) (fun hT => ?_)
        rotate_left 1
        · intro w hSw
          (try dsimp only at hSw)
          first | (go_simp; done) | (go_simp; with_reducible rfl)
        (try simp only [Act.put, List.getElem_toArray, List.getElem_cons_succ, List.getElem_cons_zero, List.setIfInBounds_toArray, List.set_cons_zero, List.set_cons_succ])
        refine wpAnyT_one (i := 3) (by kernel_rfl) (oi := _) rfl (fun K hK => ?_)
        (try dsimp only [List.getElem_toArray, List.getElem_cons_succ, List.getElem_cons_zero])
        go_simp
        go_at_call 62
        (with_reducible refine (HA1.out _ HDR.out).mono ?_)
        rintro e w3 ⟨rfl, hbw3⟩
        go_wp2_with (fail)
        refine hK.out _ _ (HSX.out _ hbw3) (fun hT => ?_)
        clear hK K
        (try simp only [Act.put, List.getElem_toArray, List.getElem_cons_succ, List.getElem_cons_zero, List.setIfInBounds_toArray, List.set_cons_zero, List.set_cons_succ])
        refine wpAnyT_one (i := 6) (by kernel_rfl) (oi := _) rfl (fun K hK => ?_)
        (try dsimp only [List.getElem_toArray, List.getElem_cons_succ, List.getElem_cons_zero])
        go_simp
        go_at_call 62
        (with_reducible refine (HA2.out _ hbw3).mono ?_)
        rintro e w4 ⟨rfl, hbw4⟩
        go_wp2_with (fail)
        refine hK.out _ _ (HSX.out _ hbw4) (fun hT => ?_)
        clear hK K
        (try simp only [Act.put, List.getElem_toArray, List.getElem_cons_succ, List.getElem_cons_zero, List.setIfInBounds_toArray, List.set_cons_zero, List.set_cons_succ])
        refine wpAnyT_take _ [] (i := 7) (oi := _) (v := ?_) (fun _ _ => Iff.rfl) (fun _ _ _ h => h) rfl (by kernel_rfl) (by kernel_rfl) (by kernel_rfl) (by kernel_rfl) (by kernel_rfl) (fun _ _ _ h => h) (by assumption) (Or.inl ⟨by kernel_rfl, ?_⟩) (fun hT => ?_)
        rotate_left 1
        · intro w hSw
          (try dsimp only at hSw)
          first | (go_simp; done) | (go_simp; with_reducible rfl)
        (try simp only [Act.put, List.getElem_toArray, List.getElem_cons_succ, List.getElem_cons_zero, List.setIfInBounds_toArray, List.set_cons_zero, List.set_cons_succ])
        refine wpAnyT_take _ [] (i := 11) (oi := _) (v := ?_) (fun _ _ => Iff.rfl) (fun _ _ _ h => h) rfl (by kernel_rfl) (by kernel_rfl) (by kernel_rfl) (by kernel_rfl) (by kernel_rfl) (fun _ _ _ h => h) (by assumption) (Or.inl ⟨by kernel_rfl, ?_⟩) (fun hT => ?_)
        rotate_left 1
        · intro w hSw
          (try dsimp only at hSw)
          first | (go_simp; done) | (go_simp; with_reducible rfl)
        (try simp only [Act.put, List.getElem_toArray, List.getElem_cons_succ, List.getElem_cons_zero, List.setIfInBounds_toArray, List.set_cons_zero, List.set_cons_succ])
        refine wpAnyT_take _ [] (i := 12) (oi := _) (v := ?_) (fun _ _ => Iff.rfl) (fun _ _ _ h => h) rfl (by kernel_rfl) (by kernel_rfl) (by kernel_rfl) (by kernel_rfl) (by kernel_rfl) (fun _ _ _ h => h) (by assumption) (Or.inl ⟨by kernel_rfl, ?_⟩) (fun hT => ?_)
        rotate_left 1
        · intro w hSw
          (try dsimp only at hSw)
          first | (go_simp; done) | (go_simp; with_reducible rfl)
        (try simp only [Act.put, List.getElem_toArray, List.getElem_cons_succ, List.getElem_cons_zero, List.setIfInBounds_toArray, List.set_cons_zero, List.set_cons_succ])
        refine wpAnyT_one (i := 13) (by kernel_rfl) (oi := _) rfl (fun K hK => ?_)
        (try dsimp only [List.getElem_toArray, List.getElem_cons_succ, List.getElem_cons_zero])
        go_simp
        refine hK.out _ _ (HSX.out _ (hbw4.alloc hbw4.size _)) (fun hT => ?_)
        clear hK K
        (try simp only [Act.put, List.getElem_toArray, List.getElem_cons_succ, List.getElem_cons_zero, List.setIfInBounds_toArray, List.set_cons_zero, List.set_cons_succ])
        refine wpAnyT_one (i := 14) (by kernel_rfl) (oi := _) rfl (fun K hK => ?_)
        (try dsimp only [List.getElem_toArray, List.getElem_cons_succ, List.getElem_cons_zero])
        refine step_append1 _ (by rfl) _ _ 23 (by rfl) (w.heap.size + 1 + 1 + 1) 22 i0 4 Tryd.underlying23 hi0 hz0 hz1 hz2 u5 (j) (S.map (Value.int .u32)) (by rfl) (own_below HO.out (hbw4.alloc hbw4.size _)) ⟨w4.heap.size, 0, none⟩ 1 (t : Int) (by rfl) (by simp [Addr.add]) (by unfold maxLen; omega) (by omega) (by have := hbw4.size; simp; omega) (fun cv2 w9 hown2 hg2 => ?_)
        have HL2 : Hid (Laid2 w p p (.slice A xs.length c) (.slice B ys.length d) w9) := Lib.hid (Laid2.grown (HL.out.up ((hbw4.alloc hbw4.size _).mono hsz)) hg2 (own_below HO.out (hbw4.alloc hbw4.size _)))
        have HO2 : Hid (w9.ownsRow (w.heap.size + 1 + 1 + 1) 22 1 cv2 (j + 1) ((S ++ [(t : Int)]).map (Value.int .u32))) := Lib.hid (by rw [List.map_append]; exact hown2)
        have b0' : Hid ((w9.cell? ⟨w.heap.size, 0, none⟩ = some (.int .u32 (p : Int)) ∧ w9.cell? ⟨w.heap.size, 1, none⟩ = some (.slice A xs.length c)) ∧ (w9.cell? ⟨w.heap.size + 1, 0, none⟩ = some (.int .u32 (p : Int)) ∧ w9.cell? ⟨w.heap.size + 1, 1, none⟩ = some (.slice B ys.length d))) := Lib.hid (by obtain ⟨⟨b0, b1⟩, ⟨b2, b3⟩, ⟨u0, u1, d0, d1⟩, ⟨f0, f1⟩, hsz, hbw⟩ := HL2.out; exact ⟨⟨b0, b1⟩, b2, b3⟩)
        clear hown2 hg2
        refine hK.out _ _ b0'.out (fun hT => ?_)
        clear hK K
        (try simp only [Act.put, List.setIfInBounds_toArray, List.set_cons_zero, List.set_cons_succ])
        refine wpAnyT_take _ [] (i := 15) (oi := _) (v := ?_) (fun _ _ => Iff.rfl) (fun _ _ _ h => h) rfl (by kernel_rfl) (by kernel_rfl) (by kernel_rfl) (by kernel_rfl) (by kernel_rfl) (fun _ _ _ h => h) (by assumption) (Or.inl ⟨by kernel_rfl, ?_⟩) (fun hT => ?_)
        rotate_left 1
        · intro w hSw
          (try dsimp only at hSw)
          first | (go_simp; done) | (go_simp; with_reducible rfl)
        (try simp only [Act.put, List.getElem_toArray, List.getElem_cons_succ, List.getElem_cons_zero, List.setIfInBounds_toArray, List.set_cons_zero, List.set_cons_succ])
        refine wpAnyT_done (by kernel_rfl) ?_ _
        refine NoPanic.normal ?_
        go_wp2
        go_roundw
        case rel => exact ⟨j + 1, _, by omega, by omega, by go_num, HS.out, HO2.out, HL2.out⟩
        case measure => simp [intOf]; omega
      · have i1 : decide ((j : Int) < (xs.length : Int)) = false := by simp; omega
        have i2 : decide ((j : Int) < (ys.length : Int)) = true := by simp; omega
        go_wp2
        refine wp_region_noPanic ?_
        refine wp_region_tail (fun (_ : Array Bool) (W : World) => (W.cell? ⟨w.heap.size, 0, none⟩ = some (.int .u32 (p : Int)) ∧ W.cell? ⟨w.heap.size, 1, none⟩ = some (.slice A xs.length c)) ∧ (W.cell? ⟨w.heap.size + 1, 0, none⟩ = some (.int .u32 (p : Int)) ∧ W.cell? ⟨w.heap.size + 1, 1, none⟩ = some (.slice B ys.length d))) (by kernel_rfl) (HSX.out _ HDR.out) (fun hT => ?_)
        refine wpAnyT_take _ [] (i := 0) (oi := _) (v := ?_) (fun _ _ => Iff.rfl) (fun _ _ _ h => h) rfl (by kernel_rfl) (by kernel_rfl) (by kernel_rfl) (by kernel_rfl) (by kernel_rfl) (fun _ _ _ h => h) (by assumption) (Or.inl ⟨by kernel_rfl, ?_⟩) (fun hT => ?_)
        rotate_left 1
        · intro w hSw
          (try dsimp only at hSw)
          first | (go_simp; done) | (go_simp; with_reducible rfl)
        (try simp only [Act.put, List.getElem_toArray, List.getElem_cons_zero, List.setIfInBounds_toArray, List.set_cons_zero, List.set_cons_succ])
        refine wpAnyT_take _ [] (i := 1) (oi := _) (v := ?_) (fun _ _ => Iff.rfl) (fun _ _ _ h => h) rfl (by kernel_rfl) (by kernel_rfl) (by kernel_rfl) (by kernel_rfl) (by kernel_rfl) (fun _ _ _ h => h) (by assumption) (Or.inl ⟨by kernel_rfl, ?_⟩) (fun hT => ?_)
        rotate_left 1
        · intro w hSw
          (try dsimp only at hSw)
          first | (go_simp; done) | (go_simp; with_reducible rfl)
        (try simp only [Act.put, List.getElem_toArray, List.getElem_cons_succ, List.getElem_cons_zero, List.setIfInBounds_toArray, List.set_cons_zero, List.set_cons_succ])
        refine wpAnyT_take _ [] (i := 2) (oi := _) (v := ?_) (fun _ _ => Iff.rfl) (fun _ _ _ h => h) rfl (by kernel_rfl) (by kernel_rfl) (by kernel_rfl) (by kernel_rfl) (by kernel_rfl) (fun _ _ _ h => h) (by assumption) (Or.inl ⟨by kernel_rfl, ?_⟩) (fun hT => ?_)
        rotate_left 1
        · intro w hSw
          (try dsimp only at hSw)
          first | (go_simp; done) | (go_simp; with_reducible rfl)
        (try simp only [Act.put, List.getElem_toArray, List.getElem_cons_succ, List.getElem_cons_zero, List.setIfInBounds_toArray, List.set_cons_zero, List.set_cons_succ])
        refine wpAnyT_take _ [] (i := 4) (oi := _) (v := ?_) (fun _ _ => Iff.rfl) (fun _ _ _ h => h) rfl (by kernel_rfl) (by kernel_rfl) (by kernel_rfl) (by kernel_rfl) (by kernel_rfl) (fun _ _ _ h => h) (by assumption) (Or.inl ⟨by kernel_rfl, ?_⟩) (fun hT => ?_)
        rotate_left 1
        · intro w hSw
          (try dsimp only at hSw)
          first | (go_simp; done) | (go_simp; with_reducible rfl)
        (try simp only [Act.put, List.getElem_toArray, List.getElem_cons_succ, List.getElem_cons_zero, List.setIfInBounds_toArray, List.set_cons_zero, List.set_cons_succ])
        refine wpAnyT_take _ [] (i := 5) (oi := _) (v := ?_) (fun _ _ => Iff.rfl) (fun _ _ _ h => h) rfl (by kernel_rfl) (by kernel_rfl) (by kernel_rfl) (by kernel_rfl) (by kernel_rfl) (fun _ _ _ h => h) (by assumption) (Or.inl ⟨by kernel_rfl, ?_⟩) (fun hT => ?_)
        rotate_left 1
        · intro w hSw
          (try dsimp only at hSw)
          first | (go_simp; done) | (go_simp; with_reducible rfl)
        (try simp only [Act.put, List.getElem_toArray, List.getElem_cons_succ, List.getElem_cons_zero, List.setIfInBounds_toArray, List.set_cons_zero, List.set_cons_succ])
        refine wpAnyT_take _ [] (i := 8) (oi := _) (v := ?_) (fun _ _ => Iff.rfl) (fun _ _ _ h => h) rfl (by kernel_rfl) (by kernel_rfl) (by kernel_rfl) (by kernel_rfl) (by kernel_rfl) (fun _ _ _ h => h) (by assumption) (Or.inl ⟨by kernel_rfl, ?_⟩) (fun hT => ?_)
        rotate_left 1
        · intro w hSw
          (try dsimp only at hSw)
          first | (go_simp; done) | (go_simp; with_reducible rfl)
        (try simp only [Act.put, List.getElem_toArray, List.getElem_cons_succ, List.getElem_cons_zero, List.setIfInBounds_toArray, List.set_cons_zero, List.set_cons_succ])
        refine wpAnyT_take _ [] (i := 9) (oi := _) (v := ?_) (fun _ _ => Iff.rfl) (fun _ _ _ h => h) rfl (by kernel_rfl) (by kernel_rfl) (by kernel_rfl) (by kernel_rfl) (by kernel_rfl) (fun _ _ _ h => h) (by assumption) (Or.inl ⟨by kernel_rfl, ?_⟩) (fun hT => ?_)
        rotate_left 1
        · intro w hSw
          (try dsimp only at hSw)
          first | (go_simp; done) | (go_simp; with_reducible rfl)
        (try simp only [Act.put, List.getElem_toArray, List.getElem_cons_succ, List.getElem_cons_zero, List.setIfInBounds_toArray, List.set_cons_zero, List.set_cons_succ])
        refine wpAnyT_take _ [] (i := 10) (oi := _) (v := ?_) (fun _ _ => Iff.rfl) (fun _ _ _ h => h) rfl (by kernel_rfl) (by kernel_rfl) (by kernel_rfl) (by kernel_rfl) (by kernel_rfl) (fun _ _ _ h => h) (by assumption) (Or.inl ⟨by kernel_rfl, ?_⟩) (fun hT => ?_)
        rotate_left 1
        · intro w hSw
          (try dsimp only at hSw)
          first | (go_simp; done) | (go_simp; with_reducible rfl)
        (try simp only [Act.put, List.getElem_toArray, List.getElem_cons_succ, List.getElem_cons_zero, List.setIfInBounds_toArray, List.set_cons_zero, List.set_cons_succ])
        refine wpAnyT_one (i := 3) (by kernel_rfl) (oi := _) rfl (fun K hK => ?_)
        (try dsimp only [List.getElem_toArray, List.getElem_cons_succ, List.getElem_cons_zero])
        go_simp
        go_at_call 62
        (with_reducible refine (HA1.out _ HDR.out).mono ?_)
        rintro e w3 ⟨rfl, hbw3⟩
        go_wp2_with (fail)
        refine hK.out _ _ (HSX.out _ hbw3) (fun hT => ?_)
        clear hK K
        (try simp only [Act.put, List.getElem_toArray, List.getElem_cons_succ, List.getElem_cons_zero, List.setIfInBounds_toArray, List.set_cons_zero, List.set_cons_succ])
        refine wpAnyT_one (i := 6) (by kernel_rfl) (oi := _) rfl (fun K hK => ?_)
        (try dsimp only [List.getElem_toArray, List.getElem_cons_succ, List.getElem_cons_zero])
        go_simp
        go_at_call 62
        (with_reducible refine (HA2.out _ hbw3).mono ?_)
        rintro e w4 ⟨rfl, hbw4⟩
        go_wp2_with (fail)
        refine hK.out _ _ (HSX.out _ hbw4) (fun hT => ?_)
        clear hK K
        (try simp only [Act.put, List.getElem_toArray, List.getElem_cons_succ, List.getElem_cons_zero, List.setIfInBounds_toArray, List.set_cons_zero, List.set_cons_succ])
        refine wpAnyT_take _ [] (i := 7) (oi := _) (v := ?_) (fun _ _ => Iff.rfl) (fun _ _ _ h => h) rfl (by kernel_rfl) (by kernel_rfl) (by kernel_rfl) (by kernel_rfl) (by kernel_rfl) (fun _ _ _ h => h) (by assumption) (Or.inl ⟨by kernel_rfl, ?_⟩) (fun hT => ?_)
        rotate_left 1
        · intro w hSw
          (try dsimp only at hSw)
          first | (go_simp; done) | (go_simp; with_reducible rfl)
        (try simp only [Act.put, List.getElem_toArray, List.getElem_cons_succ, List.getElem_cons_zero, List.setIfInBounds_toArray, List.set_cons_zero, List.set_cons_succ])
        refine wpAnyT_take _ [] (i := 11) (oi := _) (v := ?_) (fun _ _ => Iff.rfl) (fun _ _ _ h => h) rfl (by kernel_rfl) (by kernel_rfl) (by kernel_rfl) (by kernel_rfl) (by kernel_rfl) (fun _ _ _ h => h) (by assumption) (Or.inl ⟨by kernel_rfl, ?_⟩) (fun hT => ?_)
        rotate_left 1
        · intro w hSw
          (try dsimp only at hSw)
          first | (go_simp; done) | (go_simp; with_reducible rfl)
        (try simp only [Act.put, List.getElem_toArray, List.getElem_cons_succ, List.getElem_cons_zero, List.setIfInBounds_toArray, List.set_cons_zero, List.set_cons_succ])
        refine wpAnyT_take _ [] (i := 12) (oi := _) (v := ?_) (fun _ _ => Iff.rfl) (fun _ _ _ h => h) rfl (by kernel_rfl) (by kernel_rfl) (by kernel_rfl) (by kernel_rfl) (by kernel_rfl) (fun _ _ _ h => h) (by assumption) (Or.inl ⟨by kernel_rfl, ?_⟩) (fun hT => ?_)
        rotate_left 1
        · intro w hSw
          (try dsimp only at hSw)
          first | (go_simp; done) | (go_simp; with_reducible rfl)
        (try simp only [Act.put, List.getElem_toArray, List.getElem_cons_succ, List.getElem_cons_zero, List.setIfInBounds_toArray, List.set_cons_zero, List.set_cons_succ])
        refine wpAnyT_one (i := 13) (by kernel_rfl) (oi := _) rfl (fun K hK => ?_)
        (try dsimp only [List.getElem_toArray, List.getElem_cons_succ, List.getElem_cons_zero])
        go_simp
        refine hK.out _ _ (HSX.out _ (hbw4.alloc hbw4.size _)) (fun hT => ?_)
        clear hK K
        (try simp only [Act.put, List.getElem_toArray, List.getElem_cons_succ, List.getElem_cons_zero, List.setIfInBounds_toArray, List.set_cons_zero, List.set_cons_succ])
        refine wpAnyT_one (i := 14) (by kernel_rfl) (oi := _) rfl (fun K hK => ?_)
        (try dsimp only [List.getElem_toArray, List.getElem_cons_succ, List.getElem_cons_zero])
        refine step_append1 _ (by rfl) _ _ 23 (by rfl) (w.heap.size + 1 + 1 + 1) 22 i0 4 Tryd.underlying23 hi0 hz0 hz1 hz2 u5 (j) (S.map (Value.int .u32)) (by rfl) (own_below HO.out (hbw4.alloc hbw4.size _)) ⟨w4.heap.size, 0, none⟩ 1 (t : Int) (by rfl) (by simp [Addr.add]) (by unfold maxLen; omega) (by omega) (by have := hbw4.size; simp; omega) (fun cv2 w9 hown2 hg2 => ?_)
        have HL2 : Hid (Laid2 w p p (.slice A xs.length c) (.slice B ys.length d) w9) := Lib.hid (Laid2.grown (HL.out.up ((hbw4.alloc hbw4.size _).mono hsz)) hg2 (own_below HO.out (hbw4.alloc hbw4.size _)))
        have HO2 : Hid (w9.ownsRow (w.heap.size + 1 + 1 + 1) 22 1 cv2 (j + 1) ((S ++ [(t : Int)]).map (Value.int .u32))) := Lib.hid (by rw [List.map_append]; exact hown2)
        have b0' : Hid ((w9.cell? ⟨w.heap.size, 0, none⟩ = some (.int .u32 (p : Int)) ∧ w9.cell? ⟨w.heap.size, 1, none⟩ = some (.slice A xs.length c)) ∧ (w9.cell? ⟨w.heap.size + 1, 0, none⟩ = some (.int .u32 (p : Int)) ∧ w9.cell? ⟨w.heap.size + 1, 1, none⟩ = some (.slice B ys.length d))) := Lib.hid (by obtain ⟨⟨b0, b1⟩, ⟨b2, b3⟩, ⟨u0, u1, d0, d1⟩, ⟨f0, f1⟩, hsz, hbw⟩ := HL2.out; exact ⟨⟨b0, b1⟩, b2, b3⟩)
        clear hown2 hg2
        refine hK.out _ _ b0'.out (fun hT => ?_)
        clear hK K
        (try simp only [Act.put, List.setIfInBounds_toArray, List.set_cons_zero, List.set_cons_succ])
        refine wpAnyT_take _ [] (i := 15) (oi := _) (v := ?_) (fun _ _ => Iff.rfl) (fun _ _ _ h => h) rfl (by kernel_rfl) (by kernel_rfl) (by kernel_rfl) (by kernel_rfl) (by kernel_rfl) (fun _ _ _ h => h) (by assumption) (Or.inl ⟨by kernel_rfl, ?_⟩) (fun hT => ?_)
        rotate_left 1
        · intro w hSw
          (try dsimp only at hSw)
          first | (go_simp; done) | (go_simp; with_reducible rfl)
        (try simp only [Act.put, List.getElem_toArray, List.getElem_cons_succ, List.getElem_cons_zero, List.setIfInBounds_toArray, List.set_cons_zero, List.set_cons_succ])
        refine wpAnyT_done (by kernel_rfl) ?_ _
        refine NoPanic.normal ?_
        go_wp2
        go_roundw
        case rel => exact ⟨j + 1, _, by omega, by omega, by go_num, HS.out, HO2.out, HL2.out⟩
        case measure => simp [intOf]; omega
    · have hn : j = (max xs.length ys.length) := by omega
      obtain ⟨A2, c2, rfl, g3, g4, g5⟩ := row_made hown
      have HG := Lib.hid g3.trim
      have HT : Hid (Calls Tryd.prog 64 #[.int .u32 (p : Int), .slice A2 S.length c2] wr fun e w' => e = .returned (.agg #[.int .u32 (p : Int), .slice A2 (trimZ S).length c2]) ∧ Below wr.heap.size wr w') := Lib.hid
        (cut_cap p A2 S c2 wr g3.kl hS.2.2 g4 (by have := hS.1; omega))
      rw [hn] at hS
      have HS : Hid (trimZ S = addP p xs ys) := Lib.hid hS.cano
      have HC2 : Hid ((trimZ S).length ≤ c2) := Lib.hid (Nat.le_trans (trimZ_len S) g4)
      have i1 : decide ((j : Int) < (xs.length : Int)) = false := by simp; omega
      have i2 : decide ((j : Int) < (ys.length : Int)) = false := by simp; omega
      have i1n : decide (j < xs.length) = false := by simp; omega
      have i2n : decide (j < ys.length) = false := by simp; omega
      have HBW := Lib.hid hbw
      clear hown g3 g4 g5 hS hbw hn
      go_wp2_with (go_at_call 64; (with_reducible refine HT.out.mono ?_); rintro e w2 ⟨rfl, hb2⟩; have HL2 := Lib.hid (HL.out.up (hb2.mono hsz)); have HG2 := Lib.hid (HG.out.below hb2); clear hb2; obtain ⟨⟨k0, k1⟩, ⟨k2, k3⟩, ⟨v0, v1, m0, m1⟩, ⟨n0, n1⟩, hsz2, hbw2⟩ := HL2.out; have HBW2 := Lib.hid hbw2; clear hbw2)
      obtain ⟨q0, q1⟩ := cells_two (u := .int .u32 (p : Int)) (v := .slice A2 (trimZ S).length c2) m0 m1
      refine bodyPost_ret (v := .agg #[.int .u32 (p : Int), .slice A2 (trimZ S).length c2]) (by simp [results, Tryd.results31, go_sem, q0, q1]) rfl ?_
      have hg := HG2.out
      have hc2 := HC2.out
      rw [HS.out] at hg hc2 ⊢
      exact madeP_end HBW2.out (by omega) hg (by omega) hc2
end Go.Proofs.YtlndchmpnnlacaaDoor
