/- Contract of the reference: DivMod. -/
import Derived.Test.YtlndchmpnnlacaaDoorRefD
import Derived.Test.YtlndchmpnnlacaaDoorRefB
namespace Go.Proofs.YtlndchmpnnlacaaDoor
open Go.RowKit

theorem one_newE {W : World} {p : Addr} {v : Value} (h : W.cell? p = some v) : ∀ o : Obj, (W.alloc o).cell? p = some v := fun o => (((Below.refl W.heap.size W).alloc (Nat.le_refl _) o).cell (World.block_lt_of_cell? W _ h)).trans h
set_option maxRecDepth 100000 in
set_option maxHeartbeats 16000000 in
theorem rdivmod_yes (p : Nat) (A B : Option Addr) (xs ys : List Int) (c d : Nat) (w : World) (h : KL .u32 w w.heap.size A xs) (h' : KL .u32 w w.heap.size B ys) (hp : p ≤ 2147483647) (hpr : PrimeN p)
    (hx : Pol p xs) (hy : Pol p ys) (ny : ys ≠ []) (hxl : xs.length ≤ 1000000) (hyl : ys.length ≤ 1000000) (hle : ys.length ≤ xs.length) :
    Calls Tryd.prog 47 #[.agg #[.int .u32 (p : Int), .slice A xs.length c], .agg #[.int .u32 (p : Int), .slice B ys.length d]] w fun e w' => MadeD p (divP p xs ys) (modP p xs ys) w e w' := by
  obtain ⟨i0, hi0, hz0, hz1, hz2⟩ := info_parts u32_info
  have hp0 := hpr.pos
  have ly := List.length_pos_iff.2 ny
  obtain ⟨top, htop⟩ : ∃ top, top + 1 = ys.length := ⟨ys.length - 1, by omega⟩
  obtain ⟨D, hD⟩ : ∃ D, D + ys.length = xs.length := ⟨xs.length - ys.length, by omega⟩
  have hlb := hy.lead_bd ny
  have hlead : lead ys = ys.getD top 0 := by unfold lead co; rw [show ys.length - 1 = top by omega]
  obtain ⟨ld, hld⟩ : ∃ ld : Nat, ys.getD top 0 = ld := ⟨(ys.getD top 0).toNat, by rw [hlead] at hlb; omega⟩
  have hldp : ld < p := by rw [hlead, hld] at hlb; omega
  obtain ⟨iv, hiv⟩ : ∃ iv, ld ^ (p - 2) % p = iv := ⟨_, rfl⟩
  have hivp : iv < p := by rw [← hiv]; exact Nat.mod_lt _ hp0
  have HIVM : Hid ((p : Int) ∣ ys.getD top 0 * (iv : Int) - 1) := Lib.hid (by
    have := invN_mul hpr hlb.1 hlb.2
    unfold invN at this
    rw [hlead, hld, Int.toNat_natCast, hiv] at this
    rw [hld]; exact this)
  have HRES : Hid (∀ Q R : List Int, DvR p xs ys top Q R 0 → trimZ Q = divP p xs ys ∧ trimZ R = modP p xs ys) := Lib.hid fun Q R hd => (hd.ends hpr htop).to hpr hx hy ny
  have H := Lib.hid h
  have H' := Lib.hid h'
  have HDX := Lib.hid hx.1
  have HDY := Lib.hid hy.1
  have HLx : LaidE w p (.slice A xs.length c) (.slice B ys.length d) ((((w.alloc (.cells #[.int .u32 (p : Int), .slice A xs.length c] 25)).alloc (.cells #[.int .u32 (p : Int), .slice B ys.length d] 25)).alloc (.cells #[.int .u32 0, .slice none 0 0] 25)).alloc (.cells #[.int .u32 0, .slice none 0 0] 25)) := ⟨⟨⟨by go_cell, by go_cell⟩, ⟨by go_cell, by go_cell⟩⟩, ⟨⟨.int .u32 0, .slice none 0 0, by go_cell, by go_cell⟩, ⟨.int .u32 0, .slice none 0 0, by go_cell, by go_cell⟩⟩, ⟨⟨by go_cell, by go_cell⟩, ⟨by go_cell, by go_cell⟩⟩, by simp, by go_grown⟩
  obtain ⟨W0, hW0⟩ : ∃ W0, ((((w.alloc (.cells #[.int .u32 (p : Int), .slice A xs.length c] 25)).alloc (.cells #[.int .u32 (p : Int), .slice B ys.length d] 25)).alloc (.cells #[.int .u32 0, .slice none 0 0] 25)).alloc (.cells #[.int .u32 0, .slice none 0 0] 25)) = W0 := ⟨_, rfl⟩
  rw [hW0] at HLx
  have HL := Lib.hid HLx
  clear HLx
  obtain ⟨bd, rfl, hbb, hbc⟩ := h' ly
  have hbt := hbc top (by omega)
  rw [hld] at hbt
  have HIV : Hid (∀ W : World, Below W0.heap.size W0 W → Calls Tryd.prog 58 #[.int .u32 (p : Int), .int .u32 (ld : Int)] W fun e w' => e = .returned (.int .u32 (iv : Int)) ∧ Below W0.heap.size W0 w') := Lib.hid fun W hb2 => by
    rw [← hiv]
    exact (rinverse_any p ld W hp hpr.1 hldp).mono fun e w' ⟨h1, h2⟩ => ⟨h1, h2 ▸ hb2⟩
  have HSX : Hid (∀ W : World, Below W0.heap.size W0 W → (((W.cell? ⟨w.heap.size, 0, none⟩ = some (.int .u32 (p : Int)) ∧ W.cell? ⟨w.heap.size, 1, none⟩ = some (.slice A xs.length c)) ∧ (W.cell? ⟨w.heap.size + 1, 0, none⟩ = some (.int .u32 (p : Int)) ∧ W.cell? ⟨w.heap.size + 1, 1, none⟩ = some (.slice (some bd) ys.length d))) ∧ W.cell? (bd.add top) = some (.int .u32 (ld : Int)))) := Lib.hid fun W hW => by
    have h3 := HL.out.up (hW.mono HL.out.2.2.2.1)
    exact ⟨h3.1, (h3.2.2.2.2.cell (p := bd.add top) (by rw [block_of_add]; exact hbb)).trans hbt⟩
  have HDR : Hid (Below W0.heap.size W0 W0.drew) := Lib.hid (Below.refl _ _).drew
  obtain ⟨a0, a1⟩ := HL.out.1.1
  obtain ⟨a2, a3⟩ := HL.out.1.2
  have hp1 : ((p : Int) == 0) = false := by rw [beq_eq_false_iff_ne]; omega
  have hp2 : p ≠ 0 := by omega
  have w1 : IntKind.u64.wrap (p : Int) = (p : Int) := by rw [IntKind.wrap_u64]; omega
  have w2 : IntKind.u64.wrap (iv : Int) = (iv : Int) := by rw [IntKind.wrap_u64]; omega
  have y0 : ((ys.length : Int) == 0) = false := by rw [nil_beq]; simp [ny]
  have t1 : (ys.length : Int) - 1 = (top : Int) := by omega
  have t2 : (top : Int) < (ys.length : Int) := by omega
  have t7 : IntKind.i64.wrap (top : Int) = (top : Int) := by rw [IntKind.wrap_i64]; omega
  have t3 : decide ((ys.length : Int) ≤ (xs.length : Int)) = true := by simp; omega
  have t4 : (xs.length : Int) - (ys.length : Int) = (D : Int) := by omega
  have t5 : (D : Int) + 1 = ((D + 1 : Nat) : Int) := by omega
  clear h h' hx hy hlead hld hlb hiv hbc hbt ny
  go_enter Tryd.func47, Tryd.ntmps47
  go_wp2
  refine wp_region_noPanic ?_
  refine wp_region_tail (fun (_ : Array Bool) (W : World) => ((W.cell? ⟨w.heap.size, 0, none⟩ = some (.int .u32 (p : Int)) ∧ W.cell? ⟨w.heap.size, 1, none⟩ = some (.slice A xs.length c)) ∧ (W.cell? ⟨w.heap.size + 1, 0, none⟩ = some (.int .u32 (p : Int)) ∧ W.cell? ⟨w.heap.size + 1, 1, none⟩ = some (.slice (some bd) ys.length d))) ∧ W.cell? (bd.add top) = some (.int .u32 (ld : Int))) (by kernel_rfl) (HSX.out _ HDR.out) (fun hT => ?_)
  refine wpAnyT_take _ [] (i := 0) (oi := _) (v := ?_) (fun _ _ => Iff.rfl) (fun _ _ _ h => h) rfl (by kernel_rfl) (by kernel_rfl) (by kernel_rfl) (by kernel_rfl) (by kernel_rfl) (fun _ _ _ h => h) (by assumption) (Or.inl ⟨by kernel_rfl, ?_⟩) (fun hT => ?_)
  rotate_left 1
  · intro w hSw
    (try dsimp only at hSw)
    first | (go_simp; done) | (go_simp; with_reducible rfl)
  (try simp only [Act.put, List.getElem_toArray, List.getElem_cons_zero, List.setIfInBounds_toArray, List.set_cons_zero, List.set_cons_succ])
  refine wpAnyT_take _ [] (i := 1) (oi := _) (v := ?_) (fun _ _ => Iff.rfl) (fun _ _ _ h => h) rfl (by kernel_rfl) (by kernel_rfl) (by kernel_rfl) (by kernel_rfl) (by kernel_rfl) (fun _ _ _ h => h) (by assumption) (Or.inl ⟨by kernel_rfl, ?_⟩) (fun hT => ?_)
  rotate_left 1
  · intro w hSw
    (try dsimp only at hSw)
    first | (go_simp; done) | (go_simp; with_reducible rfl)
  (try simp only [Act.put, List.getElem_toArray, List.getElem_cons_succ, List.getElem_cons_zero, List.setIfInBounds_toArray, List.set_cons_zero, List.set_cons_succ])
  refine wpAnyT_take _ [] (i := 2) (oi := _) (v := ?_) (fun _ _ => Iff.rfl) (fun _ _ _ h => h) rfl (by kernel_rfl) (by kernel_rfl) (by kernel_rfl) (by kernel_rfl) (by kernel_rfl) (fun _ _ _ h => h) (by assumption) (Or.inl ⟨by kernel_rfl, ?_⟩) (fun hT => ?_)
  rotate_left 1
  · intro w hSw
    (try dsimp only at hSw)
    first | (go_simp; done) | (go_simp; with_reducible rfl)
  (try simp only [Act.put, List.getElem_toArray, List.getElem_cons_succ, List.getElem_cons_zero, List.setIfInBounds_toArray, List.set_cons_zero, List.set_cons_succ])
  refine wpAnyT_take _ [] (i := 3) (oi := _) (v := ?_) (fun _ _ => Iff.rfl) (fun _ _ _ h => h) rfl (by kernel_rfl) (by kernel_rfl) (by kernel_rfl) (by kernel_rfl) (by kernel_rfl) (fun _ _ _ h => h) (by assumption) (Or.inl ⟨by kernel_rfl, ?_⟩) (fun hT => ?_)
  rotate_left 1
  · intro w hSw
    (try dsimp only at hSw)
    first | (go_simp; done) | (go_simp; with_reducible rfl)
  (try simp only [Act.put, List.getElem_toArray, List.getElem_cons_succ, List.getElem_cons_zero, List.setIfInBounds_toArray, List.set_cons_zero, List.set_cons_succ])
  refine wpAnyT_take _ [] (i := 4) (oi := _) (v := ?_) (fun _ _ => Iff.rfl) (fun _ _ _ h => h) rfl (by kernel_rfl) (by kernel_rfl) (by kernel_rfl) (by kernel_rfl) (by kernel_rfl) (fun _ _ _ h => h) (by assumption) (Or.inl ⟨by kernel_rfl, ?_⟩) (fun hT => ?_)
  rotate_left 1
  · intro w hSw
    (try dsimp only at hSw)
    first | (go_simp; done) | (go_simp; with_reducible rfl)
  (try simp only [Act.put, List.getElem_toArray, List.getElem_cons_succ, List.getElem_cons_zero, List.setIfInBounds_toArray, List.set_cons_zero, List.set_cons_succ])
  refine wpAnyT_take _ [] (i := 5) (oi := _) (v := ?_) (fun _ _ => Iff.rfl) (fun _ _ _ h => h) rfl (by kernel_rfl) (by kernel_rfl) (by kernel_rfl) (by kernel_rfl) (by kernel_rfl) (fun _ _ _ h => h) (by assumption) (Or.inl ⟨by kernel_rfl, ?_⟩) (fun hT => ?_)
  rotate_left 1
  · intro w hSw
    (try dsimp only at hSw)
    first | (go_simp; done) | (go_simp; with_reducible rfl)
  (try simp only [Act.put, List.getElem_toArray, List.getElem_cons_succ, List.getElem_cons_zero, List.setIfInBounds_toArray, List.set_cons_zero, List.set_cons_succ])
  refine wpAnyT_take _ [] (i := 6) (oi := _) (v := ?_) (fun _ _ => Iff.rfl) (fun _ _ _ h => h) rfl (by kernel_rfl) (by kernel_rfl) (by kernel_rfl) (by kernel_rfl) (by kernel_rfl) (fun _ _ _ h => h) (by assumption) (Or.inl ⟨by kernel_rfl, ?_⟩) (fun hT => ?_)
  rotate_left 1
  · intro w hSw
    (try dsimp only at hSw)
    first | (go_simp; done) | (go_simp; with_reducible rfl)
  (try simp only [Act.put, List.getElem_toArray, List.getElem_cons_succ, List.getElem_cons_zero, List.setIfInBounds_toArray, List.set_cons_zero, List.set_cons_succ])
  refine wpAnyT_take _ [] (i := 7) (oi := _) (v := ?_) (fun _ _ => Iff.rfl) (fun _ _ _ h => h) rfl (by kernel_rfl) (by kernel_rfl) (by kernel_rfl) (by kernel_rfl) (by kernel_rfl) (fun _ _ _ h => h) (by assumption) (Or.inl ⟨by kernel_rfl, ?_⟩) (fun hT => ?_)
  rotate_left 1
  · intro w hSw
    (try dsimp only at hSw)
    first | (go_simp; done) | (go_simp; with_reducible rfl)
  (try simp only [Act.put, List.getElem_toArray, List.getElem_cons_succ, List.getElem_cons_zero, List.setIfInBounds_toArray, List.set_cons_zero, List.set_cons_succ])
  refine wpAnyT_one (i := 8) (by kernel_rfl) (oi := _) rfl (fun K hK => ?_)
  (try dsimp only [List.getElem_toArray, List.getElem_cons_succ, List.getElem_cons_zero])
  go_simp
  go_at_call 58
  (with_reducible refine (HIV.out _ HDR.out).mono ?_)
  rintro e w3 ⟨rfl, hb3⟩
  go_wp2_with (fail)
  refine hK.out _ _ (HSX.out _ hb3) (fun hT => ?_)
  clear hK K
  (try simp only [Act.put, List.getElem_toArray, List.getElem_cons_succ, List.getElem_cons_zero, List.setIfInBounds_toArray, List.set_cons_zero, List.set_cons_succ])
  refine wpAnyT_take _ [] (i := 9) (oi := _) (v := ?_) (fun _ _ => Iff.rfl) (fun _ _ _ h => h) rfl (by kernel_rfl) (by kernel_rfl) (by kernel_rfl) (by kernel_rfl) (by kernel_rfl) (fun _ _ _ h => h) (by assumption) (Or.inl ⟨by kernel_rfl, ?_⟩) (fun hT => ?_)
  rotate_left 1
  · intro w hSw
    (try dsimp only at hSw)
    first | (go_simp; done) | (go_simp; with_reducible rfl)
  (try simp only [Act.put, List.getElem_toArray, List.getElem_cons_succ, List.getElem_cons_zero, List.setIfInBounds_toArray, List.set_cons_zero, List.set_cons_succ])
  refine wpAnyT_take _ [] (i := 10) (oi := _) (v := ?_) (fun _ _ => Iff.rfl) (fun _ _ _ h => h) rfl (by kernel_rfl) (by kernel_rfl) (by kernel_rfl) (by kernel_rfl) (by kernel_rfl) (fun _ _ _ h => h) (by assumption) (Or.inl ⟨by kernel_rfl, ?_⟩) (fun hT => ?_)
  rotate_left 1
  · intro w hSw
    (try dsimp only at hSw)
    first | (go_simp; done) | (go_simp; with_reducible rfl)
  (try simp only [Act.put, List.getElem_toArray, List.getElem_cons_succ, List.getElem_cons_zero, List.setIfInBounds_toArray, List.set_cons_zero, List.set_cons_succ])
  refine wpAnyT_done (by kernel_rfl) ?_ _
  refine NoPanic.normal ?_
  obtain ⟨M, hM⟩ : ∃ M, D + 1 = M := ⟨_, rfl⟩
  have t6 : (D : Int) + 1 = (M : Int) := by omega
  have HL3 := Lib.hid (HL.out.up (hb3.mono HL.out.2.2.2.1))
  have f0' := one_newE (HSX.out _ hb3).1.1.1
  have f1' := one_newE (HSX.out _ hb3).1.1.2
  have hs3 : w.heap.size + 1 + 1 + 1 + 1 ≤ w3.heap.size := HL3.out.2.2.2.1
  have HB3 := Lib.hid (HL3.out.2.2.2.2)
  clear a0 a1 a2 a3
  go_wp2_with (first
    | (refine wpList_append_KL _ (by rfl) _ _ 23 (by rfl) (w.heap.size + 1 + 1 + 1 + 1) 22 i0 4 Tryd.underlying23 hi0 hz0 hz1 hz2 (.slice (some ⟨w3.heap.size, 0, none⟩) 0 0) 0 [] (by rfl) (own_of_heap (xs := []) (heap_alloc_new _ _) rfl hs3 (by unfold maxLen; omega)) _ A xs.length c xs rfl (by rfl) (H.out.up (HB3.out.alloc HB3.out.size _)) (by unfold maxLen; omega) (by omega) (by simp; omega) ?_; intro v' w5 hown5 hg5; obtain ⟨gR, cR, rfl, hgR, hcR, hcm, hR5⟩ := row_slice (n := xs.length) (by simpa using hown5) (by omega); have HL5 := Lib.hid (HL3.out.up (((Below.refl _ _).alloc hs3 _).trans ((Below.refl (w.heap.size + 1 + 1 + 1 + 1) _).grown hg5 (by simp; omega) (fun k hk => by (have : w3.heap.size = k := (by simpa [Value.ownBlock] using hk)); omega)))); have HR5 := Lib.hid hR5; obtain ⟨⟨a0, a1⟩, ⟨a2, a3⟩⟩ := HL5.out.1; clear hown5 hg5 hR5)
    | (at_make; refine wpList_make_full _ rfl _ _ 23 rfl (w5.heap.size) 22 i0 (.int .u32 0) 1 Tryd.underlying23 hi0 hz0 hz1 _ _ _ _ M rfl rfl (by simp) (by simp) (by rw [hz2]; omega) (by unfold maxLen; omega) (by simp) ?_; intro w6 hown6 hg6; have HO6 := Lib.hid (own_zeros hown6); have HB6 := Lib.hid ((Below.refl w5.heap.size w5).grown hg6 (Nat.le_refl _) (fun k hk => by cases hk)); have HL6 := Lib.hid (HL5.out.up (HB6.out.mono HL5.out.2.2.2.1)); clear hown6 hg6 a0 a1 a2 a3; obtain ⟨⟨a0, a1⟩, ⟨a2, a3⟩⟩ := HL6.out.1))
  obtain ⟨gQ, hgQ⟩ : ∃ gQ, w5.heap.size = gQ := ⟨_, rfl⟩
  rw [hgQ] at HO6
  have HST0 : Hid (DSt w p (.slice A xs.length c) (.slice (some bd) ys.length d) gR gQ xs.length M xs (List.replicate M 0) w6) := Lib.hid ⟨HR5.out.below HB6.out, ⟨fun k hk => ⟨own_cell HO6.out hk, HO6.out.frozenAt k⟩, own_size HO6.out, by simp⟩, HL6.out, by have := HR5.out.2.1; omega, hgR, by have := HL5.out.2.2.2.1; omega⟩
  have HDV0 : Hid (DvR p xs ys top (List.replicate M 0) xs M) := Lib.hid (by rw [← hM]; exact DvR.start hp0 HDX.out (by omega))
  try rw [hgQ]
  clear HO6 HL6 HR5 HB6 HL5 a0 a1 a2 a3 hgQ HL3 HB3 f0' f1' hs3 hb3
  go_loopw [11] (fun iv_ wr => ∃ (a : Nat) (R Q : List Int), (a = 0 ∧ iv_ = .int .i64 (-1) ∨ ∃ i' : Nat, a = i' + 1 ∧ iv_ = .int .i64 i') ∧ a ≤ M ∧ Hid (DvR p xs ys top Q R a) ∧ DSt w p (.slice A xs.length c) (.slice (some bd) ys.length d) gR gQ xs.length M R Q wr) (fun iv_ _ => ((intOf iv_) + 1).toNat)
  case atStart => exact ⟨M, xs, _, .inr ⟨D, by omega, rfl⟩, Nat.le_refl _, HDV0, HST0.out⟩
  case round =>
    clear HST0 HDV0
    obtain ⟨a, R, Q, ha, haM, HDV, hst⟩ := hrel
    have HST := Lib.hid hst
    obtain ⟨hRow, hQow, hLE, hne, hg1, hg2⟩ := hst
    obtain ⟨⟨a0, a1⟩, ⟨a2, a3⟩⟩ := hLE.1
    have hsz := hLE.2.2.2.1
    have HBW := Lib.hid hLE.2.2.2.2
    rcases ha with ⟨rfl, rfl⟩ | ⟨i, rfl, rfl⟩
    · have HCQ : Hid (∀ W : World, Below wr.heap.size wr W → Calls Tryd.prog 64 #[.int .u32 (p : Int), .slice (some ⟨gQ, 0, none⟩) M M] W fun e w' => e = .returned (.agg #[.int .u32 (p : Int), .slice (some ⟨gQ, 0, none⟩) (trimZ Q).length M]) ∧ Below wr.heap.size wr w') := Lib.hid fun W hW => by
        have h1 := hQow.below hW
        have h2 := cut_cap p (some ⟨gQ, 0, none⟩) Q M W (h1.kf (Nat.zero_le _)).kl (HDV.out.1.w (by omega)) (by have := h1.2.2; omega) (by have := h1.2.2; omega)
        rw [h1.2.2] at h2
        exact h2.mono fun e w' ⟨h3, h4⟩ => ⟨h3, below_chain hW h4⟩
      have HCR : Hid (∀ W : World, Below wr.heap.size wr W → Calls Tryd.prog 64 #[.int .u32 (p : Int), .slice (some ⟨gR, 0, none⟩) xs.length cR] W fun e w' => e = .returned (.agg #[.int .u32 (p : Int), .slice (some ⟨gR, 0, none⟩) (trimZ R).length cR]) ∧ Below wr.heap.size wr w') := Lib.hid fun W hW => by
        have h1 := hRow.below hW
        have h2 := cut_cap p (some ⟨gR, 0, none⟩) R cR W (h1.kf (Nat.zero_le _)).kl (HDV.out.2.1.w (by omega)) (by have := h1.2.2; omega) (by have := h1.2.2; omega)
        rw [h1.2.2] at h2
        exact h2.mono fun e w' ⟨h3, h4⟩ => ⟨h3, below_chain hW h4⟩
      have HE := Lib.hid (HRES.out Q R HDV.out)
      have HQL : Hid ((trimZ Q).length ≤ M ∧ (trimZ R).length ≤ cR) := Lib.hid ⟨Nat.le_trans (trimZ_len Q) (by have := hQow.2.2; omega), Nat.le_trans (trimZ_len R) (by have := hRow.2.2; omega)⟩
      have HSB : Hid (∀ W : World, Below wr.heap.size wr W → W.cell? ⟨w.heap.size, 0, none⟩ = some (.int .u32 (p : Int))) := Lib.hid fun W hW => (hLE.up (hW.mono hsz)).1.1.1
      have HST1 : Hid (∀ (W : World) (u v : Value), Below wr.heap.size wr W → ((W.setCell ⟨w.heap.size + 1 + 1, 0, none⟩ u).setCell ⟨w.heap.size + 1 + 1, 1, none⟩ v).cell? ⟨w.heap.size, 0, none⟩ = some (.int .u32 (p : Int))) := Lib.hid fun W u v hW => (put_kept (by omega)).trans (HSB.out W hW)
      have HST2 : Hid (∀ (W : World) (u v u' v' : Value), Below wr.heap.size wr W → ((((W.setCell ⟨w.heap.size + 1 + 1, 0, none⟩ u).setCell ⟨w.heap.size + 1 + 1, 1, none⟩ v).setCell ⟨w.heap.size + 1 + 1 + 1, 0, none⟩ u').setCell ⟨w.heap.size + 1 + 1 + 1, 1, none⟩ v').cell? ⟨w.heap.size, 0, none⟩ = some (.int .u32 (p : Int))) := Lib.hid fun W u v u' v' hW => (put_kept (by omega)).trans (HST1.out W u v hW)
      have HDRW : Hid (Below wr.heap.size wr wr.drew) := Lib.hid (Below.refl _ _).drew
      have i0 : decide ((0 : Int) ≤ -1) = false := rfl
      clear hRow hQow hLE hne HDV
      go_wp2
      refine wp_region_noPanic ?_
      refine wp_region_tail (fun (_ : Array Bool) (W : World) => W.cell? ⟨w.heap.size, 0, none⟩ = some (.int .u32 (p : Int))) (by kernel_rfl) (HSB.out _ HDRW.out) (fun hT => ?_)
      refine wpAnyT_take _ [] (i := 0) (oi := _) (v := ?_) (fun _ _ => Iff.rfl) (fun _ _ _ h => h) rfl (by kernel_rfl) (by kernel_rfl) (by kernel_rfl) (by kernel_rfl) (by kernel_rfl) (fun _ _ _ h => h) (by assumption) (Or.inl ⟨by kernel_rfl, ?_⟩) (fun hT => ?_)
      rotate_left 1
      · intro w hSw
        (try dsimp only at hSw)
        first | (go_simp; done) | (go_simp; with_reducible rfl)
      (try simp only [Act.put, List.getElem_toArray, List.getElem_cons_zero, List.setIfInBounds_toArray, List.set_cons_zero, List.set_cons_succ])
      refine wpAnyT_take _ [] (i := 1) (oi := _) (v := ?_) (fun _ _ => Iff.rfl) (fun _ _ _ h => h) rfl (by kernel_rfl) (by kernel_rfl) (by kernel_rfl) (by kernel_rfl) (by kernel_rfl) (fun _ _ _ h => h) (by assumption) (Or.inl ⟨by kernel_rfl, ?_⟩) (fun hT => ?_)
      rotate_left 1
      · intro w hSw
        (try dsimp only at hSw)
        first | (go_simp; done) | (go_simp; with_reducible rfl)
      (try simp only [Act.put, List.getElem_toArray, List.getElem_cons_succ, List.getElem_cons_zero, List.setIfInBounds_toArray, List.set_cons_zero, List.set_cons_succ])
      refine wpAnyT_take _ [] (i := 2) (oi := _) (v := ?_) (fun _ _ => Iff.rfl) (fun _ _ _ h => h) rfl (by kernel_rfl) (by kernel_rfl) (by kernel_rfl) (by kernel_rfl) (by kernel_rfl) (fun _ _ _ h => h) (by assumption) (Or.inl ⟨by kernel_rfl, ?_⟩) (fun hT => ?_)
      rotate_left 1
      · intro w hSw
        (try dsimp only at hSw)
        first | (go_simp; done) | (go_simp; with_reducible rfl)
      (try simp only [Act.put, List.getElem_toArray, List.getElem_cons_succ, List.getElem_cons_zero, List.setIfInBounds_toArray, List.set_cons_zero, List.set_cons_succ])
      refine wpAnyT_take _ [] (i := 4) (oi := _) (v := ?_) (fun _ _ => Iff.rfl) (fun _ _ _ h => h) rfl (by kernel_rfl) (by kernel_rfl) (by kernel_rfl) (by kernel_rfl) (by kernel_rfl) (fun _ _ _ h => h) (by assumption) (Or.inl ⟨by kernel_rfl, ?_⟩) (fun hT => ?_)
      rotate_left 1
      · intro w hSw
        (try dsimp only at hSw)
        first | (go_simp; done) | (go_simp; with_reducible rfl)
      (try simp only [Act.put, List.getElem_toArray, List.getElem_cons_succ, List.getElem_cons_zero, List.setIfInBounds_toArray, List.set_cons_zero, List.set_cons_succ])
      refine wpAnyT_take _ [] (i := 5) (oi := _) (v := ?_) (fun _ _ => Iff.rfl) (fun _ _ _ h => h) rfl (by kernel_rfl) (by kernel_rfl) (by kernel_rfl) (by kernel_rfl) (by kernel_rfl) (fun _ _ _ h => h) (by assumption) (Or.inl ⟨by kernel_rfl, ?_⟩) (fun hT => ?_)
      rotate_left 1
      · intro w hSw
        (try dsimp only at hSw)
        first | (go_simp; done) | (go_simp; with_reducible rfl)
      (try simp only [Act.put, List.getElem_toArray, List.getElem_cons_succ, List.getElem_cons_zero, List.setIfInBounds_toArray, List.set_cons_zero, List.set_cons_succ])
      refine wpAnyT_take _ [] (i := 6) (oi := _) (v := ?_) (fun _ _ => Iff.rfl) (fun _ _ _ h => h) rfl (by kernel_rfl) (by kernel_rfl) (by kernel_rfl) (by kernel_rfl) (by kernel_rfl) (fun _ _ _ h => h) (by assumption) (Or.inl ⟨by kernel_rfl, ?_⟩) (fun hT => ?_)
      rotate_left 1
      · intro w hSw
        (try dsimp only at hSw)
        first | (go_simp; done) | (go_simp; with_reducible rfl)
      (try simp only [Act.put, List.getElem_toArray, List.getElem_cons_succ, List.getElem_cons_zero, List.setIfInBounds_toArray, List.set_cons_zero, List.set_cons_succ])
      refine wpAnyT_one (i := 3) (by kernel_rfl) (oi := _) rfl (fun K hK => ?_)
      (try dsimp only [List.getElem_toArray, List.getElem_cons_succ, List.getElem_cons_zero])
      go_simp
      go_at_call 64
      (with_reducible refine (HCQ.out _ HDRW.out).mono ?_)
      rintro e w7 ⟨rfl, hb7⟩
      go_wp2_with (fail)
      refine hK.out _ _ (HSB.out _ hb7) (fun hT => ?_)
      clear hK K
      (try simp only [Act.put, List.getElem_toArray, List.getElem_cons_succ, List.getElem_cons_zero, List.setIfInBounds_toArray, List.set_cons_zero, List.set_cons_succ])
      refine wpAnyT_one (i := 7) (by kernel_rfl) (oi := _) rfl (fun K hK => ?_)
      (try dsimp only [List.getElem_toArray, List.getElem_cons_succ, List.getElem_cons_zero])
      go_simp
      go_at_call 64
      (with_reducible refine (HCR.out _ hb7).mono ?_)
      rintro e w8 ⟨rfl, hb8⟩
      go_wp2_with (fail)
      refine hK.out _ _ (HSB.out _ hb8) (fun hT => ?_)
      clear hK K
      (try simp only [Act.put, List.getElem_toArray, List.getElem_cons_succ, List.getElem_cons_zero, List.setIfInBounds_toArray, List.set_cons_zero, List.set_cons_succ])
      have HS8 := Lib.hid (HST.out.below hb8)
      obtain ⟨hR8, hQ8, ⟨_, ⟨⟨u0, u1, v0, v1⟩, ⟨u2, u3, v2, v3⟩⟩, ⟨⟨n0, n1⟩, ⟨n2, n3⟩⟩, hz8, hb8w⟩, _⟩ := HS8.out
      have v2' : ∀ u v : Value, ((w8.setCell ⟨w.heap.size + 1 + 1, 0, none⟩ u).setCell ⟨w.heap.size + 1 + 1, 1, none⟩ v).cell? ⟨w.heap.size + 1 + 1 + 1, 0, none⟩ = some u2 := fun u v => (put_kept (by omega)).trans v2
      have v3' : ∀ u v : Value, ((w8.setCell ⟨w.heap.size + 1 + 1, 0, none⟩ u).setCell ⟨w.heap.size + 1 + 1, 1, none⟩ v).cell? ⟨w.heap.size + 1 + 1 + 1, 1, none⟩ = some u3 := fun u v => (put_kept (by omega)).trans v3
      have HR8 := Lib.hid hR8
      have HQ8 := Lib.hid hQ8
      have HB8 := Lib.hid hb8w
      clear hR8 hQ8 hb8w
      refine wpAnyT_one (i := 8) (by kernel_rfl) (oi := _) rfl (fun K hK => ?_)
      (try dsimp only [List.getElem_toArray, List.getElem_cons_succ, List.getElem_cons_zero])
      go_simp
      refine hK.out _ _ (HST1.out _ _ _ hb8) (fun hT => ?_)
      clear hK K
      (try simp only [Act.put, List.getElem_toArray, List.getElem_cons_succ, List.getElem_cons_zero, List.setIfInBounds_toArray, List.set_cons_zero, List.set_cons_succ])
      refine wpAnyT_one (i := 9) (by kernel_rfl) (oi := _) rfl (fun K hK => ?_)
      (try dsimp only [List.getElem_toArray, List.getElem_cons_succ, List.getElem_cons_zero])
      go_simp
      refine hK.out _ _ (HST2.out _ _ _ _ _ hb8) (fun hT => ?_)
      clear hK K
      (try simp only [Act.put, List.getElem_toArray, List.getElem_cons_succ, List.getElem_cons_zero, List.setIfInBounds_toArray, List.set_cons_zero, List.set_cons_succ])
      refine wpAnyT_take _ [] (i := 10) (oi := _) (v := ?_) (fun _ _ => Iff.rfl) (fun _ _ _ h => h) rfl (by kernel_rfl) (by kernel_rfl) (by kernel_rfl) (by kernel_rfl) (by kernel_rfl) (fun _ _ _ h => h) (by assumption) (Or.inl ⟨by kernel_rfl, ?_⟩) (fun hT => ?_)
      rotate_left 1
      · intro w hSw
        (try dsimp only at hSw)
        first | (go_simp; done) | (go_simp; with_reducible rfl)
      (try simp only [Act.put, List.getElem_toArray, List.getElem_cons_succ, List.getElem_cons_zero, List.setIfInBounds_toArray, List.set_cons_zero, List.set_cons_succ])
      refine wpAnyT_done (by kernel_rfl) ?_ _
      refine NoPanic.normal ?_
      go_wp2
      obtain ⟨q0, q1⟩ := cells_two (u := .int .u32 (p : Int)) (v := .slice (some ⟨gQ, 0, none⟩) (trimZ Q).length M) v0 v1
      obtain ⟨q2, q3⟩ := cells_two (u := .int .u32 (p : Int)) (v := .slice (some ⟨gR, 0, none⟩) (trimZ R).length cR) (v2' (.int .u32 (p : Int)) (.slice (some ⟨gQ, 0, none⟩) (trimZ Q).length M)) (v3' (.int .u32 (p : Int)) (.slice (some ⟨gQ, 0, none⟩) (trimZ Q).length M))
      have q4 := (put_kept (W := (w8.setCell ⟨w.heap.size + 1 + 1, 0, none⟩ (.int .u32 (p : Int))).setCell ⟨w.heap.size + 1 + 1, 1, none⟩ (.slice (some ⟨gQ, 0, none⟩) (trimZ Q).length M)) (g := w.heap.size + 1 + 1 + 1) (b := w.heap.size + 1 + 1) (o := 0) (u := .int .u32 (p : Int)) (v := .slice (some ⟨gR, 0, none⟩) (trimZ R).length cR) (by omega)).trans q0
      have q5 := (put_kept (W := (w8.setCell ⟨w.heap.size + 1 + 1, 0, none⟩ (.int .u32 (p : Int))).setCell ⟨w.heap.size + 1 + 1, 1, none⟩ (.slice (some ⟨gQ, 0, none⟩) (trimZ Q).length M)) (g := w.heap.size + 1 + 1 + 1) (b := w.heap.size + 1 + 1) (o := 1) (u := .int .u32 (p : Int)) (v := .slice (some ⟨gR, 0, none⟩) (trimZ R).length cR) (by omega)).trans q1
      refine bodyPost_ret (v := .tuple #[.agg #[.int .u32 (p : Int), .slice (some ⟨gQ, 0, none⟩) (trimZ Q).length M], .agg #[.int .u32 (p : Int), .slice (some ⟨gR, 0, none⟩) (trimZ R).length cR], .int .i64 0]) (by simp [results, Tryd.results47, go_sem, q2, q3, q4, q5]) rfl ?_
      have hkf : ∀ (g : Nat) (n : Nat) (S : List Int), RowC w8 g n S → w.heap.size + 1 + 1 + 1 + 1 ≤ g → KF .u32 ((((w8.setCell ⟨w.heap.size + 1 + 1, 0, none⟩ (.int .u32 (p : Int))).setCell ⟨w.heap.size + 1 + 1, 1, none⟩ (.slice (some ⟨gQ, 0, none⟩) (trimZ Q).length M)).setCell ⟨w.heap.size + 1 + 1 + 1, 0, none⟩ (.int .u32 (p : Int))).setCell ⟨w.heap.size + 1 + 1 + 1, 1, none⟩ (.slice (some ⟨gR, 0, none⟩) (trimZ R).length cR)) w.heap.size ((((w8.setCell ⟨w.heap.size + 1 + 1, 0, none⟩ (.int .u32 (p : Int))).setCell ⟨w.heap.size + 1 + 1, 1, none⟩ (.slice (some ⟨gQ, 0, none⟩) (trimZ Q).length M)).setCell ⟨w.heap.size + 1 + 1 + 1, 0, none⟩ (.int .u32 (p : Int))).setCell ⟨w.heap.size + 1 + 1 + 1, 1, none⟩ (.slice (some ⟨gR, 0, none⟩) (trimZ R).length cR)).heap.size (some ⟨g, 0, none⟩) (trimZ S) := fun g n S hr hg =>
        ((((((hr.kf (base := w.heap.size + 1 + 1 + 1 + 1) hg).setCell (by first | (simp; done) | (simp; omega))).setCell (by first | (simp; done) | (simp; omega))).setCell (by first | (simp; done) | (simp; omega))).setCell (by first | (simp; done) | (simp; omega))).less (by omega) (by simp [World.setCell])).trim
      rw [← HE.out.1, ← HE.out.2]
      exact ⟨_, _, _, _, rfl, hkf gQ M Q HQ8.out hg2, hkf gR xs.length R HR8.out hg1, HQL.out.1, HQL.out.2, (((HB8.out.setCell (by first | (simp; done) | (simp; omega)) _).setCell (by first | (simp; done) | (simp; omega)) _).setCell (by first | (simp; done) | (simp; omega)) _).setCell (by first | (simp; done) | (simp; omega)) _⟩
    · obtain ⟨kk, hkk⟩ : ∃ kk, i + top = kk := ⟨_, rfl⟩
      obtain ⟨s1, hs1⟩ : ∃ s1, kk + 1 = s1 := ⟨_, rfl⟩
      have hkN : kk < xs.length := by omega
      have hiM : i < M := by omega
      have u1 : (i : Int) + (ys.length : Int) = (s1 : Int) := by omega
      have u2 : (s1 : Int) - 1 = (kk : Int) := by omega
      have u3 : (kk : Int) < (xs.length : Int) := by omega
      have u4 : (i : Int) < (M : Int) := by omega
      have u5 : IntKind.i64.wrap (s1 : Int) = (s1 : Int) := by rw [IntKind.wrap_i64]; omega
      have u6 : IntKind.i64.wrap (kk : Int) = (kk : Int) := by rw [IntKind.wrap_i64]; omega
      have hr := HDV.out.2.1.at_ (k := kk) (by have := hRow.2.2; omega)
      obtain ⟨x, hx⟩ : ∃ x : Nat, R.getD kk 0 = x := ⟨(R.getD kk 0).toNat, by omega⟩
      have hxp : x < p := by omega
      have hm2 : x * iv ≤ 2147483646 * 2147483646 := Nat.mul_le_mul (by omega) (by omega)
      obtain ⟨m, hm⟩ : ∃ m, x * iv = m := ⟨_, rfl⟩
      have hm' : (x : Int) * (iv : Int) = (m : Int) := by rw [← hm, Int.natCast_mul]
      rw [hm] at hm2
      obtain ⟨kq, hkq⟩ : ∃ kq, m % p = kq := ⟨_, rfl⟩
      have hkqp : kq < p := by rw [← hkq]; exact Nat.mod_lt _ hp0
      obtain ⟨ht1, ht2⟩ := mod_parts hkq
      have HKQ : Hid ((kq : Int) = R.getD (i + top) 0 * (iv : Int) % (p : Int)) := Lib.hid (by rw [hkk, hx, hm', ht1])
      have x1 : IntKind.u64.wrap (m : Int) = (m : Int) := by rw [IntKind.wrap_u64]; omega
      have x2 : IntKind.u32.wrap (kq : Int) = (kq : Int) := by rw [IntKind.wrap_u32]; omega
      have x3 : IntKind.u64.wrap (x : Int) = (x : Int) := by rw [IntKind.wrap_u64]; omega
      have x4 : IntKind.u64.wrap (kq : Int) = (kq : Int) := by rw [IntKind.wrap_u64]; omega
      have hcR := (hRow.1 kk hkN).1
      rw [hx] at hcR
      have hcQ : wr.drew.cell? ⟨gQ, i, none⟩ = some (.int .u32 (Q.getD i 0)) := (hQow.1 i hiM).1
      have hfQ : wr.drew.frozen? ⟨gQ, i, none⟩ = false := (hQow.1 i hiM).2
      obtain ⟨qz, hqz⟩ : ∃ qz, Q.getD i 0 = qz := ⟨_, rfl⟩
      rw [hqz] at hcQ
      have HDR2 : Hid ((wr.drew.cell? ⟨w.heap.size, 0, none⟩ = some (.int .u32 (p : Int)) ∧ wr.drew.cell? ⟨w.heap.size, 1, none⟩ = some (.slice A xs.length c)) ∧ wr.drew.cell? ⟨gR, kk, none⟩ = some (.int .u32 (x : Int))) := Lib.hid ⟨⟨a0, a1⟩, hcR⟩
      have HSTQ : Hid (DSt w p (.slice A xs.length c) (.slice (some bd) ys.length d) gR gQ xs.length M R (Q.set i (kq : Int)) (wr.drew.setCell ⟨gQ, i, none⟩ (.int .u32 (kq : Int)))) := Lib.hid ((HST.out.below (Below.refl _ _).drew).setQ hiM _)
      have HRI0 : Hid (RowI p R ys i 0 (kq : Int) R) := Lib.hid (RowI.start HDV.out.2.1)
      have HRL : Hid (R.length = xs.length ∧ i < Q.length) := Lib.hid ⟨hRow.2.2, by have := hQow.2.2; omega⟩
      have i0 : decide ((0 : Int) ≤ (i : Int)) = true := by simp
      clear hRow hQow hLE hkq hm hm2 hr hx hkk hs1 HST a2 a3 hqz
      go_wp2
      refine wp_region_noPanic ?_
      refine wp_region_tail (fun (_ : Array Bool) (W : World) => (W.cell? ⟨w.heap.size, 0, none⟩ = some (.int .u32 (p : Int)) ∧ W.cell? ⟨w.heap.size, 1, none⟩ = some (.slice A xs.length c)) ∧ W.cell? ⟨gR, kk, none⟩ = some (.int .u32 (x : Int))) (by kernel_rfl) (HDR2.out) (fun hT => ?_)
      refine wpAnyT_take _ [] (i := 0) (oi := _) (v := ?_) (fun _ _ => Iff.rfl) (fun _ _ _ h => h) rfl (by kernel_rfl) (by kernel_rfl) (by kernel_rfl) (by kernel_rfl) (by kernel_rfl) (fun _ _ _ h => h) (by assumption) (Or.inl ⟨by kernel_rfl, ?_⟩) (fun hT => ?_)
      rotate_left 1
      · intro w hSw
        (try dsimp only at hSw)
        first | (go_simp; done) | (go_simp; with_reducible rfl)
      (try simp only [Act.put, List.getElem_toArray, List.getElem_cons_zero, List.setIfInBounds_toArray, List.set_cons_zero, List.set_cons_succ])
      refine wpAnyT_take _ [] (i := 1) (oi := _) (v := ?_) (fun _ _ => Iff.rfl) (fun _ _ _ h => h) rfl (by kernel_rfl) (by kernel_rfl) (by kernel_rfl) (by kernel_rfl) (by kernel_rfl) (fun _ _ _ h => h) (by assumption) (Or.inl ⟨by kernel_rfl, ?_⟩) (fun hT => ?_)
      rotate_left 1
      · intro w hSw
        (try dsimp only at hSw)
        first | (go_simp; done) | (go_simp; with_reducible rfl)
      (try simp only [Act.put, List.getElem_toArray, List.getElem_cons_succ, List.getElem_cons_zero, List.setIfInBounds_toArray, List.set_cons_zero, List.set_cons_succ])
      refine wpAnyT_take _ [] (i := 2) (oi := _) (v := ?_) (fun _ _ => Iff.rfl) (fun _ _ _ h => h) rfl (by kernel_rfl) (by kernel_rfl) (by kernel_rfl) (by kernel_rfl) (by kernel_rfl) (fun _ _ _ h => h) (by assumption) (Or.inl ⟨by kernel_rfl, ?_⟩) (fun hT => ?_)
      rotate_left 1
      · intro w hSw
        (try dsimp only at hSw)
        first | (go_simp; done) | (go_simp; with_reducible rfl)
      (try simp only [Act.put, List.getElem_toArray, List.getElem_cons_succ, List.getElem_cons_zero, List.setIfInBounds_toArray, List.set_cons_zero, List.set_cons_succ])
      refine wpAnyT_take _ [] (i := 3) (oi := _) (v := ?_) (fun _ _ => Iff.rfl) (fun _ _ _ h => h) rfl (by kernel_rfl) (by kernel_rfl) (by kernel_rfl) (by kernel_rfl) (by kernel_rfl) (fun _ _ _ h => h) (by assumption) (Or.inl ⟨by kernel_rfl, ?_⟩) (fun hT => ?_)
      rotate_left 1
      · intro w hSw
        (try dsimp only at hSw)
        first | (go_simp; done) | (go_simp; with_reducible rfl)
      (try simp only [Act.put, List.getElem_toArray, List.getElem_cons_succ, List.getElem_cons_zero, List.setIfInBounds_toArray, List.set_cons_zero, List.set_cons_succ])
      refine wpAnyT_take _ [] (i := 4) (oi := _) (v := ?_) (fun _ _ => Iff.rfl) (fun _ _ _ h => h) rfl (by kernel_rfl) (by kernel_rfl) (by kernel_rfl) (by kernel_rfl) (by kernel_rfl) (fun _ _ _ h => h) (by assumption) (Or.inl ⟨by kernel_rfl, ?_⟩) (fun hT => ?_)
      rotate_left 1
      · intro w hSw
        (try dsimp only at hSw)
        first | (go_simp; done) | (go_simp; with_reducible rfl)
      (try simp only [Act.put, List.getElem_toArray, List.getElem_cons_succ, List.getElem_cons_zero, List.setIfInBounds_toArray, List.set_cons_zero, List.set_cons_succ])
      refine wpAnyT_take _ [] (i := 5) (oi := _) (v := ?_) (fun _ _ => Iff.rfl) (fun _ _ _ h => h) rfl (by kernel_rfl) (by kernel_rfl) (by kernel_rfl) (by kernel_rfl) (by kernel_rfl) (fun _ _ _ h => h) (by assumption) (Or.inl ⟨by kernel_rfl, ?_⟩) (fun hT => ?_)
      rotate_left 1
      · intro w hSw
        (try dsimp only at hSw)
        first | (go_simp; done) | (go_simp; with_reducible rfl)
      (try simp only [Act.put, List.getElem_toArray, List.getElem_cons_succ, List.getElem_cons_zero, List.setIfInBounds_toArray, List.set_cons_zero, List.set_cons_succ])
      refine wpAnyT_take _ [] (i := 6) (oi := _) (v := ?_) (fun _ _ => Iff.rfl) (fun _ _ _ h => h) rfl (by kernel_rfl) (by kernel_rfl) (by kernel_rfl) (by kernel_rfl) (by kernel_rfl) (fun _ _ _ h => h) (by assumption) (Or.inl ⟨by kernel_rfl, ?_⟩) (fun hT => ?_)
      rotate_left 1
      · intro w hSw
        (try dsimp only at hSw)
        first | (go_simp; done) | (go_simp; with_reducible rfl)
      (try simp only [Act.put, List.getElem_toArray, List.getElem_cons_succ, List.getElem_cons_zero, List.setIfInBounds_toArray, List.set_cons_zero, List.set_cons_succ])
      refine wpAnyT_take _ [] (i := 7) (oi := _) (v := ?_) (fun _ _ => Iff.rfl) (fun _ _ _ h => h) rfl (by kernel_rfl) (by kernel_rfl) (by kernel_rfl) (by kernel_rfl) (by kernel_rfl) (fun _ _ _ h => h) (by assumption) (Or.inl ⟨by kernel_rfl, ?_⟩) (fun hT => ?_)
      rotate_left 1
      · intro w hSw
        (try dsimp only at hSw)
        first | (go_simp; done) | (go_simp; with_reducible rfl)
      (try simp only [Act.put, List.getElem_toArray, List.getElem_cons_succ, List.getElem_cons_zero, List.setIfInBounds_toArray, List.set_cons_zero, List.set_cons_succ])
      refine wpAnyT_take _ [] (i := 8) (oi := _) (v := ?_) (fun _ _ => Iff.rfl) (fun _ _ _ h => h) rfl (by kernel_rfl) (by kernel_rfl) (by kernel_rfl) (by kernel_rfl) (by kernel_rfl) (fun _ _ _ h => h) (by assumption) (Or.inl ⟨by kernel_rfl, ?_⟩) (fun hT => ?_)
      rotate_left 1
      · intro w hSw
        (try dsimp only at hSw)
        first | (go_simp; done) | (go_simp; with_reducible rfl)
      (try simp only [Act.put, List.getElem_toArray, List.getElem_cons_succ, List.getElem_cons_zero, List.setIfInBounds_toArray, List.set_cons_zero, List.set_cons_succ])
      refine wpAnyT_take _ [] (i := 9) (oi := _) (v := ?_) (fun _ _ => Iff.rfl) (fun _ _ _ h => h) rfl (by kernel_rfl) (by kernel_rfl) (by kernel_rfl) (by kernel_rfl) (by kernel_rfl) (fun _ _ _ h => h) (by assumption) (Or.inl ⟨by kernel_rfl, ?_⟩) (fun hT => ?_)
      rotate_left 1
      · intro w hSw
        (try dsimp only at hSw)
        first | (go_simp; done) | (go_simp; with_reducible rfl)
      (try simp only [Act.put, List.getElem_toArray, List.getElem_cons_succ, List.getElem_cons_zero, List.setIfInBounds_toArray, List.set_cons_zero, List.set_cons_succ])
      refine wpAnyT_take _ [] (i := 10) (oi := _) (v := ?_) (fun _ _ => Iff.rfl) (fun _ _ _ h => h) rfl (by kernel_rfl) (by kernel_rfl) (by kernel_rfl) (by kernel_rfl) (by kernel_rfl) (fun _ _ _ h => h) (by assumption) (Or.inl ⟨by kernel_rfl, ?_⟩) (fun hT => ?_)
      rotate_left 1
      · intro w hSw
        (try dsimp only at hSw)
        first | (go_simp; done) | (go_simp; with_reducible rfl)
      (try simp only [Act.put, List.getElem_toArray, List.getElem_cons_succ, List.getElem_cons_zero, List.setIfInBounds_toArray, List.set_cons_zero, List.set_cons_succ])
      refine wpAnyT_take _ [] (i := 11) (oi := _) (v := ?_) (fun _ _ => Iff.rfl) (fun _ _ _ h => h) rfl (by kernel_rfl) (by kernel_rfl) (by kernel_rfl) (by kernel_rfl) (by kernel_rfl) (fun _ _ _ h => h) (by assumption) (Or.inl ⟨by kernel_rfl, ?_⟩) (fun hT => ?_)
      rotate_left 1
      · intro w hSw
        (try dsimp only at hSw)
        first | (go_simp; done) | (go_simp; with_reducible rfl)
      (try simp only [Act.put, List.getElem_toArray, List.getElem_cons_succ, List.getElem_cons_zero, List.setIfInBounds_toArray, List.set_cons_zero, List.set_cons_succ])
      refine wpAnyT_take _ [] (i := 12) (oi := _) (v := ?_) (fun _ _ => Iff.rfl) (fun _ _ _ h => h) rfl (by kernel_rfl) (by kernel_rfl) (by kernel_rfl) (by kernel_rfl) (by kernel_rfl) (fun _ _ _ h => h) (by assumption) (Or.inl ⟨by kernel_rfl, ?_⟩) (fun hT => ?_)
      rotate_left 1
      · intro w hSw
        (try dsimp only at hSw)
        first | (go_simp; done) | (go_simp; with_reducible rfl)
      (try simp only [Act.put, List.getElem_toArray, List.getElem_cons_succ, List.getElem_cons_zero, List.setIfInBounds_toArray, List.set_cons_zero, List.set_cons_succ])
      refine wpAnyT_take _ [] (i := 13) (oi := _) (v := ?_) (fun _ _ => Iff.rfl) (fun _ _ _ h => h) rfl (by kernel_rfl) (by kernel_rfl) (by kernel_rfl) (by kernel_rfl) (by kernel_rfl) (fun _ _ _ h => h) (by assumption) (Or.inl ⟨by kernel_rfl, ?_⟩) (fun hT => ?_)
      rotate_left 1
      · intro w hSw
        (try dsimp only at hSw)
        first | (go_simp; done) | (go_simp; with_reducible rfl)
      (try simp only [Act.put, List.getElem_toArray, List.getElem_cons_succ, List.getElem_cons_zero, List.setIfInBounds_toArray, List.set_cons_zero, List.set_cons_succ])
      refine wpAnyT_take _ [] (i := 14) (oi := _) (v := ?_) (fun _ _ => Iff.rfl) (fun _ _ _ h => h) rfl (by kernel_rfl) (by kernel_rfl) (by kernel_rfl) (by kernel_rfl) (by kernel_rfl) (fun _ _ _ h => h) (by assumption) (Or.inl ⟨by kernel_rfl, ?_⟩) (fun hT => ?_)
      rotate_left 1
      · intro w hSw
        (try dsimp only at hSw)
        first | (go_simp; done) | (go_simp; with_reducible rfl)
      (try simp only [Act.put, List.getElem_toArray, List.getElem_cons_succ, List.getElem_cons_zero, List.setIfInBounds_toArray, List.set_cons_zero, List.set_cons_succ])
      refine wpAnyT_done (by kernel_rfl) ?_ _
      refine NoPanic.normal ?_
      go_wp2
      go_loopw [13] (fun jv wr => ∃ (j : Nat) (R2 : List Int), j ≤ ys.length ∧ jv = .int .i64 j ∧ Hid (RowI p R ys i j (kq : Int) R2) ∧ DSt w p (.slice A xs.length c) (.slice (some bd) ys.length d) gR gQ xs.length M R2 (Q.set i (kq : Int)) wr) (fun jv _ => ys.length - (intOf jv).toNat)
      case atStart => exact ⟨0, R, by omega, rfl, HRI0, HSTQ.out⟩
      case round =>
        clear HSTQ HRI0 HDR2 hcQ hfQ hcR a0 a1 i0 hsz HBW
        obtain ⟨j, R2, hj, rfl, HRI, hst⟩ := hrel
        have HST := Lib.hid hst
        obtain ⟨hRow, hQow, hLE, hne, _, _⟩ := hst
        obtain ⟨⟨a0, a1⟩, ⟨a2, a3⟩⟩ := hLE.1
        have hsz := hLE.2.2.2.1
        have HBW := Lib.hid hLE.2.2.2.2
        by_cases hjl : j < ys.length
        · have i1 : decide ((j : Int) < (ys.length : Int)) = true := by simp; omega
          have i1n : decide (j < ys.length) = true := by simp; omega
          obtain ⟨k2, hk2⟩ : ∃ k2, i + j = k2 := ⟨_, rfl⟩
          have v1 : (i : Int) + (j : Int) = (k2 : Int) := by omega
          have hk2N : k2 < xs.length := by omega
          have v2 : (k2 : Int) < (xs.length : Int) := by omega
          have v3 : IntKind.i64.wrap (k2 : Int) = (k2 : Int) := by rw [IntKind.wrap_i64]; omega
          have hry := HDY.out.at_ hjl
          obtain ⟨y, hy⟩ : ∃ y : Nat, co ys j = y := ⟨(co ys j).toNat, by have : co ys j = ys.getD j 0 := rfl; omega⟩
          have hyp : y < p := by have : co ys j = ys.getD j 0 := rfl; omega
          have HA : Hid (∀ W : World, Below wr.heap.size wr W → Calls Tryd.prog 62 #[.agg #[.int .u32 (p : Int), .slice (some bd) ys.length d], .int .i64 (j : Int)] W fun e w' => e = .returned (.int .u64 (y : Int)) ∧ Below wr.heap.size wr w') := Lib.hid fun W hW => by
            rw [← hy]
            exact (at_any p j (some bd) ys d W ((H'.out.up HBW.out).up hW) (HDY.out.w (by omega)) (by omega)).mono fun e w' ⟨h1, h2⟩ => ⟨h1, below_chain hW h2⟩
          have hm2 : kq * y ≤ 2147483646 * 2147483646 := Nat.mul_le_mul (by omega) (by omega)
          obtain ⟨m2, hmm⟩ : ∃ m2, kq * y = m2 := ⟨_, rfl⟩
          have hmm' : (kq : Int) * (y : Int) = (m2 : Int) := by rw [← hmm, Int.natCast_mul]
          rw [hmm] at hm2
          obtain ⟨ls, hls⟩ : ∃ ls, m2 % p = ls := ⟨_, rfl⟩
          have hlsp : ls < p := by rw [← hls]; exact Nat.mod_lt _ hp0
          obtain ⟨l1, l2⟩ := mod_parts hls
          have hrr := HRI.out.2.1.at_ (k := k2) (by have := hRow.2.2; omega)
          obtain ⟨r, hr⟩ : ∃ r : Nat, R2.getD k2 0 = r := ⟨(R2.getD k2 0).toNat, by omega⟩
          have hrp : r < p := by omega
          obtain ⟨s2, hs2⟩ : ∃ s2, r + p = s2 := ⟨_, rfl⟩
          have b1 : (r : Int) + (p : Int) = (s2 : Int) := by omega
          obtain ⟨s3, hs3⟩ : ∃ s3, s2 - ls = s3 := ⟨_, rfl⟩
          have b2 : (s2 : Int) - (ls : Int) = (s3 : Int) := by omega
          obtain ⟨t, ht⟩ : ∃ t, s3 % p = t := ⟨_, rfl⟩
          have htp : t < p := by rw [← ht]; exact Nat.mod_lt _ hp0
          obtain ⟨tt1, tt2⟩ := mod_parts ht
          have z1 : IntKind.u64.wrap (m2 : Int) = (m2 : Int) := by rw [IntKind.wrap_u64]; omega
          have z2 : IntKind.u64.wrap (s2 : Int) = (s2 : Int) := by rw [IntKind.wrap_u64]; omega
          have z3 : IntKind.u64.wrap (s3 : Int) = (s3 : Int) := by rw [IntKind.wrap_u64]; omega
          have z4 : IntKind.u32.wrap (t : Int) = (t : Int) := by rw [IntKind.wrap_u32]; omega
          have z5 : IntKind.u64.wrap (r : Int) = (r : Int) := by rw [IntKind.wrap_u64]; omega
          have HRI2 : Hid (RowI p R ys i (j + 1) (kq : Int) (R2.set k2 (t : Int))) := Lib.hid (by
            have h1 := HRI.out.step (v := (t : Int)) (by rw [HRL.out.1]; omega) (by
              have h2 := HRI.out.here
              rw [← h2, hk2, hr, show ys.getD j 0 = (y : Int) from hy, hmm', ← tt1, ← b2, ← b1, ← l1]
              refine Int.emod_eq_emod_iff_emod_sub_eq_zero.2 (Int.emod_eq_zero_of_dvd ⟨1 + (m2 : Int) / p, ?_⟩)
              rw [Int.emod_def, Int.mul_add]
              omega) (by omega) (by omega)
            rw [hk2] at h1
            exact h1)
          have hcell := (hRow.1 k2 hk2N).1
          rw [hr] at hcell
          have hfz := (hRow.1 k2 hk2N).2
          have hgR := hRow.2.1
          have HSX2 : Hid (∀ W : World, Below wr.heap.size wr W → ((W.cell? ⟨w.heap.size, 0, none⟩ = some (.int .u32 (p : Int)) ∧ W.cell? ⟨w.heap.size, 1, none⟩ = some (.slice A xs.length c)) ∧ (W.cell? ⟨w.heap.size + 1, 0, none⟩ = some (.int .u32 (p : Int)) ∧ W.cell? ⟨w.heap.size + 1, 1, none⟩ = some (.slice (some bd) ys.length d))) ∧ (W.cell? ⟨gR, k2, none⟩ = some (.int .u32 (r : Int)) ∧ W.frozen? ⟨gR, k2, none⟩ = false)) := Lib.hid fun W hW =>
            ⟨(hLE.up (hW.mono hsz)).1, (hW.cell (p := ⟨gR, k2, none⟩) hgR).trans hcell, (hW.frozen (p := ⟨gR, k2, none⟩) hgR).trans hfz⟩
          have HEND : Hid (∀ W : World, Below wr.heap.size wr W → DSt w p (.slice A xs.length c) (.slice (some bd) ys.length d) gR gQ xs.length M (R2.set k2 (t : Int)) (Q.set i (kq : Int)) (W.setCell ⟨gR, k2, none⟩ (.int .u32 (t : Int)))) := Lib.hid fun W hW => (HST.out.below hW).setR hk2N _
          have HDR3 : Hid (Below wr.heap.size wr wr.drew) := Lib.hid (Below.refl _ _).drew
          clear hRow hQow hLE hcell hfz hr hs2 hs3 ht hls hmm hy hry hrr hk2 HST hm2
          go_wp2
          refine wp_region_noPanic ?_
          refine wp_region_tail (fun (_ : Array Bool) (W : World) => ((W.cell? ⟨w.heap.size, 0, none⟩ = some (.int .u32 (p : Int)) ∧ W.cell? ⟨w.heap.size, 1, none⟩ = some (.slice A xs.length c)) ∧ (W.cell? ⟨w.heap.size + 1, 0, none⟩ = some (.int .u32 (p : Int)) ∧ W.cell? ⟨w.heap.size + 1, 1, none⟩ = some (.slice (some bd) ys.length d)))) (by kernel_rfl) ((HSX2.out _ HDR3.out).1) (fun hT => ?_)
          refine wpAnyT_take _ [] (i := 0) (oi := _) (v := ?_) (fun _ _ => Iff.rfl) (fun _ _ _ h => h) rfl (by kernel_rfl) (by kernel_rfl) (by kernel_rfl) (by kernel_rfl) (by kernel_rfl) (fun _ _ _ h => h) (by assumption) (Or.inl ⟨by kernel_rfl, ?_⟩) (fun hT => ?_)
          rotate_left 1
          · intro w hSw
            (try dsimp only at hSw)
            first | (go_simp; done) | (go_simp; with_reducible rfl)
          (try simp only [Act.put, List.getElem_toArray, List.getElem_cons_zero, List.setIfInBounds_toArray, List.set_cons_zero, List.set_cons_succ])
          refine wpAnyT_take _ [] (i := 1) (oi := _) (v := ?_) (fun _ _ => Iff.rfl) (fun _ _ _ h => h) rfl (by kernel_rfl) (by kernel_rfl) (by kernel_rfl) (by kernel_rfl) (by kernel_rfl) (fun _ _ _ h => h) (by assumption) (Or.inl ⟨by kernel_rfl, ?_⟩) (fun hT => ?_)
          rotate_left 1
          · intro w hSw
            (try dsimp only at hSw)
            first | (go_simp; done) | (go_simp; with_reducible rfl)
          (try simp only [Act.put, List.getElem_toArray, List.getElem_cons_succ, List.getElem_cons_zero, List.setIfInBounds_toArray, List.set_cons_zero, List.set_cons_succ])
          refine wpAnyT_take _ [] (i := 2) (oi := _) (v := ?_) (fun _ _ => Iff.rfl) (fun _ _ _ h => h) rfl (by kernel_rfl) (by kernel_rfl) (by kernel_rfl) (by kernel_rfl) (by kernel_rfl) (fun _ _ _ h => h) (by assumption) (Or.inl ⟨by kernel_rfl, ?_⟩) (fun hT => ?_)
          rotate_left 1
          · intro w hSw
            (try dsimp only at hSw)
            first | (go_simp; done) | (go_simp; with_reducible rfl)
          (try simp only [Act.put, List.getElem_toArray, List.getElem_cons_succ, List.getElem_cons_zero, List.setIfInBounds_toArray, List.set_cons_zero, List.set_cons_succ])
          refine wpAnyT_take _ [] (i := 5) (oi := _) (v := ?_) (fun _ _ => Iff.rfl) (fun _ _ _ h => h) rfl (by kernel_rfl) (by kernel_rfl) (by kernel_rfl) (by kernel_rfl) (by kernel_rfl) (fun _ _ _ h => h) (by assumption) (Or.inl ⟨by kernel_rfl, ?_⟩) (fun hT => ?_)
          rotate_left 1
          · intro w hSw
            (try dsimp only at hSw)
            first | (go_simp; done) | (go_simp; with_reducible rfl)
          (try simp only [Act.put, List.getElem_toArray, List.getElem_cons_succ, List.getElem_cons_zero, List.setIfInBounds_toArray, List.set_cons_zero, List.set_cons_succ])
          refine wpAnyT_take _ [] (i := 6) (oi := _) (v := ?_) (fun _ _ => Iff.rfl) (fun _ _ _ h => h) rfl (by kernel_rfl) (by kernel_rfl) (by kernel_rfl) (by kernel_rfl) (by kernel_rfl) (fun _ _ _ h => h) (by assumption) (Or.inl ⟨by kernel_rfl, ?_⟩) (fun hT => ?_)
          rotate_left 1
          · intro w hSw
            (try dsimp only at hSw)
            first | (go_simp; done) | (go_simp; with_reducible rfl)
          (try simp only [Act.put, List.getElem_toArray, List.getElem_cons_succ, List.getElem_cons_zero, List.setIfInBounds_toArray, List.set_cons_zero, List.set_cons_succ])
          refine wpAnyT_take _ [] (i := 7) (oi := _) (v := ?_) (fun _ _ => Iff.rfl) (fun _ _ _ h => h) rfl (by kernel_rfl) (by kernel_rfl) (by kernel_rfl) (by kernel_rfl) (by kernel_rfl) (fun _ _ _ h => h) (by assumption) (Or.inl ⟨by kernel_rfl, ?_⟩) (fun hT => ?_)
          rotate_left 1
          · intro w hSw
            (try dsimp only at hSw)
            first | (go_simp; done) | (go_simp; with_reducible rfl)
          (try simp only [Act.put, List.getElem_toArray, List.getElem_cons_succ, List.getElem_cons_zero, List.setIfInBounds_toArray, List.set_cons_zero, List.set_cons_succ])
          refine wpAnyT_one (i := 3) (by kernel_rfl) (oi := _) rfl (fun K hK => ?_)
          (try dsimp only [List.getElem_toArray, List.getElem_cons_succ, List.getElem_cons_zero])
          go_simp
          go_at_call 62
          (with_reducible refine (HA.out _ HDR3.out).mono ?_)
          rintro e w7 ⟨rfl, hb7⟩
          go_wp2_with (fail)
          refine hK.out _ _ (HSX2.out _ hb7).1 (fun hT => ?_)
          clear hK K
          (try simp only [Act.put, List.getElem_toArray, List.getElem_cons_succ, List.getElem_cons_zero, List.setIfInBounds_toArray, List.set_cons_zero, List.set_cons_succ])
          refine wpAnyT_take _ [] (i := 4) (oi := _) (v := ?_) (fun _ _ => Iff.rfl) (fun _ _ _ h => h) rfl (by kernel_rfl) (by kernel_rfl) (by kernel_rfl) (by kernel_rfl) (by kernel_rfl) (fun _ _ _ h => h) (by assumption) (Or.inl ⟨by kernel_rfl, ?_⟩) (fun hT => ?_)
          rotate_left 1
          · intro w hSw
            (try dsimp only at hSw)
            first | (go_simp; done) | (go_simp; with_reducible rfl)
          (try simp only [Act.put, List.getElem_toArray, List.getElem_cons_succ, List.getElem_cons_zero, List.setIfInBounds_toArray, List.set_cons_zero, List.set_cons_succ])
          refine wpAnyT_take _ [] (i := 8) (oi := _) (v := ?_) (fun _ _ => Iff.rfl) (fun _ _ _ h => h) rfl (by kernel_rfl) (by kernel_rfl) (by kernel_rfl) (by kernel_rfl) (by kernel_rfl) (fun _ _ _ h => h) (by assumption) (Or.inl ⟨by kernel_rfl, ?_⟩) (fun hT => ?_)
          rotate_left 1
          · intro w hSw
            (try dsimp only at hSw)
            first | (go_simp; done) | (go_simp; with_reducible rfl)
          (try simp only [Act.put, List.getElem_toArray, List.getElem_cons_succ, List.getElem_cons_zero, List.setIfInBounds_toArray, List.set_cons_zero, List.set_cons_succ])
          refine wpAnyT_take _ [] (i := 9) (oi := _) (v := ?_) (fun _ _ => Iff.rfl) (fun _ _ _ h => h) rfl (by kernel_rfl) (by kernel_rfl) (by kernel_rfl) (by kernel_rfl) (by kernel_rfl) (fun _ _ _ h => h) (by assumption) (Or.inl ⟨by kernel_rfl, ?_⟩) (fun hT => ?_)
          rotate_left 1
          · intro w hSw
            (try dsimp only at hSw)
            first | (go_simp; done) | (go_simp; with_reducible rfl)
          (try simp only [Act.put, List.getElem_toArray, List.getElem_cons_succ, List.getElem_cons_zero, List.setIfInBounds_toArray, List.set_cons_zero, List.set_cons_succ])
          refine wpAnyT_done (by kernel_rfl) ?_ _
          refine NoPanic.normal ?_
          have HD7 := Lib.hid hb7.drew
          have HS7 := Lib.hid (HSX2.out _ HD7.out)
          go_wp2
          refine wp_region_noPanic ?_
          refine wp_region_tail (BxS 23 (fun W : World => ((W.cell? ⟨w.heap.size, 0, none⟩ = some (.int .u32 (p : Int)) ∧ W.cell? ⟨w.heap.size, 1, none⟩ = some (.slice A xs.length c)) ∧ (W.cell? ⟨w.heap.size + 1, 0, none⟩ = some (.int .u32 (p : Int)) ∧ W.cell? ⟨w.heap.size + 1, 1, none⟩ = some (.slice (some bd) ys.length d)))) (fun W : World => W.cell? ⟨gR, k2, none⟩ = some (.int .u32 (r : Int)) ∧ W.frozen? ⟨gR, k2, none⟩ = false)) (by kernel_rfl) (⟨HS7.out.1, fun _ => HS7.out.2⟩) (fun hT => ?_)
          refine wpAnyT_take _ [] (i := 0) (oi := _) (v := ?_) (BxS.iff (by decide)) BxS.base rfl (by kernel_rfl) (by kernel_rfl) (by kernel_rfl) (by kernel_rfl) (by kernel_rfl) (fun _ _ _ h => h) (by assumption) (Or.inl ⟨by kernel_rfl, ?_⟩) (fun hT => ?_)
          rotate_left 1
          · intro w hSw
            (try dsimp only at hSw)
            first | (go_simp; done) | (go_simp; with_reducible rfl)
          (try simp only [Act.put, List.getElem_toArray, List.getElem_cons_zero, List.setIfInBounds_toArray, List.set_cons_zero, List.set_cons_succ])
          refine wpAnyT_take _ [] (i := 1) (oi := _) (v := ?_) (BxS.iff (by decide)) BxS.base rfl (by kernel_rfl) (by kernel_rfl) (by kernel_rfl) (by kernel_rfl) (by kernel_rfl) (fun _ _ _ h => h) (by assumption) (Or.inl ⟨by kernel_rfl, ?_⟩) (fun hT => ?_)
          rotate_left 1
          · intro w hSw
            (try dsimp only at hSw)
            first | (go_simp; done) | (go_simp; with_reducible rfl)
          (try simp only [Act.put, List.getElem_toArray, List.getElem_cons_succ, List.getElem_cons_zero, List.setIfInBounds_toArray, List.set_cons_zero, List.set_cons_succ])
          refine wpAnyT_take _ [] (i := 2) (oi := _) (v := ?_) (BxS.iff (by decide)) BxS.base rfl (by kernel_rfl) (by kernel_rfl) (by kernel_rfl) (by kernel_rfl) (by kernel_rfl) (fun _ _ _ h => h) (by assumption) (Or.inl ⟨by kernel_rfl, ?_⟩) (fun hT => ?_)
          rotate_left 1
          · intro w hSw
            (try dsimp only at hSw)
            first | (go_simp; done) | (go_simp; with_reducible rfl)
          (try simp only [Act.put, List.getElem_toArray, List.getElem_cons_succ, List.getElem_cons_zero, List.setIfInBounds_toArray, List.set_cons_zero, List.set_cons_succ])
          refine wpAnyT_take _ [] (i := 3) (oi := _) (v := ?_) (BxS.iff (by decide)) BxS.base rfl (by kernel_rfl) (by kernel_rfl) (by kernel_rfl) (by kernel_rfl) (by kernel_rfl) (fun _ _ _ h => h) (by assumption) (Or.inl ⟨by kernel_rfl, ?_⟩) (fun hT => ?_)
          rotate_left 1
          · intro w hSw
            (try dsimp only at hSw)
            first | (go_simp; done) | (go_simp; with_reducible rfl)
          (try simp only [Act.put, List.getElem_toArray, List.getElem_cons_succ, List.getElem_cons_zero, List.setIfInBounds_toArray, List.set_cons_zero, List.set_cons_succ])
          refine wpAnyT_take _ [] (i := 4) (oi := _) (v := ?_) (BxS.iff (by decide)) BxS.base rfl (by kernel_rfl) (by kernel_rfl) (by kernel_rfl) (by kernel_rfl) (by kernel_rfl) (fun _ _ _ h => h) (by assumption) (Or.inl ⟨by kernel_rfl, ?_⟩) (fun hT => ?_)
          rotate_left 1
          · intro w hSw
            (try dsimp only at hSw)
            first | (go_simp; done) | (go_simp; with_reducible rfl)
          (try simp only [Act.put, List.getElem_toArray, List.getElem_cons_succ, List.getElem_cons_zero, List.setIfInBounds_toArray, List.set_cons_zero, List.set_cons_succ])
          refine wpAnyT_take _ [] (i := 5) (oi := _) (v := ?_) (BxS.iff (by decide)) BxS.base rfl (by kernel_rfl) (by kernel_rfl) (by kernel_rfl) (by kernel_rfl) (by kernel_rfl) (fun _ _ _ h => h) (by assumption) (Or.inl ⟨by kernel_rfl, ?_⟩) (fun hT => ?_)
          rotate_left 1
          · intro w hSw
            (try dsimp only at hSw)
            first | (go_simp; done) | (go_simp; with_reducible rfl)
          (try simp only [Act.put, List.getElem_toArray, List.getElem_cons_succ, List.getElem_cons_zero, List.setIfInBounds_toArray, List.set_cons_zero, List.set_cons_succ])
          refine wpAnyT_take _ [] (i := 6) (oi := _) (v := ?_) (BxS.iff (by decide)) BxS.base rfl (by kernel_rfl) (by kernel_rfl) (by kernel_rfl) (by kernel_rfl) (by kernel_rfl) (fun _ _ _ h => h) (by assumption) (Or.inl ⟨by kernel_rfl, ?_⟩) (fun hT => ?_)
          rotate_left 1
          · intro w hSw
            (try dsimp only at hSw)
            first | (go_simp; done) | (go_simp; with_reducible rfl)
          (try simp only [Act.put, List.getElem_toArray, List.getElem_cons_succ, List.getElem_cons_zero, List.setIfInBounds_toArray, List.set_cons_zero, List.set_cons_succ])
          refine wpAnyT_take _ [] (i := 7) (oi := _) (v := ?_) (BxS.iff (by decide)) BxS.base rfl (by kernel_rfl) (by kernel_rfl) (by kernel_rfl) (by kernel_rfl) (by kernel_rfl) (fun _ _ _ h => h) (by assumption) (Or.inl ⟨by kernel_rfl, ?_⟩) (fun hT => ?_)
          rotate_left 1
          · intro w hSw
            (try dsimp only at hSw)
            first | (go_simp; done) | (go_simp; with_reducible rfl)
          (try simp only [Act.put, List.getElem_toArray, List.getElem_cons_succ, List.getElem_cons_zero, List.setIfInBounds_toArray, List.set_cons_zero, List.set_cons_succ])
          refine wpAnyT_take _ [] (i := 8) (oi := _) (v := ?_) (BxS.iff (by decide)) BxS.base rfl (by kernel_rfl) (by kernel_rfl) (by kernel_rfl) (by kernel_rfl) (by kernel_rfl) (fun _ _ _ h => h) (by assumption) (Or.inl ⟨by kernel_rfl, ?_⟩) (fun hT => ?_)
          rotate_left 1
          · intro w hSw
            (try dsimp only at hSw)
            first | (go_simp; done) | (go_simp; with_reducible rfl)
          (try simp only [Act.put, List.getElem_toArray, List.getElem_cons_succ, List.getElem_cons_zero, List.setIfInBounds_toArray, List.set_cons_zero, List.set_cons_succ])
          refine wpAnyT_take _ [23] (i := 9) (oi := _) (v := ?_) (BxS.iff (by decide)) BxS.both rfl (by kernel_rfl) (by kernel_rfl) (by kernel_rfl) (by kernel_rfl) (by kernel_rfl) (fun _ _ _ h => h) (by assumption) (Or.inl ⟨by kernel_rfl, ?_⟩) (fun hT => ?_)
          rotate_left 1
          · intro w hSw
            (try dsimp only at hSw)
            first | (go_simp; done) | (go_simp; with_reducible rfl)
          (try simp only [Act.put, List.getElem_toArray, List.getElem_cons_succ, List.getElem_cons_zero, List.setIfInBounds_toArray, List.set_cons_zero, List.set_cons_succ])
          refine wpAnyT_take _ [] (i := 10) (oi := _) (v := ?_) (BxS.iff (by decide)) BxS.base rfl (by kernel_rfl) (by kernel_rfl) (by kernel_rfl) (by kernel_rfl) (by kernel_rfl) (fun _ _ _ h => h) (by assumption) (Or.inl ⟨by kernel_rfl, ?_⟩) (fun hT => ?_)
          rotate_left 1
          · intro w hSw
            (try dsimp only at hSw)
            first | (go_simp; done) | (go_simp; with_reducible rfl)
          (try simp only [Act.put, List.getElem_toArray, List.getElem_cons_succ, List.getElem_cons_zero, List.setIfInBounds_toArray, List.set_cons_zero, List.set_cons_succ])
          refine wpAnyT_take _ [] (i := 11) (oi := _) (v := ?_) (BxS.iff (by decide)) BxS.base rfl (by kernel_rfl) (by kernel_rfl) (by kernel_rfl) (by kernel_rfl) (by kernel_rfl) (fun _ _ _ h => h) (by assumption) (Or.inl ⟨by kernel_rfl, ?_⟩) (fun hT => ?_)
          rotate_left 1
          · intro w hSw
            (try dsimp only at hSw)
            first | (go_simp; done) | (go_simp; with_reducible rfl)
          (try simp only [Act.put, List.getElem_toArray, List.getElem_cons_succ, List.getElem_cons_zero, List.setIfInBounds_toArray, List.set_cons_zero, List.set_cons_succ])
          refine wpAnyT_take _ [] (i := 12) (oi := _) (v := ?_) (BxS.iff (by decide)) BxS.base rfl (by kernel_rfl) (by kernel_rfl) (by kernel_rfl) (by kernel_rfl) (by kernel_rfl) (fun _ _ _ h => h) (by assumption) (Or.inl ⟨by kernel_rfl, ?_⟩) (fun hT => ?_)
          rotate_left 1
          · intro w hSw
            (try dsimp only at hSw)
            first | (go_simp; done) | (go_simp; with_reducible rfl)
          (try simp only [Act.put, List.getElem_toArray, List.getElem_cons_succ, List.getElem_cons_zero, List.setIfInBounds_toArray, List.set_cons_zero, List.set_cons_succ])
          refine wpAnyT_take _ [] (i := 13) (oi := _) (v := ?_) (BxS.iff (by decide)) BxS.base rfl (by kernel_rfl) (by kernel_rfl) (by kernel_rfl) (by kernel_rfl) (by kernel_rfl) (fun _ _ _ h => h) (by assumption) (Or.inl ⟨by kernel_rfl, ?_⟩) (fun hT => ?_)
          rotate_left 1
          · intro w hSw
            (try dsimp only at hSw)
            first | (go_simp; done) | (go_simp; with_reducible rfl)
          (try simp only [Act.put, List.getElem_toArray, List.getElem_cons_succ, List.getElem_cons_zero, List.setIfInBounds_toArray, List.set_cons_zero, List.set_cons_succ])
          refine wpAnyT_take _ [] (i := 14) (oi := _) (v := ?_) (BxS.iff (by decide)) BxS.base rfl (by kernel_rfl) (by kernel_rfl) (by kernel_rfl) (by kernel_rfl) (by kernel_rfl) (fun _ _ _ h => h) (by assumption) (Or.inl ⟨by kernel_rfl, ?_⟩) (fun hT => ?_)
          rotate_left 1
          · intro w hSw
            (try dsimp only at hSw)
            first | (go_simp; done) | (go_simp; with_reducible rfl)
          (try simp only [Act.put, List.getElem_toArray, List.getElem_cons_succ, List.getElem_cons_zero, List.setIfInBounds_toArray, List.set_cons_zero, List.set_cons_succ])
          refine wpAnyT_take _ [] (i := 15) (oi := _) (v := ?_) (BxS.iff (by decide)) BxS.base rfl (by kernel_rfl) (by kernel_rfl) (by kernel_rfl) (by kernel_rfl) (by kernel_rfl) (fun _ _ _ h => h) (by assumption) (Or.inl ⟨by kernel_rfl, ?_⟩) (fun hT => ?_)
          rotate_left 1
          · intro w hSw
            (try dsimp only at hSw)
            first | (go_simp; done) | (go_simp; with_reducible rfl)
          (try simp only [Act.put, List.getElem_toArray, List.getElem_cons_succ, List.getElem_cons_zero, List.setIfInBounds_toArray, List.set_cons_zero, List.set_cons_succ])
          refine wpAnyT_take _ [] (i := 16) (oi := _) (v := ?_) (BxS.iff (by decide)) BxS.base rfl (by kernel_rfl) (by kernel_rfl) (by kernel_rfl) (by kernel_rfl) (by kernel_rfl) (fun _ _ _ h => h) (by assumption) (Or.inl ⟨by kernel_rfl, ?_⟩) (fun hT => ?_)
          rotate_left 1
          · intro w hSw
            (try dsimp only at hSw)
            first | (go_simp; done) | (go_simp; with_reducible rfl)
          (try simp only [Act.put, List.getElem_toArray, List.getElem_cons_succ, List.getElem_cons_zero, List.setIfInBounds_toArray, List.set_cons_zero, List.set_cons_succ])
          refine wpAnyT_take _ [] (i := 17) (oi := _) (v := ?_) (BxS.iff (by decide)) BxS.base rfl (by kernel_rfl) (by kernel_rfl) (by kernel_rfl) (by kernel_rfl) (by kernel_rfl) (fun _ _ _ h => h) (by assumption) (Or.inl ⟨by kernel_rfl, ?_⟩) (fun hT => ?_)
          rotate_left 1
          · intro w hSw
            (try dsimp only at hSw)
            first | (go_simp; done) | (go_simp; with_reducible rfl)
          (try simp only [Act.put, List.getElem_toArray, List.getElem_cons_succ, List.getElem_cons_zero, List.setIfInBounds_toArray, List.set_cons_zero, List.set_cons_succ])
          refine wpAnyT_take _ [] (i := 18) (oi := _) (v := ?_) (BxS.iff (by decide)) BxS.base rfl (by kernel_rfl) (by kernel_rfl) (by kernel_rfl) (by kernel_rfl) (by kernel_rfl) (fun _ _ _ h => h) (by assumption) (Or.inl ⟨by kernel_rfl, ?_⟩) (fun hT => ?_)
          rotate_left 1
          · intro w hSw
            (try dsimp only at hSw)
            first | (go_simp; done) | (go_simp; with_reducible rfl)
          (try simp only [Act.put, List.getElem_toArray, List.getElem_cons_succ, List.getElem_cons_zero, List.setIfInBounds_toArray, List.set_cons_zero, List.set_cons_succ])
          refine wpAnyT_take _ [] (i := 19) (oi := _) (v := ?_) (BxS.iff (by decide)) BxS.base rfl (by kernel_rfl) (by kernel_rfl) (by kernel_rfl) (by kernel_rfl) (by kernel_rfl) (fun _ _ _ h => h) (by assumption) (Or.inl ⟨by kernel_rfl, ?_⟩) (fun hT => ?_)
          rotate_left 1
          · intro w hSw
            (try dsimp only at hSw)
            first | (go_simp; done) | (go_simp; with_reducible rfl)
          (try simp only [Act.put, List.getElem_toArray, List.getElem_cons_succ, List.getElem_cons_zero, List.setIfInBounds_toArray, List.set_cons_zero, List.set_cons_succ])
          refine wpAnyT_take _ [] (i := 20) (oi := _) (v := ?_) (BxS.iff (by decide)) BxS.base rfl (by kernel_rfl) (by kernel_rfl) (by kernel_rfl) (by kernel_rfl) (by kernel_rfl) (fun _ _ _ h => h) (by assumption) (Or.inl ⟨by kernel_rfl, ?_⟩) (fun hT => ?_)
          rotate_left 1
          · intro w hSw
            (try dsimp only at hSw)
            first | (go_simp; done) | (go_simp; with_reducible rfl)
          (try simp only [Act.put, List.getElem_toArray, List.getElem_cons_succ, List.getElem_cons_zero, List.setIfInBounds_toArray, List.set_cons_zero, List.set_cons_succ])
          refine wpAnyT_take _ [] (i := 21) (oi := _) (v := ?_) (BxS.iff (by decide)) BxS.base rfl (by kernel_rfl) (by kernel_rfl) (by kernel_rfl) (by kernel_rfl) (by kernel_rfl) (fun _ _ _ h => h) (by assumption) (Or.inl ⟨by kernel_rfl, ?_⟩) (fun hT => ?_)
          rotate_left 1
          · intro w hSw
            (try dsimp only at hSw)
            first | (go_simp; done) | (go_simp; with_reducible rfl)
          (try simp only [Act.put, List.getElem_toArray, List.getElem_cons_succ, List.getElem_cons_zero, List.setIfInBounds_toArray, List.set_cons_zero, List.set_cons_succ])
          refine wpAnyT_take _ [] (i := 22) (oi := _) (v := ?_) (BxS.iff (by decide)) BxS.base rfl (by kernel_rfl) (by kernel_rfl) (by kernel_rfl) (by kernel_rfl) (by kernel_rfl) (fun _ _ _ h => h) (by assumption) (Or.inl ⟨by kernel_rfl, ?_⟩) (fun hT => ?_)
          rotate_left 1
          · intro w hSw
            (try dsimp only at hSw)
            first | (go_simp; done) | (go_simp; with_reducible rfl)
          (try simp only [Act.put, List.getElem_toArray, List.getElem_cons_succ, List.getElem_cons_zero, List.setIfInBounds_toArray, List.set_cons_zero, List.set_cons_succ])
          obtain ⟨_, hc7, hf7⟩ := HS7.out
          refine wpAnyT_one (i := 23) (by kernel_rfl) (oi := _) rfl (fun K hK => ?_)
          (try dsimp only [List.getElem_toArray, List.getElem_cons_succ, List.getElem_cons_zero])
          go_simp
          refine hK.out _ _ ⟨(HEND.out _ HD7.out).2.2.1.1, fun h => absurd h (by decide)⟩ (fun hT => ?_)
          clear hK K
          (try simp only [Act.put, List.getElem_toArray, List.getElem_cons_succ, List.getElem_cons_zero, List.setIfInBounds_toArray, List.set_cons_zero, List.set_cons_succ])
          refine wpAnyT_done (by kernel_rfl) ?_ _
          refine NoPanic.normal ?_
          go_wp2
          go_roundw
          case rel => exact ⟨j + 1, _, by omega, by go_num, HRI2, HEND.out _ HD7.out⟩
          case measure => simp [intOf]; omega
        · obtain rfl : j = ys.length := by omega
          have i1 : decide ((ys.length : Int) < (ys.length : Int)) = false := by simp
          have i1n : decide (ys.length < ys.length) = false := by simp
          have HDV2 : Hid (DvR p xs ys top (Q.set i (kq : Int)) R2 i) := Lib.hid (HDV.out.next HRI.out htop HRL.out.2 HIVM.out HKQ.out (by omega) (by omega))
          clear hRow hQow hLE HDV HRI
          go_wp2
          go_roundw
          case rel =>
            refine ⟨i, R2, _, ?_, by omega, HDV2, HST.out⟩
            rcases Nat.eq_zero_or_pos i with h0 | h0
            · exact .inl ⟨h0, by rw [h0]; rfl⟩
            · exact .inr ⟨i - 1, by omega, by congr 1; omega⟩
          case measure => first | (simp [intOf]; done) | (simp [intOf]; omega)
set_option maxRecDepth 100000 in
set_option maxHeartbeats 4000000 in
theorem rdivmod_nought (p : Nat) (A B : Option Addr) (n c d : Nat) (w : World) :
    Calls Tryd.prog 47 #[.agg #[.int .u32 (p : Int), .slice A n c], .agg #[.int .u32 (p : Int), .slice B 0 d]] w fun e w' => e = .returned (.tuple #[.agg #[.int .u32 0, .slice none 0 0], .agg #[.int .u32 0, .slice none 0 0], .int .i64 3]) ∧ Below w.heap.size w w' := by
  go_enter Tryd.func47, Tryd.ntmps47
  go_wp2
  refine bodyPost_ret (v := .tuple #[.agg #[.int .u32 0, .slice none 0 0], .agg #[.int .u32 0, .slice none 0 0], .int .i64 3]) (by simp [results, Tryd.results47, go_sem]) rfl ?_
  exact ⟨rfl, by go_grown⟩
set_option maxRecDepth 100000 in
set_option maxHeartbeats 16000000 in
theorem rdivmod_short (p : Nat) (A B : Option Addr) (xs ys : List Int) (c d : Nat) (w : World) (h : KL .u32 w w.heap.size A xs) (h' : KL .u32 w w.heap.size B ys) (hp : p ≤ 2147483647) (hpr : PrimeN p)
    (hx : Pol p xs) (hy : Pol p ys) (ny : ys ≠ []) (hxl : xs.length ≤ 1000000) (hyl : ys.length ≤ 1000000) (hlt : xs.length < ys.length) :
    Calls Tryd.prog 47 #[.agg #[.int .u32 (p : Int), .slice A xs.length c], .agg #[.int .u32 (p : Int), .slice B ys.length d]] w fun e w' => MadeD p [] xs w e w' := by
  obtain ⟨i0, hi0, hz0', hz1, hz2⟩ := info_parts u32_info
  have hp0 := hpr.pos
  have ly := List.length_pos_iff.2 ny
  obtain ⟨top, htop⟩ : ∃ top, top + 1 = ys.length := ⟨ys.length - 1, by omega⟩
  obtain ⟨zz, hzz⟩ : ∃ z : Int, (xs.length : Int) - (ys.length : Int) = z := ⟨_, rfl⟩
  have hz0 : zz < 0 := by omega
  have hz1' : -1000000 ≤ zz := by omega
  have HTX : Hid (trimZ xs = xs) := Lib.hid (trimZ_self hx.2)
  have hlb := hy.lead_bd ny
  have hlead : lead ys = ys.getD top 0 := by unfold lead co; rw [show ys.length - 1 = top by omega]
  obtain ⟨ld, hld⟩ : ∃ ld : Nat, ys.getD top 0 = ld := ⟨(ys.getD top 0).toNat, by rw [hlead] at hlb; omega⟩
  have hldp : ld < p := by rw [hlead, hld] at hlb; omega
  obtain ⟨iv, hiv⟩ : ∃ iv, ld ^ (p - 2) % p = iv := ⟨_, rfl⟩
  have hivp : iv < p := by rw [← hiv]; exact Nat.mod_lt _ hp0
  have H := Lib.hid h
  have H' := Lib.hid h'
  have HDX := Lib.hid hx.1
  have HDY := Lib.hid hy.1
  have HLx : LaidE w p (.slice A xs.length c) (.slice B ys.length d) ((((w.alloc (.cells #[.int .u32 (p : Int), .slice A xs.length c] 25)).alloc (.cells #[.int .u32 (p : Int), .slice B ys.length d] 25)).alloc (.cells #[.int .u32 0, .slice none 0 0] 25)).alloc (.cells #[.int .u32 0, .slice none 0 0] 25)) := ⟨⟨⟨by go_cell, by go_cell⟩, ⟨by go_cell, by go_cell⟩⟩, ⟨⟨.int .u32 0, .slice none 0 0, by go_cell, by go_cell⟩, ⟨.int .u32 0, .slice none 0 0, by go_cell, by go_cell⟩⟩, ⟨⟨by go_cell, by go_cell⟩, ⟨by go_cell, by go_cell⟩⟩, by simp, by go_grown⟩
  obtain ⟨W0, hW0⟩ : ∃ W0, ((((w.alloc (.cells #[.int .u32 (p : Int), .slice A xs.length c] 25)).alloc (.cells #[.int .u32 (p : Int), .slice B ys.length d] 25)).alloc (.cells #[.int .u32 0, .slice none 0 0] 25)).alloc (.cells #[.int .u32 0, .slice none 0 0] 25)) = W0 := ⟨_, rfl⟩
  rw [hW0] at HLx
  have HL := Lib.hid HLx
  clear HLx
  obtain ⟨bd, rfl, hbb, hbc⟩ := h' ly
  have hbt := hbc top (by omega)
  rw [hld] at hbt
  have HIV : Hid (∀ W : World, Below W0.heap.size W0 W → Calls Tryd.prog 58 #[.int .u32 (p : Int), .int .u32 (ld : Int)] W fun e w' => e = .returned (.int .u32 (iv : Int)) ∧ Below W0.heap.size W0 w') := Lib.hid fun W hb2 => by
    rw [← hiv]
    exact (rinverse_any p ld W hp hpr.1 hldp).mono fun e w' ⟨h1, h2⟩ => ⟨h1, h2 ▸ hb2⟩
  have HSX : Hid (∀ W : World, Below W0.heap.size W0 W → (((W.cell? ⟨w.heap.size, 0, none⟩ = some (.int .u32 (p : Int)) ∧ W.cell? ⟨w.heap.size, 1, none⟩ = some (.slice A xs.length c)) ∧ (W.cell? ⟨w.heap.size + 1, 0, none⟩ = some (.int .u32 (p : Int)) ∧ W.cell? ⟨w.heap.size + 1, 1, none⟩ = some (.slice (some bd) ys.length d))) ∧ W.cell? (bd.add top) = some (.int .u32 (ld : Int)))) := Lib.hid fun W hW => by
    have h3 := HL.out.up (hW.mono HL.out.2.2.2.1)
    exact ⟨h3.1, (h3.2.2.2.2.cell (p := bd.add top) (by rw [block_of_add]; exact hbb)).trans hbt⟩
  have HDR : Hid (Below W0.heap.size W0 W0.drew) := Lib.hid (Below.refl _ _).drew
  obtain ⟨a0, a1⟩ := HL.out.1.1
  obtain ⟨a2, a3⟩ := HL.out.1.2
  have hp1 : ((p : Int) == 0) = false := by rw [beq_eq_false_iff_ne]; omega
  have hp2 : p ≠ 0 := by omega
  have w1 : IntKind.u64.wrap (p : Int) = (p : Int) := by rw [IntKind.wrap_u64]; omega
  have w2 : IntKind.u64.wrap (iv : Int) = (iv : Int) := by rw [IntKind.wrap_u64]; omega
  have y0 : ((ys.length : Int) == 0) = false := by rw [nil_beq]; simp [ny]
  have t1 : (ys.length : Int) - 1 = (top : Int) := by omega
  have t2 : (top : Int) < (ys.length : Int) := by omega
  have t7 : IntKind.i64.wrap (top : Int) = (top : Int) := by rw [IntKind.wrap_i64]; omega
  have t3 : decide ((ys.length : Int) ≤ (xs.length : Int)) = false := by simp; omega
  have t8 : decide (0 ≤ zz) = false := by simp; omega
  clear h h' hx hy hlead hld hlb hiv hbc hbt ny
  go_enter Tryd.func47, Tryd.ntmps47
  go_wp2
  refine wp_region_noPanic ?_
  refine wp_region_tail (fun (_ : Array Bool) (W : World) => ((W.cell? ⟨w.heap.size, 0, none⟩ = some (.int .u32 (p : Int)) ∧ W.cell? ⟨w.heap.size, 1, none⟩ = some (.slice A xs.length c)) ∧ (W.cell? ⟨w.heap.size + 1, 0, none⟩ = some (.int .u32 (p : Int)) ∧ W.cell? ⟨w.heap.size + 1, 1, none⟩ = some (.slice (some bd) ys.length d))) ∧ W.cell? (bd.add top) = some (.int .u32 (ld : Int))) (by kernel_rfl) (HSX.out _ HDR.out) (fun hT => ?_)
  refine wpAnyT_take _ [] (i := 0) (oi := _) (v := ?_) (fun _ _ => Iff.rfl) (fun _ _ _ h => h) rfl (by kernel_rfl) (by kernel_rfl) (by kernel_rfl) (by kernel_rfl) (by kernel_rfl) (fun _ _ _ h => h) (by assumption) (Or.inl ⟨by kernel_rfl, ?_⟩) (fun hT => ?_)
  rotate_left 1
  · intro w hSw
    (try dsimp only at hSw)
    first | (go_simp; done) | (go_simp; with_reducible rfl)
  (try simp only [Act.put, List.getElem_toArray, List.getElem_cons_zero, List.setIfInBounds_toArray, List.set_cons_zero, List.set_cons_succ])
  refine wpAnyT_take _ [] (i := 1) (oi := _) (v := ?_) (fun _ _ => Iff.rfl) (fun _ _ _ h => h) rfl (by kernel_rfl) (by kernel_rfl) (by kernel_rfl) (by kernel_rfl) (by kernel_rfl) (fun _ _ _ h => h) (by assumption) (Or.inl ⟨by kernel_rfl, ?_⟩) (fun hT => ?_)
  rotate_left 1
  · intro w hSw
    (try dsimp only at hSw)
    first | (go_simp; done) | (go_simp; with_reducible rfl)
  (try simp only [Act.put, List.getElem_toArray, List.getElem_cons_succ, List.getElem_cons_zero, List.setIfInBounds_toArray, List.set_cons_zero, List.set_cons_succ])
  refine wpAnyT_take _ [] (i := 2) (oi := _) (v := ?_) (fun _ _ => Iff.rfl) (fun _ _ _ h => h) rfl (by kernel_rfl) (by kernel_rfl) (by kernel_rfl) (by kernel_rfl) (by kernel_rfl) (fun _ _ _ h => h) (by assumption) (Or.inl ⟨by kernel_rfl, ?_⟩) (fun hT => ?_)
  rotate_left 1
  · intro w hSw
    (try dsimp only at hSw)
    first | (go_simp; done) | (go_simp; with_reducible rfl)
  (try simp only [Act.put, List.getElem_toArray, List.getElem_cons_succ, List.getElem_cons_zero, List.setIfInBounds_toArray, List.set_cons_zero, List.set_cons_succ])
  refine wpAnyT_take _ [] (i := 3) (oi := _) (v := ?_) (fun _ _ => Iff.rfl) (fun _ _ _ h => h) rfl (by kernel_rfl) (by kernel_rfl) (by kernel_rfl) (by kernel_rfl) (by kernel_rfl) (fun _ _ _ h => h) (by assumption) (Or.inl ⟨by kernel_rfl, ?_⟩) (fun hT => ?_)
  rotate_left 1
  · intro w hSw
    (try dsimp only at hSw)
    first | (go_simp; done) | (go_simp; with_reducible rfl)
  (try simp only [Act.put, List.getElem_toArray, List.getElem_cons_succ, List.getElem_cons_zero, List.setIfInBounds_toArray, List.set_cons_zero, List.set_cons_succ])
  refine wpAnyT_take _ [] (i := 4) (oi := _) (v := ?_) (fun _ _ => Iff.rfl) (fun _ _ _ h => h) rfl (by kernel_rfl) (by kernel_rfl) (by kernel_rfl) (by kernel_rfl) (by kernel_rfl) (fun _ _ _ h => h) (by assumption) (Or.inl ⟨by kernel_rfl, ?_⟩) (fun hT => ?_)
  rotate_left 1
  · intro w hSw
    (try dsimp only at hSw)
    first | (go_simp; done) | (go_simp; with_reducible rfl)
  (try simp only [Act.put, List.getElem_toArray, List.getElem_cons_succ, List.getElem_cons_zero, List.setIfInBounds_toArray, List.set_cons_zero, List.set_cons_succ])
  refine wpAnyT_take _ [] (i := 5) (oi := _) (v := ?_) (fun _ _ => Iff.rfl) (fun _ _ _ h => h) rfl (by kernel_rfl) (by kernel_rfl) (by kernel_rfl) (by kernel_rfl) (by kernel_rfl) (fun _ _ _ h => h) (by assumption) (Or.inl ⟨by kernel_rfl, ?_⟩) (fun hT => ?_)
  rotate_left 1
  · intro w hSw
    (try dsimp only at hSw)
    first | (go_simp; done) | (go_simp; with_reducible rfl)
  (try simp only [Act.put, List.getElem_toArray, List.getElem_cons_succ, List.getElem_cons_zero, List.setIfInBounds_toArray, List.set_cons_zero, List.set_cons_succ])
  refine wpAnyT_take _ [] (i := 6) (oi := _) (v := ?_) (fun _ _ => Iff.rfl) (fun _ _ _ h => h) rfl (by kernel_rfl) (by kernel_rfl) (by kernel_rfl) (by kernel_rfl) (by kernel_rfl) (fun _ _ _ h => h) (by assumption) (Or.inl ⟨by kernel_rfl, ?_⟩) (fun hT => ?_)
  rotate_left 1
  · intro w hSw
    (try dsimp only at hSw)
    first | (go_simp; done) | (go_simp; with_reducible rfl)
  (try simp only [Act.put, List.getElem_toArray, List.getElem_cons_succ, List.getElem_cons_zero, List.setIfInBounds_toArray, List.set_cons_zero, List.set_cons_succ])
  refine wpAnyT_take _ [] (i := 7) (oi := _) (v := ?_) (fun _ _ => Iff.rfl) (fun _ _ _ h => h) rfl (by kernel_rfl) (by kernel_rfl) (by kernel_rfl) (by kernel_rfl) (by kernel_rfl) (fun _ _ _ h => h) (by assumption) (Or.inl ⟨by kernel_rfl, ?_⟩) (fun hT => ?_)
  rotate_left 1
  · intro w hSw
    (try dsimp only at hSw)
    first | (go_simp; done) | (go_simp; with_reducible rfl)
  (try simp only [Act.put, List.getElem_toArray, List.getElem_cons_succ, List.getElem_cons_zero, List.setIfInBounds_toArray, List.set_cons_zero, List.set_cons_succ])
  refine wpAnyT_one (i := 8) (by kernel_rfl) (oi := _) rfl (fun K hK => ?_)
  (try dsimp only [List.getElem_toArray, List.getElem_cons_succ, List.getElem_cons_zero])
  go_simp
  go_at_call 58
  (with_reducible refine (HIV.out _ HDR.out).mono ?_)
  rintro e w3 ⟨rfl, hb3⟩
  go_wp2_with (fail)
  refine hK.out _ _ (HSX.out _ hb3) (fun hT => ?_)
  clear hK K
  (try simp only [Act.put, List.getElem_toArray, List.getElem_cons_succ, List.getElem_cons_zero, List.setIfInBounds_toArray, List.set_cons_zero, List.set_cons_succ])
  refine wpAnyT_take _ [] (i := 9) (oi := _) (v := ?_) (fun _ _ => Iff.rfl) (fun _ _ _ h => h) rfl (by kernel_rfl) (by kernel_rfl) (by kernel_rfl) (by kernel_rfl) (by kernel_rfl) (fun _ _ _ h => h) (by assumption) (Or.inl ⟨by kernel_rfl, ?_⟩) (fun hT => ?_)
  rotate_left 1
  · intro w hSw
    (try dsimp only at hSw)
    first | (go_simp; done) | (go_simp; with_reducible rfl)
  (try simp only [Act.put, List.getElem_toArray, List.getElem_cons_succ, List.getElem_cons_zero, List.setIfInBounds_toArray, List.set_cons_zero, List.set_cons_succ])
  refine wpAnyT_take _ [] (i := 10) (oi := _) (v := ?_) (fun _ _ => Iff.rfl) (fun _ _ _ h => h) rfl (by kernel_rfl) (by kernel_rfl) (by kernel_rfl) (by kernel_rfl) (by kernel_rfl) (fun _ _ _ h => h) (by assumption) (Or.inl ⟨by kernel_rfl, ?_⟩) (fun hT => ?_)
  rotate_left 1
  · intro w hSw
    (try dsimp only at hSw)
    first | (go_simp; done) | (go_simp; with_reducible rfl)
  (try simp only [Act.put, List.getElem_toArray, List.getElem_cons_succ, List.getElem_cons_zero, List.setIfInBounds_toArray, List.set_cons_zero, List.set_cons_succ])
  refine wpAnyT_done (by kernel_rfl) ?_ _
  refine NoPanic.normal ?_
  have HL3 := Lib.hid (HL.out.up (hb3.mono HL.out.2.2.2.1))
  have f0' := one_newE (HSX.out _ hb3).1.1.1
  have f1' := one_newE (HSX.out _ hb3).1.1.2
  have hs3 : w.heap.size + 1 + 1 + 1 + 1 ≤ w3.heap.size := HL3.out.2.2.2.1
  have HB3 := Lib.hid (HL3.out.2.2.2.2)
  clear a0 a1 a2 a3
  go_wp2_with (refine wpList_append_KL _ (by rfl) _ _ 23 (by rfl) (w.heap.size + 1 + 1 + 1 + 1) 22 i0 4 Tryd.underlying23 hi0 hz0' hz1 hz2 (.slice (some ⟨w3.heap.size, 0, none⟩) 0 0) 0 [] (by rfl) (own_of_heap (xs := []) (heap_alloc_new _ _) rfl hs3 (by unfold maxLen; omega)) _ A xs.length c xs rfl (by rfl) (H.out.up (HB3.out.alloc HB3.out.size _)) (by unfold maxLen; omega) (by omega) (by simp; omega) ?_; intro v' w5 hown5 hg5; obtain ⟨A5, c5, rfl, hK5, hcR, hcm⟩ := row_made (zs := xs) (n := xs.length) (by simpa using hown5); have HL5 := Lib.hid (HL3.out.up (((Below.refl _ _).alloc hs3 _).trans ((Below.refl (w.heap.size + 1 + 1 + 1 + 1) _).grown hg5 (by simp; omega) (fun k hk => by (have : w3.heap.size = k := (by simpa [Value.ownBlock] using hk)); omega)))); have HK5 := Lib.hid hK5; obtain ⟨⟨a0, a1⟩, ⟨a2, a3⟩⟩ := HL5.out.1; clear hown5 hg5 hK5)
  go_loopw [11] (fun iv_ wr => iv_ = .int .i64 zz ∧ KF .u32 wr (w.heap.size + 1 + 1 + 1 + 1) wr.heap.size A5 xs ∧ LaidE w p (.slice A xs.length c) (.slice (some bd) ys.length d) wr) (fun iv_ _ => 0)
  case atStart => exact ⟨rfl, HK5.out, HL5.out⟩
  case round =>
    clear HK5 HL5 HL3 HB3 f0' f1' hs3 hb3 a0 a1 a2 a3
    obtain ⟨rfl, hK, hLE⟩ := hrel
    obtain ⟨⟨a0, a1⟩, ⟨a2, a3⟩⟩ := hLE.1
    have hsz := hLE.2.2.2.1
    have HCQ : Hid (∀ W : World, Below wr.heap.size wr W → Calls Tryd.prog 64 #[.int .u32 (p : Int), .slice none 0 0] W fun e w' => e = .returned (.agg #[.int .u32 (p : Int), .slice none 0 0]) ∧ Below wr.heap.size wr w') := Lib.hid fun W hW =>
      (cut_cap p none [] 0 W KL.nil_ Dig.nil_ (by simp) (by simp)).mono fun e w' ⟨h3, h4⟩ => ⟨h3, below_chain hW h4⟩
    have HCR : Hid (∀ W : World, Below wr.heap.size wr W → Calls Tryd.prog 64 #[.int .u32 (p : Int), .slice A5 xs.length c5] W fun e w' => e = .returned (.agg #[.int .u32 (p : Int), .slice A5 xs.length c5]) ∧ Below wr.heap.size wr w') := Lib.hid fun W hW => by
      have h2 := cut_cap p A5 xs c5 W (hK.below hW).kl (HDX.out.w (by omega)) hcR (by omega)
      rw [HTX.out] at h2
      exact h2.mono fun e w' ⟨h3, h4⟩ => ⟨h3, below_chain hW h4⟩
    have HSB : Hid (∀ W : World, Below wr.heap.size wr W → W.cell? ⟨w.heap.size, 0, none⟩ = some (.int .u32 (p : Int))) := Lib.hid fun W hW => (hLE.up (hW.mono hsz)).1.1.1
    have HST1 : Hid (∀ (W : World) (u v : Value), Below wr.heap.size wr W → ((W.setCell ⟨w.heap.size + 1 + 1, 0, none⟩ u).setCell ⟨w.heap.size + 1 + 1, 1, none⟩ v).cell? ⟨w.heap.size, 0, none⟩ = some (.int .u32 (p : Int))) := Lib.hid fun W u v hW => (put_kept (by omega)).trans (HSB.out W hW)
    have HST2 : Hid (∀ (W : World) (u v u' v' : Value), Below wr.heap.size wr W → ((((W.setCell ⟨w.heap.size + 1 + 1, 0, none⟩ u).setCell ⟨w.heap.size + 1 + 1, 1, none⟩ v).setCell ⟨w.heap.size + 1 + 1 + 1, 0, none⟩ u').setCell ⟨w.heap.size + 1 + 1 + 1, 1, none⟩ v').cell? ⟨w.heap.size, 0, none⟩ = some (.int .u32 (p : Int))) := Lib.hid fun W u v u' v' hW => (put_kept (by omega)).trans (HST1.out W u v hW)
    have HDRW : Hid (Below wr.heap.size wr wr.drew) := Lib.hid (Below.refl _ _).drew
    have HKW := Lib.hid hK
    have HLW := Lib.hid hLE
    clear hK hLE
    go_wp2
    refine wp_region_noPanic ?_
    refine wp_region_tail (fun (_ : Array Bool) (W : World) => W.cell? ⟨w.heap.size, 0, none⟩ = some (.int .u32 (p : Int))) (by kernel_rfl) (HSB.out _ HDRW.out) (fun hT => ?_)
    refine wpAnyT_take _ [] (i := 0) (oi := _) (v := ?_) (fun _ _ => Iff.rfl) (fun _ _ _ h => h) rfl (by kernel_rfl) (by kernel_rfl) (by kernel_rfl) (by kernel_rfl) (by kernel_rfl) (fun _ _ _ h => h) (by assumption) (Or.inl ⟨by kernel_rfl, ?_⟩) (fun hT => ?_)
    rotate_left 1
    · intro w hSw
      (try dsimp only at hSw)
      first | (go_simp; done) | (go_simp; with_reducible rfl)
    (try simp only [Act.put, List.getElem_toArray, List.getElem_cons_zero, List.setIfInBounds_toArray, List.set_cons_zero, List.set_cons_succ])
    refine wpAnyT_take _ [] (i := 1) (oi := _) (v := ?_) (fun _ _ => Iff.rfl) (fun _ _ _ h => h) rfl (by kernel_rfl) (by kernel_rfl) (by kernel_rfl) (by kernel_rfl) (by kernel_rfl) (fun _ _ _ h => h) (by assumption) (Or.inl ⟨by kernel_rfl, ?_⟩) (fun hT => ?_)
    rotate_left 1
    · intro w hSw
      (try dsimp only at hSw)
      first | (go_simp; done) | (go_simp; with_reducible rfl)
    (try simp only [Act.put, List.getElem_toArray, List.getElem_cons_succ, List.getElem_cons_zero, List.setIfInBounds_toArray, List.set_cons_zero, List.set_cons_succ])
    refine wpAnyT_take _ [] (i := 2) (oi := _) (v := ?_) (fun _ _ => Iff.rfl) (fun _ _ _ h => h) rfl (by kernel_rfl) (by kernel_rfl) (by kernel_rfl) (by kernel_rfl) (by kernel_rfl) (fun _ _ _ h => h) (by assumption) (Or.inl ⟨by kernel_rfl, ?_⟩) (fun hT => ?_)
    rotate_left 1
    · intro w hSw
      (try dsimp only at hSw)
      first | (go_simp; done) | (go_simp; with_reducible rfl)
    (try simp only [Act.put, List.getElem_toArray, List.getElem_cons_succ, List.getElem_cons_zero, List.setIfInBounds_toArray, List.set_cons_zero, List.set_cons_succ])
    refine wpAnyT_take _ [] (i := 4) (oi := _) (v := ?_) (fun _ _ => Iff.rfl) (fun _ _ _ h => h) rfl (by kernel_rfl) (by kernel_rfl) (by kernel_rfl) (by kernel_rfl) (by kernel_rfl) (fun _ _ _ h => h) (by assumption) (Or.inl ⟨by kernel_rfl, ?_⟩) (fun hT => ?_)
    rotate_left 1
    · intro w hSw
      (try dsimp only at hSw)
      first | (go_simp; done) | (go_simp; with_reducible rfl)
    (try simp only [Act.put, List.getElem_toArray, List.getElem_cons_succ, List.getElem_cons_zero, List.setIfInBounds_toArray, List.set_cons_zero, List.set_cons_succ])
    refine wpAnyT_take _ [] (i := 5) (oi := _) (v := ?_) (fun _ _ => Iff.rfl) (fun _ _ _ h => h) rfl (by kernel_rfl) (by kernel_rfl) (by kernel_rfl) (by kernel_rfl) (by kernel_rfl) (fun _ _ _ h => h) (by assumption) (Or.inl ⟨by kernel_rfl, ?_⟩) (fun hT => ?_)
    rotate_left 1
    · intro w hSw
      (try dsimp only at hSw)
      first | (go_simp; done) | (go_simp; with_reducible rfl)
    (try simp only [Act.put, List.getElem_toArray, List.getElem_cons_succ, List.getElem_cons_zero, List.setIfInBounds_toArray, List.set_cons_zero, List.set_cons_succ])
    refine wpAnyT_take _ [] (i := 6) (oi := _) (v := ?_) (fun _ _ => Iff.rfl) (fun _ _ _ h => h) rfl (by kernel_rfl) (by kernel_rfl) (by kernel_rfl) (by kernel_rfl) (by kernel_rfl) (fun _ _ _ h => h) (by assumption) (Or.inl ⟨by kernel_rfl, ?_⟩) (fun hT => ?_)
    rotate_left 1
    · intro w hSw
      (try dsimp only at hSw)
      first | (go_simp; done) | (go_simp; with_reducible rfl)
    (try simp only [Act.put, List.getElem_toArray, List.getElem_cons_succ, List.getElem_cons_zero, List.setIfInBounds_toArray, List.set_cons_zero, List.set_cons_succ])
    refine wpAnyT_one (i := 3) (by kernel_rfl) (oi := _) rfl (fun K hK => ?_)
    (try dsimp only [List.getElem_toArray, List.getElem_cons_succ, List.getElem_cons_zero])
    go_simp
    go_at_call 64
    (with_reducible refine (HCQ.out _ HDRW.out).mono ?_)
    rintro e w7 ⟨rfl, hb7⟩
    go_wp2_with (fail)
    refine hK.out _ _ (HSB.out _ hb7) (fun hT => ?_)
    clear hK K
    (try simp only [Act.put, List.getElem_toArray, List.getElem_cons_succ, List.getElem_cons_zero, List.setIfInBounds_toArray, List.set_cons_zero, List.set_cons_succ])
    refine wpAnyT_one (i := 7) (by kernel_rfl) (oi := _) rfl (fun K hK => ?_)
    (try dsimp only [List.getElem_toArray, List.getElem_cons_succ, List.getElem_cons_zero])
    go_simp
    go_at_call 64
    (with_reducible refine (HCR.out _ hb7).mono ?_)
    rintro e w8 ⟨rfl, hb8⟩
    go_wp2_with (fail)
    refine hK.out _ _ (HSB.out _ hb8) (fun hT => ?_)
    clear hK K
    (try simp only [Act.put, List.getElem_toArray, List.getElem_cons_succ, List.getElem_cons_zero, List.setIfInBounds_toArray, List.set_cons_zero, List.set_cons_succ])
    have HL8 := Lib.hid (HLW.out.up (hb8.mono hsz))
    have HK8 := Lib.hid (HKW.out.below hb8)
    obtain ⟨_, ⟨⟨u0, u1, v0, v1⟩, ⟨u2, u3, v2, v3⟩⟩, ⟨⟨n0, n1⟩, ⟨n2, n3⟩⟩, hz8, hb8w⟩ := HL8.out
    have v2' : ∀ u v : Value, ((w8.setCell ⟨w.heap.size + 1 + 1, 0, none⟩ u).setCell ⟨w.heap.size + 1 + 1, 1, none⟩ v).cell? ⟨w.heap.size + 1 + 1 + 1, 0, none⟩ = some u2 := fun u v => (put_kept (by omega)).trans v2
    have v3' : ∀ u v : Value, ((w8.setCell ⟨w.heap.size + 1 + 1, 0, none⟩ u).setCell ⟨w.heap.size + 1 + 1, 1, none⟩ v).cell? ⟨w.heap.size + 1 + 1 + 1, 1, none⟩ = some u3 := fun u v => (put_kept (by omega)).trans v3
    have HB8 := Lib.hid hb8w
    clear hb8w
    refine wpAnyT_one (i := 8) (by kernel_rfl) (oi := _) rfl (fun K hK => ?_)
    (try dsimp only [List.getElem_toArray, List.getElem_cons_succ, List.getElem_cons_zero])
    go_simp
    refine hK.out _ _ (HST1.out _ _ _ hb8) (fun hT => ?_)
    clear hK K
    (try simp only [Act.put, List.getElem_toArray, List.getElem_cons_succ, List.getElem_cons_zero, List.setIfInBounds_toArray, List.set_cons_zero, List.set_cons_succ])
    refine wpAnyT_one (i := 9) (by kernel_rfl) (oi := _) rfl (fun K hK => ?_)
    (try dsimp only [List.getElem_toArray, List.getElem_cons_succ, List.getElem_cons_zero])
    go_simp
    refine hK.out _ _ (HST2.out _ _ _ _ _ hb8) (fun hT => ?_)
    clear hK K
    (try simp only [Act.put, List.getElem_toArray, List.getElem_cons_succ, List.getElem_cons_zero, List.setIfInBounds_toArray, List.set_cons_zero, List.set_cons_succ])
    refine wpAnyT_take _ [] (i := 10) (oi := _) (v := ?_) (fun _ _ => Iff.rfl) (fun _ _ _ h => h) rfl (by kernel_rfl) (by kernel_rfl) (by kernel_rfl) (by kernel_rfl) (by kernel_rfl) (fun _ _ _ h => h) (by assumption) (Or.inl ⟨by kernel_rfl, ?_⟩) (fun hT => ?_)
    rotate_left 1
    · intro w hSw
      (try dsimp only at hSw)
      first | (go_simp; done) | (go_simp; with_reducible rfl)
    (try simp only [Act.put, List.getElem_toArray, List.getElem_cons_succ, List.getElem_cons_zero, List.setIfInBounds_toArray, List.set_cons_zero, List.set_cons_succ])
    refine wpAnyT_done (by kernel_rfl) ?_ _
    refine NoPanic.normal ?_
    go_wp2
    obtain ⟨q0, q1⟩ := cells_two (u := .int .u32 (p : Int)) (v := .slice none 0 0) v0 v1
    obtain ⟨q2, q3⟩ := cells_two (u := .int .u32 (p : Int)) (v := .slice A5 xs.length c5) (v2' (.int .u32 (p : Int)) (.slice none 0 0)) (v3' (.int .u32 (p : Int)) (.slice none 0 0))
    have q4 := (put_kept (W := (w8.setCell ⟨w.heap.size + 1 + 1, 0, none⟩ (.int .u32 (p : Int))).setCell ⟨w.heap.size + 1 + 1, 1, none⟩ (.slice none 0 0)) (g := w.heap.size + 1 + 1 + 1) (b := w.heap.size + 1 + 1) (o := 0) (u := .int .u32 (p : Int)) (v := .slice A5 xs.length c5) (by omega)).trans q0
    have q5 := (put_kept (W := (w8.setCell ⟨w.heap.size + 1 + 1, 0, none⟩ (.int .u32 (p : Int))).setCell ⟨w.heap.size + 1 + 1, 1, none⟩ (.slice none 0 0)) (g := w.heap.size + 1 + 1 + 1) (b := w.heap.size + 1 + 1) (o := 1) (u := .int .u32 (p : Int)) (v := .slice A5 xs.length c5) (by omega)).trans q1
    refine bodyPost_ret (v := .tuple #[.agg #[.int .u32 (p : Int), .slice none 0 0], .agg #[.int .u32 (p : Int), .slice A5 xs.length c5], .int .i64 0]) (by simp [results, Tryd.results47, go_sem, q2, q3, q4, q5]) rfl ?_
    refine ⟨_, _, _, _, rfl, fun h => absurd h (by simp), ?_, by simp, hcR, (((HB8.out.setCell (by first | (simp; done) | (simp; omega)) _).setCell (by first | (simp; done) | (simp; omega)) _).setCell (by first | (simp; done) | (simp; omega)) _).setCell (by first | (simp; done) | (simp; omega)) _⟩
    exact ((((HK8.out.setCell (by first | (simp; done) | (simp; omega))).setCell (by first | (simp; done) | (simp; omega))).setCell (by first | (simp; done) | (simp; omega))).setCell (by first | (simp; done) | (simp; omega))).less (by omega) (by simp [World.setCell])
theorem rdivmod_any (p : Nat) (A B : Option Addr) (xs ys : List Int) (c d : Nat) (w : World) (h : KL .u32 w w.heap.size A xs) (h' : KL .u32 w w.heap.size B ys) (hp : p ≤ 2147483647) (hpr : PrimeN p)
    (hx : Pol p xs) (hy : Pol p ys) (ny : ys ≠ []) (hxl : xs.length ≤ 1000000) (hyl : ys.length ≤ 1000000) :
    Calls Tryd.prog 47 #[.agg #[.int .u32 (p : Int), .slice A xs.length c], .agg #[.int .u32 (p : Int), .slice B ys.length d]] w fun e w' => MadeD p (divP p xs ys) (modP p xs ys) w e w' := by
  rcases Nat.lt_or_ge xs.length ys.length with h1 | h1
  · obtain ⟨e1, e2⟩ := divP_short hpr hx hy h1
    rw [e1, e2]
    exact rdivmod_short p A B xs ys c d w h h' hp hpr hx hy ny hxl hyl h1
  · exact rdivmod_yes p A B xs ys c d w h h' hp hpr hx hy ny hxl hyl h1
end Go.Proofs.YtlndchmpnnlacaaDoor
