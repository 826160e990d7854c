/- Contracts of the reference: Sub, Monic, Value. -/
import Derived.Test.YtlndchmpnnlacaaDoorRefA
import Derived.Test.YtlndchmpnnlacaaDoorGcd
namespace Go.Proofs.YtlndchmpnnlacaaDoor
open Go.RowKit

theorem sub_as_add {p : Nat} (hp : 0 < p) {xs ys : List Int} {k : Nat} (hk : k + 1 = p) : addP p xs (scaleP p (k : Int) ys) = subP p xs ys :=
  pol_ext (addP_pol hp) (subP_pol hp) (addP_co.trans ((EqP.refl _ _).add scaleP_co |>.trans (EqP.trans (fun i => (by
    show (p : Int) ∣ (co xs i + (k : Int) * co ys i) - (co xs i - co ys i)
    exact ⟨co ys i, by rw [← hk]; push_cast; rw [Int.add_mul]; omega⟩)) subP_co.symm)))
theorem put_kept {W : World} {g b o : Nat} {u v : Value} (h : b ≠ g) : ((W.setCell ⟨g, 0, none⟩ u).setCell ⟨g, 1, none⟩ v).cell? ⟨b, o, none⟩ = W.cell? ⟨b, o, none⟩ :=
  (World.cell?_setCell_other _ _ _ _ (ne_of_block (by simpa using h.symm))).trans (World.cell?_setCell_other _ _ _ _ (ne_of_block (by simpa using h.symm)))
set_option maxRecDepth 100000 in
set_option maxHeartbeats 4000000 in
theorem rsub_any (p : Nat) (A B : Option Addr) (xs ys : List Int) (c d : Nat) (w : World) (h : KL .u32 w w.heap.size A xs) (h' : KL .u32 w w.heap.size B ys) (hp : p ≤ 2147483647) (hp0 : 0 < p) (hd : Dig p xs) (hd' : Dig p ys) (hl : xs.length ≤ 1000000) (hl' : ys.length ≤ 1000000) :
    Calls Tryd.prog 33 #[.agg #[.int .u32 (p : Int), .slice A xs.length c], .agg #[.int .u32 (p : Int), .slice B ys.length d]] w fun e w' => MadeP p (subP p xs ys) w e w' := by
  obtain ⟨k, hk⟩ : ∃ k, k + 1 = p := ⟨p - 1, by omega⟩
  have hk1 : (p : Int) - 1 = (k : Int) := by omega
  have hkw : IntKind.u32.wrap (k : Int) = (k : Int) := by rw [IntKind.wrap_u32]; omega
  obtain ⟨sc, hsc⟩ : ∃ sc, scaleP p (k : Int) ys = sc := ⟨_, rfl⟩
  have hscP : Pol p sc := by rw [← hsc]; exact scaleP_pol hp0
  have hscl : sc.length ≤ 1000000 := by rw [← hsc]; exact Nat.le_trans (cano_len _ _ _) hl'
  obtain ⟨r, hr⟩ : ∃ r, subP p xs ys = r := ⟨_, rfl⟩
  have hadd : addP p xs sc = r := by rw [← hr, ← hsc]; exact sub_as_add hp0 hk
  obtain ⟨W0, hW0⟩ : ∃ W0, (((w.alloc (.cells #[.int .u32 (p : Int), .slice A xs.length c] 25)).alloc (.cells #[.int .u32 (p : Int), .slice B ys.length d] 25)).alloc (.cells #[.int .u32 0, .slice none 0 0] 25)) = W0 := ⟨_, rfl⟩
  have HL := Lib.hid (show Laid2 w p p (.slice A xs.length c) (.slice B ys.length d) W0 by rw [← hW0]; exact laid2_start w p p _ _ _ _ _ _ _)
  have HS1 : Hid (∀ W : World, Below W0.heap.size W0 W → Calls Tryd.prog 29 #[.agg #[.int .u32 (p : Int), .slice B ys.length d], .int .u32 (k : Int)] W (PM p sc W0 W)) := Lib.hid fun W hb => by
    rw [← hsc]
    exact (rscale_any p k B ys d W ((h'.up HL.out.2.2.2.2.2).up hb) hp hp0 hd' (by omega) hl').mono (pm_of hb)
  have HA1 : Hid (∀ (W : World) (D : Option Addr) (e : Nat), Below W0.heap.size W0 W → KL .u32 W W.heap.size D sc → Calls Tryd.prog 31 #[.agg #[.int .u32 (p : Int), .slice A xs.length c], .agg #[.int .u32 (p : Int), .slice D sc.length e]] W (PM p r W0 W)) := Lib.hid fun W D e hb hD => by
    rw [← hadd]
    exact (radd_any p A D xs sc c e W ((h.up HL.out.2.2.2.2.2).up hb) hD hp hp0 hd hscP.1 hl hscl).mono (pm_of hb)
  have HSX : Hid (∀ W : World, Below W0.heap.size W0 W → (W.cell? ⟨w.heap.size, 0, none⟩ = some (.int .u32 (p : Int)) ∧ W.cell? ⟨w.heap.size, 1, none⟩ = some (.slice A xs.length c)) ∧ (W.cell? ⟨w.heap.size + 1, 0, none⟩ = some (.int .u32 (p : Int)) ∧ W.cell? ⟨w.heap.size + 1, 1, none⟩ = some (.slice B ys.length d))) := Lib.hid fun W hW => by
    obtain ⟨e1, e2, _⟩ := HL.out.up (hW.mono HL.out.2.2.2.2.1)
    exact ⟨e1, e2⟩
  have HST : Hid (∀ (W : World) (u v : Value), Below W0.heap.size W0 W → (((W.setCell ⟨w.heap.size + 1 + 1, 0, none⟩ u).setCell ⟨w.heap.size + 1 + 1, 1, none⟩ v).cell? ⟨w.heap.size, 0, none⟩ = some (.int .u32 (p : Int)) ∧ ((W.setCell ⟨w.heap.size + 1 + 1, 0, none⟩ u).setCell ⟨w.heap.size + 1 + 1, 1, none⟩ v).cell? ⟨w.heap.size, 1, none⟩ = some (.slice A xs.length c)) ∧ (((W.setCell ⟨w.heap.size + 1 + 1, 0, none⟩ u).setCell ⟨w.heap.size + 1 + 1, 1, none⟩ v).cell? ⟨w.heap.size + 1, 0, none⟩ = some (.int .u32 (p : Int)) ∧ ((W.setCell ⟨w.heap.size + 1 + 1, 0, none⟩ u).setCell ⟨w.heap.size + 1 + 1, 1, none⟩ v).cell? ⟨w.heap.size + 1, 1, none⟩ = some (.slice B ys.length d))) := Lib.hid fun W u v hW => by
    obtain ⟨⟨e1, e2⟩, e3, e4⟩ := HSX.out W hW
    exact ⟨⟨(put_kept (by omega)).trans e1, (put_kept (by omega)).trans e2⟩, (put_kept (by omega)).trans e3, (put_kept (by omega)).trans e4⟩
  have HDR : Hid (Below W0.heap.size W0 W0.drew) := Lib.hid (Below.refl _ _).drew
  rw [hr]
  clear h h' hd hd' hr hsc hadd hscP hscl hk
  go_enter Tryd.func33, Tryd.ntmps33
  go_wp2
  try rw [hW0]
  refine wp_region_noPanic ?_
  refine wp_region_tail (fun (_ : Array Bool) (W : World) => (W.cell? ⟨w.heap.size, 0, none⟩ = some (.int .u32 (p : Int)) ∧ W.cell? ⟨w.heap.size, 1, none⟩ = some (.slice A xs.length c)) ∧ (W.cell? ⟨w.heap.size + 1, 0, none⟩ = some (.int .u32 (p : Int)) ∧ W.cell? ⟨w.heap.size + 1, 1, none⟩ = some (.slice B ys.length d))) (by kernel_rfl) (HSX.out _ HDR.out) (fun hT => ?_)
  refine wpAnyT_take _ [] (i := 0) (oi := _) (v := ?_) (fun _ _ => Iff.rfl) (fun _ _ _ h => h) rfl (by kernel_rfl) (by kernel_rfl) (by kernel_rfl) (by kernel_rfl) (by kernel_rfl) (fun _ _ _ h => h) (by assumption) (Or.inl ⟨by kernel_rfl, ?_⟩) (fun hT => ?_)
  rotate_left 1
  · intro w hSw
    (try dsimp only at hSw)
    first | (go_simp; done) | (go_simp; with_reducible rfl)
  (try simp only [Act.put, List.getElem_toArray, List.getElem_cons_zero, List.setIfInBounds_toArray, List.set_cons_zero, List.set_cons_succ])
  refine wpAnyT_take _ [] (i := 1) (oi := _) (v := ?_) (fun _ _ => Iff.rfl) (fun _ _ _ h => h) rfl (by kernel_rfl) (by kernel_rfl) (by kernel_rfl) (by kernel_rfl) (by kernel_rfl) (fun _ _ _ h => h) (by assumption) (Or.inl ⟨by kernel_rfl, ?_⟩) (fun hT => ?_)
  rotate_left 1
  · intro w hSw
    (try dsimp only at hSw)
    first | (go_simp; done) | (go_simp; with_reducible rfl)
  (try simp only [Act.put, List.getElem_toArray, List.getElem_cons_succ, List.getElem_cons_zero, List.setIfInBounds_toArray, List.set_cons_zero, List.set_cons_succ])
  refine wpAnyT_take _ [] (i := 2) (oi := _) (v := ?_) (fun _ _ => Iff.rfl) (fun _ _ _ h => h) rfl (by kernel_rfl) (by kernel_rfl) (by kernel_rfl) (by kernel_rfl) (by kernel_rfl) (fun _ _ _ h => h) (by assumption) (Or.inl ⟨by kernel_rfl, ?_⟩) (fun hT => ?_)
  rotate_left 1
  · intro w hSw
    (try dsimp only at hSw)
    first | (go_simp; done) | (go_simp; with_reducible rfl)
  (try simp only [Act.put, List.getElem_toArray, List.getElem_cons_succ, List.getElem_cons_zero, List.setIfInBounds_toArray, List.set_cons_zero, List.set_cons_succ])
  refine wpAnyT_take _ [] (i := 3) (oi := _) (v := ?_) (fun _ _ => Iff.rfl) (fun _ _ _ h => h) rfl (by kernel_rfl) (by kernel_rfl) (by kernel_rfl) (by kernel_rfl) (by kernel_rfl) (fun _ _ _ h => h) (by assumption) (Or.inl ⟨by kernel_rfl, ?_⟩) (fun hT => ?_)
  rotate_left 1
  · intro w hSw
    (try dsimp only at hSw)
    first | (go_simp; done) | (go_simp; with_reducible rfl)
  (try simp only [Act.put, List.getElem_toArray, List.getElem_cons_succ, List.getElem_cons_zero, List.setIfInBounds_toArray, List.set_cons_zero, List.set_cons_succ])
  refine wpAnyT_take _ [] (i := 4) (oi := _) (v := ?_) (fun _ _ => Iff.rfl) (fun _ _ _ h => h) rfl (by kernel_rfl) (by kernel_rfl) (by kernel_rfl) (by kernel_rfl) (by kernel_rfl) (fun _ _ _ h => h) (by assumption) (Or.inl ⟨by kernel_rfl, ?_⟩) (fun hT => ?_)
  rotate_left 1
  · intro w hSw
    (try dsimp only at hSw)
    first | (go_simp; done) | (go_simp; with_reducible rfl)
  (try simp only [Act.put, List.getElem_toArray, List.getElem_cons_succ, List.getElem_cons_zero, List.setIfInBounds_toArray, List.set_cons_zero, List.set_cons_succ])
  refine wpAnyT_one (i := 5) (by kernel_rfl) (oi := _) rfl (fun K hK => ?_)
  (try dsimp only [List.getElem_toArray, List.getElem_cons_succ, List.getElem_cons_zero])
  go_simp
  go_at_call 29
  (with_reducible refine (HS1.out _ HDR.out).mono ?_)
  rintro e w3 ⟨A3, c3, rfl, h3, hc3, hb3, hs3⟩
  go_wp2_with (fail)
  refine hK.out _ _ (HSX.out _ hb3) (fun hT => ?_)
  clear hK K
  (try simp only [Act.put, List.getElem_toArray, List.getElem_cons_succ, List.getElem_cons_zero, List.setIfInBounds_toArray, List.set_cons_zero, List.set_cons_succ])
  refine wpAnyT_one (i := 6) (by kernel_rfl) (oi := _) rfl (fun K hK => ?_)
  (try dsimp only [List.getElem_toArray, List.getElem_cons_succ, List.getElem_cons_zero])
  go_simp
  go_at_call 31
  (with_reducible refine (HA1.out _ _ _ hb3 h3.kl).mono ?_)
  rintro e w4 ⟨A4, c4, rfl, h4, hc4, hb4, hs4⟩
  go_wp2_with (fail)
  refine hK.out _ _ (HSX.out _ hb4) (fun hT => ?_)
  clear hK K
  (try simp only [Act.put, List.getElem_toArray, List.getElem_cons_succ, List.getElem_cons_zero, List.setIfInBounds_toArray, List.set_cons_zero, List.set_cons_succ])
  have HL2 := Lib.hid (HL.out.up (hb4.mono HL.out.2.2.2.2.1))
  obtain ⟨⟨k0, k1⟩, ⟨k2, k3⟩, ⟨v0, v1, m0, m1⟩, ⟨n0, n1⟩, hsz2, hbw2⟩ := HL2.out
  refine wpAnyT_one (i := 7) (by kernel_rfl) (oi := _) rfl (fun K hK => ?_)
  (try dsimp only [List.getElem_toArray, List.getElem_cons_succ, List.getElem_cons_zero])
  go_simp
  refine hK.out _ _ (HST.out _ _ _ hb4) (fun hT => ?_)
  clear hK K
  (try simp only [Act.put, List.getElem_toArray, List.getElem_cons_succ, List.getElem_cons_zero, List.setIfInBounds_toArray, List.set_cons_zero, List.set_cons_succ])
  refine wpAnyT_done (by kernel_rfl) ?_ _
  refine NoPanic.normal ?_
  go_wp2
  obtain ⟨q0, q1⟩ := cells_two (u := .int .u32 (p : Int)) (v := .slice A4 r.length c4) m0 m1
  refine bodyPost_ret (v := .agg #[.int .u32 (p : Int), .slice A4 r.length c4]) (by simp [results, Tryd.results33, go_sem, q0, q1]) rfl ?_
  exact madeP_end hbw2 (by omega) h4 (by have := HL.out.2.2.2.2.1; omega) hc4
set_option maxRecDepth 100000 in
set_option maxHeartbeats 4000000 in
theorem rmonic_any (p : Nat) (A : Option Addr) (xs : List Int) (c : Nat) (w : World) (h : KL .u32 w w.heap.size A xs) (hp : p ≤ 2147483647) (hpr : PrimeN p) (hx : Pol p xs) (hl : xs.length ≤ 1000000) :
    Calls Tryd.prog 23 #[.agg #[.int .u32 (p : Int), .slice A xs.length c]] w fun e w' => MadeU p (lead xs) (monP p xs) w e w' := by
  by_cases hn : xs = []
  · subst hn
    have i1 : ((([] : List Int).length : Int) == 0) = true := rfl
    have HE : Hid (lead [] = 0) := Lib.hid rfl
    clear h hx
    go_enter Tryd.func23, Tryd.ntmps23
    go_wp2
    go_region
    all_goals
      go_wp2
      refine bodyPost_ret (v := .tuple #[.int .u32 0, .agg #[.int .u32 (p : Int), .slice A 0 c]]) (by simp [results, Tryd.results23, go_sem]) rfl ?_
      rw [HE.out]
      exact ⟨A, c, rfl, fun h => absurd h (by simp [monP_nil]), by simp [monP_nil], by go_grown⟩
  · have hb := hx.lead_bd hn
    obtain ⟨ld, hld⟩ : ∃ ld : Nat, lead xs = ld := ⟨(lead xs).toNat, by omega⟩
    obtain ⟨m, hm⟩ : ∃ m, m + 1 = xs.length := ⟨xs.length - 1, by have := List.length_pos_iff.2 hn; omega⟩
    have hlm : xs.getD m 0 = (ld : Int) := by rw [← hld]; unfold lead co; rw [show xs.length - 1 = m by omega]
    rw [hld] at hb
    have hp0 := hpr.pos
    obtain ⟨iv, hiv⟩ : ∃ iv, ld ^ (p - 2) % p = iv := ⟨_, rfl⟩
    have hivp : iv < p := by rw [← hiv]; exact Nat.mod_lt _ hpr.pos
    have hmon : monP p xs = scaleP p (iv : Int) xs := by
      unfold monP invN
      rw [hld, Int.toNat_natCast, hiv]
    obtain ⟨rs, hrs⟩ : ∃ rs, scaleP p (iv : Int) xs = rs := ⟨_, rfl⟩
    obtain ⟨W0, hW0⟩ : ∃ W0, ((w.alloc (.cells #[.int .u32 (p : Int), .slice A xs.length c] 25)).alloc (.cells #[.int .u32 0, .slice none 0 0] 25)) = W0 := ⟨_, rfl⟩
    have HL := Lib.hid (show Laid w p (.slice A xs.length c) W0 by rw [← hW0]; exact laid_start w p _ _ _ _ _)
    have HIV : Hid (∀ W : World, Below W0.heap.size W0 W → Calls Tryd.prog 58 #[.int .u32 (p : Int), .int .u32 (ld : Int)] W fun e w' => e = .returned (.int .u32 (iv : Int)) ∧ Below W0.heap.size W0 w') := Lib.hid fun W hb2 => by
      rw [← hiv]
      exact (rinverse_any p ld W hp hpr.1 (by omega)).mono fun e w' ⟨h1, h2⟩ => ⟨h1, h2 ▸ hb2⟩
    have HSC : Hid (∀ W : World, Below W0.heap.size W0 W → Calls Tryd.prog 29 #[.agg #[.int .u32 (p : Int), .slice A xs.length c], .int .u32 (iv : Int)] W (PM p rs W0 W)) := Lib.hid fun W hb2 => by
      rw [← hrs]
      exact (rscale_any p iv A xs c W ((h.up HL.out.2.2.2.2).up hb2) hp hp0 hx.1 hivp hl).mono (pm_of hb2)
    have HSX : Hid (∀ W : World, Below W0.heap.size W0 W → (W.cell? ⟨w.heap.size, 0, none⟩ = some (.int .u32 (p : Int)) ∧ W.cell? ⟨w.heap.size, 1, none⟩ = some (.slice A xs.length c))) := Lib.hid fun W hW => (HL.out.up (hW.mono HL.out.2.2.2.1)).1
    have HST : Hid (∀ (W : World) (u v : Value), Below W0.heap.size W0 W → (((W.setCell ⟨w.heap.size + 1, 0, none⟩ u).setCell ⟨w.heap.size + 1, 1, none⟩ v).cell? ⟨w.heap.size, 0, none⟩ = some (.int .u32 (p : Int)) ∧ ((W.setCell ⟨w.heap.size + 1, 0, none⟩ u).setCell ⟨w.heap.size + 1, 1, none⟩ v).cell? ⟨w.heap.size, 1, none⟩ = some (.slice A xs.length c))) := Lib.hid fun W u v hW => by
      obtain ⟨e1, e2⟩ := HSX.out W hW
      exact ⟨(put_kept (by omega)).trans e1, (put_kept (by omega)).trans e2⟩
    have HDR : Hid (Below W0.heap.size W0 W0.drew) := Lib.hid (Below.refl _ _).drew
    obtain ⟨ad, rfl, hab, hcc⟩ := h (by omega)
    have hcell := hcc m (by omega)
    rw [hlm] at hcell
    have hc0 := (HL.out.2.2.2.2.cell (p := ad.add m) (by rw [block_of_add]; exact hab)).trans hcell
    have hw0 : W0.cell? ⟨w.heap.size, 1, none⟩ = some (.slice (some ad) xs.length c) := HL.out.1.2
    rw [hmon, hrs, hld]
    have i1 : ((xs.length : Int) == 0) = false := by rw [nil_beq]; simp [hn]
    have i2 : (xs.length : Int) - 1 = (m : Int) := by omega
    have i3 : (m : Int) < (xs.length : Int) := by omega
    clear h hx hcc hcell hld hlm hiv hmon hrs hm hn
    go_enter Tryd.func23, Tryd.ntmps23
    go_wp2
    try rw [hW0]
    refine wp_region_noPanic ?_
    refine wp_region_tail (fun (_ : Array Bool) (W : World) => (W.cell? ⟨w.heap.size, 0, none⟩ = some (.int .u32 (p : Int)) ∧ W.cell? ⟨w.heap.size, 1, none⟩ = some (.slice (some ad) xs.length c))) (by kernel_rfl) (HSX.out _ HDR.out) (fun hT => ?_)
    refine wpAnyT_take _ [] (i := 0) (oi := _) (v := ?_) (fun _ _ => Iff.rfl) (fun _ _ _ h => h) rfl (by kernel_rfl) (by kernel_rfl) (by kernel_rfl) (by kernel_rfl) (by kernel_rfl) (fun _ _ _ h => h) (by assumption) (Or.inl ⟨by kernel_rfl, ?_⟩) (fun hT => ?_)
    rotate_left 1
    · intro w hSw
      (try dsimp only at hSw)
      first | (go_simp; done) | (go_simp; with_reducible rfl)
    (try simp only [Act.put, List.getElem_toArray, List.getElem_cons_zero, List.setIfInBounds_toArray, List.set_cons_zero, List.set_cons_succ])
    refine wpAnyT_take _ [] (i := 1) (oi := _) (v := ?_) (fun _ _ => Iff.rfl) (fun _ _ _ h => h) rfl (by kernel_rfl) (by kernel_rfl) (by kernel_rfl) (by kernel_rfl) (by kernel_rfl) (fun _ _ _ h => h) (by assumption) (Or.inl ⟨by kernel_rfl, ?_⟩) (fun hT => ?_)
    rotate_left 1
    · intro w hSw
      (try dsimp only at hSw)
      first | (go_simp; done) | (go_simp; with_reducible rfl)
    (try simp only [Act.put, List.getElem_toArray, List.getElem_cons_succ, List.getElem_cons_zero, List.setIfInBounds_toArray, List.set_cons_zero, List.set_cons_succ])
    refine wpAnyT_take _ [] (i := 2) (oi := _) (v := ?_) (fun _ _ => Iff.rfl) (fun _ _ _ h => h) rfl (by kernel_rfl) (by kernel_rfl) (by kernel_rfl) (by kernel_rfl) (by kernel_rfl) (fun _ _ _ h => h) (by assumption) (Or.inl ⟨by kernel_rfl, ?_⟩) (fun hT => ?_)
    rotate_left 1
    · intro w hSw
      (try dsimp only at hSw)
      first | (go_simp; done) | (go_simp; with_reducible rfl)
    (try simp only [Act.put, List.getElem_toArray, List.getElem_cons_succ, List.getElem_cons_zero, List.setIfInBounds_toArray, List.set_cons_zero, List.set_cons_succ])
    refine wpAnyT_take _ [] (i := 3) (oi := _) (v := ?_) (fun _ _ => Iff.rfl) (fun _ _ _ h => h) rfl (by kernel_rfl) (by kernel_rfl) (by kernel_rfl) (by kernel_rfl) (by kernel_rfl) (fun _ _ _ h => h) (by assumption) (Or.inl ⟨by kernel_rfl, ?_⟩) (fun hT => ?_)
    rotate_left 1
    · intro w hSw
      (try dsimp only at hSw)
      first | (go_simp; done) | (go_simp; with_reducible rfl)
    (try simp only [Act.put, List.getElem_toArray, List.getElem_cons_succ, List.getElem_cons_zero, List.setIfInBounds_toArray, List.set_cons_zero, List.set_cons_succ])
    refine wpAnyT_take _ [] (i := 4) (oi := _) (v := ?_) (fun _ _ => Iff.rfl) (fun _ _ _ h => h) rfl (by kernel_rfl) (by kernel_rfl) (by kernel_rfl) (by kernel_rfl) (by kernel_rfl) (fun _ _ _ h => h) (by assumption) (Or.inl ⟨by kernel_rfl, ?_⟩) (fun hT => ?_)
    rotate_left 1
    · intro w hSw
      (try dsimp only at hSw)
      first | (go_simp; done) | (go_simp; with_reducible rfl)
    (try simp only [Act.put, List.getElem_toArray, List.getElem_cons_succ, List.getElem_cons_zero, List.setIfInBounds_toArray, List.set_cons_zero, List.set_cons_succ])
    refine wpAnyT_one (i := 5) (by kernel_rfl) (oi := _) rfl (fun K hK => ?_)
    (try dsimp only [List.getElem_toArray, List.getElem_cons_succ, List.getElem_cons_zero])
    go_simp
    go_at_call 58
    (with_reducible refine (HIV.out _ HDR.out).mono ?_)
    rintro e w3 ⟨rfl, hb3⟩
    go_wp2_with (fail)
    refine hK.out _ _ (HSX.out _ hb3) (fun hT => ?_)
    clear hK K
    (try simp only [Act.put, List.getElem_toArray, List.getElem_cons_succ, List.getElem_cons_zero, List.setIfInBounds_toArray, List.set_cons_zero, List.set_cons_succ])
    refine wpAnyT_one (i := 6) (by kernel_rfl) (oi := _) rfl (fun K hK => ?_)
    (try dsimp only [List.getElem_toArray, List.getElem_cons_succ, List.getElem_cons_zero])
    go_simp
    go_at_call 29
    (with_reducible refine (HSC.out _ hb3).mono ?_)
    rintro e w4 ⟨A4, c4, rfl, h4, hc4, hb4, hs4⟩
    go_wp2_with (fail)
    refine hK.out _ _ (HSX.out _ hb4) (fun hT => ?_)
    clear hK K
    (try simp only [Act.put, List.getElem_toArray, List.getElem_cons_succ, List.getElem_cons_zero, List.setIfInBounds_toArray, List.set_cons_zero, List.set_cons_succ])
    refine wpAnyT_take _ [] (i := 7) (oi := _) (v := ?_) (fun _ _ => Iff.rfl) (fun _ _ _ h => h) rfl (by kernel_rfl) (by kernel_rfl) (by kernel_rfl) (by kernel_rfl) (by kernel_rfl) (fun _ _ _ h => h) (by assumption) (Or.inl ⟨by kernel_rfl, ?_⟩) (fun hT => ?_)
    rotate_left 1
    · intro w hSw
      (try dsimp only at hSw)
      first | (go_simp; done) | (go_simp; with_reducible rfl)
    (try simp only [Act.put, List.getElem_toArray, List.getElem_cons_succ, List.getElem_cons_zero, List.setIfInBounds_toArray, List.set_cons_zero, List.set_cons_succ])
    have HL2 := Lib.hid (HL.out.up (hb4.mono HL.out.2.2.2.1))
    obtain ⟨⟨k0, k1⟩, ⟨v0, v1, m0, m1⟩, ⟨n0, n1⟩, hsz2, hbw2⟩ := HL2.out
    refine wpAnyT_one (i := 8) (by kernel_rfl) (oi := _) rfl (fun K hK => ?_)
    (try dsimp only [List.getElem_toArray, List.getElem_cons_succ, List.getElem_cons_zero])
    go_simp
    refine hK.out _ _ (HST.out _ _ _ hb4) (fun hT => ?_)
    clear hK K
    (try simp only [Act.put, List.getElem_toArray, List.getElem_cons_succ, List.getElem_cons_zero, List.setIfInBounds_toArray, List.set_cons_zero, List.set_cons_succ])
    refine wpAnyT_done (by kernel_rfl) ?_ _
    refine NoPanic.normal ?_
    go_wp2
    obtain ⟨q0, q1⟩ := cells_two (u := .int .u32 (p : Int)) (v := .slice A4 rs.length c4) m0 m1
    refine bodyPost_ret (v := .tuple #[.int .u32 (ld : Int), .agg #[.int .u32 (p : Int), .slice A4 rs.length c4]]) (by simp [results, Tryd.results23, go_sem, q0, q1]) rfl ?_
    obtain ⟨A', c', h1, h2, h3, h4⟩ := madeP_end (p := p) (g := w.heap.size + 1) (u := .int .u32 (p : Int)) (v := .slice A4 rs.length c4) hbw2 (by omega) h4 (by have := HL.out.2.2.2.1; omega) hc4
    injection h1 with h1
    injection h1 with h1
    injection h1 with h1
    have h5 := congrArg (fun l => l) h1
    simp at h5
    obtain ⟨rfl, rfl⟩ := h5
    exact ⟨A4, c4, rfl, h2, h3, h4⟩
/-- The value, from the top down to the place k. -/
theorem val_step {p a v m : Nat} {xs : List Int} {j : Nat} (hj : j < xs.length) (hv : valZ (xs.drop (j + 1)) a % p = v) (hm : (v : Int) * a + co xs j = m) : valZ (xs.drop j) a % p = ((m % p : Nat) : Int) := by
  have e : xs.drop j = co xs j :: xs.drop (j + 1) := by
    rw [List.drop_eq_getElem_cons hj]
    show _ = xs.getD j 0 :: _
    rw [getD_of_lt hj]
  rw [e]
  show (co xs j + a * valZ (xs.drop (j + 1)) a) % p = _
  obtain ⟨V, hV⟩ : ∃ V, valZ (xs.drop (j + 1)) a = V := ⟨_, rfl⟩
  rw [hV] at hv ⊢
  have h1 := Int.emod_def V p
  rw [hv] at h1
  obtain ⟨q, hq⟩ : ∃ q, V = v + p * q := ⟨V / p, by omega⟩
  have e1 : (a : Int) * (v + p * q) = v * a + p * (a * q) := by rw [Int.mul_add, Int.mul_comm (a : Int) v, Int.mul_left_comm]
  rw [Int.natCast_emod, ← hm, hq, e1, show co xs j + ((v : Int) * a + p * (a * q)) = ((v : Int) * a + co xs j) + p * (a * q) by omega, Int.add_mul_emod_self_left]
set_option maxRecDepth 100000 in
set_option maxHeartbeats 4000000 in
theorem rvalue_any (p a : Nat) (A : Option Addr) (xs : List Int) (c : Nat) (w : World) (h : KL .u32 w w.heap.size A xs) (hp : p ≤ 2147483647) (hp0 : 0 < p) (hd : Dig p xs) (ha : a < p) (hl : xs.length ≤ 1000000) :
    Calls Tryd.prog 25 #[.agg #[.int .u32 (p : Int), .slice A xs.length c], .int .u32 (a : Int)] w fun e w' => e = .returned (.int .u32 (valZ xs a % p)) ∧ Below w.heap.size w w' := by
  have H := Lib.hid h; clear h
  have HD := Lib.hid hd; clear hd
  have HL0 := Lib.hid (box1_start w p (.slice A xs.length c) 25)
  have hp1 : ((p : Int) == 0) = false := by rw [beq_eq_false_iff_ne]; omega
  have hp2 : p ≠ 0 := by omega
  have w1 : IntKind.u64.wrap (p : Int) = (p : Int) := by rw [IntKind.wrap_u64]; omega
  have w5 : IntKind.u64.wrap (a : Int) = (a : Int) := by rw [IntKind.wrap_u64]; omega
  go_enter Tryd.func25, Tryd.ntmps25
  go_wp2
  go_loopw [5, 6] (fun v i wr => ∃ k y : Nat, k ≤ xs.length ∧ (k = 0 ∧ i = .int .i64 (-1) ∨ ∃ i' : Nat, k = i' + 1 ∧ i = .int .i64 i') ∧ v = .int .u64 (y : Int) ∧ y < p ∧ Hid (valZ (xs.drop k) a % p = (y : Int)) ∧ Box1 w p (.slice A xs.length c) wr) (fun _ i _ => ((intOf i) + 1).toNat)
  case atStart =>
    refine ⟨xs.length, 0, Nat.le_refl _, ?_, rfl, hp0, Lib.hid (by simp [valZ]), HL0.out⟩
    rcases Nat.eq_zero_or_pos xs.length with h0 | h0
    · exact .inl ⟨h0, by rw [h0]; rfl⟩
    · exact .inr ⟨xs.length - 1, by omega, by congr 1; omega⟩
  case round =>
    clear HL0
    obtain ⟨k, y, hk, hi, rfl, hy, HV, hL⟩ := hrel
    obtain ⟨⟨b0, b1⟩, hsz, hbw⟩ := hL
    have HL : Hid (Box1 w p (.slice A xs.length c) wr) := Lib.hid ⟨⟨b0, b1⟩, hsz, hbw⟩
    rcases hi with ⟨rfl, rfl⟩ | ⟨j, rfl, rfl⟩
    · have y1 : IntKind.u32.wrap (y : Int) = (y : Int) := by rw [IntKind.wrap_u32]; omega
      have HR : Hid (valZ xs a % p = (y : Int)) := Lib.hid (by have := HV.out; rwa [List.drop_zero] at this)
      have HBW := Lib.hid hbw
      have i0 : decide ((0 : Int) ≤ -1) = false := rfl
      clear hbw HV
      go_wp2
      go_ret
      exact ⟨ret_int (by rw [HR.out]), HBW.out⟩
    · have hr := HD.out.at_ (k := j) (by omega)
      obtain ⟨x, hx⟩ : ∃ x : Nat, co xs j = x := ⟨(co xs j).toNat, by have : co xs j = xs.getD j 0 := rfl; omega⟩
      have hxp : x < p := by have : co xs j = xs.getD j 0 := rfl; omega
      have HA : Hid (∀ W : World, Below wr.heap.size wr W → Calls Tryd.prog 62 #[.agg #[.int .u32 (p : Int), .slice A xs.length c], .int .i64 (j : Int)] W fun e w' => e = .returned (.int .u64 (x : Int)) ∧ Below wr.heap.size wr w') := Lib.hid fun W hW => by
        rw [← hx]
        exact (at_any p j A xs c W ((H.out.up hbw).up hW) (HD.out.w (by omega)) (by omega)).mono fun e w' ⟨h1, h2⟩ => ⟨h1, below_chain hW h2⟩
      have hr1 := mul_room (a := y) (b := a) (by omega) (by omega)
      obtain ⟨n, hn⟩ : ∃ n, y * a = n := ⟨_, rfl⟩
      have hn' : (y : Int) * (a : Int) = (n : Int) := by rw [← hn, Int.natCast_mul]
      rw [hn] at hr1
      obtain ⟨m, hm⟩ : ∃ m, n + x = m := ⟨_, rfl⟩
      have hm' : (n : Int) + (x : Int) = (m : Int) := by omega
      obtain ⟨t, ht⟩ : ∃ t, m % p = t := ⟨_, rfl⟩
      have htp : t < p := by rw [← ht]; exact Nat.mod_lt _ hp0
      obtain ⟨ht1, ht2⟩ := mod_parts ht
      have hn2 : y * a ≤ 2147483646 * 2147483646 := Nat.mul_le_mul (by omega) (by omega)
      have x1 : IntKind.u64.wrap (n : Int) = (n : Int) := by rw [IntKind.wrap_u64]; omega
      have x2 : IntKind.u64.wrap (m : Int) = (m : Int) := by rw [IntKind.wrap_u64]; omega
      have HV2 : Hid (valZ (xs.drop j) a % p = (t : Int)) := Lib.hid (by
        rw [← ht]
        exact val_step (by omega) HV.out (by rw [hx, hn', hm']))
      have HSX : Hid (∀ W : World, Below wr.heap.size wr W → (W.cell? ⟨w.heap.size, 0, none⟩ = some (.int .u32 (p : Int)) ∧ W.cell? ⟨w.heap.size, 1, none⟩ = some (.slice A xs.length c))) := Lib.hid fun W hW => (HL.out.up (hW.mono hsz)).1
      have HDR : Hid (Below wr.heap.size wr wr.drew) := Lib.hid (Below.refl _ _).drew
      have i0 : decide ((0 : Int) ≤ (j : Int)) = true := by simp
      have HBL : Hid (∀ W : World, Below wr.heap.size wr W → Box1 w p (.slice A xs.length c) W) := Lib.hid fun W hW => HL.out.up (hW.mono hsz)
      clear hx hn hm ht hr hr1 hn2 hbw HV
      go_wp2
      refine wp_region_noPanic ?_
      refine wp_region_tail (fun (_ : Array Bool) (W : World) => (W.cell? ⟨w.heap.size, 0, none⟩ = some (.int .u32 (p : Int)) ∧ W.cell? ⟨w.heap.size, 1, none⟩ = some (.slice A xs.length c))) (by kernel_rfl) (HSX.out _ HDR.out) (fun hT => ?_)
      refine wpAnyT_take _ [] (i := 0) (oi := _) (v := ?_) (fun _ _ => Iff.rfl) (fun _ _ _ h => h) rfl (by kernel_rfl) (by kernel_rfl) (by kernel_rfl) (by kernel_rfl) (by kernel_rfl) (fun _ _ _ h => h) (by assumption) (Or.inl ⟨by kernel_rfl, ?_⟩) (fun hT => ?_)
      rotate_left 1
      · intro w hSw
        (try dsimp only at hSw)
        first | (go_simp; done) | (go_simp; with_reducible rfl)
      (try simp only [Act.put, List.getElem_toArray, List.getElem_cons_zero, List.setIfInBounds_toArray, List.set_cons_zero, List.set_cons_succ])
      refine wpAnyT_take _ [] (i := 1) (oi := _) (v := ?_) (fun _ _ => Iff.rfl) (fun _ _ _ h => h) rfl (by kernel_rfl) (by kernel_rfl) (by kernel_rfl) (by kernel_rfl) (by kernel_rfl) (fun _ _ _ h => h) (by assumption) (Or.inl ⟨by kernel_rfl, ?_⟩) (fun hT => ?_)
      rotate_left 1
      · intro w hSw
        (try dsimp only at hSw)
        first | (go_simp; done) | (go_simp; with_reducible rfl)
      (try simp only [Act.put, List.getElem_toArray, List.getElem_cons_succ, List.getElem_cons_zero, List.setIfInBounds_toArray, List.set_cons_zero, List.set_cons_succ])
      refine wpAnyT_take _ [] (i := 2) (oi := _) (v := ?_) (fun _ _ => Iff.rfl) (fun _ _ _ h => h) rfl (by kernel_rfl) (by kernel_rfl) (by kernel_rfl) (by kernel_rfl) (by kernel_rfl) (fun _ _ _ h => h) (by assumption) (Or.inl ⟨by kernel_rfl, ?_⟩) (fun hT => ?_)
      rotate_left 1
      · intro w hSw
        (try dsimp only at hSw)
        first | (go_simp; done) | (go_simp; with_reducible rfl)
      (try simp only [Act.put, List.getElem_toArray, List.getElem_cons_succ, List.getElem_cons_zero, List.setIfInBounds_toArray, List.set_cons_zero, List.set_cons_succ])
      refine wpAnyT_take _ [] (i := 3) (oi := _) (v := ?_) (fun _ _ => Iff.rfl) (fun _ _ _ h => h) rfl (by kernel_rfl) (by kernel_rfl) (by kernel_rfl) (by kernel_rfl) (by kernel_rfl) (fun _ _ _ h => h) (by assumption) (Or.inl ⟨by kernel_rfl, ?_⟩) (fun hT => ?_)
      rotate_left 1
      · intro w hSw
        (try dsimp only at hSw)
        first | (go_simp; done) | (go_simp; with_reducible rfl)
      (try simp only [Act.put, List.getElem_toArray, List.getElem_cons_succ, List.getElem_cons_zero, List.setIfInBounds_toArray, List.set_cons_zero, List.set_cons_succ])
      refine wpAnyT_take _ [] (i := 4) (oi := _) (v := ?_) (fun _ _ => Iff.rfl) (fun _ _ _ h => h) rfl (by kernel_rfl) (by kernel_rfl) (by kernel_rfl) (by kernel_rfl) (by kernel_rfl) (fun _ _ _ h => h) (by assumption) (Or.inl ⟨by kernel_rfl, ?_⟩) (fun hT => ?_)
      rotate_left 1
      · intro w hSw
        (try dsimp only at hSw)
        first | (go_simp; done) | (go_simp; with_reducible rfl)
      (try simp only [Act.put, List.getElem_toArray, List.getElem_cons_succ, List.getElem_cons_zero, List.setIfInBounds_toArray, List.set_cons_zero, List.set_cons_succ])
      refine wpAnyT_take _ [] (i := 5) (oi := _) (v := ?_) (fun _ _ => Iff.rfl) (fun _ _ _ h => h) rfl (by kernel_rfl) (by kernel_rfl) (by kernel_rfl) (by kernel_rfl) (by kernel_rfl) (fun _ _ _ h => h) (by assumption) (Or.inl ⟨by kernel_rfl, ?_⟩) (fun hT => ?_)
      rotate_left 1
      · intro w hSw
        (try dsimp only at hSw)
        first | (go_simp; done) | (go_simp; with_reducible rfl)
      (try simp only [Act.put, List.getElem_toArray, List.getElem_cons_succ, List.getElem_cons_zero, List.setIfInBounds_toArray, List.set_cons_zero, List.set_cons_succ])
      refine wpAnyT_take _ [] (i := 8) (oi := _) (v := ?_) (fun _ _ => Iff.rfl) (fun _ _ _ h => h) rfl (by kernel_rfl) (by kernel_rfl) (by kernel_rfl) (by kernel_rfl) (by kernel_rfl) (fun _ _ _ h => h) (by assumption) (Or.inl ⟨by kernel_rfl, ?_⟩) (fun hT => ?_)
      rotate_left 1
      · intro w hSw
        (try dsimp only at hSw)
        first | (go_simp; done) | (go_simp; with_reducible rfl)
      (try simp only [Act.put, List.getElem_toArray, List.getElem_cons_succ, List.getElem_cons_zero, List.setIfInBounds_toArray, List.set_cons_zero, List.set_cons_succ])
      refine wpAnyT_take _ [] (i := 9) (oi := _) (v := ?_) (fun _ _ => Iff.rfl) (fun _ _ _ h => h) rfl (by kernel_rfl) (by kernel_rfl) (by kernel_rfl) (by kernel_rfl) (by kernel_rfl) (fun _ _ _ h => h) (by assumption) (Or.inl ⟨by kernel_rfl, ?_⟩) (fun hT => ?_)
      rotate_left 1
      · intro w hSw
        (try dsimp only at hSw)
        first | (go_simp; done) | (go_simp; with_reducible rfl)
      (try simp only [Act.put, List.getElem_toArray, List.getElem_cons_succ, List.getElem_cons_zero, List.setIfInBounds_toArray, List.set_cons_zero, List.set_cons_succ])
      refine wpAnyT_take _ [] (i := 10) (oi := _) (v := ?_) (fun _ _ => Iff.rfl) (fun _ _ _ h => h) rfl (by kernel_rfl) (by kernel_rfl) (by kernel_rfl) (by kernel_rfl) (by kernel_rfl) (fun _ _ _ h => h) (by assumption) (Or.inl ⟨by kernel_rfl, ?_⟩) (fun hT => ?_)
      rotate_left 1
      · intro w hSw
        (try dsimp only at hSw)
        first | (go_simp; done) | (go_simp; with_reducible rfl)
      (try simp only [Act.put, List.getElem_toArray, List.getElem_cons_succ, List.getElem_cons_zero, List.setIfInBounds_toArray, List.set_cons_zero, List.set_cons_succ])
      refine wpAnyT_one (i := 6) (by kernel_rfl) (oi := _) rfl (fun K hK => ?_)
      (try dsimp only [List.getElem_toArray, List.getElem_cons_succ, List.getElem_cons_zero])
      go_simp
      go_at_call 62
      (with_reducible refine (HA.out _ HDR.out).mono ?_)
      rintro e w3 ⟨rfl, hb3⟩
      go_wp2_with (fail)
      refine hK.out _ _ (HSX.out _ hb3) (fun hT => ?_)
      clear hK K
      (try simp only [Act.put, List.getElem_toArray, List.getElem_cons_succ, List.getElem_cons_zero, List.setIfInBounds_toArray, List.set_cons_zero, List.set_cons_succ])
      refine wpAnyT_take _ [] (i := 7) (oi := _) (v := ?_) (fun _ _ => Iff.rfl) (fun _ _ _ h => h) rfl (by kernel_rfl) (by kernel_rfl) (by kernel_rfl) (by kernel_rfl) (by kernel_rfl) (fun _ _ _ h => h) (by assumption) (Or.inl ⟨by kernel_rfl, ?_⟩) (fun hT => ?_)
      rotate_left 1
      · intro w hSw
        (try dsimp only at hSw)
        first | (go_simp; done) | (go_simp; with_reducible rfl)
      (try simp only [Act.put, List.getElem_toArray, List.getElem_cons_succ, List.getElem_cons_zero, List.setIfInBounds_toArray, List.set_cons_zero, List.set_cons_succ])
      refine wpAnyT_take _ [] (i := 11) (oi := _) (v := ?_) (fun _ _ => Iff.rfl) (fun _ _ _ h => h) rfl (by kernel_rfl) (by kernel_rfl) (by kernel_rfl) (by kernel_rfl) (by kernel_rfl) (fun _ _ _ h => h) (by assumption) (Or.inl ⟨by kernel_rfl, ?_⟩) (fun hT => ?_)
      rotate_left 1
      · intro w hSw
        (try dsimp only at hSw)
        first | (go_simp; done) | (go_simp; with_reducible rfl)
      (try simp only [Act.put, List.getElem_toArray, List.getElem_cons_succ, List.getElem_cons_zero, List.setIfInBounds_toArray, List.set_cons_zero, List.set_cons_succ])
      refine wpAnyT_take _ [] (i := 12) (oi := _) (v := ?_) (fun _ _ => Iff.rfl) (fun _ _ _ h => h) rfl (by kernel_rfl) (by kernel_rfl) (by kernel_rfl) (by kernel_rfl) (by kernel_rfl) (fun _ _ _ h => h) (by assumption) (Or.inl ⟨by kernel_rfl, ?_⟩) (fun hT => ?_)
      rotate_left 1
      · intro w hSw
        (try dsimp only at hSw)
        first | (go_simp; done) | (go_simp; with_reducible rfl)
      (try simp only [Act.put, List.getElem_toArray, List.getElem_cons_succ, List.getElem_cons_zero, List.setIfInBounds_toArray, List.set_cons_zero, List.set_cons_succ])
      refine wpAnyT_done (by kernel_rfl) ?_ _
      refine NoPanic.normal ?_
      go_wp2
      go_roundw
      case rel =>
        refine ⟨j, t, by omega, ?_, rfl, htp, HV2, HBL.out _ hb3⟩
        rcases Nat.eq_zero_or_pos j with h0 | h0
        · exact .inl ⟨h0, by rw [h0]; rfl⟩
        · exact .inr ⟨j - 1, by omega, by congr 1; omega⟩
      case measure => first | (simp [intOf]; done) | (simp [intOf]; omega)
end Go.Proofs.YtlndchmpnnlacaaDoor
