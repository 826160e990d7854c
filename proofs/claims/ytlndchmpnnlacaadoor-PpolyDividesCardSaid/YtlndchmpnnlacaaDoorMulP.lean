/- Contracts: pairs, Add, Sub. Contracts: Mul. -/
import Derived.Test.YtlndchmpnnlacaaDoorScale
namespace Go.Proofs.YtlndchmpnnlacaaDoor
open Go.RowKit

/-- The first cells of a row are what is asked, the others what was there. -/
def RowG (p : Nat) (S : List Int) (n k : Nat) (F G : Nat → Int) : Prop := S.length = n ∧ (∀ j, j < k → S.getD j 0 = F j) ∧ (∀ j, k ≤ j → j < n → S.getD j 0 = G j) ∧ Dig p S
theorem RowG.next {p : Nat} {S : List Int} {n k : Nat} {F G : Nat → Int} (h : RowG p S n k F G) (hk : k < n) {v : Int} (hv : v = F k) (h0 : 0 ≤ v) (h1 : v < p) : RowG p (S.set k v) n (k + 1) F G := by
  obtain ⟨h2, h3, h4, h5⟩ := h
  refine ⟨by simpa using h2, fun j hj => ?_, fun j hj hn => ?_, h5.set_ h0 h1 k⟩
  · by_cases e : j = k
    · subst e
      simp [List.getD_eq_getElem?_getD, h2, hk, hv]
    · have := h3 j (by omega)
      simpa [List.getD_eq_getElem?_getD, List.getElem?_set_ne (Ne.symm e)] using this
  · have := h4 j (by omega) hn
    simpa [List.getD_eq_getElem?_getD, List.getElem?_set_ne (show k ≠ j by omega)] using this
theorem RowG.start {p : Nat} (hp : 0 < p) {xs : List Int} {n : Nat} (hd : Dig p xs) (hn : xs.length ≤ n) (F : Nat → Int) : RowG p (xs ++ List.replicate (n - xs.length) 0) n 0 F (co xs) := by
  refine ⟨by simp; omega, fun j hj => by omega, fun j _ hj => ?_, hd.append_ (Dig.zeros hp _)⟩
  unfold co
  rcases Nat.lt_or_ge j xs.length with h | h
  · simp [List.getD_eq_getElem?_getD, List.getElem?_append_left h]
  · simp [List.getD_eq_getElem?_getD, List.getElem?_append_right h, List.getElem?_eq_none h, show j - xs.length < n - xs.length by omega]
theorem Dig.w {p : Nat} {S : List Int} (h : Dig p S) (hp : p ≤ 4294967296) : Dig 4294967296 S := fun x hx => by have := h x hx; omega
theorem co_at {xs : List Int} {j x : Nat} (h : xs.getD j 0 = (x : Int)) : co xs j = (x : Int) := h
/-- What a function of two polynomials has laid before it makes its row. -/
def Laid2 (w : World) (p q : Nat) (v u : Value) (W : World) : Prop :=
  (W.cell? ⟨w.heap.size, 0, none⟩ = some (.int .u32 (p : Int)) ∧ W.cell? ⟨w.heap.size, 1, none⟩ = some v) ∧
  (W.cell? ⟨w.heap.size + 1, 0, none⟩ = some (.int .u32 (q : Int)) ∧ W.cell? ⟨w.heap.size + 1, 1, none⟩ = some u) ∧
  (∃ a b, W.cell? ⟨w.heap.size + 1 + 1, 0, none⟩ = some a ∧ W.cell? ⟨w.heap.size + 1 + 1, 1, none⟩ = some b) ∧
  (W.frozen? ⟨w.heap.size + 1 + 1, 0, none⟩ = false ∧ W.frozen? ⟨w.heap.size + 1 + 1, 1, none⟩ = false) ∧ w.heap.size + 1 + 1 + 1 ≤ W.heap.size ∧ Below w.heap.size w W
theorem Laid2.up {w : World} {p q : Nat} {v u : Value} {W W' : World} (h : Laid2 w p q v u W) (hb : Below (w.heap.size + 1 + 1 + 1) W W') : Laid2 w p q v u W' := by
  obtain ⟨⟨h1, h2⟩, ⟨k1, k2⟩, ⟨a, b, h3, h4⟩, ⟨h5, h6⟩, h7, h8⟩ := h
  have c : ∀ b o, b < w.heap.size + 1 + 1 + 1 → W'.cell? ⟨b, o, none⟩ = W.cell? ⟨b, o, none⟩ := fun b o h => hb.cell (p := ⟨b, o, none⟩) h
  have f : ∀ b o, b < w.heap.size + 1 + 1 + 1 → W'.frozen? ⟨b, o, none⟩ = W.frozen? ⟨b, o, none⟩ := fun b o h => hb.frozen (p := ⟨b, o, none⟩) h
  exact ⟨⟨(c _ _ (by omega)).trans h1, (c _ _ (by omega)).trans h2⟩, ⟨(c _ _ (by omega)).trans k1, (c _ _ (by omega)).trans k2⟩, ⟨a, b, (c _ _ (by omega)).trans h3, (c _ _ (by omega)).trans h4⟩,
    ⟨(f _ _ (by omega)).trans h5, (f _ _ (by omega)).trans h6⟩, Nat.le_trans h7 hb.size, h8.trans (hb.mono (by omega))⟩
theorem laid2_start (w : World) (p q : Nat) (v u a b : Value) (T T' T'' : TypeId) : Laid2 w p q v u (((w.alloc (.cells #[.int .u32 (p : Int), v] T)).alloc (.cells #[.int .u32 (q : Int), u] T')).alloc (.cells #[a, b] T'')) :=
  ⟨⟨by go_cell, by go_cell⟩, ⟨by go_cell, by go_cell⟩, ⟨a, b, by go_cell, by go_cell⟩, ⟨by go_cell, by go_cell⟩, by simp, (((Below.refl _ _).alloc (Nat.le_refl _) _).alloc (by simp) _).alloc (by simp; omega) _⟩
theorem add_cast {p a b : Nat} : (((a + b) % p : Nat) : Int) = ((a : Int) + (b : Int)) % (p : Int) := by rw [Int.natCast_emod, Int.natCast_add]
theorem sub_cast {p a b : Nat} (hb : b < p) : (((a + p - b) % p : Nat) : Int) = ((a : Int) - (b : Int)) % (p : Int) := by
  rw [Int.natCast_emod, show ((a + p - b : Nat) : Int) = (a : Int) - (b : Int) + (p : Int) by omega, Int.add_emod_right]
theorem addc_any (p a b g : Nat) (w : World) (hc : w.cell? ⟨g, 0, none⟩ = some (.int .u32 (p : Int))) (hp : p ≤ 2147483647) (ha : a < p) (hb : b < p) :
    Calls Tryd.prog 66 #[.int .u32 (a : Int), .int .u32 (b : Int), .pointer (some ⟨g, 0, none⟩)] w fun e w' => e = .returned (.int .u32 (((a + b) % p : Nat) : Int)) ∧ w = w' := by
  have HM := Lib.hid (madd_any p a b w hp ha hb)
  obtain ⟨z, hz⟩ : ∃ z, (a + b) % p = z := ⟨_, rfl⟩
  rw [hz] at HM ⊢
  clear hz
  go_enter Tryd.func66, Tryd.ntmps66
  go_wp2_with (go_at_call 60; (with_reducible refine HM.out.mono ?_); rintro e w' ⟨rfl, rfl⟩)
  go_ret
  exact ⟨rfl, rfl⟩
set_option maxHeartbeats 4000000 in
theorem pairs_add (p g : Nat) (A B : Option Addr) (xs ys : List Int) (c d : Nat) (w : World) (h : KL .u32 w w.heap.size A xs) (h' : KL .u32 w w.heap.size B ys) (hc : w.cell? ⟨g, 0, none⟩ = some (.int .u32 (p : Int))) (hg : g < w.heap.size) (hp : p ≤ 2147483647) (hp0 : 0 < p)
    (hd : Dig p xs) (hd' : Dig p ys) (hx : xs.length ≤ 1099511627776) (hy : ys.length ≤ 1099511627776) :
    Calls Tryd.prog 65 #[.agg #[.int .u32 (p : Int), .slice A xs.length c], .agg #[.int .u32 (p : Int), .slice B ys.length d], .func (Fn.func 66) #[] #[.pointer (some ⟨g, 0, none⟩)]] w fun e w' => MadeP p (addP p xs ys) w e w' := by
  obtain ⟨i0, hi0, hz0, hz1, hz2⟩ := info_parts u32_info
  have hsz1 : (Tryd.prog.info? 22).map (·.size) = some 1 := by rw [hi0]; simp [hz1]
  obtain ⟨n, hn⟩ : ∃ n, max xs.length ys.length = n := ⟨_, rfl⟩
  have hN : max (xs.length : Int) (ys.length : Int) = (n : Int) := by omega
  have hnl : n ≤ 1099511627776 := by omega
  have hxn : xs.length ≤ n := by omega
  have hyn : ys.length ≤ n := by omega
  have HNN : Hid (max xs.length ys.length = n) := Lib.hid hn
  have HS0 := Lib.hid (RowG.start hp0 hd hxn (fun j => (co xs j + co ys j) % (p : Int)))
  have hsp : splice ((List.replicate n (0 : Int)).map (Value.int .u32)) 0 (xs.map (Value.int .u32)) = (xs ++ List.replicate (n - xs.length) 0).map (Value.int .u32) := by
    unfold splice
    simp
  have HSP := Lib.hid hsp
  have HC1 : Hid ((xs.map (Value.int .u32)).length = Nat.min xs.length n) := Lib.hid (by rw [List.length_map]; exact (Nat.min_eq_left (by omega)).symm)
  have HC3 : Hid (0 + (xs.map (Value.int .u32)).length ≤ ((List.replicate n (0 : Int)).map (Value.int .u32)).length) := Lib.hid (by simp; omega)
  have HC4 : Hid (∀ v ∈ xs.map (Value.int .u32), v.oneCell' = true) := Lib.hid (by simp [Value.oneCell'])
  have H := Lib.hid h; clear h
  have H' := Lib.hid h'; clear h'
  have HD' := Lib.hid hd'; clear hd' hd hsp hn
  have HC := Lib.hid hc; clear hc
  have HDO : Hid (∀ (W : World) (a b z : Nat), Below w.heap.size w W → a < p → b < p → (a + b) % p = z → Calls Tryd.prog 66 #[.int .u32 (a : Int), .int .u32 (b : Int), .pointer (some ⟨g, 0, none⟩)] W fun e w' => e = .returned (.int .u32 (z : Int)) ∧ W = w') :=
    Lib.hid fun W a b z hW ha hb hz => by rw [← hz]; exact addc_any p a b g W ((hW.cell (p := ⟨g, 0, none⟩) hg).trans HC.out) hp ha hb
  go_enter Tryd.func65, Tryd.ntmps65
  go_wp2_with (first
    | (at_make; refine wpList_make_full _ rfl _ _ 23 rfl (w.heap.size + 1 + 1 + 1) 22 i0 (.int .u32 0) 1 Tryd.underlying23 hi0 hz0 hz1 _ _ _ _ n rfl rfl (by simp) (by simp) (by rw [hz2]; omega) (by unfold maxLen; omega) (by simp) ?_; intro w1 hown hg1; simp only [World.size_alloc] at hown; have HO := Lib.hid (own_zeros hown); have HL := Lib.hid ((laid2_start w p p (.slice A xs.length c) (.slice B ys.length d) (.int .u32 0) (.slice none 0 0) _ _ _).up ((Below.refl _ _).grown hg1 (by simp) (fun k hk => by cases hk))); clear hown hg1; obtain ⟨⟨b0, b1⟩, ⟨b2, b3⟩, ⟨u0, u1, d0, d1⟩, ⟨f0, f1⟩, hsz, hbw⟩ := HL.out; have HBW := Lib.hid hbw; clear hbw)
    | (refine wpList_copy_splice rfl _ _ 23 23 rfl 22 Tryd.underlying23 hsz1 (some ⟨w.heap.size + 1 + 1 + 1, 0, none⟩) A n n xs.length c rfl rfl (w.heap.size + 1 + 1 + 1) 0 ((List.replicate n (0 : Int)).map (Value.int .u32)) 22 (own_heap HO.out) (xs.map (Value.int .u32)) HC1.out (fun hp => ⟨rfl, (H.out.below HBW.out).src hp⟩) HC3.out HC4.out (w.heap.size + 1 + 1 + 1) w1 (Below.refl _ _) (Nat.le_refl _) ?_; intro w2 hw2 hb2; have HO2 : Hid (w2.ownsRow (w.heap.size + 1 + 1 + 1) 22 1 (.slice (some ⟨w.heap.size + 1 + 1 + 1, 0, none⟩) n n) n ((xs ++ List.replicate (n - xs.length) 0).map (Value.int .u32))) := Lib.hid (own_of_heap (by rw [← HSP.out]; exact hw2.out) (by rw [List.length_map]; exact HS0.out.1) (Nat.le_refl _) (by unfold maxLen; omega)); have HL2 := Lib.hid (HL.out.up hb2); clear hw2 hb2 b0 b1 b2 b3 d0 d1 f0 f1 hsz HBW; obtain ⟨⟨b0, b1⟩, ⟨b2, b3⟩, ⟨u0, u1, d0, d1⟩, ⟨f0, f1⟩, hsz, hbw⟩ := HL2.out; have HBW := Lib.hid hbw; clear hbw))
  go_loopw [24] (fun i wr => ∃ (j : Nat) (S : List Int), j ≤ n ∧ i = .int .i64 j ∧ RowG p S n j (fun j => (co xs j + co ys j) % (p : Int)) (co xs) ∧
      wr.ownsRow (w.heap.size + 1 + 1 + 1) 22 1 (.slice (some ⟨w.heap.size + 1 + 1 + 1, 0, none⟩) n n) n (S.map (Value.int .u32)) ∧ Laid2 w p p (.slice A xs.length c) (.slice B ys.length d) wr) (fun i _ => n - (intOf i).toNat)
  case atStart => exact ⟨0, _, Nat.zero_le _, rfl, HS0.out, HO2.out, HL2.out⟩
  case round =>
    clear HO HL HO2 HL2 b0 b1 b2 b3 d0 d1 f0 f1 hsz HBW
    obtain ⟨j, S, hj, rfl, hS, hown, hL⟩ := hrel
    obtain ⟨⟨b0, b1⟩, ⟨b2, b3⟩, ⟨u0, u1, d0, d1⟩, ⟨f0, f1⟩, hsz, hbw⟩ := hL
    have HL : Hid (Laid2 w p p (.slice A xs.length c) (.slice B ys.length d) wr) := Lib.hid ⟨⟨b0, b1⟩, ⟨b2, b3⟩, ⟨u0, u1, d0, d1⟩, ⟨f0, f1⟩, hsz, hbw⟩
    have HBW := Lib.hid hbw
    by_cases hlt : j < n
    · have hfz := hown.frozenAt j
      have hcu := own_cell hown (j := j) (by omega)
      have hr := hS.2.2.2.at_ (k := j) (by rw [hS.1]; exact hlt)
      obtain ⟨x, hxx⟩ : ∃ x : Nat, S.getD j 0 = x := ⟨(S.getD j 0).toNat, by omega⟩
      rw [hxx] at hcu hr
      have HX : Hid (co xs j = (x : Int)) := Lib.hid (by rw [← hS.2.2.1 j (Nat.le_refl _) hlt]; exact hxx)
      have i1 : (j : Int) < (n : Int) := by omega
      by_cases hlt2 : j < ys.length
      · obtain ⟨ad, rfl, hab, hcc⟩ := (H'.out.below hbw) (by omega)
        have hcell := hcc j hlt2
        have hr2 := HD'.out.at_ hlt2
        obtain ⟨y, hyy⟩ : ∃ y : Nat, ys.getD j 0 = y := ⟨(ys.getD j 0).toNat, by omega⟩
        rw [hyy] at hcell hr2
        obtain ⟨z, hz⟩ : ∃ z, (x + y) % p = z := ⟨_, rfl⟩
        have HZ := Lib.hid hz
        have hzp : z < p := by rw [← hz]; exact Nat.mod_lt _ hp0
        have HO := Lib.hid (own_set hown j (z : Int))
        have HS : Hid (RowG p (S.set j (z : Int)) n (j + 1) (fun j => (co xs j + co ys j) % (p : Int)) (co xs)) := Lib.hid (hS.next hlt (by
          rw [HX.out, co_at hyy, ← hz, add_cast]) (by omega) (by omega))
        have HL2 := Lib.hid (HL.out.up ((Below.refl _ _).setCell (p := ⟨w.heap.size + 1 + 1 + 1, j, none⟩) (Nat.le_refl _) (.int .u32 (z : Int))))
        have i2 : (j : Int) < (ys.length : Int) := by omega
        clear hcc hxx hyy hz hown hS hbw HX
        go_wp2_with (go_at_call 66; (with_reducible refine (HDO.out _ x y z HBW.out (by omega) (by omega) HZ.out).mono ?_); rintro e w' ⟨rfl, rfl⟩)
        go_roundw
        case rel => exact ⟨j + 1, _, by omega, by go_num, HS.out, HO.out, HL2.out⟩
        case measure => simp [intOf]; omega
      · have hyy : co ys j = 0 := co_beyond (by omega)
        obtain ⟨z, hz⟩ : ∃ z, (x + 0) % p = z := ⟨_, rfl⟩
        have HZ := Lib.hid hz
        have hzp : z < p := by rw [← hz]; exact Nat.mod_lt _ hp0
        have HO := Lib.hid (own_set hown j (z : Int))
        have HS : Hid (RowG p (S.set j (z : Int)) n (j + 1) (fun j => (co xs j + co ys j) % (p : Int)) (co xs)) := Lib.hid (hS.next hlt (by
          rw [HX.out, hyy, ← hz, add_cast, Int.ofNat_zero]) (by omega) (by omega))
        have HL2 := Lib.hid (HL.out.up ((Below.refl _ _).setCell (p := ⟨w.heap.size + 1 + 1 + 1, j, none⟩) (Nat.le_refl _) (.int .u32 (z : Int))))
        have i2 : ¬ (j : Int) < (ys.length : Int) := by omega
        clear hxx hyy hz hown hS hbw HX
        go_wp2_with (go_at_call 66; (refine (HDO.out _ x 0 z HBW.out (by omega) (by omega) HZ.out).mono ?_); rintro e w' ⟨rfl, rfl⟩)
        go_roundw
        case rel => exact ⟨j + 1, _, by omega, by go_num, HS.out, HO.out, HL2.out⟩
        case measure => simp [intOf]; omega
    · obtain rfl : j = n := by omega
      obtain ⟨g1, g2, g3⟩ := KF.of_row hown
      have HG := Lib.hid g3.trim
      have HT : Hid (Calls Tryd.prog 63 #[.int .u32 (p : Int), .slice (some ⟨w.heap.size + 1 + 1 + 1, 0, none⟩) j j] wr fun e w' => e = .returned (.agg #[.int .u32 (p : Int), .slice (some ⟨w.heap.size + 1 + 1 + 1, 0, none⟩) (trimZ S).length (trimZ S).length]) ∧ Below wr.heap.size wr w') := Lib.hid (by
        have h := trim_any p (some ⟨w.heap.size + 1 + 1 + 1, 0, none⟩) S j wr g3.kl (hS.2.2.2.w (by omega)) (by rw [hS.1]; exact Nat.le_refl _) (by omega)
        rw [hS.1] at h
        exact h)
      have HS : Hid (trimZ S = addP p xs ys) := Lib.hid (by
        unfold addP
        rw [HNN.out]
        exact trimZ_cano hS.1 hS.2.1)
      have i1 : ¬ (j : Int) < (j : Int) := by omega
      clear hown g1 g2 g3 hS hbw
      go_wp2_with (go_at_call 63; (with_reducible refine HT.out.mono ?_); rintro e w2 ⟨rfl, hb2⟩; have HL2 := Lib.hid (HL.out.up (hb2.mono hsz)); have HG2 := Lib.hid (HG.out.below hb2); clear hb2; obtain ⟨⟨k0, k1⟩, ⟨k2, k3⟩, ⟨v0, v1, m0, m1⟩, ⟨n0, n1⟩, hsz2, hbw2⟩ := HL2.out; have HBW2 := Lib.hid hbw2; clear hbw2)
      obtain ⟨q0, q1⟩ := cells_two (u := .int .u32 (p : Int)) (v := .slice (some ⟨w.heap.size + 1 + 1 + 1, 0, none⟩) (trimZ S).length (trimZ S).length) m0 m1
      refine bodyPost_ret (v := .agg #[.int .u32 (p : Int), .slice (some ⟨w.heap.size + 1 + 1 + 1, 0, none⟩) (trimZ S).length (trimZ S).length]) (by simp [results, Tryd.results65, go_sem, q0, q1]) rfl ?_
      have hg := HG2.out
      rw [HS.out] at hg ⊢
      exact madeP_end HBW2.out (by omega) hg (by omega) (Nat.le_refl _)
set_option maxHeartbeats 2000000 in
theorem add_any (p : Nat) (A B : Option Addr) (xs ys : List Int) (c d : Nat) (w : World) (h : KL .u32 w w.heap.size A xs) (h' : KL .u32 w w.heap.size B ys) (hp : p ≤ 2147483647) (hp0 : 0 < p)
    (hd : Dig p xs) (hd' : Dig p ys) (hx : xs.length ≤ 1099511627776) (hy : ys.length ≤ 1099511627776) :
    Calls Tryd.prog 30 #[.agg #[.int .u32 (p : Int), .slice A xs.length c], .agg #[.int .u32 (p : Int), .slice B ys.length d]] w fun e w' => MadeP p (addP p xs ys) w e w' := by
  have HPA : Hid (∀ W : World, Laid2 w p p (.slice A xs.length c) (.slice B ys.length d) W → Calls Tryd.prog 65 #[.agg #[.int .u32 (p : Int), .slice A xs.length c], .agg #[.int .u32 (p : Int), .slice B ys.length d], .func (Fn.func 66) #[] #[.pointer (some ⟨w.heap.size, 0, none⟩)]] W fun e w' => MadeP p (addP p xs ys) W e w') :=
    Lib.hid fun W hW => pairs_add p w.heap.size A B xs ys c d W ((h.below hW.2.2.2.2.2).more hW.2.2.2.2.2.size) ((h'.below hW.2.2.2.2.2).more hW.2.2.2.2.2.size) hW.1.1 (by have := hW.2.2.2.2.1; omega) hp hp0 hd hd' hx hy
  have HL := Lib.hid (laid2_start w p p (.slice A xs.length c) (.slice B ys.length d) (.int .u32 0) (.slice none 0 0) 25 25 25)
  obtain ⟨rs, hrs⟩ : ∃ rs, addP p xs ys = rs := ⟨_, rfl⟩
  rw [hrs] at HPA ⊢
  clear h h' hd hd' hrs
  go_enter Tryd.func30, Tryd.ntmps30
  go_wp2_with (go_at_call 65; (with_reducible refine (HPA.out _ HL.out).mono ?_); rintro e w2 ⟨A2, c2, rfl, hA2, hc2, hb2⟩; have HL2 := Lib.hid (HL.out.up (hb2.mono (by simp))); have HG2 := Lib.hid (hA2.less (base' := w.heap.size + 1 + 1 + 1) (by simp) (Nat.le_refl _)); have HC2 := Lib.hid hc2; clear hb2 hA2 hc2; obtain ⟨⟨k0, k1⟩, ⟨k2, k3⟩, ⟨v0, v1, m0, m1⟩, ⟨n0, n1⟩, hsz2, hbw2⟩ := HL2.out; have HBW2 := Lib.hid hbw2; clear hbw2)
  obtain ⟨q0, q1⟩ := cells_two (u := .int .u32 (p : Int)) (v := .slice A2 rs.length c2) m0 m1
  refine bodyPost_ret (v := .agg #[.int .u32 (p : Int), .slice A2 rs.length c2]) (by simp [results, Tryd.results30, go_sem, q0, q1]) rfl ?_
  exact madeP_end HBW2.out (by omega) HG2.out (by omega) HC2.out
theorem subc_any (p a b g : Nat) (w : World) (hc : w.cell? ⟨g, 0, none⟩ = some (.int .u32 (p : Int))) (hp : p ≤ 2147483647) (ha : a < p) (hb : b < p) :
    Calls Tryd.prog 67 #[.int .u32 (a : Int), .int .u32 (b : Int), .pointer (some ⟨g, 0, none⟩)] w fun e w' => e = .returned (.int .u32 (((a + p - b) % p : Nat) : Int)) ∧ w = w' := by
  have HM := Lib.hid (msub_any p a b w hp ha hb)
  obtain ⟨z, hz⟩ : ∃ z, (a + p - b) % p = z := ⟨_, rfl⟩
  rw [hz] at HM ⊢
  clear hz
  go_enter Tryd.func67, Tryd.ntmps67
  go_wp2_with (go_at_call 68; (with_reducible refine HM.out.mono ?_); rintro e w' ⟨rfl, rfl⟩)
  go_ret
  exact ⟨rfl, rfl⟩
set_option maxHeartbeats 4000000 in
theorem pairs_sub (p g : Nat) (A B : Option Addr) (xs ys : List Int) (c d : Nat) (w : World) (h : KL .u32 w w.heap.size A xs) (h' : KL .u32 w w.heap.size B ys) (hc : w.cell? ⟨g, 0, none⟩ = some (.int .u32 (p : Int))) (hg : g < w.heap.size) (hp : p ≤ 2147483647) (hp0 : 0 < p)
    (hd : Dig p xs) (hd' : Dig p ys) (hx : xs.length ≤ 1099511627776) (hy : ys.length ≤ 1099511627776) :
    Calls Tryd.prog 65 #[.agg #[.int .u32 (p : Int), .slice A xs.length c], .agg #[.int .u32 (p : Int), .slice B ys.length d], .func (Fn.func 67) #[] #[.pointer (some ⟨g, 0, none⟩)]] w fun e w' => MadeP p (subP p xs ys) w e w' := by
  obtain ⟨i0, hi0, hz0, hz1, hz2⟩ := info_parts u32_info
  have hsz1 : (Tryd.prog.info? 22).map (·.size) = some 1 := by rw [hi0]; simp [hz1]
  obtain ⟨n, hn⟩ : ∃ n, max xs.length ys.length = n := ⟨_, rfl⟩
  have hN : max (xs.length : Int) (ys.length : Int) = (n : Int) := by omega
  have hnl : n ≤ 1099511627776 := by omega
  have hxn : xs.length ≤ n := by omega
  have hyn : ys.length ≤ n := by omega
  have HNN : Hid (max xs.length ys.length = n) := Lib.hid hn
  have HS0 := Lib.hid (RowG.start hp0 hd hxn (fun j => (co xs j - co ys j) % (p : Int)))
  have hsp : splice ((List.replicate n (0 : Int)).map (Value.int .u32)) 0 (xs.map (Value.int .u32)) = (xs ++ List.replicate (n - xs.length) 0).map (Value.int .u32) := by
    unfold splice
    simp
  have HSP := Lib.hid hsp
  have HC1 : Hid ((xs.map (Value.int .u32)).length = Nat.min xs.length n) := Lib.hid (by rw [List.length_map]; exact (Nat.min_eq_left (by omega)).symm)
  have HC3 : Hid (0 + (xs.map (Value.int .u32)).length ≤ ((List.replicate n (0 : Int)).map (Value.int .u32)).length) := Lib.hid (by simp; omega)
  have HC4 : Hid (∀ v ∈ xs.map (Value.int .u32), v.oneCell' = true) := Lib.hid (by simp [Value.oneCell'])
  have H := Lib.hid h; clear h
  have H' := Lib.hid h'; clear h'
  have HD' := Lib.hid hd'; clear hd' hd hsp hn
  have HC := Lib.hid hc; clear hc
  have HDO : Hid (∀ (W : World) (a b z : Nat), Below w.heap.size w W → a < p → b < p → (a + p - b) % p = z → Calls Tryd.prog 67 #[.int .u32 (a : Int), .int .u32 (b : Int), .pointer (some ⟨g, 0, none⟩)] W fun e w' => e = .returned (.int .u32 (z : Int)) ∧ W = w') :=
    Lib.hid fun W a b z hW ha hb hz => by rw [← hz]; exact subc_any p a b g W ((hW.cell (p := ⟨g, 0, none⟩) hg).trans HC.out) hp ha hb
  go_enter Tryd.func65, Tryd.ntmps65
  go_wp2_with (first
    | (at_make; refine wpList_make_full _ rfl _ _ 23 rfl (w.heap.size + 1 + 1 + 1) 22 i0 (.int .u32 0) 1 Tryd.underlying23 hi0 hz0 hz1 _ _ _ _ n rfl rfl (by simp) (by simp) (by rw [hz2]; omega) (by unfold maxLen; omega) (by simp) ?_; intro w1 hown hg1; simp only [World.size_alloc] at hown; have HO := Lib.hid (own_zeros hown); have HL := Lib.hid ((laid2_start w p p (.slice A xs.length c) (.slice B ys.length d) (.int .u32 0) (.slice none 0 0) _ _ _).up ((Below.refl _ _).grown hg1 (by simp) (fun k hk => by cases hk))); clear hown hg1; obtain ⟨⟨b0, b1⟩, ⟨b2, b3⟩, ⟨u0, u1, d0, d1⟩, ⟨f0, f1⟩, hsz, hbw⟩ := HL.out; have HBW := Lib.hid hbw; clear hbw)
    | (refine wpList_copy_splice rfl _ _ 23 23 rfl 22 Tryd.underlying23 hsz1 (some ⟨w.heap.size + 1 + 1 + 1, 0, none⟩) A n n xs.length c rfl rfl (w.heap.size + 1 + 1 + 1) 0 ((List.replicate n (0 : Int)).map (Value.int .u32)) 22 (own_heap HO.out) (xs.map (Value.int .u32)) HC1.out (fun hp => ⟨rfl, (H.out.below HBW.out).src hp⟩) HC3.out HC4.out (w.heap.size + 1 + 1 + 1) w1 (Below.refl _ _) (Nat.le_refl _) ?_; intro w2 hw2 hb2; have HO2 : Hid (w2.ownsRow (w.heap.size + 1 + 1 + 1) 22 1 (.slice (some ⟨w.heap.size + 1 + 1 + 1, 0, none⟩) n n) n ((xs ++ List.replicate (n - xs.length) 0).map (Value.int .u32))) := Lib.hid (own_of_heap (by rw [← HSP.out]; exact hw2.out) (by rw [List.length_map]; exact HS0.out.1) (Nat.le_refl _) (by unfold maxLen; omega)); have HL2 := Lib.hid (HL.out.up hb2); clear hw2 hb2 b0 b1 b2 b3 d0 d1 f0 f1 hsz HBW; obtain ⟨⟨b0, b1⟩, ⟨b2, b3⟩, ⟨u0, u1, d0, d1⟩, ⟨f0, f1⟩, hsz, hbw⟩ := HL2.out; have HBW := Lib.hid hbw; clear hbw))
  go_loopw [24] (fun i wr => ∃ (j : Nat) (S : List Int), j ≤ n ∧ i = .int .i64 j ∧ RowG p S n j (fun j => (co xs j - co ys j) % (p : Int)) (co xs) ∧
      wr.ownsRow (w.heap.size + 1 + 1 + 1) 22 1 (.slice (some ⟨w.heap.size + 1 + 1 + 1, 0, none⟩) n n) n (S.map (Value.int .u32)) ∧ Laid2 w p p (.slice A xs.length c) (.slice B ys.length d) wr) (fun i _ => n - (intOf i).toNat)
  case atStart => exact ⟨0, _, Nat.zero_le _, rfl, HS0.out, HO2.out, HL2.out⟩
  case round =>
    clear HO HL HO2 HL2 b0 b1 b2 b3 d0 d1 f0 f1 hsz HBW
    obtain ⟨j, S, hj, rfl, hS, hown, hL⟩ := hrel
    obtain ⟨⟨b0, b1⟩, ⟨b2, b3⟩, ⟨u0, u1, d0, d1⟩, ⟨f0, f1⟩, hsz, hbw⟩ := hL
    have HL : Hid (Laid2 w p p (.slice A xs.length c) (.slice B ys.length d) wr) := Lib.hid ⟨⟨b0, b1⟩, ⟨b2, b3⟩, ⟨u0, u1, d0, d1⟩, ⟨f0, f1⟩, hsz, hbw⟩
    have HBW := Lib.hid hbw
    by_cases hlt : j < n
    · have hfz := hown.frozenAt j
      have hcu := own_cell hown (j := j) (by omega)
      have hr := hS.2.2.2.at_ (k := j) (by rw [hS.1]; exact hlt)
      obtain ⟨x, hxx⟩ : ∃ x : Nat, S.getD j 0 = x := ⟨(S.getD j 0).toNat, by omega⟩
      rw [hxx] at hcu hr
      have HX : Hid (co xs j = (x : Int)) := Lib.hid (by rw [← hS.2.2.1 j (Nat.le_refl _) hlt]; exact hxx)
      have i1 : (j : Int) < (n : Int) := by omega
      by_cases hlt2 : j < ys.length
      · obtain ⟨ad, rfl, hab, hcc⟩ := (H'.out.below hbw) (by omega)
        have hcell := hcc j hlt2
        have hr2 := HD'.out.at_ hlt2
        obtain ⟨y, hyy⟩ : ∃ y : Nat, ys.getD j 0 = y := ⟨(ys.getD j 0).toNat, by omega⟩
        rw [hyy] at hcell hr2
        obtain ⟨z, hz⟩ : ∃ z, (x + p - y) % p = z := ⟨_, rfl⟩
        have HZ := Lib.hid hz
        have hzp : z < p := by rw [← hz]; exact Nat.mod_lt _ hp0
        have HO := Lib.hid (own_set hown j (z : Int))
        have HS : Hid (RowG p (S.set j (z : Int)) n (j + 1) (fun j => (co xs j - co ys j) % (p : Int)) (co xs)) := Lib.hid (hS.next hlt (by
          rw [HX.out, co_at hyy, ← hz, sub_cast (by omega)]) (by omega) (by omega))
        have HL2 := Lib.hid (HL.out.up ((Below.refl _ _).setCell (p := ⟨w.heap.size + 1 + 1 + 1, j, none⟩) (Nat.le_refl _) (.int .u32 (z : Int))))
        have i2 : (j : Int) < (ys.length : Int) := by omega
        clear hcc hxx hyy hz hown hS hbw HX
        go_wp2_with (go_at_call 67; (with_reducible refine (HDO.out _ x y z HBW.out (by omega) (by omega) HZ.out).mono ?_); rintro e w' ⟨rfl, rfl⟩)
        go_roundw
        case rel => exact ⟨j + 1, _, by omega, by go_num, HS.out, HO.out, HL2.out⟩
        case measure => simp [intOf]; omega
      · have hyy : co ys j = 0 := co_beyond (by omega)
        obtain ⟨z, hz⟩ : ∃ z, (x + p - 0) % p = z := ⟨_, rfl⟩
        have HZ := Lib.hid hz
        have hzp : z < p := by rw [← hz]; exact Nat.mod_lt _ hp0
        have HO := Lib.hid (own_set hown j (z : Int))
        have HS : Hid (RowG p (S.set j (z : Int)) n (j + 1) (fun j => (co xs j - co ys j) % (p : Int)) (co xs)) := Lib.hid (hS.next hlt (by
          rw [HX.out, hyy, ← hz, sub_cast (by omega), Int.ofNat_zero]) (by omega) (by omega))
        have HL2 := Lib.hid (HL.out.up ((Below.refl _ _).setCell (p := ⟨w.heap.size + 1 + 1 + 1, j, none⟩) (Nat.le_refl _) (.int .u32 (z : Int))))
        have i2 : ¬ (j : Int) < (ys.length : Int) := by omega
        clear hxx hyy hz hown hS hbw HX
        go_wp2_with (go_at_call 67; (refine (HDO.out _ x 0 z HBW.out (by omega) (by omega) HZ.out).mono ?_); rintro e w' ⟨rfl, rfl⟩)
        go_roundw
        case rel => exact ⟨j + 1, _, by omega, by go_num, HS.out, HO.out, HL2.out⟩
        case measure => simp [intOf]; omega
    · obtain rfl : j = n := by omega
      obtain ⟨g1, g2, g3⟩ := KF.of_row hown
      have HG := Lib.hid g3.trim
      have HT : Hid (Calls Tryd.prog 63 #[.int .u32 (p : Int), .slice (some ⟨w.heap.size + 1 + 1 + 1, 0, none⟩) j j] wr fun e w' => e = .returned (.agg #[.int .u32 (p : Int), .slice (some ⟨w.heap.size + 1 + 1 + 1, 0, none⟩) (trimZ S).length (trimZ S).length]) ∧ Below wr.heap.size wr w') := Lib.hid (by
        have h := trim_any p (some ⟨w.heap.size + 1 + 1 + 1, 0, none⟩) S j wr g3.kl (hS.2.2.2.w (by omega)) (by rw [hS.1]; exact Nat.le_refl _) (by omega)
        rw [hS.1] at h
        exact h)
      have HS : Hid (trimZ S = subP p xs ys) := Lib.hid (by
        unfold subP
        rw [HNN.out]
        exact trimZ_cano hS.1 hS.2.1)
      have i1 : ¬ (j : Int) < (j : Int) := by omega
      clear hown g1 g2 g3 hS hbw
      go_wp2_with (go_at_call 63; (with_reducible refine HT.out.mono ?_); rintro e w2 ⟨rfl, hb2⟩; have HL2 := Lib.hid (HL.out.up (hb2.mono hsz)); have HG2 := Lib.hid (HG.out.below hb2); clear hb2; obtain ⟨⟨k0, k1⟩, ⟨k2, k3⟩, ⟨v0, v1, m0, m1⟩, ⟨n0, n1⟩, hsz2, hbw2⟩ := HL2.out; have HBW2 := Lib.hid hbw2; clear hbw2)
      obtain ⟨q0, q1⟩ := cells_two (u := .int .u32 (p : Int)) (v := .slice (some ⟨w.heap.size + 1 + 1 + 1, 0, none⟩) (trimZ S).length (trimZ S).length) m0 m1
      refine bodyPost_ret (v := .agg #[.int .u32 (p : Int), .slice (some ⟨w.heap.size + 1 + 1 + 1, 0, none⟩) (trimZ S).length (trimZ S).length]) (by simp [results, Tryd.results65, go_sem, q0, q1]) rfl ?_
      have hg := HG2.out
      rw [HS.out] at hg ⊢
      exact madeP_end HBW2.out (by omega) hg (by omega) (Nat.le_refl _)
set_option maxHeartbeats 2000000 in
theorem sub_any (p : Nat) (A B : Option Addr) (xs ys : List Int) (c d : Nat) (w : World) (h : KL .u32 w w.heap.size A xs) (h' : KL .u32 w w.heap.size B ys) (hp : p ≤ 2147483647) (hp0 : 0 < p)
    (hd : Dig p xs) (hd' : Dig p ys) (hx : xs.length ≤ 1099511627776) (hy : ys.length ≤ 1099511627776) :
    Calls Tryd.prog 32 #[.agg #[.int .u32 (p : Int), .slice A xs.length c], .agg #[.int .u32 (p : Int), .slice B ys.length d]] w fun e w' => MadeP p (subP p xs ys) w e w' := by
  have HPA : Hid (∀ W : World, Laid2 w p p (.slice A xs.length c) (.slice B ys.length d) W → Calls Tryd.prog 65 #[.agg #[.int .u32 (p : Int), .slice A xs.length c], .agg #[.int .u32 (p : Int), .slice B ys.length d], .func (Fn.func 67) #[] #[.pointer (some ⟨w.heap.size, 0, none⟩)]] W fun e w' => MadeP p (subP p xs ys) W e w') :=
    Lib.hid fun W hW => pairs_sub p w.heap.size A B xs ys c d W ((h.below hW.2.2.2.2.2).more hW.2.2.2.2.2.size) ((h'.below hW.2.2.2.2.2).more hW.2.2.2.2.2.size) hW.1.1 (by have := hW.2.2.2.2.1; omega) hp hp0 hd hd' hx hy
  have HL := Lib.hid (laid2_start w p p (.slice A xs.length c) (.slice B ys.length d) (.int .u32 0) (.slice none 0 0) 25 25 25)
  obtain ⟨rs, hrs⟩ : ∃ rs, subP p xs ys = rs := ⟨_, rfl⟩
  rw [hrs] at HPA ⊢
  clear h h' hd hd' hrs
  go_enter Tryd.func32, Tryd.ntmps32
  go_wp2_with (go_at_call 65; (with_reducible refine (HPA.out _ HL.out).mono ?_); rintro e w2 ⟨A2, c2, rfl, hA2, hc2, hb2⟩; have HL2 := Lib.hid (HL.out.up (hb2.mono (by simp))); have HG2 := Lib.hid (hA2.less (base' := w.heap.size + 1 + 1 + 1) (by simp) (Nat.le_refl _)); have HC2 := Lib.hid hc2; clear hb2 hA2 hc2; obtain ⟨⟨k0, k1⟩, ⟨k2, k3⟩, ⟨v0, v1, m0, m1⟩, ⟨n0, n1⟩, hsz2, hbw2⟩ := HL2.out; have HBW2 := Lib.hid hbw2; clear hbw2)
  obtain ⟨q0, q1⟩ := cells_two (u := .int .u32 (p : Int)) (v := .slice A2 rs.length c2) m0 m1
  refine bodyPost_ret (v := .agg #[.int .u32 (p : Int), .slice A2 rs.length c2]) (by simp [results, Tryd.results32, go_sem, q0, q1]) rfl ?_
  exact madeP_end HBW2.out (by omega) HG2.out (by omega) HC2.out
end Go.Proofs.YtlndchmpnnlacaaDoor

namespace Go.Proofs.YtlndchmpnnlacaaDoor
open Go.RowKit

theorem RowF.mk_ {S : List Int} {n k : Nat} {F : Nat → Int} (h1 : S.length = n) (h2 : ∀ j, j < k → S.getD j 0 = F j) (h3 : Dig 4294967296 S) : RowF S n k F := ⟨h1, h2, h3⟩
/-- A part of a list. -/
def subL (xs : List Int) (low m : Nat) : List Int := (xs.drop low).take m
theorem subL_len {xs : List Int} {low m : Nat} (h : low + m ≤ xs.length) : (subL xs low m).length = m := by unfold subL; rw [List.length_take, List.length_drop]; omega
theorem subL_co {xs : List Int} {low m i : Nat} (h : i < m) : co (subL xs low m) i = co xs (low + i) := by
  unfold subL co
  simp [List.getD_eq_getElem?_getD, h, List.getElem?_drop]
theorem subL_dig {p : Nat} {xs : List Int} {low m : Nat} (h : Dig p xs) : Dig p (subL xs low m) := (h.drop_ low).take_ m
theorem KL.sub {k : IntKind} {w : World} {B : Nat} {ad : Addr} {xs : List Int} {low m : Nat} (h : KL k w B (some ad) xs) (hl : low + m ≤ xs.length) : KL k w B (some (ad.add low)) (subL xs low m) := fun hn => by
  rw [subL_len hl] at hn
  obtain ⟨a, e, hb, hc⟩ := h (by omega)
  injection e with e
  subst e
  refine ⟨_, rfl, by rw [block_of_add]; exact hb, fun j hj => ?_⟩
  rw [subL_len hl] at hj
  rw [add_of_add, hc _ (by omega)]
  have := subL_co (xs := xs) (low := low) (m := m) hj
  unfold co at this
  rw [this]
/-- The part of a product that isn't nought. -/
theorem conv_part {xs ys : List Int} {k low m : Nat} (_h1 : low + m ≤ xs.length) (h2 : low + m ≤ k + 1) (h3 : ∀ i, i < low → ys.length ≤ k - i) (h4 : low + m = xs.length ∨ low + m = k + 1) :
    dotS (subL xs low m) ys (k - low) m = conv (co xs) (co ys) k := by
  unfold conv dotS
  have e1 : sumZ (k + 1) (fun i => co xs i * co ys (k - i)) = sumZ (low + m) (fun i => co xs i * co ys (k - i)) := by
    refine sumZ_more _ h2 fun i h5 h6 => ?_
    rcases h4 with h4 | h4
    · rw [co_beyond (by omega), Int.zero_mul]
    · omega
  rw [e1, sumZ_split, sumZ_nought low _ (fun i hi => by rw [co_beyond (h3 i hi), Int.mul_zero]), Int.zero_add]
  exact sumZ_congr fun i hi => by rw [subL_co hi, show k - low - i = k - (low + i) by omega]
set_option maxHeartbeats 4000000 in
theorem mul_yes (p : Nat) (A B : Option Addr) (xs ys : List Int) (c d : Nat) (w : World) (h : KL .u32 w w.heap.size A xs) (h' : KL .u32 w w.heap.size B ys) (hp : p ≤ 2147483647) (hp0 : 0 < p)
    (hd : Dig p xs) (hd' : Dig p ys) (hx : xs.length ≤ 549755813888) (hy : ys.length ≤ 549755813888) (hx0 : 0 < xs.length) (hy0 : 0 < ys.length) (hc : xs.length ≤ c) :
    Calls Tryd.prog 34 #[.agg #[.int .u32 (p : Int), .slice A xs.length c], .agg #[.int .u32 (p : Int), .slice B ys.length d]] w fun e w' => MadeP p (mulP p xs ys) w e w' := by
  obtain ⟨i0, hi0, hz0, hz1, hz2⟩ := info_parts u32_info
  obtain ⟨n, hn⟩ : ∃ n, xs.length + ys.length - 1 = n := ⟨_, rfl⟩
  have hN : (xs.length : Int) + (ys.length : Int) - 1 = (n : Int) := by omega
  have hnl : n ≤ 1099511627776 := by omega
  have HNN : Hid (xs.length + ys.length - 1 = n) := Lib.hid hn
  have x0 : ((xs.length : Int) == 0) = false := by rw [beq_eq_false_iff_ne]; omega
  have y0 : ((ys.length : Int) == 0) = false := by rw [beq_eq_false_iff_ne]; omega
  have H := Lib.hid h; clear h
  have H' := Lib.hid h'; clear h'
  have HD := Lib.hid hd; clear hd
  have HD' := Lib.hid hd'; clear hd' hn
  go_enter Tryd.func34, Tryd.ntmps34
  go_wp2_with (at_make; refine wpList_make_full _ rfl _ _ 23 rfl (w.heap.size + 1 + 1 + 1) 22 i0 (.int .u32 0) 1 Tryd.underlying23 hi0 hz0 hz1 _ _ _ _ n rfl rfl (by simp) (by simp) (by rw [hz2]; omega) (by unfold maxLen; omega) (by simp) ?_; intro w1 hown hg1; simp only [World.size_alloc] at hown; have HO := Lib.hid (own_zeros hown); have HL := Lib.hid ((laid2_start w p p (.slice A xs.length c) (.slice B ys.length d) (.int .u32 0) (.slice none 0 0) _ _ _).up ((Below.refl _ _).grown hg1 (by simp) (fun k hk => by cases hk))); clear hown hg1; obtain ⟨⟨b0, b1⟩, ⟨b2, b3⟩, ⟨u0, u1, d0, d1⟩, ⟨f0, f1⟩, hsz, hbw⟩ := HL.out; have HBW := Lib.hid hbw; clear hbw)
  go_loopw [33] (fun i wr => ∃ (j : Nat) (S : List Int), j ≤ n ∧ i = .int .i64 j ∧ RowF S n j (fun j => conv (co xs) (co ys) j % (p : Int)) ∧
      wr.ownsRow (w.heap.size + 1 + 1 + 1) 22 1 (.slice (some ⟨w.heap.size + 1 + 1 + 1, 0, none⟩) n n) n (S.map (Value.int .u32)) ∧ Laid2 w p p (.slice A xs.length c) (.slice B ys.length d) wr) (fun i _ => n - (intOf i).toNat)
  case atStart => exact ⟨0, _, Nat.zero_le _, rfl, RowF.zero _ _, HO.out, HL.out⟩
  case round =>
    clear HO HL b0 b1 b2 b3 d0 d1 f0 f1 hsz HBW
    obtain ⟨j, S, hj, rfl, hS, hown, hL⟩ := hrel
    obtain ⟨⟨b0, b1⟩, ⟨b2, b3⟩, ⟨u0, u1, d0, d1⟩, ⟨f0, f1⟩, hsz, hbw⟩ := hL
    have HL : Hid (Laid2 w p p (.slice A xs.length c) (.slice B ys.length d) wr) := Lib.hid ⟨⟨b0, b1⟩, ⟨b2, b3⟩, ⟨u0, u1, d0, d1⟩, ⟨f0, f1⟩, hsz, hbw⟩
    have HBW := Lib.hid hbw
    by_cases hlt : j < n
    · have hnn := HNN.out
      obtain ⟨low, hlow⟩ : ∃ low, j + 1 - ys.length = low := ⟨_, rfl⟩
      obtain ⟨hi, hhi⟩ : ∃ hi, min j (xs.length - 1) = hi := ⟨_, rfl⟩
      obtain ⟨m, hm⟩ : ∃ m, hi + 1 - low = m := ⟨_, rfl⟩
      obtain ⟨top, htop⟩ : ∃ top, j - low = top := ⟨_, rfl⟩
      have l1 : max 0 ((j : Int) - (ys.length : Int) + 1) = (low : Int) := by omega
      have l2 : min (j : Int) ((xs.length : Int) - 1) = (hi : Int) := by omega
      have l3 : low ≤ hi := by omega
      have l4 : hi < xs.length := by omega
      have l5 : (j : Int) - (low : Int) = (top : Int) := by omega
      have HP : Hid (dotS (subL xs low m) ys top m % (p : Int) = conv (co xs) (co ys) j % (p : Int)) := Lib.hid (by rw [← htop, conv_part (by omega) (by omega) (by intro i hi; omega) (by omega)])
      obtain ⟨ad, rfl, _, _⟩ := H.out (by omega)
      have HK := Lib.hid ((H.out.below hbw).sub (low := low) (m := m) (by omega))
      obtain ⟨z, hz⟩ : ∃ z, dotS (subL xs low m) ys top m % (p : Int) = z := ⟨_, rfl⟩
      have HZ := Lib.hid hz
      have hz0 : 0 ≤ z := by rw [← hz]; exact Int.emod_nonneg _ (by omega)
      have hzp : z < p := by rw [← hz]; exact Int.emod_lt_of_pos _ (by omega)
      have HDT : Hid (∀ t : Nat, Calls Tryd.prog 69 #[.int .u32 (p : Int), .slice (some (ad.add low)) m (c - low), .slice B ys.length d, .int .i64 (top : Int)] (wr.drewN t) fun e w' => e = .returned (.int .u32 z) ∧ wr.drewN t = w') := Lib.hid fun t => by
        have h3 := dot_any p top (some (ad.add low)) B (subL xs low m) ys (c - low) d (wr.drewN t) (show KL .u32 wr wr.heap.size _ _ from HK.out.more hbw.size) (show KL .u32 wr wr.heap.size _ _ from (H'.out.below hbw).more hbw.size) hp hp0 (subL_dig HD.out) HD'.out (by rw [subL_len (by omega)]; omega) (fun _ => by omega) (by omega)
        rw [subL_len (by omega), HZ.out] at h3
        exact h3
      have hfz := hown.frozenAt j
      have hcu := own_cell hown (j := j) (by omega)
      have HOWN := Lib.hid hown
      have HS : Hid (RowF (S.set j z) n (j + 1) (fun j => conv (co xs) (co ys) j % (p : Int))) := Lib.hid (hS.next hlt (by rw [← HP.out, HZ.out]) hz0 (by omega))
      have i1 : (j : Int) < (n : Int) := by omega
      have i2 : (low : Int) ≤ (hi : Int) + 1 := by omega
      have i3 : (hi : Int) + 1 ≤ (c : Int) := by omega
      have i4 : ¬ c = low := by omega
      have i5 : hi + 1 - low = m := hm
      clear hlow hhi hm htop hz hown hS hbw hnn
      go_wp2
      go_quiet (fail)
      go_wp2
      have e1 : IntKind.i64.wrap ((hi : Int) + 1) = (hi : Int) + 1 := by rw [IntKind.wrap_i64]; omega
      have e2 : IntKind.i64.wrap (top : Int) = (top : Int) := by rw [IntKind.wrap_i64]; omega
      have e3 : ((hi : Int) + 1).toNat = hi + 1 := by omega
      have e4 : (0 : Int) ≤ (low : Int) := by omega
      have e5 : (0 : Int) ≤ (j : Int) := by omega
      go_region_held3 (fun w' => w'.cell? ⟨w.heap.size, 0, none⟩ = some (.int .u32 (p : Int)) ∧ w'.cell? ⟨w.heap.size, 1, none⟩ = some (.slice (some ad) xs.length c) ∧ w'.cell? ⟨w.heap.size + 1, 1, none⟩ = some (.slice B ys.length d))
        (first | go_keep | (go_split_ands; refine ⟨?_, ?_, ?_⟩ <;> (rw [World.cell?_setCell_other _ _ _ _ (fun e => by injection e with e1; omega)]; assumption)))
        ((go_at_call 69; (with_reducible refine (HDT.out _).mono ?_); rintro e w' ⟨rfl, rfl⟩))
      clear e1 e2 e3 e4 e5
      go_wp2
      go_roundw
      case rel => exact ⟨j + 1, _, by omega, by go_num, HS.out, own_set (ownsRow_drewN HOWN.out _) j z, HL.out.up ((below_drewN (Below.refl _ _) _).setCell (p := ⟨w.heap.size + 1 + 1 + 1, j, none⟩) (Nat.le_refl _) (.int .u32 z))⟩
      case measure => simp [intOf]; omega
    · obtain rfl : j = n := by omega
      obtain ⟨g1, g2, g3⟩ := KF.of_row hown
      have HG := Lib.hid g3.trim
      have HT : Hid (Calls Tryd.prog 63 #[.int .u32 (p : Int), .slice (some ⟨w.heap.size + 1 + 1 + 1, 0, none⟩) j j] wr fun e w' => e = .returned (.agg #[.int .u32 (p : Int), .slice (some ⟨w.heap.size + 1 + 1 + 1, 0, none⟩) (trimZ S).length (trimZ S).length]) ∧ Below wr.heap.size wr w') := Lib.hid (by
        have h := trim_any p (some ⟨w.heap.size + 1 + 1 + 1, 0, none⟩) S j wr g3.kl hS.2.2 (by rw [hS.1]; exact Nat.le_refl _) (by omega)
        rw [hS.1] at h
        exact h)
      have HS : Hid (trimZ S = mulP p xs ys) := Lib.hid (by
        unfold mulP
        rw [HNN.out]
        exact hS.cano)
      have i1 : ¬ (j : Int) < (j : Int) := by omega
      clear hown g1 g2 g3 hS hbw
      go_wp2_with (go_at_call 63; (with_reducible refine HT.out.mono ?_); rintro e w2 ⟨rfl, hb2⟩; have HL2 := Lib.hid (HL.out.up (hb2.mono hsz)); have HG2 := Lib.hid (HG.out.below hb2); clear hb2; obtain ⟨⟨k0, k1⟩, ⟨k2, k3⟩, ⟨v0, v1, m0, m1⟩, ⟨n0, n1⟩, hsz2, hbw2⟩ := HL2.out; have HBW2 := Lib.hid hbw2; clear hbw2)
      obtain ⟨q0, q1⟩ := cells_two (u := .int .u32 (p : Int)) (v := .slice (some ⟨w.heap.size + 1 + 1 + 1, 0, none⟩) (trimZ S).length (trimZ S).length) m0 m1
      refine bodyPost_ret (v := .agg #[.int .u32 (p : Int), .slice (some ⟨w.heap.size + 1 + 1 + 1, 0, none⟩) (trimZ S).length (trimZ S).length]) (by simp [results, Tryd.results34, go_sem, q0, q1]) rfl ?_
      have hg := HG2.out
      rw [HS.out] at hg ⊢
      exact madeP_end HBW2.out (by omega) hg (by omega) (Nat.le_refl _)
set_option maxHeartbeats 1000000 in
theorem mul_no (p : Nat) (A B : Option Addr) (xs ys : List Int) (c d : Nat) (w : World) (hz : xs = [] ∨ ys = []) :
    Calls Tryd.prog 34 #[.agg #[.int .u32 (p : Int), .slice A xs.length c], .agg #[.int .u32 (p : Int), .slice B ys.length d]] w fun e w' => MadeP p [] w e w' := by
  by_cases hx : xs = []
  · subst hx
    clear hz
    have hb : (([] : List Int).length : Int) = 0 := rfl
    go_enter Tryd.func34, Tryd.ntmps34
    go_wp2
    refine bodyPost_ret (v := .agg #[.int .u32 (p : Int), .slice none 0 0]) (by simp [results, Tryd.results34, go_sem]) rfl ?_
    exact ⟨none, 0, rfl, fun h => absurd h (by simp), by simp, by go_grown⟩
  · have hy : ys = [] := hz.resolve_left hx
    subst hy
    have hx0 := List.length_pos_iff.2 hx
    have x0 : ((xs.length : Int) == 0) = false := by rw [beq_eq_false_iff_ne]; omega
    clear hz hx
    go_enter Tryd.func34, Tryd.ntmps34
    go_wp2
    refine bodyPost_ret (v := .agg #[.int .u32 (p : Int), .slice none 0 0]) (by simp [results, Tryd.results34, go_sem]) rfl ?_
    exact ⟨none, 0, rfl, fun h => absurd h (by simp), by simp, by go_grown⟩
theorem mul_any (p : Nat) (A B : Option Addr) (xs ys : List Int) (c d : Nat) (w : World) (h : KL .u32 w w.heap.size A xs) (h' : KL .u32 w w.heap.size B ys) (hp : p ≤ 2147483647) (hp0 : 0 < p)
    (hd : Dig p xs) (hd' : Dig p ys) (hx : xs.length ≤ 549755813888) (hy : ys.length ≤ 549755813888) (hc : xs.length ≤ c) :
    Calls Tryd.prog 34 #[.agg #[.int .u32 (p : Int), .slice A xs.length c], .agg #[.int .u32 (p : Int), .slice B ys.length d]] w fun e w' => MadeP p (mulP p xs ys) w e w' := by
  by_cases hx0 : xs = []
  · have := mul_no p A B xs ys c d w (.inl hx0)
    rwa [show mulP p xs ys = [] by rw [hx0, nil_mulP]]
  · by_cases hy0 : ys = []
    · have := mul_no p A B xs ys c d w (.inr hy0)
      rwa [show mulP p xs ys = [] by rw [hy0, mulP_nil]]
    · exact mul_yes p A B xs ys c d w h h' hp hp0 hd hd' hx hy (List.length_pos_iff.2 hx0) (List.length_pos_iff.2 hy0) hc
end Go.Proofs.YtlndchmpnnlacaaDoor
